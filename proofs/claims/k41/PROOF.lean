import PyProof.Rows.All
import Wide.All
import OpenK.AllK
import Wide.FinOn
import Lean
import PyProof.EqAt
import PyProof.EqKinds
import PyProof.TupleCall
import PyProof.NsDelKeeps
import PyProof.InstStoreFacts
import KE.KLam
import KE.KRevIter
import PyProof.ZipIter
import KE.KUnpack
import PyProof.Conv_int_bool
import PyProof.CallStr
import KE.KRevSl
import PyProof.NeKinds
import PySem.Challenge.RW_leadnames_k41_things_made
set_option Elab.async false
set_option linter.all false
set_option maxRecDepth 100000
namespace L2
open PySem PySem.W
def oh (tb:String->Option Builtin) (p:Program) (w:World) (n₀:Nat) (ann:Option Value):Nat->SharedT->Thread->Option SharedT
 | 0,_,_=>none
 | n+1,s,t=>match through t with
  | true=>some s
  | false=>match stepOk n₀ ann t with
   | false=>none
   | true=>match stepT (denote tb) p w s t with
    | some (s',t')=>oh tb p w n₀ ann n s' t'
    | none=>none
theorem GD {tb:String->Option Builtin} {p:Program} {w:World} {n₀:Nat} {ann:Option Value}:∀ {n:Nat} {s s':SharedT} {t:Thread},oh tb p w n₀ ann n s t=some s'->topRun tb p w n₀ ann n s.abs t=some s'.abs
 | 0,_,_,_,h=>by cases h
 | n+1,s,s',t,h=>by
  unfold oh at h;unfold topRun;cases he:through t with
  | true=>rw [he] at h; cases h; rfl
  | false =>
   rw [he] at h;cases hk:stepOk n₀ ann t with
   | false=>rw [hk] at h; cases h
   | true =>
    rw [hk] at h;cases hs:stepT (denote tb) p w s t with
    | none=>rw [hs] at h; cases h
    | some r=>obtain ⟨s₂,t₂⟩:=r; rw [hs] at h; rw [stepT_spec hs]; exact GD h
def treeOf:List Obj->Nat->BT->BT
 | [],_,t=>t
 | o::r,n,t=>treeOf r (n+1) (t.ins n o)
theorem LeftO.Vu {p q:Program} {loose:List Str} {Xt:Shared->Bool} {α:Type} {Yf:Shared->α} {Ya:World->α} {N:Nat} {g0:Bool} {H₀:Params->Heap} {T₀:Params->BT} {n₀:Nat} {life:Life} {kR:Array GenState} {d₀:Drawn} {k₀:Nat} {ann:Option Value}
  (C0:∀ w:World,(fencedOpening treeTable p w N).map (fun s=>(s.heap,s.gens,s.drawn,s.toks))=some (H₀ w.params,kR,d₀,k₀))
  (tr:∀ P:Params,absHeap (T₀ P) n₀ life=H₀ P)
  (size:∀ P:Params,((H₀ P).isNs mainGlobals && kR.size == 0,(H₀ P).objs.size,(H₀ P).nsMap mainGlobals "__annotations__")=(true,n₀,ann))
  (run:∀ (w:World) (os:OsState),(oh treeTable p w n₀ ann N ⟨T₀ w.params,n₀,life,kR,d₀,k₀,os⟩ (topStub p)).map (fun s=>((staticsOk (importedModules p.main.body) (H₀ w.params) s.abs.heap && namesBound p s.abs.heap && gensDone s.abs && laidKept (H₀ w.params) s.abs.heap),
    openSeen q loose (importedModules p.main.body) Xt g0 s.abs,Yf s.abs))=some (true,openGood q loose,Ya w)):LeftO p q loose Xt Yf Ya N g0:=fun w=>by
 obtain ⟨⟨h,gs,d,k,os⟩,e,e'⟩:=Option.map_eq_some_iff.mp (C0 w);obtain ⟨rfl,rfl,rfl,rfl⟩:h=H₀ w.params/\gs=kR/\d=d₀/\k=k₀:=by simpa using e'
 obtain ⟨z1,z2,z3⟩:_/\_/\_:=by simpa only [Prod.mk.injEq] using size w.params
 obtain ⟨s₁,r1,r2⟩:=Option.map_eq_some_iff.mp (run w os);obtain ⟨l1,l2,l3⟩:_/\_/\_:=by simpa only [Prod.mk.injEq] using r2
 have r:=GD r1;have ea:SharedT.abs ⟨T₀ w.params,n₀,life,gs,d,k,os⟩=⟨H₀ w.params,gs,d,k,os⟩:=by
  unfold SharedT.abs;rw [tr]
 rw [ea] at r;have t:topFrom treeTable p w N ⟨H₀ w.params,gs,d,k,os⟩=some s₁.abs:=by
  unfold topFrom;dsimp only;rw [z1,z2,z3,r];show (match staticsOk (importedModules p.main.body) (H₀ w.params) s₁.abs.heap && namesBound p s₁.abs.heap && gensDone s₁.abs && laidKept (H₀ w.params) s₁.abs.heap with | true=>_ | false=>_)=_;rw [l1]
 unfold openEnds;rw [e];show (topFrom treeTable p w N _).map _=_;rw [t];exact congrArg some (Prod.ext l2 l3)
def ei (ok:Nat->Option Value->Thread->Bool) (st:SharedT->Thread->Option (SharedT×Thread)) (n₀:Nat) (ann:Option Value):Nat->SharedT->Thread->Option SharedT
 | 0,_,_=>none
 | n+1,s,t=>match through t with
  | true=>some s
  | false=>match ok n₀ ann t with
   | false=>none
   | true=>match st s t with
    | some (s',t')=>ei ok st n₀ ann n s' t'
    | none=>none
theorem Hq {tb:String->Option Builtin} {p:Program} {w:World} {n₀:Nat} {ann:Option Value}:∀ (n:Nat) (s:SharedT) (t:Thread),ei stepOk (stepT (denote tb) p w) n₀ ann n s t=oh tb p w n₀ ann n s t
 | 0,_,_=>rfl
 | n+1,s,t=>by
  unfold ei oh;cases through t with
  | true=>rfl
  | false =>
   cases stepOk n₀ ann t with
   | false=>rfl
   | true =>
    cases stepT (denote tb) p w s t with
    | none=>rfl
    | some r=>exact Hq n r.1 r.2
theorem LeftO.RV {p q:Program} {loose:List Str} {Xt:Shared->Bool} {α:Type} {Yf:Shared->α} {Ya:World->α} {N:Nat} {g0:Bool} {H₀:Params->Heap} {T₀:Params->BT} {n₀:Nat} {life:Life} {kR:Array GenState} {d₀:Drawn} {k₀:Nat} {ann:Option Value}
  {ok:Nat->Option Value->Thread->Bool} {st:(Code->Sem Fin)->Program->World->SharedT->Thread->Option (SharedT×Thread)} {den:(String->Option Builtin)->Code->Sem Fin} {tb:String->Option Builtin}
  (e1:stepOk=ok) (e2:stepT=st) (e3:denote=den) (e4:treeTable=tb)
  (C0:∀ w:World,(fencedOpening treeTable p w N).map (fun s=>(s.heap,s.gens,s.drawn,s.toks))=some (H₀ w.params,kR,d₀,k₀))
  (tr:∀ P:Params,absHeap (T₀ P) n₀ life=H₀ P)
  (size:∀ P:Params,((H₀ P).isNs mainGlobals && kR.size == 0,(H₀ P).objs.size,(H₀ P).nsMap mainGlobals "__annotations__")=(true,n₀,ann))
  (run:∀ (w:World) (os:OsState),(ei ok (st (den tb) p w) n₀ ann N ⟨T₀ w.params,n₀,life,kR,d₀,k₀,os⟩ (topStub p)).map (fun s=>((staticsOk (importedModules p.main.body) (H₀ w.params) s.abs.heap && namesBound p s.abs.heap && gensDone s.abs && laidKept (H₀ w.params) s.abs.heap),
    openSeen q loose (importedModules p.main.body) Xt g0 s.abs,Yf s.abs))=some (true,openGood q loose,Ya w)):LeftO p q loose Xt Yf Ya N g0:=by
 subst e1 e2 e3 e4;refine LeftO.Vu C0 tr size fun w os=>?_;rw [<- Hq];exact run w os
noncomputable def eW (P:Params):BT:=treeOf (boot_heap P).objs.toList 0 .nil
end L2

namespace L2
open PySem PySem.W PyProof.Rows
theorem Zf {α β γ:Type} {o:Option α} {F:α->β×γ} {G:β×γ} (h1:o.map (fun s=>(F s).1)=some G.1) (h2:o.map (fun s=>(F s).2)=some G.2):o.map F=some G:=by
 cases o with
 | none=>cases h1
 | some a=>injection h1 with h1; injection h2 with h2; exact congrArg some (Prod.ext h1 h2)
theorem atS {α β:Type} {o:Option α} {s:α} {f:α->β} {g:β} (hs:o=some s) (h:o.map f=some g):f s=g:=by
 subst hs; exact Option.some.inj h
theorem jj {α β:Type} {a b:α} {c d:β} (h:a=b) (k:c=d):(a,c)=(b,d):=by rw [h,k]
def F0 (p:Program) (H₀:Heap) (s:SharedT):Bool:=staticsOk (importedModules p.main.body) H₀ s.abs.heap && namesBound p s.abs.heap && gensDone s.abs && laidKept H₀ s.abs.heap
def F3 (p q:Program) (loose:List Str) (Xt:Shared->Bool) (g0:Bool) (s:SharedT):Bool:=s.abs.heap.keysOk (looseW q loose) ((recsOf q).map (·.name)) ((litsOf q).map (·.1)) ((clssOf q (looseW q loose)).map (·.name)) && s.abs.heap.accountedOkI (importedModules p.main.body) && s.abs.heap.isNs mainGlobals && s.abs.heap.isNs builtinsNs && tablesOk q s.abs.heap && Xt s.abs && (if g0 then s.abs.gens.size == 0 else !leftWithCleanup s.abs.gens)
def F1 (q:Program) (s:SharedT):=seen ((recsOf q).map (·.name)) (ownsOf q) [] { s.abs with gens:=#[] }
theorem Ss {p q:Program} {loose:List Str} {Xt:Shared->Bool} {α:Type} {Yf:Shared->α} {Ya:World->α} {g0:Bool} {H₀:Heap} {o:Option SharedT} {w:World}
  (q0:o.map (F0 p H₀)=some true) (q1:o.map (F1 q)=some (expectedOf q)) (q2:o.map (fun s:SharedT=>s.abs.heap.bltView)=some bltViewBooted)
  (q3:o.map (F3 p q loose Xt g0)=some true) (q4:o.map (fun s:SharedT=>tabsOk q s.abs)=some true) (q5:o.map (fun s:SharedT=>pinSeenD q (drecsOf q) s.abs)=some (pinGoodD (drecsOf q)))
  (q6:o.map (fun s:SharedT=>plainSeenE q (looseW q loose) s.abs)=some (plainGoodE q (looseW q loose))) (q7:o.map (fun s:SharedT=>plainSeenD q loose s.abs)=some (plainGoodD q loose))
  (q8:o.map (fun s:SharedT=>wideSeen q s.abs)=some (wideGood q)) (q9:o.map (fun s:SharedT=>clsSeenW q loose s.abs)=some (clsGoodW q loose))
  (oE:o.map (fun s:SharedT=>Yf s.abs)=some (Ya w)) :
  o.map (fun s:SharedT=>(F0 p H₀ s,openSeen q loose (importedModules p.main.body) Xt g0 s.abs,Yf s.abs))=some (true,openGood q loose,Ya w):=by
 obtain ⟨s,hs,a0⟩:=Option.map_eq_some_iff.mp q0;have a1:=atS hs q1;have a2:=atS hs q2;have a3:=atS hs q3;have a4:=atS hs q4;have a5:=atS hs q5;have a6:=atS hs q6;have a7:=atS hs q7;have a8:=atS hs q8;have a9:=atS hs q9;have a10:=atS hs oE;clear q0 q1 q2 q3 q4 q5 q6 q7 q8 q9 oE;subst hs;show some _=some _;refine congrArg some (jj a0 (jj ?_ a10));unfold openSeen openGood;exact jj a1 (jj a2 (jj a3 (jj a4 (jj a5 (jj a6 (jj a7 (jj a8 a9)))))))
theorem vJ {α β γ:Type} {o:Option α} {f:α->β} {g:α->γ} {b:β} {c:γ} (h:o.map (fun s=>(f s,g s))=some (b,c)):o.map f=some b:=by
 cases o with
 | none=>cases h
 | some a=>injection h with h; exact congrArg some (congrArg Prod.fst h)
theorem i8 {α β γ:Type} {o:Option α} {f:α->β} {g:α->γ} {b:β} {c:γ} (h:o.map (fun s=>(f s,g s))=some (b,c)):o.map g=some c:=by
 cases o with
 | none=>cases h
 | some a=>injection h with h; exact congrArg some (congrArg Prod.snd h)
theorem rW {α β γ:Type} {o:Option α} {l:List β} {f:α->β->γ} {g:β->γ} (n:Nat) (h1:o.map (fun s=>(l.take n).map (f s))=some ((l.take n).map g)) (h2:o.map (fun s=>(l.drop n).map (f s))=some ((l.drop n).map g)):o.map (fun s=>l.map (f s))=some (l.map g):=by
 cases o with
 | none=>cases h1
 | some a =>
  injection h1 with h1;injection h2 with h2;refine congrArg some ?_;show l.map (f a)=l.map g;rw [<- List.take_append_drop n l,List.map_append,List.map_append];exact congr (congrArg _ h1) h2
theorem Rg {K:Params->Frag} {as:List Addr} {e:∀ P,as=(K P).map (·.1)} {o:Option SharedT} {w:World} (h:o.map (fun s=>(K w.params).map fun p=>s.abs.heap.get? p.1)=some ((K w.params).map fun p=>some p.2)) :
  o.map (fun s=>(kHook K as e).obs s.abs)=some ((kHook K as e).val w):=by
 show o.map (fun s:SharedT=>as.map s.abs.heap.get?)=some ((K w.params).map fun p=>some p.2);rw [e w.params];simp only [List.map_map];exact h
end L2

section
open PySem PySem.W PyProof.Rows
namespace L2.bL
theorem sa:(PySem.Challenge.rw_leadnames_k41_things_made).row.wellSaid=true:=by kernel_rfl
theorem EL:(PySem.Challenge.rw_leadnames_k41_things_made).wellSaid=true:=by
 unfold OpenLaw.wellSaid
 iterate 18 refine look_both ?_ ?_
 ·exact sa
 all_goals kernel_rfl
noncomputable def QV:Program:=view (PySem.Challenge.rw_leadnames_k41_things_made).prog [0,2,3,4,5,6,7,8,9,10,12,13,14,15,17,18,19,20,21,22,23,24,25,26,27,28,29,30,31,32,33,34,35,37,38,39,40,41,43,44,45,46,47,48,49,50,51,53,54,55,56,57,58,59,60,61,62,65,67,68,70,71,72,73,74,75,76,77,78,79,80,81,82,83,84,85,86]
theorem gi:∀ w:World,(fencedOpening treeTable (PySem.Challenge.rw_leadnames_k41_things_made).prog w 15254).map (fun s=>(s.heap,s.gens,s.drawn,s.toks))=some (boot_heap w.params,Array.mk [],boot_drawn,boot_toks):=boot_open rfl rfl (fun _=>rfl)
theorem cg:∀ P:Params,absHeap (L2.eW P) 11 {}=boot_heap P:=by intro P; kernel_rfl
theorem jk:∀ P:Params,((boot_heap P).isNs mainGlobals && (Array.mk ([]:List GenState)).size == 0,(boot_heap P).objs.size,(boot_heap P).nsMap mainGlobals "__annotations__")=(true,11,some (.ref 6)):=by intro P; kernel_rfl
set_option maxHeartbeats 0
theorem qL (w:World) (os:OsState):((ei PySem.W.Fast.tw6613529449190102663 (PySem.W.Fast.tw10156331382660048174 (PySem.W.Fast.tw11892475500146522536 PySem.W.Fast.tw14364793385576792824) (PySem.Challenge.rw_leadnames_k41_things_made).prog w) 11 (some (.ref 6)) 15254 ⟨L2.eW w.params,11,{},Array.mk [],boot_drawn,boot_toks,os⟩ (topStub (PySem.Challenge.rw_leadnames_k41_things_made).prog))).map (fun s=>(((staticsOk (importedModules (PySem.Challenge.rw_leadnames_k41_things_made).prog.main.body) (boot_heap w.params) s.abs.heap && namesBound (PySem.Challenge.rw_leadnames_k41_things_made).prog s.abs.heap && gensDone s.abs && laidKept (boot_heap w.params) s.abs.heap)),s.abs.heap.bltView,pinSeenD QV (drecsOf QV) s.abs,plainSeenD QV [PySem.Str.ofString "make_folder",PySem.Str.ofString "make_file"] s.abs,clsSeenW QV [PySem.Str.ofString "make_folder",PySem.Str.ofString "make_file"] s.abs))=some ((true,bltViewBooted,pinGoodD (drecsOf QV),plainGoodD QV [PySem.Str.ofString "make_folder",PySem.Str.ofString "make_file"],clsGoodW QV [PySem.Str.ofString "make_folder",PySem.Str.ofString "make_file"])):=by kernel_rfl
theorem Vr (w:World) (os:OsState):((ei PySem.W.Fast.tw6613529449190102663 (PySem.W.Fast.tw10156331382660048174 (PySem.W.Fast.tw11892475500146522536 PySem.W.Fast.tw14364793385576792824) (PySem.Challenge.rw_leadnames_k41_things_made).prog w) 11 (some (.ref 6)) 15254 ⟨L2.eW w.params,11,{},Array.mk [],boot_drawn,boot_toks,os⟩ (topStub (PySem.Challenge.rw_leadnames_k41_things_made).prog))).map (fun s=>seen ((recsOf QV).map (·.name)) (ownsOf QV) [] { s.abs with gens:=#[] })=some (expectedOf QV):=by kernel_rfl
theorem UA (w:World) (os:OsState):((ei PySem.W.Fast.tw6613529449190102663 (PySem.W.Fast.tw10156331382660048174 (PySem.W.Fast.tw11892475500146522536 PySem.W.Fast.tw14364793385576792824) (PySem.Challenge.rw_leadnames_k41_things_made).prog w) 11 (some (.ref 6)) 15254 ⟨L2.eW w.params,11,{},Array.mk [],boot_drawn,boot_toks,os⟩ (topStub (PySem.Challenge.rw_leadnames_k41_things_made).prog))).map (fun s=>wideSeen QV s.abs)=some (wideGood QV):=by kernel_rfl
theorem q3 (w:World) (os:OsState):((ei PySem.W.Fast.tw6613529449190102663 (PySem.W.Fast.tw10156331382660048174 (PySem.W.Fast.tw11892475500146522536 PySem.W.Fast.tw14364793385576792824) (PySem.Challenge.rw_leadnames_k41_things_made).prog w) 11 (some (.ref 6)) 15254 ⟨L2.eW w.params,11,{},Array.mk [],boot_drawn,boot_toks,os⟩ (topStub (PySem.Challenge.rw_leadnames_k41_things_made).prog))).map (fun s=>(s.abs.heap.keysOk (looseW QV [PySem.Str.ofString "make_folder",PySem.Str.ofString "make_file"]) ((recsOf QV).map (·.name)) ((litsOf QV).map (·.1)) ((clssOf QV (looseW QV [PySem.Str.ofString "make_folder",PySem.Str.ofString "make_file"])).map (·.name)) && s.abs.heap.accountedOkI (importedModules (PySem.Challenge.rw_leadnames_k41_things_made).prog.main.body) && s.abs.heap.isNs mainGlobals && s.abs.heap.isNs builtinsNs && tablesOk QV s.abs.heap && (fun s=>xlAt QV [] s && recOk (RowW.records (OpenRow.toRowW (PySem.Challenge.rw_leadnames_k41_things_made).row)) s) s.abs && (if true then s.abs.gens.size == 0 else !leftWithCleanup s.abs.gens)))=some (true):=by kernel_rfl
theorem q4 (w:World) (os:OsState):((ei PySem.W.Fast.tw6613529449190102663 (PySem.W.Fast.tw10156331382660048174 (PySem.W.Fast.tw11892475500146522536 PySem.W.Fast.tw14364793385576792824) (PySem.Challenge.rw_leadnames_k41_things_made).prog w) 11 (some (.ref 6)) 15254 ⟨L2.eW w.params,11,{},Array.mk [],boot_drawn,boot_toks,os⟩ (topStub (PySem.Challenge.rw_leadnames_k41_things_made).prog))).map (fun s=>tabsOk QV s.abs)=some (true):=by kernel_rfl
theorem Nd (w:World) (os:OsState):((ei PySem.W.Fast.tw6613529449190102663 (PySem.W.Fast.tw10156331382660048174 (PySem.W.Fast.tw11892475500146522536 PySem.W.Fast.tw14364793385576792824) (PySem.Challenge.rw_leadnames_k41_things_made).prog w) 11 (some (.ref 6)) 15254 ⟨L2.eW w.params,11,{},Array.mk [],boot_drawn,boot_toks,os⟩ (topStub (PySem.Challenge.rw_leadnames_k41_things_made).prog))).map (fun s=>(((plainsOf QV (looseW QV [PySem.Str.ofString "make_folder",PySem.Str.ofString "make_file"])).take 8).take 4).map fun c=>s.abs.heap.plainShapeAt c.withCmp)=some ((((plainsOf QV (looseW QV [PySem.Str.ofString "make_folder",PySem.Str.ofString "make_file"])).take 8).take 4).map fun c=>some c.withCmp.plainShape):=by kernel_rfl
theorem Wv (w:World) (os:OsState):((ei PySem.W.Fast.tw6613529449190102663 (PySem.W.Fast.tw10156331382660048174 (PySem.W.Fast.tw11892475500146522536 PySem.W.Fast.tw14364793385576792824) (PySem.Challenge.rw_leadnames_k41_things_made).prog w) 11 (some (.ref 6)) 15254 ⟨L2.eW w.params,11,{},Array.mk [],boot_drawn,boot_toks,os⟩ (topStub (PySem.Challenge.rw_leadnames_k41_things_made).prog))).map (fun s=>(((plainsOf QV (looseW QV [PySem.Str.ofString "make_folder",PySem.Str.ofString "make_file"])).take 8).drop 4).map fun c=>s.abs.heap.plainShapeAt c.withCmp)=some ((((plainsOf QV (looseW QV [PySem.Str.ofString "make_folder",PySem.Str.ofString "make_file"])).take 8).drop 4).map fun c=>some c.withCmp.plainShape):=by kernel_rfl
theorem S3 (w:World) (os:OsState):((ei PySem.W.Fast.tw6613529449190102663 (PySem.W.Fast.tw10156331382660048174 (PySem.W.Fast.tw11892475500146522536 PySem.W.Fast.tw14364793385576792824) (PySem.Challenge.rw_leadnames_k41_things_made).prog w) 11 (some (.ref 6)) 15254 ⟨L2.eW w.params,11,{},Array.mk [],boot_drawn,boot_toks,os⟩ (topStub (PySem.Challenge.rw_leadnames_k41_things_made).prog))).map (fun s=>((plainsOf QV (looseW QV [PySem.Str.ofString "make_folder",PySem.Str.ofString "make_file"])).take 8).map fun c=>s.abs.heap.plainShapeAt c.withCmp)=some (((plainsOf QV (looseW QV [PySem.Str.ofString "make_folder",PySem.Str.ofString "make_file"])).take 8).map fun c=>some c.withCmp.plainShape):=L2.rW 4 (Nd w os) (Wv w os)
theorem UB (w:World) (os:OsState):((ei PySem.W.Fast.tw6613529449190102663 (PySem.W.Fast.tw10156331382660048174 (PySem.W.Fast.tw11892475500146522536 PySem.W.Fast.tw14364793385576792824) (PySem.Challenge.rw_leadnames_k41_things_made).prog w) 11 (some (.ref 6)) 15254 ⟨L2.eW w.params,11,{},Array.mk [],boot_drawn,boot_toks,os⟩ (topStub (PySem.Challenge.rw_leadnames_k41_things_made).prog))).map (fun s=>((plainsOf QV (looseW QV [PySem.Str.ofString "make_folder",PySem.Str.ofString "make_file"])).drop 8).map fun c=>s.abs.heap.plainShapeAt c.withCmp)=some (((plainsOf QV (looseW QV [PySem.Str.ofString "make_folder",PySem.Str.ofString "make_file"])).drop 8).map fun c=>some c.withCmp.plainShape):=by kernel_rfl
theorem q6 (w:World) (os:OsState):((ei PySem.W.Fast.tw6613529449190102663 (PySem.W.Fast.tw10156331382660048174 (PySem.W.Fast.tw11892475500146522536 PySem.W.Fast.tw14364793385576792824) (PySem.Challenge.rw_leadnames_k41_things_made).prog w) 11 (some (.ref 6)) 15254 ⟨L2.eW w.params,11,{},Array.mk [],boot_drawn,boot_toks,os⟩ (topStub (PySem.Challenge.rw_leadnames_k41_things_made).prog))).map (fun s=>plainSeenE QV (looseW QV [PySem.Str.ofString "make_folder",PySem.Str.ofString "make_file"]) s.abs)=some (plainGoodE QV (looseW QV [PySem.Str.ofString "make_folder",PySem.Str.ofString "make_file"])):=L2.rW 8 (S3 w os) (UB w os)
end L2.bL
end
section
open PySem PySem.W PyProof.Rows
local macro_rules | `(tactic| o_head $H)=>`(tactic| (refine (by assumption:∀ h':PySem.W.Hook,h'=_->PySem.W.OpenRow.Holds _) $H ?_; rfl))
set_option maxHeartbeats 0 in
noncomputable def L2.bL.eI:(h:Hook) ×' ((∀ h':Hook,h'=h->(PySem.Challenge.rw_leadnames_k41_things_made).row.Holds)->(PySem.Challenge.rw_leadnames_k41_things_made).row.Holds):=by
 refine' ⟨_,fun x=>_⟩
 rotate_left
 k_head
end
section
open PySem PySem.W PyProof.Rows
namespace L2.bL
set_option maxHeartbeats 0
theorem ya (w:World) (os:OsState):((ei PySem.W.Fast.tw6613529449190102663 (PySem.W.Fast.tw10156331382660048174 (PySem.W.Fast.tw11892475500146522536 PySem.W.Fast.tw14364793385576792824) (PySem.Challenge.rw_leadnames_k41_things_made).prog w) 11 (some (.ref 6)) 15254 ⟨L2.eW w.params,11,{},Array.mk [],boot_drawn,boot_toks,os⟩ (topStub (PySem.Challenge.rw_leadnames_k41_things_made).prog))).map (fun s=>(((eI.heap_1 w.params).take 360).take 180).map fun p=>s.abs.heap.get? p.1)=some ((((eI.heap_1 w.params).take 360).take 180).map fun p=>some p.2):=by kernel_rfl
theorem yb (w:World) (os:OsState):((ei PySem.W.Fast.tw6613529449190102663 (PySem.W.Fast.tw10156331382660048174 (PySem.W.Fast.tw11892475500146522536 PySem.W.Fast.tw14364793385576792824) (PySem.Challenge.rw_leadnames_k41_things_made).prog w) 11 (some (.ref 6)) 15254 ⟨L2.eW w.params,11,{},Array.mk [],boot_drawn,boot_toks,os⟩ (topStub (PySem.Challenge.rw_leadnames_k41_things_made).prog))).map (fun s=>(((eI.heap_1 w.params).take 360).drop 180).map fun p=>s.abs.heap.get? p.1)=some ((((eI.heap_1 w.params).take 360).drop 180).map fun p=>some p.2):=by kernel_rfl
theorem yc (w:World) (os:OsState):((ei PySem.W.Fast.tw6613529449190102663 (PySem.W.Fast.tw10156331382660048174 (PySem.W.Fast.tw11892475500146522536 PySem.W.Fast.tw14364793385576792824) (PySem.Challenge.rw_leadnames_k41_things_made).prog w) 11 (some (.ref 6)) 15254 ⟨L2.eW w.params,11,{},Array.mk [],boot_drawn,boot_toks,os⟩ (topStub (PySem.Challenge.rw_leadnames_k41_things_made).prog))).map (fun s=>(((eI.heap_1 w.params).drop 360).take 180).map fun p=>s.abs.heap.get? p.1)=some ((((eI.heap_1 w.params).drop 360).take 180).map fun p=>some p.2):=by kernel_rfl
theorem yd (w:World) (os:OsState):((ei PySem.W.Fast.tw6613529449190102663 (PySem.W.Fast.tw10156331382660048174 (PySem.W.Fast.tw11892475500146522536 PySem.W.Fast.tw14364793385576792824) (PySem.Challenge.rw_leadnames_k41_things_made).prog w) 11 (some (.ref 6)) 15254 ⟨L2.eW w.params,11,{},Array.mk [],boot_drawn,boot_toks,os⟩ (topStub (PySem.Challenge.rw_leadnames_k41_things_made).prog))).map (fun s=>(((eI.heap_1 w.params).drop 360).drop 180).map fun p=>s.abs.heap.get? p.1)=some ((((eI.heap_1 w.params).drop 360).drop 180).map fun p=>some p.2):=by kernel_rfl
theorem oE (w:World) (os:OsState):((ei PySem.W.Fast.tw6613529449190102663 (PySem.W.Fast.tw10156331382660048174 (PySem.W.Fast.tw11892475500146522536 PySem.W.Fast.tw14364793385576792824) (PySem.Challenge.rw_leadnames_k41_things_made).prog w) 11 (some (.ref 6)) 15254 ⟨L2.eW w.params,11,{},Array.mk [],boot_drawn,boot_toks,os⟩ (topStub (PySem.Challenge.rw_leadnames_k41_things_made).prog))).map (fun s=>Hook.obs eI.1 s.abs)=some (Hook.val eI.1 w) :=
 L2.Rg (K:=eI.heap_1) (e:=fun _=>by kernel_rfl) (L2.rW 360 (L2.rW 180 (ya w os) (yb w os)) (L2.rW 180 (yc w os) (yd w os)))
end L2.bL
local macro_rules | `(tactic| o_law)=>`(tactic| refine PySem.W.holds_law L2.bL.EL fun EL=>?_)
local macro_rules | `(tactic| k_head)=>`(tactic| (
 refine holds_open (q:=L2.bL.QV) (loose:=[PySem.Str.ofString "make_folder",PySem.Str.ofString "make_file"]) (Xt:=fun s=>xlAt L2.bL.QV [] s && recOk (RowW.records (OpenRow.toRowW (PySem.Challenge.rw_leadnames_k41_things_made).row)) s) (XP:=XL L2.bL.QV []) (Yf:=Hook.obs L2.bL.eI.1) (Ya:=Hook.val L2.bL.eI.1) (YP:=Hook.says L2.bL.eI.1) (N:=15254) ?hl (Hook.of L2.bL.eI.1) (Hook.keeps L2.bL.eI.1) (fun s e=>xl_of s (Bool.and_eq_true_iff.mp e).1) XL.keeps (by rfl) (by rfl) (by rfl) (fun s e=>recFacts_of (Bool.and_eq_true_iff.mp e).2) (by rfl) (by first | assumption | decide +kernel) (by decide +kernel) ⟨rfl,rfl,rfl,rfl,rfl,by decide +kernel⟩ ?hw ?hc
 case hl =>
  refine L2.LeftO.RV PySem.W.Fast.te6613529449190102663 PySem.W.Fast.te10156331382660048174 PySem.W.Fast.te11892475500146522536 PySem.W.Fast.te14364793385576792824 L2.bL.gi L2.bL.cg L2.bL.jk (fun w os=>?_);exact L2.Ss (L2.vJ (L2.bL.qL w os)) (L2.bL.Vr w os) (L2.vJ (L2.i8 (L2.bL.qL w os))) (L2.bL.q3 w os) (L2.bL.q4 w os) (L2.vJ (L2.i8 (L2.i8 (L2.bL.qL w os)))) (L2.bL.q6 w os) (L2.vJ (L2.i8 (L2.i8 (L2.i8 (L2.bL.qL w os))))) (L2.bL.UA w os) (L2.i8 (L2.i8 (L2.i8 (L2.i8 (L2.bL.qL w os))))) (L2.bL.oE w os)))
set_option maxHeartbeats 0 in
open_top L2.bL.hd0 for PySem.Challenge.rw_leadnames_k41_things_made
end

namespace L2
open PySem PySem.Spec PyProof.Rows
def kt:=@wpAny_bind
def li:=@Heap.get?_push_of_some
def lv:=@List.getElem?_eq_some_iff
def mo:=@List.length_map
def ss:=@List.mem_cons
def sw:=@Ne.symm
def sB:=@Nat.le_refl
def sK:=@wpAny_pure
def tz:=@List.size_toArray
def ul:=@List.getElem?_eq_getElem
def ut:=@decide_eq_false
def u8:=@List.not_mem_nil
def wf:=@Heap.lt_size
def wn:=@Heap.get?_push_size
def ww:=@List.length_append
def wE:=@Nat.le_trans
def wP:=@PySem.F.slot_list_append
def wS:=@PySem.F.type_list_append
def wT:=@Bool.false_ne_true
def xz:=@Nat.lt_of_lt_of_le
def xL:=@Nat.ne_of_lt
def zn:=@List.getElem?_append_left
def At:=@Nat.zero_le
def AC:=@List.mem_singleton
def AT:=@decide_eq_true
def Ch:=@if_neg
def Cl:=@List.mem_map
def Da:=@List.mem_append_right
def Db:=@if_pos
def Do:=@Bool.and_eq_true
def Ev:=@List.mem_cons_of_mem
def EQ:=@or_false
def Fa:=@List.map_cons
def Fk:=@List.getElem?_append_right
def Fr:=@List.map_append
def FB:=@List.mem_of_getElem?
def FM:=@Option.some.inj
def FS:=@List.getElem?_map
def Gc:=@Nat.lt_of_le_of_lt
def Go:=@List.all_eq_true
def GE:=@List.length_cons
def GM:=@beq_eq_false_iff_ne
def GT:=@List.nodup_append
def Id:=@wpAny_holding
def Ix:=@List.nodup_cons
def IN:=@List.getElem?_set_self
def IO:=@List.getElem?_set_ne
def IR:=@Heap.get?_update_other
def KB:=@wpAny_Call_Name_kw
def KK:=@PySem.F.slot_str_join
def KM:=@PySem.F.type_str_join
def LE:=@List.mem_append
def LT:=@PySem.W.kia_one
def No:=@Nat.lt_irrefl
def NE:=@List.all_cons
def On:=@Bool.false_eq_true
def Op:=@PySem.boot_len
def Os:=@Nat.lt_succ_self
def Pi:=@Array.length_toList
def Ps:=@Array.getElem?_toList
def PP:=@Int.eq_ofNat_of_zero_le
def P3:=@PassesOwn.never
def Re:=@wpAny_mono
def Rs:=@PySem.mem_of_lookup
def Sc:=@wpAny_truthy_bool
def SC:=@PySem.W.looks_findIn
def ST:=@List.length_eq_zero_iff
def SZ:=@List.map_map
def Tk:=@Calls.call_function_entry
def Tm:=@congrArg
def Ty:=@Heap.get?_update_self
def TD:=@List.getElem_map
def TW:=@Heap.size_push
def T0:=@List.append_assoc
def Uf:=@List.flatMap_cons
def UF:=@call_meets
def UV:=@List.replicate_succ
def Wp:=@List.length_reverse
def WF:=@PyProof.Rows.callWith_type1
def WP:=@Calls.callWith_builtin
def W1:=@List.take_of_length_le
def XV:=@wpAny_call_entry
def Zp:=@beq_iff_eq
def Zq:=@PySem.W.callWith_K
def Zr:=@List.pairwise_iff_getElem
def Zs:=@wpAny_passesOwn
def Zt:=@Bool.eq_iff_iff
def Zu:=@decide_eq_true_eq
def Zv:=@Function.comp_def
def Zw:=@List.getElem?_of_mem
def Zx:=@List.any_cons
def Zy:=@List.filterMap_cons
def Zz:=@Nat.add_le_add_left
def ZA:=@List.length_take
def ZB:=@if_false
def ZC:=@wpAny_typeNameOfWhole_keyiter
def ZD:=@List.mem_cons_self
def ZE:=@Calls.spliced_cons
def ZF:=@wpAny_call
def ZG:=@Option.map_eq_some_iff
def ZH:=@tupleKind_room_in1
def ZI:=@Int.emod_lt_of_pos
def ZJ:=@List.length_set
def ZK:=@List.find?_cons
def ZL:=@F.slot_dict_keyiterator_next
def ZM:=@Int.emod_nonneg
def ZN:=@wpAny_standAt
def ZO:=@List.getElem?_eq_none
def ZP:=@not_or
def ZQ:=@Calls.spliced_nil
def ZR:=@Nat.lt_succ_of_lt
def ZS:=@wpAny_newObj_type
def ZT:=@Heap.get?_none_of_le
def ZU:=@List.mem_append_left
def ZV:=@sizeLine_eq
def ZW:=@Nat.le_succ
def ZX:=@typeIs_str
def ZY:=@Calls.evalArgs_plain
def ZZ:=@List.getD_eq_getElem?_getD
def Z0:=@PySem.F.excBase_ValueError
def Z1:=@codeAny_call_builtin
def Z2:=@Array.toArray_toList
def Z3:=@List.getElem_mem
def Z4:=@F.plain_min_loop
def Z5:=@PySem.W.looks_mroIn
def Z6:=@PySem.W.kdu_collect
def Z7:=@wpAny_newList
def Z8:=@List.length_nil
def Z9:=@entry_list_sort
def _a:=@List.all_append
def _b:=@List.mem_filterMap
def _c:=@PySem.F.slot_list_index
def _d:=@Nat.ne_of_gt
def _e:=@codeAny_mono
def _f:=@List.flatten_cons
def _g:=@List.map_nil
def _h:=@List.nodup_nil
def _i:=@slot_list_sort
def _j:=@args_list_sort
def _k:=@not_false_eq_true
def _l:=@PySem.W.methodCall_KW
def _m:=@PySem.F.slot_dict_get
def _n:=@Nat.succ_le_succ
def _o:=@beq_self_eq_true
def _p:=@Bool.not_true
def _q:=@List.not_lt
def _r:=@Around.under_plainId
def _s:=@wpAny_execs_nil
def _t:=@List.append_nil
def _u:=@codeAny_builtin
def _v:=@Nat.not_lt_zero
def _w:=@wpAny_ite_split
def _x:=@PySem.W.hideAll_get
def _y:=@PySem.W.plainGet_of
def _z:=@ne_true_of_eq_false
def _A:=@BindsTo.of_defaults
def _B:=@plain_sorted
def _C:=@entry_sorted
def _D:=@args_sorted1
def _E:=@Nat.lt_or_ge
def _F:=@PySem.W.of_hideAll
def _G:=@List.mem_range
def _H:=@Bool.false_and
def _I:=@wpAny_loadPart
def _J:=@F.args_str_split_2
def _K:=@SeqAt.RcNeAt.lists
def _L:=@Obj.data_mapFields
def _M:=@Code.quiet_builtin
def _N:=@sortedHeap_old
def _O:=@wpAny_seqItems
def _P:=@kind_sorted
def _Q:=@Bool.or_false
def _R:=@sortedHeap_at
abbrev Key:=Sum Int Str
def jT:Key->Value->Bool
 | .inl k,v=>Value.isInt k v
 | .inr x,v=>Value.isStrOf x v
def Vp (w:World):Key->Int
 | .inl k=>hashInt k
 | .inr x=>hashStr w x
def ja:∀ {k:Key} {v:Value},jT k v=true->(∃ i t,k=Sum.inl i/\v=Value.int i t)\/(∃ x t,k=Sum.inr x/\v=Value.str x t)
 | .inl i,v,h=>by
  obtain ⟨t,e⟩:=Value.isInt_shape (k:=i) (v:=v) h;exact .inl ⟨i,t,rfl,e⟩
 | .inr x,v,h=>by
  obtain ⟨t,e⟩:=Value.isStrOf_shape (x:=x) (v:=v) h;exact .inr ⟨x,t,rfl,e⟩
def RH (i:Int) (t:Tok):jT (.inl i) (.int i t)=true:=by simp [jT,Value.isInt]
def Qi (x:Str) (t:Tok):jT (.inr x) (.str x t)=true:=by simp [jT,Value.isStrOf]
def Xr (a b:Int):decide ((Sum.inl a:Key)=Sum.inl b)=(a == b):=by
 by_cases e:a=b
 ·subst e; simp
 ·have h:¬ (Sum.inl a:Key)=Sum.inl b:=fun q=>e (Sum.inl.inj q);rw [ut h];exact (GM.mpr e).symm
def Wu (a b:Str):decide ((Sum.inr a:Key)=Sum.inr b)=decide (a=b):=by
 by_cases e:a=b
 ·subst e; simp
 ·have h:¬ (Sum.inr a:Key)=Sum.inr b:=fun q=>e (Sum.inr.inj q);rw [ut h,ut e]
def Xv (a:Int) (b:Str):decide ((Sum.inl a:Key)=Sum.inr b)=false:=ut (fun q=>nomatch q)
def Pe (a:Str) (b:Int):decide ((Sum.inr a:Key)=Sum.inl b)=false:=ut (fun q=>nomatch q)
def cS (prog:Program) (w:World):PySem.KeyKind prog w Key where
 is:=jT
 hash:=Vp w
 inj:=fun v a b ha hb=>by
  rcases ja ha with ⟨i,t,rfl,rfl⟩ | ⟨x,t,rfl,rfl⟩
  ·rcases ja hb with ⟨j,u,rfl,e⟩ | ⟨y,u,rfl,e⟩
   ·injection e with e1 _; rw [e1]
   ·exact nomatch e
  ·rcases ja hb with ⟨j,u,rfl,e⟩ | ⟨y,u,rfl,e⟩
   ·exact nomatch e
   ·injection e with e1 _; rw [e1]
 byValue:=fun k v h=>by
  rcases ja h with ⟨i,t,rfl,rfl⟩ | ⟨x,t,rfl,rfl⟩ <;> rfl
 pyHash:=fun hv h=>by
  rcases ja hv with ⟨i,t,rfl,rfl⟩ | ⟨x,t,rfl,rfl⟩
  ·exact wpAny_pyHash_int h
  ·exact wpAny_pyHash_str h
 eqBool:=fun hu hv h=>by
  rcases ja hu with ⟨i,t,rfl,rfl⟩ | ⟨x,t,rfl,rfl⟩
  ·rcases ja hv with ⟨j,u,rfl,rfl⟩ | ⟨y,u,rfl,rfl⟩
   ·rw [Xr] at h; exact wpAny_eqBool_int h
   ·rw [Xv] at h; exact SeqAt.EqAt.int_str i t y u _ _ _ _ h
  ·rcases ja hv with ⟨j,u,rfl,rfl⟩ | ⟨y,u,rfl,rfl⟩
   ·rw [Pe] at h; exact SeqAt.EqAt.str_int x t j u _ _ _ _ h
   ·rw [Wu] at h; exact wpAny_eqBool_str h
 «strs»:=fun k x t v h=>by
  rcases ja h with ⟨i,u,rfl,e⟩ | ⟨y,u,rfl,e⟩
  ·exact nomatch e
  ·injection e with e1 _;subst e1;cases v <;> rfl
def RN (prog:Program) (w:World) (i:Int) (t:Tok):(cS prog w).is (.inl i) (.int i t)=true:=RH i t
def TV (prog:Program) (w:World) (x:Str) (t:Tok):(cS prog w).is (.inr x) (.str x t)=true:=Qi x t
inductive V where
 | aq | bl (b:Bool) | int (i:Int) | str (x:Str) | byt (b:Array UInt8) | l9 (b:UInt64) | ref (a:Addr) | ty (n:String)
 deriving DecidableEq
def RelV:V->Value->Prop
 | .aq,u=>u=Value.none
 | .bl b,u=>u=Value.bool b
 | .int i,u=>∃ t,u=Value.int i t
 | .str x,u=>∃ t,u=Value.str x t
 | .byt b,u=>∃ t,u=Value.bytes b t
 | .l9 b,u=>∃ t,u=Value.float b t
 | .ref a,u=>u=Value.ref a
 | .ty n,u=>u=Value.type n
abbrev Vals:List V->List Value->Prop:=Paired RelV
def Vals.length {xs:List V} {us:List Value} (r:Vals xs us):xs.length=us.length:=Paired.length r
def Vals.get:∀ {xs:List V} {us:List Value} {i:Nat} {x:V},Vals xs us->xs[i]?=some x->∃ u,us[i]?=some u/\RelV x u
 | _,_,_,_,.nil,e=>by simp at e
 | _,_,0,_,.cons r _,e=>by simp at e; subst e; exact ⟨_,rfl,r⟩
 | _,_,i+1,x,.cons _ t,e=>by
  obtain ⟨u,h1,h2⟩:=Vals.get (i:=i) (x:=x) t (by simpa using e);exact ⟨u,by simpa using h1,h2⟩
def Vals.set {x:V} {u:Value} (r:RelV x u):∀ {xs:List V} {us:List Value} (i:Nat),Vals xs us->Vals (xs.set i x) (us.set i u)
 | _,_,_,.nil=>.nil
 | _,_,0,.cons _ t=>.cons r t
 | _,_,i+1,.cons q t=>.cons q (Vals.set r i t)
def Vals.append:∀ {xs ys:List V} {us ws:List Value},Vals xs us->Vals ys ws->Vals (xs++ys) (us++ws)
 | _,_,_,_,.nil,s=>s
 | _,_,_,_,.cons r t,s=>.cons r (Vals.append t s)
def Vals.take:∀ {xs:List V} {us:List Value} (n:Nat),Vals xs us->Vals (xs.take n) (us.take n)
 | _,_,0,_=>.nil
 | _,_,_+1,.nil=>.nil
 | _,_,n+1,.cons r t=>.cons r (Vals.take n t)
def Vals.drop:∀ {xs:List V} {us:List Value} (n:Nat),Vals xs us->Vals (xs.drop n) (us.drop n)
 | _,_,0,r=>r
 | _,_,_+1,.nil=>.nil
 | _,_,n+1,.cons _ t=>Vals.drop n t
def eh:Option V->Option Value->Prop
 | some v,some u=>RelV v u
 | none,none=>True
 | _,_=>False
def KV {κ:Type}:List (κ×V)->List (κ×Value)->Prop:=Paired fun (p:κ×V) (q:κ×Value)=>p.1=q.1/\RelV p.2 q.2
def kV:Key->V
 | .inl i=>.int i
 | .inr x=>.str x
inductive HO where
 /-- a list -/
 | lst (xs:List V)
 /-- a tuple (never changes) -/
 | tup (xs:List V)
 /-- a dict whose keys are ints and texts; one whose keys are tuples of ints and texts (gF empty one is both) -/
 | dK (kvs:List (Key×V)) | dT (kvs:List (List Key×V))
 /-- a set of ints: aj members,aj size -/
 | set (S:Int->Bool) (n:Nat)
 /-- an instance of gF class at C,aj dict at dx,aj attributes -/
 | ins (C dx:Addr) (fs:List (Str×V))
 /-- gF dict of gF instance at x -/
 | own (x:Addr)
 /-- gF dict of an exception -/
 | xd (fs:List (Str×V))
 /-- a bound method,f of x -/
 | met (f x:Addr)
 /-- a range object lo,lo+1,.. below hi -/
 | vo (lo hi:Int)
 /-- a thing that is known to gF object (gF script; a dict while a loop walks it): read,never written while it is so -/
 | bG (o:Obj) (u:HO)
 /-- a code object's table -/
 | kF (ps:Array Value)
 /-- any other thing,by what is true of aj one object (a def of one's own: SetO a S n:=HO.ext fun h=>..) -/
 | ext (φ:Heap->Prop)
abbrev Hp:=Addr->Option HO
def upd (H:Hp) (a:Addr) (o:HO):Hp:=fun b=>if b=a then some o else H b
def au {H:Hp} {a:Addr} {o:HO}:upd H a o a=some o:=by unfold upd; rw [Db rfl]
def ah {H:Hp} {a b:Addr} {o:HO} (h:b≠a):upd H a o b=H b:=by unfold upd; rw [Ch h]
def ji {H:Hp} {a:Addr} {o u:HO}:upd (upd H a o) a u=upd H a u:=by
 funext b; unfold upd; split <;> rfl
def X0 {H:Hp} {a b:Addr} {o u:HO} (h:H a=some o) (h':H b=some u) (d:o≠u):a≠b:=by
 intro e; subst e; rw [h] at h'; exact d (FM h')
def dP {H:Hp} {a b:Addr} {o:HO} (h:H a=some o) (h':H b=none):a≠b:=by
 intro e; subst e; rw [h] at h'; cases h'
def zJ (h:Heap) (a:Addr) (items:Array Value):Prop:=∃ o,h.get? a=some o/\o.cls=.type "tuple" /\ ∃ n,o.data=.seq items n/\o.dict=none
def zJ.t {h:Heap} {a:Addr} {items:Array Value} (x:zJ h a items):IsTup h a items:=let ⟨o,e,c,n,d,_⟩:=x; ⟨o,e,c,n,d⟩
section
variable (P:Program) (w:World)
def bN (H:Hp) (h:Heap) (a:Addr):HO->Prop
 | .lst xs=>xs.length<=sizeLine/\∃ (aj:List Value) (n:Nat),Vals xs aj/\h.get? a=some { cls:=.type "list",data:=.seq aj.toArray n }
 | .tup xs=>xs.length<=sizeLine/\∃ aj:List Value,Vals xs aj/\zJ h a aj.toArray
 | .dK kvs=>kvs.length<=sizeLine/\(a == sysModules)=false/\∃ vs,KV kvs vs/\h.DictOf (cS P w) a vs
 | .dT kvs=>kvs.length<=sizeLine/\(a == sysModules)=false/\∃ xs:List (List Key×Addr×Value),
   Paired (fun (p:List Key×V) (q:List Key×Addr×Value)=>p.1=q.1/\H q.2.1=some (.tup (p.1.map kV))/\RelV p.2 q.2.2) kvs xs /\
   ∃ o es ep,h.get? a=some o/\o.ExactDict/\o.data=.dict es ep/\es.toList=xs.map (entryOfKey (tupleKind (cS P w)))/\(xs.map (·.1)).Nodup
 | .set S n=>h.SetOf (intKind P w) a S n
 | .ins C dx fs=>H dx=some (.own a)/\fs.length<=1000/\dx≠a/\h.get? a=some (PySem.W.instObj C dx) /\
   ∃ mA,h.Ns1 dx mA/\(∀ f,eh (fs.lookup f) (mA f))/\PySem.Within mA (fs.map (·.1))
 | .own _=>∃ o,h.get? a=some o
 | .xd fs=>∃ mA,h.Ns1 a mA/\∀ f,eh (fs.lookup f) (mA f)
 | .vo lo hi=>∃ t u v,h.get? a=some { cls:=.type "range",data:=.fields #[.int lo t,.int hi u,.int 1 v] }
 | .bG o u=>h.get? a=some o/\bN H h a u
 | .kF ps=>h.get? a=some { cls:=.none,data:=.fields ps }
 | .met f x=>h.get? a=some (PySem.W.methodObj (.ref f) (.ref x))
 | .ext φ=>φ h/\(∃ o,h.get? a=some o)/\∀ h1 h2:Heap,φ h1->(∀ o,h1.get? a=some o->h2.get? a=some o)->φ h2
def bY (H:Hp) (h:Heap):Prop:=∀ a o,H a=some o->bN P w H h a o
end
section
variable {P:Program} {w:World} {H H':Hp} {h h':Heap} {a:Addr} {o:HO}
def bN.lt (x:bN P w H h a o):a < h.objs.size:=by
 cases o with
 | lst xs=>obtain ⟨_,_,_,_,e⟩:=x; exact wf e
 | tup xs=>obtain ⟨_,_,_,p⟩:=x; exact p.t.lt
 | dK kvs=>obtain ⟨_,_,_,_,o,_,_,e,_⟩:=x; exact wf e
 | dT kvs=>obtain ⟨_,_,_,_,o,_,_,e,_⟩:=x; exact wf e
 | set S n=>obtain ⟨o,_,_,_,e,_⟩:=x; exact wf e
 | ins C dx fs=>obtain ⟨_,_,_,e,_⟩:=x; exact wf e
 | own y=>obtain ⟨_,e⟩:=x; exact wf e
 | xd fs=>obtain ⟨_,⟨_,_,_,e,_⟩,_⟩:=x; exact wf e
 | vo lo hi=>obtain ⟨_,_,_,e⟩:=x; exact wf e
 | bG ob u=>obtain ⟨e,_⟩:=x; exact wf e
 | kF ps=>exact wf (show h.get? a=some _ from x)
 | met f y=>exact wf (show h.get? a=some _ from x)
 | ext φ=>obtain ⟨_,⟨_,e⟩,_⟩:=x; exact wf e
def Paired.Al {α β:Type} {F G:α->β->Prop}:∀ {l₁:List α} {l₂:List β},Paired F l₁ l₂->(∀ a b,F a b->G a b)->Paired G l₁ l₂
 | _,_,.nil,_=>.nil
 | _,_,.cons r t,f=>.cons (f _ _ r) (Paired.Al t f)
def bN.eL (x:bN P w H h a o) (k:∀ b u,(b=a\/H b=some (.own a))->h.get? b=some u->h'.get? b=some u)
  (ho:∀ b,H b=some (.own a)->H' b=some (.own a)) (ht:∀ b xs,H b=some (.tup xs)->H' b=some (.tup xs)):bN P w H' h' a o:=by
 induction o with
 | lst xs=>obtain ⟨z,aj,n,r,e⟩:=x; exact ⟨z,aj,n,r,k _ _ (.inl rfl) e⟩
 | tup xs=>obtain ⟨z,aj,r,ob,e,c⟩:=x; exact ⟨z,aj,r,ob,k _ _ (.inl rfl) e,c⟩
 | dK kvs=>obtain ⟨z,y,vs,r,ob,es,ep,e,c⟩:=x; exact ⟨z,y,vs,r,ob,es,ep,k _ _ (.inl rfl) e,c⟩
 | dT kvs =>
  obtain ⟨z,y,xs,r,ob,es,ep,e,c⟩:=x;exact ⟨z,y,xs,Paired.Al r fun p q z=>⟨z.1,ht _ _ z.2.1,z.2.2⟩,ob,es,ep,k _ _ (.inl rfl) e,c⟩
 | set S n=>obtain ⟨ob,es,ep,t,e,c⟩:=x; exact ⟨ob,es,ep,t,k _ _ (.inl rfl) e,c⟩
 | ins C dx fs =>
  obtain ⟨d,z,ne,e,mA,⟨od,es,ep,e2,c⟩,r⟩:=x;exact ⟨ho _ d,z,ne,k _ _ (.inl rfl) e,mA,⟨od,es,ep,k _ _ (.inr d) e2,c⟩,r⟩
 | own y=>obtain ⟨ob,e⟩:=x; exact ⟨ob,k _ _ (.inl rfl) e⟩
 | xd fs=>obtain ⟨mA,⟨od,es,ep,e,c⟩,r⟩:=x; exact ⟨mA,⟨od,es,ep,k _ _ (.inl rfl) e,c⟩,r⟩
 | vo lo hi=>obtain ⟨t,u,v,e⟩:=x; exact ⟨t,u,v,k _ _ (.inl rfl) e⟩
 | bG ob u ih=>obtain ⟨e,q⟩:=x; exact ⟨k _ _ (.inl rfl) e,ih q⟩
 | kF ps =>
  have e:h.get? a=some { cls:=.none,data:=.fields ps }:=x;show h'.get? a=some { cls:=.none,data:=.fields ps };exact k a _ (.inl rfl) e
 | met f y =>
  have e:h.get? a=some (PySem.W.methodObj (.ref f) (.ref y)):=x;show h'.get? a=some (PySem.W.methodObj (.ref f) (.ref y));exact k a _ (.inl rfl) e
 | ext φ=>obtain ⟨p,⟨o,e⟩,st⟩:=x; exact ⟨st _ _ p fun o q=>k _ _ (.inl rfl) q,⟨o,k _ _ (.inl rfl) e⟩,st⟩
def bY.lt (x:bY P w H h) (e:H a=some o):a < h.objs.size:=(x a o e).lt
def bY.fresh (x:bY P w H h) (e:h.objs.size<=a):H a=none:=by
 cases q:H a with
 | none=>rfl
 | some u=>exact absurd (xz (x.lt q) e) (No _)
def bY.kept (x:bY P w H h) (k:∀ b u,h.get? b=some u->h'.get? b=some u):bY P w H h':=fun a o e =>
 (x a o e).eL (fun b u _ q=>k b u q) (fun _ q=>q) fun _ _ q=>q
def bY.laid (x:bY P w H h) (k:∀ b u,h.get? b=some u->h'.get? b=some u) (hp:h.objs.size<=a) (new:bN P w (upd H a o) h' a o):bY P w (upd H a o) h':=fun b u e=>by
 have hn:=x.fresh hp;by_cases hb:b=a
 ·subst hb; rw [au] at e; cases e; exact new
 ·rw [ah hb] at e;exact (x b u e).eL (fun c v _ q=>k c v q) (fun c q=>by rw [ah (dP q hn)]; exact q) fun c xs q=>by rw [ah (dP q hn)]; exact q
end
def Rd (H:Hp) (a:Addr) (u:HO):Prop:=H a=some u\/∃ o,H a=some (.bG o u)
def Rd.ok {P:Program} {w:World} {H:Hp} {h:Heap} {a:Addr} {u:HO} (r:Rd H a u) (x:bY P w H h):bN P w H h a u:=by
 rcases r with r | ⟨o,r⟩
 ·exact x a u r
 ·obtain ⟨_,q⟩:=x a _ r;exact q
def oS:Option HO->Prop
 | some (.lst _)=>True
 | some (.dK _)=>True
 | some (.dT _)=>True
 | some (.set _ _)=>True
 | some (.ins _ _ _)=>True
 | some (.ext _)=>True
 | _=>False
section
variable {P:Program} {w:World} {H:Hp} {h h':Heap} {x e:Addr} {o':HO}
def bY.write (ok:bY P w H h) (mu:oS (H x)) (he:e=x\/H e=some (.own x)) (k:∀ b u,b≠e->h.get? b=some u->h'.get? b=some u) (pE:∃ u,h'.get? e=some u)
  (new:bN P w (upd H x o') h' x o'):bY P w (upd H x o') h':=fun b u q=>by
 have Kx:∀ c y,H c=some (.own y)->c≠x:=fun c y r z=>by subst z; rw [r] at mu; exact mu
 have ntup:∀ c xs,H c=some (.tup xs)->c≠x:=fun c xs r z=>by subst z; rw [r] at mu; exact mu
 by_cases hb:b=x
 ·subst hb; rw [au] at q; cases q; exact new
 ·rw [ah hb] at q;by_cases mz:b=e
  ·have q':H b=some (.own x):=by
    rcases he with z | z
    ·exact absurd (mz.trans z) hb
    ·rw [mz]; exact z
   rw [q] at q'; cases q';obtain ⟨v,hv⟩:=pE;exact ⟨v,by rw [mz]; exact hv⟩
  ·refine (ok b u q).eL (fun c v hc r=>k c v ?_ r) (fun c r=>by rw [ah (Kx c b r)]; exact r) fun c xs r=>by rw [ah (ntup c xs r)]; exact r
   rcases hc with rfl | hc
   ·exact mz
   ·rintro rfl;rcases he with z | z
    ·exact Kx c b hc z
    ·rw [hc] at z; cases z; exact hb rfl
end
structure Un (fs ex:List Addr) (H H':Hp) (h h':Heap):Prop where
 keep:∀ b o,h.get? b=some o->H b=none->b ∉ fs->b ∉ ex->h'.get? b=some o
 slot:∀ b o,h.get? b=some o->H b=none->b∈fs->b ∉ ex->∃ sl,h'.get? b=some { o with slots:=sl }
 free:∀ b o,h.get? b=some o->H b=none->b ∉ ex->H' b=none
 there:∀ b o,h.get? b=some o->b ∉ ex->∃ o',h'.get? b=some o'
 fK:∀ b xs,H b=some (.tup xs)->H' b=some (.tup xs)
 fk:∀ b o u,H b=some (.bG o u)->H' b=some (.bG o u)
 fO:∀ b ps,H b=some (.kF ps)->∃ more,H' b=some (.kF (ps++more))
section
variable {fs fs' ex ex':List Addr} {H H1 H2:Hp} {h h1 h2 h':Heap} {a x e:Addr} {o:HO}
def Un.any (u:Un fs ex H H1 h h1) {b:Addr} {ob:Obj} (q:h.get? b=some ob) (n:H b=none) (hx:b ∉ ex):∃ sl,h1.get? b=some { ob with slots:=sl }:=by
 by_cases hb:b∈fs
 ·exact u.slot b ob q n hb hx
 ·exact ⟨ob.slots,u.keep b ob q n hb hx⟩
def Un.kept (k:∀ b u,h.get? b=some u->h'.get? b=some u):Un fs ex H H h h' :=
 ⟨fun b ob q _ _ _=>k b ob q,fun b ob q _ _ _=>⟨ob.slots,k b ob q⟩,fun _ _ _ n _=>n,fun b ob q _=>⟨ob,k b ob q⟩,fun _ _ q=>q,fun _ _ _ q=>q,fun _ ps q=>⟨#[],by rw [q]; simp⟩⟩
def Un.refl:Un fs ex H H h h:=Un.kept fun _ _ q=>q
def Un.laid (k:∀ b u,h.get? b=some u->h'.get? b=some u) (hp:h.objs.size<=a) (hn:H a=none):Un fs ex H (upd H a o) h h' where
 keep:=fun b u q _ _ _=>k b u q
 slot:=fun b u q _ _ _=>⟨u.slots,k b u q⟩
 free:=fun b u q n _=>by rw [ah (xL (xz (wf q) hp))]; exact n
 there:=fun b u q _=>⟨u,k b u q⟩
 fK:=fun b xs q=>by rw [ah (dP q hn)]; exact q
 fk:=fun b u xs q=>by rw [ah (dP q hn)]; exact q
 fO:=fun b ps q=>⟨#[],by rw [ah (dP q hn),q]; simp⟩
def Un.write (mu:oS (H x)) (he:e=x\/H e=some (.own x)) (k:∀ b u,b≠e->h.get? b=some u->h'.get? b=some u) (pE:∃ u,h'.get? e=some u):Un fs ex H (upd H x o) h h':=by
 have hx:∀ b,H b=none->b≠x:=fun b n z=>by subst z; rw [n] at mu; exact mu
 have hb:∀ b,H b=none->b≠e:=fun b n z=>by
  subst z;rcases he with r | r
  ·exact hx b n r
  ·rw [n] at r; cases r
 have hm:∀ b u,H b=some u->¬ oS (some u)->b≠x:=fun b u q nm z=>by subst z; rw [q] at mu; exact nm mu
 refine ⟨fun b u q n _ _=>k b u (hb b n) q,fun b u q n _ _=>⟨u.slots,k b u (hb b n) q⟩,fun b u q n _=>by rw [ah (hx b n)]; exact n,fun b u q _=>?_,
  fun b xs q=>by rw [ah (hm b _ q fun z=>z)]; exact q,fun b u xs q=>by rw [ah (hm b _ q fun z=>z)]; exact q,fun b ps q=>⟨#[],by rw [ah (hm b _ q fun z=>z),q]; simp⟩⟩
 by_cases mz:b=e
 ·subst mz; exact pE
 ·exact ⟨u,k b u mz q⟩
end
def uW (h:Heap) (H:Hp):List Addr:=(List.range h.objs.size).filter fun a=>(H a).isSome
def jK (h:Heap) (H:Hp):Heap:=PySem.W.hideAll h (uW h H)
def OA (h:Heap) (H:Hp):(jK h H).objs.size=h.objs.size:=PySem.W.hideAll_size _ _
def YB {h:Heap} {H:Hp} {b:Addr} {o:Obj} (e:h.get? b=some o) (n:H b=none):(jK h H).get? b=some o :=
 _x _ e fun hm=>by
  have q:(H b).isSome=true:=(List.mem_filter.mp hm).2;rw [n] at q; simp at q
def UZ {h:Heap} {H:Hp} {b:Addr} {o:Obj} (e:(jK h H).get? b=some o):h.get? b=some o/\H b=none:=by
 have e':h.get? b=some o:=_F (uW h H) e;refine ⟨e',?_⟩;cases q:H b with
 | none=>rfl
 | some x =>
  have hm:b∈uW h H:=List.mem_filter.mpr ⟨_G.mpr (wf e'),by simp [q]⟩;have z:(jK h H).get? b=none:=PySem.W.hideAll_none (uW h H) hm;rw [z] at e; cases e
def RF (g h:Heap) (L:Addr):List (Addr×Obj):=(List.range h.objs.size).filterMap fun a=>if a=L\/(g.get? a).isSome=true then none else (h.get? a).map fun o=>(a,o)
def rest (g h:Heap) (L d:Addr):List (Addr×Obj):=(RF g h L).filter fun p=>decide (p.1≠d)
structure Mod (K:PySem.W.Frag) (mg:Str->Option Value) (base:Heap):Prop where
 ir:K.In base
 glob:base.Ns mainGlobals mg
 blt:∃ mb,base.Ns builtinsNs mb/\∀ x:Str,x ≠ "__name__" -> mb x=bootBuiltins x
 nolimit:base.NoLimit
structure Cx where
 prog:Program
 w:World
 K:PySem.W.Frag
 mg:Str->Option Value
 base:Heap
 A:Around
 N:List Str
 s₀:Shared
 H₀:Hp
 env:Env
 outer:List Env
 stack:List Env
 ex:List Addr
 fn:Str->Bool
 calm:Bool
 pn:List (Addr×Obj)
 xe:Value->Shared->Prop
def bM (l:List Env):List Addr:=l.filterMap (·.frame)
abbrev Cx.fs (X:Cx):List Addr:=bM X.outer
def qy (sc:Scope) (x:Str):Prop:=sc.names.lookup x=some .local\/sc.names.lookup x=some .cell\/sc.names.lookup x=some .free
def Loc (sc:Scope) (x:Str):Prop:=sc.names.lookup x=some .local\/sc.names.lookup x=some .cell
def Look (env:Env) (h:Heap) (m:Str->Option Value) (x:Str) (u:Value):Prop :=
 (env.kindOf x=some .local/\m x=some u)\/((env.kindOf x=some .cell\/env.kindOf x=some .free)/\∃ c,env.cells.lookup x=some c/\h.IsCell c (some u))
structure Cx.Ok (X:Cx):Prop where
 mod:Mod X.K X.mg X.base
 kind:X.env.scope.kind=.function
 glob:X.env.globals=mainGlobals
 blt:X.env.builtins=builtinsNs
 above:X.s₀.heap.objs.size<=X.env.locals
 inj:∀ x y c,X.env.cells.lookup x=some c->X.env.cells.lookup y=some c->x=y
 has:∀ x,(X.env.kindOf x=some .cell\/X.env.kindOf x=some .free)->∃ c,X.env.cells.lookup x=some c
 rj:∀ x c,X.fn x=true->X.env.cells.lookup x=some c->X.s₀.heap.objs.size<=c
 hd:X.calm=true->X.A.handled=none
 frames:X.A.frames=some X.stack
 eE:X.stack=X.outer\/(X.stack=X.env::X.outer/\X.env.frame=some X.env.locals)
 Ei:∀ b∈X.ex,b≠X.env.locals/\∀ x c,X.env.cells.lookup x=some c->c≠b
 bs:∀ b o,X.base.get? b=some o->X.s₀.heap.get? b=some o/\X.H₀ b=none
 jI:X.base.objs.size<=X.s₀.heap.objs.size
 sr:∀ b o,X.base.get? b=some o->b ∉ X.ex
 sy:∀ b∈X.ex,b ∉ X.fs
 gL:X.s₀.heap.FunFrames X.base X.outer
 lE:∀ b∈X.fs,X.H₀ b=none
structure Inv (X:Cx) (pins:List (Addr×Obj)) (σ:List (Option V)) (H:Hp) (s:Shared):Prop where
 ok:X.Ok
 os:s.os=X.s₀.os
 bare:AllBare s.gens
 base:Un X.fs X.ex X.H₀ H X.s₀.heap s.heap
 loc:∃ m,s.heap.Ns X.env.locals m/\∀ (i:Nat) (x:Str) (v:V),X.N[i]?=some x->σ[i]?=some (some v)->qy X.env.scope x->∃ u,RelV v u/\Look X.env s.heap m x u
 cell:∀ x c,X.env.cells.lookup x=some c->∃ v,s.heap.IsCell c v
 free:H X.env.locals=none
 ie:∀ x c,X.env.cells.lookup x=some c->H c=none
 pin:∀ p∈X.pn++pins,s.heap.get? p.1=some p.2/\H p.1=none/\p.1≠X.env.locals/\p.1 ∉ X.fs/\∀ v,p.2.data≠.cell v
 aB:bY X.prog X.w H s.heap
 len:σ.length=X.N.length
section
variable {X:Cx} {pins:List (Addr×Obj)} {σ:List (Option V)} {H H':Hp} {s:Shared} {h':Heap}
def Cx.Ok.Tp (ok:X.Ok) {b:Addr} {o:Obj} (e:X.base.get? b=some o):b ∉ X.fs:=fun hb=>by
 have:=(ok.gL.mem hb).1;rw [e] at this; cases this
def Inv.bs (I:Inv X pins σ H s):∀ b o,X.base.get? b=some o->s.heap.get? b=some o/\H b=none:=fun b o e =>
 ⟨I.base.keep b o (I.ok.bs b o e).1 (I.ok.bs b o e).2 (I.ok.Tp e) (I.ok.sr b o e),I.base.free b o (I.ok.bs b o e).1 (I.ok.bs b o e).2 (I.ok.sr b o e)⟩
def Inv.bk (I:Inv X pins σ H s):∀ b o,X.base.get? b=some o->s.heap.get? b=some o:=fun b o e=>(I.bs b o e).1
def Inv.mod (I:Inv X pins σ H s):Mod X.K X.mg X.base:=I.ok.mod
def Inv.bW (I:Inv X pins σ H s):X.K.In s.heap:=I.ok.mod.ir.keeps I.bk
def Inv.lt (I:Inv X pins σ H s):X.env.locals < s.heap.objs.size:=let ⟨_,hn,_⟩:=I.loc; hn.lt
def Inv.sz (I:Inv X pins σ H s):X.s₀.heap.objs.size<=s.heap.objs.size:=wE I.ok.above (Nat.le_of_lt I.lt)
def Inv.JU (I:Inv X pins σ H s) {a:Addr} (h:s.heap.objs.size<=a):a ∉ X.fs:=fun hb=>by
 obtain ⟨_,o,ho,_⟩:=I.ok.gL.mem hb;exact absurd (xz (wf ho) (wE I.sz h)) (No _)
def Inv.lV (I:Inv X pins σ H s):∀ x c,X.env.cells.lookup x=some c->c≠X.env.locals:=fun x c e z=>by
 obtain ⟨v,o,ho,hd⟩:=I.cell x c e;obtain ⟨m,⟨o',es,ep,ho',hd',_⟩,_⟩:=I.loc;rw [z,ho'] at ho; cases ho; rw [hd'] at hd; cases hd
def Inv.gL (I:Inv X pins σ H s):s.heap.FunFrames X.base X.outer:=by
 have all:∀ (l:List Env),(∀ b∈bM l,b∈X.fs)->X.s₀.heap.FunFrames X.base l->s.heap.FunFrames X.base l:=by
  intro l
  induction l with
  | nil=>intro _ _; trivial
  | cons env r ih =>
   intro hs hl;obtain ⟨hk,⟨L,o,hf,hn,ho,hd⟩,hr⟩:=hl;have hL:L∈X.fs:=hs L (by unfold bM; rw [Zy,hf]; exact ZD);obtain ⟨sl,e⟩:=I.base.slot L o ho (I.ok.lE L hL) hL fun z=>I.ok.sy L z hL;exact ⟨hk,⟨L,_,hf,hn,e,hd⟩,ih (fun b hb=>hs b (by unfold bM; rw [Zy,hf]; exact Ev _ hb)) hr⟩
 exact all X.outer (fun _ hb=>hb) I.ok.gL
def Inv.stack (I:Inv X pins σ H s):s.heap.FunFrames X.base X.stack:=by
 rcases I.ok.eE with e | ⟨e,hf⟩
 ·rw [e]; exact I.gL
 ·rw [e];obtain ⟨m,hn,_⟩:=I.loc;refine .cons (by rw [I.ok.kind]; decide) hf hn ?_ I.gL;exact ZT (wE I.ok.jI I.ok.above)
def Inv.wa (I:Inv X pins σ H s):∀ b∈bM X.stack,b∈X.env.locals::X.fs:=fun b hb=>by
 rcases I.ok.eE with e | ⟨e,hf⟩
 ·rw [e] at hb; exact Ev _ hb
 ·rw [e] at hb;unfold bM at hb;rw [Zy,hf] at hb;exact hb
def Inv.u4 (I:Inv X pins σ H s):∀ b∈bM X.stack,H b=none:=fun b hb=>by
 rcases ss.mp (I.wa b hb) with e | hb
 ·rw [e]; exact I.free
 ·obtain ⟨_,o,ho,_⟩:=I.ok.gL.mem hb;exact I.base.free b o ho (I.ok.lE b hb) fun z=>I.ok.sy b z hb
def Inv.step {g':Array GenState} {t':Nat} {d':Drawn} {ch:List Addr} (I:Inv X pins σ H s)
  (js:∀ b∈ch,(b∈X.ex\/X.s₀.heap.objs.size<=b)/\b≠X.env.locals/\(∀ x c,X.env.cells.lookup x=some c->c≠b)/\∀ p∈X.pn++pins,p.1≠b)
  (keep:∀ b o,b≠X.env.locals->b ∉ X.fs->b ∉ ch->s.heap.get? b=some o->H b=none->h'.get? b=some o)
  (slot:∀ b o,b≠X.env.locals->b∈X.fs->b ∉ ch->s.heap.get? b=some o->H b=none->∃ sl,h'.get? b=some { o with slots:=sl }) (free:∀ b o,b ∉ ch->s.heap.get? b=some o->H b=none->H' b=none)
  (there:∀ b o,b ∉ ch->s.heap.get? b=some o->∃ o',h'.get? b=some o')
  (fK:∀ b xs,H b=some (.tup xs)->H' b=some (.tup xs)) (fk:∀ b o u,H b=some (.bG o u)->H' b=some (.bG o u)) (fO:∀ b ps,H b=some (.kF ps)->∃ more,H' b=some (.kF (ps++more)))
  (ns:∀ m,s.heap.Ns X.env.locals m->h'.Ns X.env.locals m) (aB:bY X.prog X.w H' h') (hg:AllBare g') :
  Inv X pins σ H' { s with heap:=h',gens:=g',drawn:=d',toks:=t' }:=by
 have tS:∀ b o,X.s₀.heap.get? b=some o->b≠X.env.locals:=fun b o e=>xL (xz (wf e) I.ok.above);have wG:∀ b o,X.s₀.heap.get? b=some o->b ∉ X.ex->b ∉ ch:=fun b o e hx hb=>by
  rcases (js b hb).1 with z | z
  ·exact hx z
  ·exact absurd (xz (wf e) z) (No _)
 have cellK:∀ x c,X.env.cells.lookup x=some c->∀ v,s.heap.IsCell c v->h'.IsCell c v:=fun x c e v ⟨o,ho,hd⟩=>by
  have tm:c ∉ ch:=fun z=>(js c z).2.2.1 x c e rfl;by_cases hc:c∈X.fs
  ·obtain ⟨sl,q⟩:=slot c o (I.lV x c e) hc tm ho (I.ie x c e);exact ⟨_,q,hd⟩
  ·exact ⟨o,keep c o (I.lV x c e) hc tm ho (I.ie x c e),hd⟩
 refine ⟨I.ok,I.os,hg,⟨fun b o e n hb hx=>?_,fun b o e n hb hx=>?_,fun b o e n hx=>?_,fun b o e hx=>?_,fun b xs e=>fK b xs (I.base.fK b xs e),fun b o xs e=>fk b o xs (I.base.fk b o xs e),fun b ps e=>?_⟩,?_,fun x c e=>?_,?_,fun x c e=>?_,fun p hp=>?_,aB,I.len⟩
 ·exact keep b o (tS b o e) hb (wG b o e hx) (I.base.keep b o e n hb hx) (I.base.free b o e n hx)
 ·obtain ⟨sl,e1⟩:=I.base.slot b o e n hb hx;obtain ⟨sl',e2⟩:=slot b _ (tS b o e) hb (wG b o e hx) e1 (I.base.free b o e n hx);exact ⟨sl',e2⟩
 ·obtain ⟨o',e1⟩:=I.base.there b o e hx;exact free b o' (wG b o e hx) e1 (I.base.free b o e n hx)
 ·obtain ⟨o',e1⟩:=I.base.there b o e hx;exact there b o' (wG b o e hx) e1
 ·obtain ⟨m1,e1⟩:=I.base.fO b ps e;obtain ⟨m2,e2⟩:=fO b _ e1;exact ⟨m1++m2,by rw [e2,Array.append_assoc]⟩
 ·obtain ⟨m,hn,hl⟩:=I.loc;refine ⟨m,ns m hn,fun i x v e1 e2 e3=>?_⟩;obtain ⟨u,r,l⟩:=hl i x v e1 e2 e3;refine ⟨u,r,?_⟩;rcases l with l | ⟨k,c,e,z⟩
  ·exact .inl l
  ·exact .inr ⟨k,c,e,cellK x c e _ z⟩
 ·obtain ⟨v,z⟩:=I.cell x c e;exact ⟨v,cellK x c e v z⟩
 ·obtain ⟨m,⟨o,_,_,ho,_⟩,_⟩:=I.loc;exact free _ o (fun z=>(js _ z).2.1 rfl) ho I.free
 ·obtain ⟨v,o,ho,hd⟩:=I.cell x c e;exact free c o (fun z=>(js c z).2.2.1 x c e rfl) ho (I.ie x c e)
 ·obtain ⟨e,n,ne,nf,d⟩:=I.pin p hp;have tm:p.1 ∉ ch:=fun z=>(js p.1 z).2.2.2 p hp rfl;exact ⟨keep p.1 p.2 ne nf tm e n,free p.1 p.2 tm e n,ne,nf,d⟩
def Inv.un {t':Nat} (I:Inv X pins σ H s) (u:Un X.fs [] H H' s.heap h') (aB:bY X.prog X.w H' h'):Inv X pins σ H' { s with heap:=h',toks:=t' }:=by
 obtain ⟨m,⟨o,es,ep,ho,r⟩,_⟩:=id I.loc;obtain ⟨sl,hL⟩:=u.any ho I.free (by simp);exact I.step (g':=s.gens) (d':=s.drawn) (ch:=[]) (fun _ z=>nomatch z) (fun b o _ hb _ e n=>u.keep b o e n hb (by simp)) (fun b o _ hb _ e n=>u.slot b o e n hb (by simp)) (fun b o _ e n=>u.free b o e n (by simp)) (fun b o _ e=>u.there b o e (by simp)) u.fK u.fk u.fO (fun m' hm=>by
  obtain ⟨o',es',ep',ho',r'⟩:=hm;rw [ho] at ho'; cases ho';exact ⟨_,es',ep',hL,r'⟩) aB I.bare
def Inv.call {g':Array GenState} {t':Nat} {d':Drawn} {ch:List Addr} (I:Inv X pins σ H s) (u:Un (bM X.stack) ch H H' s.heap h') (aB:bY X.prog X.w H' h') (hg:AllBare g')
  (js:∀ b∈ch,(b∈X.ex\/X.s₀.heap.objs.size<=b)/\b≠X.env.locals/\(∀ x c,X.env.cells.lookup x=some c->c≠b)/\∀ p∈X.pn++pins,p.1≠b) :
  Inv X pins σ H' { s with heap:=h',gens:=g',drawn:=d',toks:=t' }:=by
 obtain ⟨m,⟨o,es,ep,ho,r⟩,_⟩:=id I.loc;obtain ⟨sl,hL⟩:=u.any ho I.free fun z=>(js _ z).2.1 rfl;exact I.step (ch:=ch) js (fun b o hL hb hc e n=>u.keep b o e n (fun z=>(ss.mp (I.wa b z)).elim hL hb) hc) (fun b o _ _ hc e n=>u.any e n hc) (fun b o hc e n=>u.free b o e n hc) (fun b o hc e=>u.there b o e hc) u.fK u.fk u.fO (fun m' hm=>by
  obtain ⟨o',es',ep',ho',r'⟩:=hm;rw [ho] at ho'; cases ho';exact ⟨_,es',ep',hL,r'⟩) aB hg
def Inv.turned {t':Nat} {it:Addr} (I:Inv X pins σ H s) (k:∀ b o,b≠it->s.heap.get? b=some o->h'.get? b=some o) (hn:H it=none) (hL:it≠X.env.locals)
  (h1:it∈X.ex\/X.s₀.heap.objs.size<=it) (h2:∀ x c,X.env.cells.lookup x=some c->c≠it) (h3:∀ p∈X.pn++pins,p.1≠it):Inv X pins σ H { s with heap:=h',toks:=t' }:=by
 have sX:∀ b u,H b=some u->b≠it:=fun b u e z=>by rw [z,hn] at e; cases e
 refine I.step (g':=s.gens) (d':=s.drawn) (ch:=[it]) (fun b hb=>?_) (fun b o _ _ hc e _=>k b o (fun z=>hc (by simp [z])) e) (fun b o _ _ hc e _=>⟨o.slots,k b o (fun z=>hc (by simp [z])) e⟩) (fun _ _ _ _ n=>n)
  (fun b o hc e=>⟨o,k b o (fun z=>hc (by simp [z])) e⟩) (fun _ _ e=>e) (fun _ _ _ e=>e) (fun b ps e=>⟨#[],by rw [e]; simp⟩) (fun m hm=>?_) (fun b u e=>?_) I.bare
 ·have e:b=it:=by simpa using hb
  subst e;exact ⟨h1,hL,h2,h3⟩
 ·obtain ⟨o,es,ep,ho,r⟩:=hm;exact ⟨o,es,ep,k _ o (sw hL) ho,r⟩
 ·refine (I.aB b u e).eL (fun c v hc q=>k c v ?_ q) (fun _ q=>q) fun _ _ q=>q;rcases hc with z | z
  ·rw [z]; exact sX b u e
  ·exact sX c _ z
def Inv.tok (I:Inv X pins σ H s) (t:Nat):Inv X pins σ H { s with toks:=t }:=I.un (h':=s.heap) (t':=t) Un.refl I.aB
def Inv.kept {t':Nat} (I:Inv X pins σ H s) (k:∀ b u,s.heap.get? b=some u->h'.get? b=some u):Inv X pins σ H { s with heap:=h',toks:=t' }:=I.un (Un.kept k) (I.aB.kept k)
def Inv.laid {a:Addr} {o:HO} {t':Nat} (I:Inv X pins σ H s) (k:∀ b u,s.heap.get? b=some u->h'.get? b=some u) (hp:s.heap.objs.size<=a) (new:bN X.prog X.w (upd H a o) h' a o) :
  Inv X pins σ (upd H a o) { s with heap:=h',toks:=t' }:=I.un (Un.laid k hp (I.aB.fresh hp)) (I.aB.laid k hp new)
def Inv.write {x e:Addr} {o:HO} {t':Nat} (I:Inv X pins σ H s) (mu:oS (H x)) (he:e=x\/H e=some (.own x)) (k:∀ b u,b≠e->s.heap.get? b=some u->h'.get? b=some u) (pE:∃ u,h'.get? e=some u)
  (new:bN X.prog X.w (upd H x o) h' x o):Inv X pins σ (upd H x o) { s with heap:=h',toks:=t' }:=I.un (Un.write mu he k pE) (I.aB.write mu he k pE new)
def Inv.rQ {pins':List (Addr×Obj)} (I:Inv X pins σ H s) (h:∀ p∈pins',s.heap.get? p.1=some p.2/\H p.1=none/\p.1≠X.env.locals/\p.1 ∉ X.fs/\∀ v,p.2.data≠.cell v):Inv X pins' σ H s :=
 ⟨I.ok,I.os,I.bare,I.base,I.loc,I.cell,I.free,I.ie,fun p hp=>(LE.mp hp).elim (fun z=>I.pin p (ZU _ z)) (h p),I.aB,I.len⟩
def Gs {N:List Str} (hN:N.Nodup) {i j:Nat} {x:Str} (a:N[i]?=some x) (b:N[j]?=some x):i=j:=by
 obtain ⟨h1,e1⟩:=lv.mp a;obtain ⟨h2,e2⟩:=lv.mp b;exact (List.getElem_inj hN).mp (e1.trans e2.symm)
def DY {M:Model} {A:Around} {E:Value->Shared->Prop} {i:Nat} {x:Str} {v:V} {u:Value} {Q:Unit->Shared->Prop} (I:Inv X pins σ H s) (hN:X.N.Nodup) (hi:X.N[i]?=some x) (hx:Loc X.env.scope x) (r:RelV v u)
  (h:∀ s',Inv X pins (σ.set i (some v)) H s'->(∃ a,Heap.SameBut a s.heap s'.heap/\(a=X.env.locals\/X.env.cells.lookup x=some a))->Q () s') (hf:X.fn x=true\/X.env.scope.names.lookup x=some .local:=by first | exact .inl rfl | exact .inr rfl | assumption):wpAny M A (storeName X.env x u) Q E s:=by
 obtain ⟨m,hn,hl⟩:=id I.loc;have hcls:(X.env.scope.kind == .class || (X.env.scope.kind == .module && X.env.locals != X.env.globals))=false:=by rw [I.ok.kind]; rfl
 have Mi:i < σ.length:=by rw [I.len]; exact (lv.mp hi).1
 have lV:=I.lV;have tracked:∀ {a:Addr} {h':Heap},(∃ o,s.heap.get? a=some o/\H a=none)->Heap.SameBut a s.heap h'->bY X.prog X.w H h':=fun {a h'} ha hs b ob e=>by
  obtain ⟨_,_,lb⟩:=ha;refine (I.aB b ob e).eL (fun c w' hc q=>(hs.2 c ?_).trans q) (fun _ q=>q) fun _ _ q=>q;rintro rfl;rcases hc with rfl | hc
  ·rw [lb] at e; cases e
  ·rw [lb] at hc; cases hc
 rcases hx with hk | hk
 ·refine wpAny_storeName_local hk hn (fun h' hn' hs=>?_) hcls;obtain ⟨oL,_,_,ed,_⟩:=id hn;refine h _ ⟨I.ok,I.os,I.bare,⟨fun b o e n hb hx=>?_,fun b o e n hb hx=>?_,I.base.free,fun b o e hx=>?_,I.base.fK,I.base.fk,I.base.fO⟩,⟨_,hn',fun j y v' e1 e2 e3=>?_⟩,fun y c e=>?_,I.free,I.ie,fun p hp=>?_,tracked ⟨oL,ed,I.free⟩ hs,by simpa using I.len⟩ ⟨_,hs,.inl rfl⟩
  ·exact (hs.2 b (xL (xz (wf e) I.ok.above))).trans (I.base.keep b o e n hb hx)
  ·obtain ⟨sl,e1⟩:=I.base.slot b o e n hb hx;exact ⟨sl,(hs.2 b (xL (xz (wf e) I.ok.above))).trans e1⟩
  ·obtain ⟨o',e1⟩:=I.base.there b o e hx;exact ⟨o',(hs.2 b (xL (xz (wf e) I.ok.above))).trans e1⟩
  ·by_cases hj:j=i
   ·subst hj;rw [hi] at e1; cases e1;rw [IN Mi] at e2;cases e2;exact ⟨u,r,.inl ⟨hk,by simp⟩⟩
   ·rw [IO (sw hj)] at e2;obtain ⟨u',r',q⟩:=hl j y v' e1 e2 e3;refine ⟨u',r',?_⟩;rcases q with ⟨k,e⟩ | ⟨k,c,e,z⟩
    ·refine .inl ⟨k,?_⟩;have:y≠x:=fun e=>hj (Gs hN e1 (e ▸ hi));simp [this,e]
    ·exact .inr ⟨k,c,e,z.sameBut hs (lV y c e)⟩
  ·obtain ⟨w',z⟩:=I.cell y c e;exact ⟨w',z.sameBut hs (lV y c e)⟩
  ·obtain ⟨e,n,ne,nf,d⟩:=I.pin p hp;exact ⟨(hs.2 p.1 ne).trans e,n,ne,nf,d⟩
 ·have Dl:X.fn x=true:=by
   rcases hf with z | z
   ·exact z
   ·rw [z] at hk; cases hk
  obtain ⟨c,hc⟩:=I.ok.has x (.inl hk);obtain ⟨w',z⟩:=I.cell x c hc;refine wpAny_storeName_cell I.ok.kind hk hc z (fun h' hc' hs=>?_);obtain ⟨oc,LZ,hocd⟩:=id z;refine h { s with heap:=h' } ⟨I.ok,I.os,I.bare,⟨fun b o e n hb hx=>?_,fun b o e n hb hx=>?_,I.base.free,fun b o e hx=>?_,I.base.fK,I.base.fk,I.base.fO⟩,⟨m,hn.sameBut hs (sw (lV x c hc)),fun j y v' e1 e2 e3=>?_⟩,fun y c' e=>?_,I.free,I.ie,fun p hp=>?_,tracked ⟨oc,LZ,I.ie x c hc⟩ hs,by simpa using I.len⟩ ⟨c,hs,.inr hc⟩
  ·exact (hs.2 b (xL (xz (wf e) (I.ok.rj x c Dl hc)))).trans (I.base.keep b o e n hb hx)
  ·obtain ⟨sl,e1⟩:=I.base.slot b o e n hb hx;exact ⟨sl,(hs.2 b (xL (xz (wf e) (I.ok.rj x c Dl hc)))).trans e1⟩
  ·obtain ⟨o',e1⟩:=I.base.there b o e hx;exact ⟨o',(hs.2 b (xL (xz (wf e) (I.ok.rj x c Dl hc)))).trans e1⟩
  ·by_cases hj:j=i
   ·subst hj;rw [hi] at e1; cases e1;rw [IN Mi] at e2;cases e2;exact ⟨u,r,.inr ⟨.inl hk,c,hc,hc'⟩⟩
   ·rw [IO (sw hj)] at e2;obtain ⟨u',r',q⟩:=hl j y v' e1 e2 e3;refine ⟨u',r',?_⟩;rcases q with q | ⟨k,c',e,z'⟩
    ·exact .inl q
    ·refine .inr ⟨k,c',e,z'.sameBut hs ?_⟩;rintro rfl;exact hj (Gs hN e1 (I.ok.inj _ _ _ e hc ▸ hi))
  ·by_cases wL:c'=c
   ·subst wL; exact ⟨_,hc'⟩
   ·obtain ⟨w2,z2⟩:=I.cell y c' e;exact ⟨w2,z2.sameBut hs wL⟩
  ·obtain ⟨e,n,ne,nf,d⟩:=I.pin p hp;refine ⟨(hs.2 p.1 ?_).trans e,n,ne,nf,d⟩;intro q;rw [q,LZ] at e;have q':oc=p.2:=FM e;exact d w' (by rw [<- q']; exact hocd)
def Hn {M:Model} {A:Around} {E:Value->Shared->Prop} {i:Nat} {x:Str} {v:V} {u:Value} {Q:Unit->Shared->Prop} (I:Inv X pins σ H s) (hN:X.N.Nodup) (hi:X.N[i]?=some x) (hx:Loc X.env.scope x) (r:RelV v u)
  (h:∀ s',Inv X pins (σ.set i (some v)) H s'->Q () s') (hf:X.fn x=true\/X.env.scope.names.lookup x=some .local:=by first | exact .inl rfl | exact .inr rfl | assumption):wpAny M A (storeName X.env x u) Q E s :=
 DY I hN hi hx r (fun s' I' _=>h s' I') hf
def Inv.HX {s':Shared} {ch:List Addr} (I:Inv X pins σ H s) (ho:s'.os=s.os) (u:Un (bM X.stack) ch H H' s.heap s'.heap) (aB:bY X.prog X.w H' s'.heap) (hg:AllBare s'.gens)
  (js:∀ b∈ch,(b∈X.ex\/X.s₀.heap.objs.size<=b)/\b≠X.env.locals/\(∀ x c,X.env.cells.lookup x=some c->c≠b)/\∀ p∈X.pn++pins,p.1≠b):Inv X pins σ H' s':=by
 obtain ⟨h',g',d',t',o'⟩:=s';have e:o'=s.os:=ho;subst e;exact I.call (g':=g') (t':=t') (d':=d') u aB hg js
end
abbrev XK:=Value->Option Addr->Hp->Prop
abbrev St:=List (Option V)
abbrev VK:=V->Hp->Prop
abbrev TE:=St->Hp->VK->Prop
abbrev TT:=St->Hp->(Bool->Hp->Prop)->Prop
abbrev TA:=St->Hp->(List V->Hp->Prop)->Prop
structure Ends where
 nx:St->Hp->Prop
 rt:VK
 bk:St->Hp->Prop:=fun _ _=>False
 ct:St->Hp->Prop:=fun _ _=>False
abbrev TS:=Ends->St->Hp->Prop
def EP (X:Cx) (pins:List (Addr×Obj)) (σ:St) (Q:VK) (u:Value) (s':Shared):Prop:=∃ v H',Inv X pins σ H' s'/\RelV v u/\Q v H'
def TP (X:Cx) (pins:List (Addr×Obj)) (σ:St) (Q:Bool->Hp->Prop) (b:Bool) (s':Shared):Prop:=∃ H',Inv X pins σ H' s'/\Q b H'
def AP (X:Cx) (pins:List (Addr×Obj)) (σ:St) (Q:List V->Hp->Prop) (us:List Value) (s':Shared):Prop:=∃ vs H',Inv X pins σ H' s'/\Vals vs us/\Q vs H'
def SP (X:Cx) (pins:List (Addr×Obj)) (D:Ends) (f:Flow) (s':Shared):Prop :=
 match f with
 | .next=>∃ σ' H',Inv X pins σ' H' s'/\D.nx σ' H'
 | .brk=>∃ σ' H',Inv X pins σ' H' s'/\D.bk σ' H'
 | .cont=>∃ σ' H',Inv X pins σ' H' s'/\D.ct σ' H'
 | .ret u=>∃ v σ' H',Inv X pins σ' H' s'/\RelV v u/\D.rt v H'
def PE (X:Cx) (e:Expr) (t:TE):Prop :=
 ∀ (pins:List (Addr×Obj)) (s:Shared) (σ:St) (H:Hp) (Q:VK),Inv X pins σ H s->t σ H Q->wpAny (model X.prog X.w) X.A (eval e X.env) (EP X pins σ Q) X.xe s
def PT (X:Cx) (e:Expr) (t:TT):Prop :=
 ∀ (pins:List (Addr×Obj)) (s:Shared) (σ:St) (H:Hp) (Q:Bool->Hp->Prop),Inv X pins σ H s->t σ H Q->wpAny (model X.prog X.w) X.A (isTrue e X.env (eval e X.env)) (TP X pins σ Q) X.xe s
def PW (X:Cx) (e:Expr) (t:TT):Prop :=
 ∀ (whole:Sem Value) (pins:List (Addr×Obj)) (s:Shared) (σ:St) (H:Hp) (Q:Bool->Hp->Prop),Inv X pins σ H s->t σ H Q->wpAny (model X.prog X.w) X.A (isTrue e X.env whole) (TP X pins σ Q) X.xe s
def PW.pt {X:Cx} {e:Expr} {t:TT} (h:PW X e t):PT X e t:=h _
def PA (X:Cx) (es:List Expr) (t:TA):Prop :=
 ∀ (pos:Pos) (pins:List (Addr×Obj)) (s:Shared) (σ:St) (H:Hp) (Q:List V->Hp->Prop),Inv X pins σ H s->t σ H Q->wpAny (model X.prog X.w) X.A (spliced (backTo pos (starEach es X.env))) (AP X pins σ Q) X.xe s
def PS (X:Cx) (st:Stmt) (t:TS):Prop :=
 ∀ (pins:List (Addr×Obj)) (s:Shared) (σ:St) (H:Hp) (D:Ends),Inv X pins σ H s->t D σ H->wpAny (model X.prog X.w) X.A (exec st X.env) (SP X pins D) X.xe s
def dQ (X:Cx) (st:List Stmt) (t:TS):Prop :=
 ∀ (pins:List (Addr×Obj)) (s:Shared) (σ:St) (H:Hp) (D:Ends),Inv X pins σ H s->t D σ H->wpAny (model X.prog X.w) X.A (execs st X.env) (SP X pins D) X.xe s
def aF {α:Type} {t:Sem α} {Q Q':α->Shared->Prop} {M:Model} {A:Around} {E:Value->Shared->Prop} {s:Shared} (h:wpAny M A t Q E s) (hQ:∀ a s,Q a s->Q' a s):wpAny M A t Q' E s:=Re h hQ fun _ _ x=>x
section
variable {X:Cx}
def IV (i:Nat):TE:=fun σ H Q=>∃ v,σ[i]?=some (some v)/\Q v H
def tC (v:V):TE:=fun _ H Q=>Q v H
def HJ {i:Nat} {x:Str} {pos:Pos} (hN:X.N[i]?=some x) (hv:qy X.env.scope x) (hd:(x == ("__debug__" : Str))=false:=by decide) (cT:(x == ("__classdict__" : Str))=false:=by decide):PE X (.Name x pos) (IV i):=by
 intro pins s σ H Q I h;obtain ⟨v,e,h⟩:=h;obtain ⟨m,hn,hl⟩:=I.loc;obtain ⟨u,r,l⟩:=hl i x v hN e hv;have fin:EP X pins σ Q u s:=⟨v,H,I,r,h⟩;rcases l with ⟨hk,hm⟩ | ⟨hk,c,hc,K5⟩
 ·exact wpAny_Name (wpAny_loadName_local I.ok.kind hk hn hm fin) hd
 ·rcases hk with hk | hk
  ·exact wpAny_Name (wpAny_loadName_cell I.ok.kind hk hc K5 fin) hd
  ·exact wpAny_Name (wpAny_loadName_free I.ok.kind hk hc K5 fin cT) hd
def P2 {i j pos}:PE X (.Constant (.int i) j pos) (tC (.int i)):=fun _ _ _ H _ I h=>wpAny_Constant_int ⟨.int i,H,I.tok _,⟨_,rfl⟩,h⟩
def OK {b j pos}:PE X (.Constant (.bool b) j pos) (tC (.bl b)):=fun _ _ _ H _ I h=>Constant_bool ⟨.bl b,H,I,rfl,h⟩
def P6 {j pos}:PE X (.Constant .none j pos) (tC .aq):=fun _ _ _ H _ I h=>Constant_none ⟨.aq,H,I,rfl,h⟩
def OD {x j pos}:PE X (.Constant (.str x) j pos) (tC (.str x)):=fun _ _ _ H _ I h=>Calls.Constant_str ⟨.str x,H,I.tok _,⟨_,rfl⟩,h⟩
def Gl (X:Cx) (x:Str):Prop:=X.env.kindOf x=some .globalImplicit
def kJ {E:Value->Shared->Prop} {pins:List (Addr×Obj)} {s:Shared} {σ:St} {H:Hp} {x:Str} {u:Value} {pos:Pos} {Q:Value->Shared->Prop} (I:Inv X pins σ H s) (hg:Gl X x) (hm:X.mg x=some u) (h:Q u s)
  (hd:(x == ("__debug__" : Str))=false:=by decide):wpAny (model X.prog X.w) X.A (eval (.Name x pos) X.env) Q E s :=
 Calls.Name_function_global I.ok.kind hg (Calls.loadGlobal_global (by rw [I.ok.glob]; exact I.mod.glob.keeps I.bk) hm h) hd
def my {E:Value->Shared->Prop} {pins:List (Addr×Obj)} {s:Shared} {σ:St} {H:Hp} {x:Str} {u:Value} {pos:Pos} {Q:Value->Shared->Prop} (I:Inv X pins σ H s) (hg:Gl X x) (hm:X.mg x=none) (hv:bootBuiltins x=some u) (h:Q u s)
  (hn:x ≠ "__name__" := by decide) (hd:(x == ("__debug__" : Str))=false:=by decide):wpAny (model X.prog X.w) X.A (eval (.Name x pos) X.env) Q E s:=by
 obtain ⟨mb,h1,h2⟩:=I.mod.blt;exact Calls.Name_function_global I.ok.kind hg (Calls.loadGlobal_builtin (by rw [I.ok.glob]; exact I.mod.glob.keeps I.bk) hm (by rw [I.ok.blt]; exact h1.keeps I.bk) ((h2 x hn).trans hv) h) hd
def RB {x:Str} {v:V} {u:Value} {pos:Pos} (hg:Gl X x) (hm:X.mg x=some u) (r:RelV v u) (hd:(x == ("__debug__" : Str))=false:=by decide):PE X (.Name x pos) (tC v) :=
 fun _ _ _ H _ I h=>kJ I hg hm ⟨v,H,I,r,h⟩ hd
def Ut {x:Str} {v:V} {u:Value} {pos:Pos} (hg:Gl X x) (hm:X.mg x=none) (hv:bootBuiltins x=some u) (r:RelV v u) (hn:x ≠ "__name__" := by decide) (hd:(x == ("__debug__" : Str))=false:=by decide):PE X (.Name x pos) (tC v) :=
 fun _ _ _ H _ I h=>my I hg hm hv ⟨v,H,I,r,h⟩ hn hd
def NG (ta tb:TE) (k:Int->Int->Hp->Prop):St->Hp->Prop:=fun σ H=>ta σ H fun x H1=>tb σ H1 fun y H2=>∃ i j,x=.int i/\y=.int j/\k i j H2
variable {a b:Expr} {ta tb:TE} {pos:Pos}
def PC (X:Cx) (op:CmpOp) (a b:Expr) (t:TE):Prop :=
 ∀ (pins:List (Addr×Obj)) (s:Shared) (σ:St) (H:Hp) (Q:VK),Inv X pins σ H s->t σ H Q ->
  wpAny (model X.prog X.w) X.A (eval a X.env) (fun v s₁=>wpAny (model X.prog X.w) X.A (eval b X.env) (fun u s₂=>wpAny (model X.prog X.w) X.A (compareOp op v u) (EP X pins σ Q) X.xe s₂) X.xe s₁) X.xe s
def uv (b:Expr) {op:CmpOp} (h:op≠.In) (h2:op≠.NotIn):behindInMarks op b=false:=by
 have e1:(op == CmpOp.In)=false:=by cases op <;> first | rfl | exact absurd rfl h
 have e2:(op == CmpOp.NotIn)=false:=by cases op <;> first | rfl | exact absurd rfl h2
 cases b <;> simp [behindInMarks,e1,e2]
def oT (p:Int->Int->Bool) (ta tb:TE):TE:=fun σ H Q=>NG ta tb (fun i j H2=>Q (.bl (p i j)) H2) σ H
abbrev YS:TE->TE->TE:=oT fun i j=>decide (i < j)
abbrev Zh:TE->TE->TE:=oT fun i j=>decide (i<=j)
abbrev Zi:TE->TE->TE:=oT fun i j=>decide (j < i)
abbrev Y0:TE->TE->TE:=oT fun i j=>decide (j<=i)
abbrev YQ:TE->TE->TE:=oT fun i j=>decide (i=j)
abbrev Y8:TE->TE->TE:=oT fun i j=>!decide (i=j)
def RO (ta:TE):TE:=fun σ H Q=>ta σ H fun x H1=>Q (.bl (decide (x=.aq))) H1
def tB (t:TE):TT:=fun σ H Q=>t σ H fun x H1=>∃ c,x=.bl c/\Q c H1
variable {tA tB':TT} {rest:List Expr}
def xx (t u:TT):TT:=fun σ H Q=>t σ H fun c H1=>if c=true then u σ H1 Q else Q false H1
def yH (t u:TT):TT:=fun σ H Q=>t σ H fun c H1=>if c=true then Q true H1 else u σ H1 Q
def B8 (t:TT):TT:=fun σ H Q=>t σ H fun c H1=>Q (!c) H1
def Vg (ha:PT X a tA):PW X (.BoolOp .And [a] pos) tA:=by
 intro wh pins s σ H Q I h;refine isTrue_and (aF (ha pins s σ H Q I h) fun c s1 e=>?_);cases c with
 | true=>exact isTrue_and_nil e
 | false=>exact e
def Wr (ha:PT X a tA):PW X (.BoolOp .Or [a] pos) tA:=by
 intro wh pins s σ H Q I h;refine isTrue_or (aF (ha pins s σ H Q I h) fun c s1 e=>?_);cases c with
 | false=>exact isTrue_or_nil e
 | true=>exact e
def Yx (ha:PT X a tA) (hb:PW X (.BoolOp .And (b::rest) pos) tB'):PW X (.BoolOp .And (a::b::rest) pos) (xx tA tB'):=by
 intro wh pins s σ H Q I h;refine isTrue_and (aF (ha pins s σ H _ I h) fun c s1 ⟨H1,I1,q1⟩=>?_);cases c with
 | true=>exact hb wh pins s1 σ H1 Q I1 q1
 | false=>exact ⟨H1,I1,q1⟩
def Rb (ha:PT X a tA) (hb:PW X (.BoolOp .Or (b::rest) pos) tB'):PW X (.BoolOp .Or (a::b::rest) pos) (yH tA tB'):=by
 intro wh pins s σ H Q I h;refine isTrue_or (aF (ha pins s σ H _ I h) fun c s1 ⟨H1,I1,q1⟩=>?_);cases c with
 | true=>exact ⟨H1,I1,q1⟩
 | false=>exact hb wh pins s1 σ H1 Q I1 q1
def Vo (ha:PT X a tA):PT X (.UnaryOp .Not a pos) (B8 tA):=by
 intro pins s σ H Q I h;exact isTrue_not (ha pins s σ H (fun c H1=>Q (!c) H1) I h)
def Qp {op} {t:TE} (h:PE X a t):PE X (.BoolOp op [a] pos) t:=fun pins s σ H Q I hw=>BoolOp_one (h pins s σ H Q I hw)
def zh (t:TT) (ta tb:TE):TE:=fun σ H Q=>t σ H fun c H1=>if c=true then ta σ H1 Q else tb σ H1 Q
def Qq {c:Expr} (hc:PT X c tA) (ha:PE X a ta) (hb:PE X b tb):PE X (.IfExp c a b pos) (zh tA ta tb):=by
 intro pins s σ H Q I h;refine wpAny_IfExp (aF (hc pins s σ H _ I h) fun d s1 ⟨H1,I1,q1⟩=>?_);cases d with
 | true=>exact ha pins s1 σ H1 Q I1 q1
 | false=>exact hb pins s1 σ H1 Q I1 q1
end
def aE (K:PySem.W.Frag) (H:Hp) (a:Addr) (xs:List V):Prop :=
 Rd H a (.lst xs) \/
  ∃ (o:Obj) (aj:Array Value) (n:Nat),K.lookup a=some o/\o.cls=.type "list" /\ o.dict=none/\o.data=.seq aj n/\aj.size<=sizeLine/\Vals xs aj.toList
def bI (K:PySem.W.Frag) (H:Hp) (a:Addr) (xs:List V):Prop :=
 Rd H a (.tup xs) \/
  ∃ (o:Obj) (aj:Array Value) (n:Nat),K.lookup a=some o/\o.cls=.type "tuple" /\ o.data=.seq aj n/\aj.size<=sizeLine/\Vals xs aj.toList
def Ow:Value->Option V
 | .none=>some .aq
 | .bool b=>some (.bl b)
 | .int i _=>some (.int i)
 | .str x _=>some (.str x)
 | .bytes b _=>some (.byt b)
 | .float b _=>some (.l9 b)
 | .ref a=>some (.ref a)
 | .type n=>some (.ty n)
 | _=>none
def RelV.abs {x:V} {u:Value} (r:RelV x u):Ow u=some x:=by
 cases x with
 | aq=>cases r; rfl
 | bl _=>cases r; rfl
 | int _=>obtain ⟨t,rfl⟩:=r; rfl
 | str _=>obtain ⟨t,rfl⟩:=r; rfl
 | byt _=>obtain ⟨t,rfl⟩:=r; rfl
 | l9 _=>obtain ⟨t,rfl⟩:=r; rfl
 | ref _=>cases r; rfl
 | ty _=>cases r; rfl
def RelV.inj {x y:V} {u:Value} (r:RelV x u) (q:RelV y u):x=y:=FM (r.abs.symm.trans q.abs)
def Vals.inj:∀ {xs ys:List V} {us:List Value},Vals xs us->Vals ys us->xs=ys
 | _,_,_,.nil,.nil=>rfl
 | _,_,_,.cons r t,.cons r' t'=>by rw [r.inj r',Vals.inj t t']
section
variable {X:Cx} {pins:List (Addr×Obj)} {σ:St} {H:Hp} {s:Shared} {a:Addr} {xs ys:List V}
def aE.of {K:PySem.W.Frag} (h:H a=some (.lst xs)):aE K H a xs:=.inl (.inl h)
def bI.of {K:PySem.W.Frag} (h:H a=some (.tup xs)):bI K H a xs:=.inl (.inl h)
def Inv.list (I:Inv X pins σ H s) (h:aE X.K H a xs):∃ aj:List Value,Vals xs aj/\PlainL s.heap a aj.toArray/\xs.length<=sizeLine:=by
 rcases h with h | ⟨o,aj,n,hk,hc,hd,hs,hz,r⟩
 ·obtain ⟨z,aj,n,r,e⟩:=h.ok I.aB;exact ⟨aj,r,⟨_,n,e,rfl,rfl,rfl⟩,z⟩
 ·refine ⟨aj.toList,r,⟨o,n,I.bW a o hk,hc,hd,by simpa using hs⟩,?_⟩;have e:=r.length;simp only [Pi] at e;omega
def Inv.tuple (I:Inv X pins σ H s) (h:bI X.K H a xs):∃ aj:List Value,Vals xs aj/\IsTup s.heap a aj.toArray/\xs.length<=sizeLine:=by
 rcases h with h | ⟨o,aj,n,hk,hc,hs,hz,r⟩
 ·obtain ⟨z,aj,r,p⟩:=h.ok I.aB;exact ⟨aj,r,p.t,z⟩
 ·refine ⟨aj.toList,r,⟨o,I.bW a o hk,hc,n,by simpa using hs⟩,?_⟩;have e:=r.length;simp only [Pi] at e;omega
def Inv.XD (I:Inv X pins σ H s) (h:aE X.K H a xs) (h':aE X.K H a ys):xs=ys:=by
 obtain ⟨aj,r,⟨o,n,e,_,_,d⟩,_⟩:=I.list h;obtain ⟨its',r',⟨o',n',e',_,_,d'⟩,_⟩:=I.list h';rw [e] at e'; cases e';rw [d] at d';injection d' with d1 _;have:aj=its':=by simpa using Tm Array.toList d1
 subst this;exact r.inj r'
end
abbrev Cx.gJ (X:Cx) (E:Value->Shared->Prop):Cx:={ X with xe:=E }
abbrev Cx.uK (X:Cx):Cx:=X.gJ fun _ _=>False
def Cx.Ok.gJ {X:Cx} (ok:X.Ok) (E:Value->Shared->Prop):(X.gJ E).Ok :=
 ⟨ok.mod,ok.kind,ok.glob,ok.blt,ok.above,ok.inj,ok.has,ok.rj,ok.hd,ok.frames,ok.eE,ok.Ei,ok.bs,ok.jI,ok.sr,ok.sy,ok.gL,ok.lE⟩
def Cx.Ok.kG {X:Cx} {E:Value->Shared->Prop} (ok:(X.gJ E).Ok):X.Ok :=
 ⟨ok.mod,ok.kind,ok.glob,ok.blt,ok.above,ok.inj,ok.has,ok.rj,ok.hd,ok.frames,ok.eE,ok.Ei,ok.bs,ok.jI,ok.sr,ok.sy,ok.gL,ok.lE⟩
section
variable {X:Cx} {pins:List (Addr×Obj)} {σ:St} {H:Hp} {s:Shared} {E:Value->Shared->Prop}
def Inv.gJ (I:Inv X pins σ H s) (E:Value->Shared->Prop):Inv (X.gJ E) pins σ H s:=⟨I.ok.gJ E,I.os,I.bare,I.base,I.loc,I.cell,I.free,I.ie,I.pin,I.aB,I.len⟩
def Inv.kG (I:Inv (X.gJ E) pins σ H s):Inv X pins σ H s:=⟨I.ok.kG,I.os,I.bare,I.base,I.loc,I.cell,I.free,I.ie,I.pin,I.aB,I.len⟩
def SP.kG {D:Ends} {f:Flow} {s':Shared} (h:SP (X.gJ E) pins D f s'):SP X pins D f s':=by
 cases f with
 | next=>obtain ⟨σ',H',I,q⟩:=h; exact ⟨σ',H',I.kG,q⟩
 | brk=>obtain ⟨σ',H',I,q⟩:=h; exact ⟨σ',H',I.kG,q⟩
 | cont=>obtain ⟨σ',H',I,q⟩:=h; exact ⟨σ',H',I.kG,q⟩
 | ret u=>obtain ⟨v,σ',H',I,r,q⟩:=h; exact ⟨v,σ',H',I.kG,r,q⟩
def dQ.uK {st:List Stmt} {t:TS} (h:dQ X.uK st t):dQ X st t:=fun pins s σ H D I hw =>
 Re (h pins s σ H D (I.gJ _) hw) (fun _ _ q=>q.kG) fun _ _ z=>False.elim z
end
section
variable {X:Cx} {st:Stmt} {rest:List Stmt} {t u:TS} {e:Expr} {te:TE} {pos:Pos}
def BJ:TS:=fun D σ H=>D.nx σ H
def Xa (t u:TS):TS:=fun D σ H=>t { D with nx:=u D } σ H
def V0:dQ X [] BJ:=fun _ _ σ H _ I h=>_s ⟨σ,H,I,h⟩
def VP (h1:PS X st t) (h2:dQ X rest u):dQ X (st::rest) (Xa t u):=by
 intro pins s σ H D I h;refine wpAny_execs_cons (aF (h1 pins s σ H { D with nx:=u D } I h) fun f s1 q=>?_);cases f with
 | next =>
  obtain ⟨σ',H',I',q⟩:=q;exact h2 pins s1 σ' H' D I' q
 | ret v=>exact q
 | brk=>exact q
 | cont=>exact q
def Ny (h1:PS X st t):dQ X [st] t:=by
 intro pins s σ H D I h;refine wpAny_execs_cons (aF (h1 pins s σ H D I h) fun f s1 q=>?_);cases f with
 | next=>exact _s q
 | ret v=>exact q
 | brk=>exact q
 | cont=>exact q
def Inv.quiet {pins:List (Addr×Obj)} {σ:St} {H:Hp} {s:Shared} (I:Inv X pins σ H s):interactive X.env=false:=by simp [interactive,I.ok.kind]
def By (te:TE):TS:=fun D σ H=>te σ H fun _ H1=>D.nx σ H1
def SH (he:PE X e te) (hs:swapsWith e none pos.line X.env=pure false:=by rfl):PS X (.Expr e pos) (By te):=by
 intro pins s σ H D I h;exact wpAny_Expr_any (aF (he pins s σ H _ I h) fun v s1 ⟨x,H1,I1,r1,q1⟩=>⟨σ,H1,I1,q1⟩) I.quiet hs
def xQ (te:TE):TS:=fun D σ H=>te σ H D.rt
def Mr (he:PE X e te):PS X (.Return (some e) pos) (xQ te):=by
 intro pins s σ H D I h;exact wpAny_Return_some (aF (he pins s σ H _ I h) fun v s1 ⟨x,H1,I1,r1,q1⟩=>⟨x,σ,H1,I1,r1,q1⟩)
def xV:TS:=fun D _ H=>D.rt .aq H
def RL:PS X (.Return none pos) xV:=fun _ _ σ H _ I h=>wpAny_Return_none ⟨.aq,σ,H,I,rfl,h⟩
def zI (c:TT) (t u:TS):TS:=fun D σ H=>c σ H fun b H1=>if b=true then t D σ H1 else u D σ H1
def OS {c:Expr} {a b:List Stmt} {tc:TT} (hc:PT X c tc) (ha:dQ X a t) (hb:dQ X b u):PS X (.If c a b pos) (zI tc t u):=by
 intro pins s σ H D I h;refine wpAny_If (aF (hc pins s σ H _ I h) fun d s1 ⟨H1,I1,q1⟩=>?_);cases d with
 | true=>exact ha pins s1 σ H1 D I1 q1
 | false=>exact hb pins s1 σ H1 D I1 q1
def yj:TS:=fun _ _ _=>False
def OO:PS X st yj:=fun _ _ _ _ _ _ h=>h.elim
end
abbrev TG:=V->St->Hp->(St->Hp->Prop)->Prop
abbrev gf:=List V->St->Hp->(St->Hp->Prop)->Prop
def PG (X:Cx) (target:Expr) (t:TG):Prop :=
 ∀ (pins:List (Addr×Obj)) (s:Shared) (σ:St) (H:Hp) (v:V) (u:Value) (Q:St->Hp->Prop),Inv X pins σ H s->RelV v u->t v σ H Q ->
  wpAny (model X.prog X.w) X.A (assign target X.env u) (fun _ s'=>∃ σ' H',Inv X pins σ' H' s'/\Q σ' H') X.xe s
def nQ (X:Cx) (ts:List Expr) (t:gf):Prop :=
 ∀ (pins:List (Addr×Obj)) (s:Shared) (σ:St) (H:Hp) (vs:List V) (us:List Value) (Q:St->Hp->Prop),Inv X pins σ H s->Vals vs us->t vs σ H Q ->
  wpAny (model X.prog X.w) X.A (assignInOrder ((assignEach ts X.env).map (·.2)) us) (fun _ s'=>∃ σ' H',Inv X pins σ' H' s'/\Q σ' H') X.xe s
abbrev pR:=V->V->V->Hp->(Hp->Prop)->Prop
def vG (X:Cx) (t:pR):Prop :=
 ∀ (pins:List (Addr×Obj)) (s:Shared) (σ:St) (H:Hp) (o i v:V) (ov iv u:Value) (Q:Hp->Prop),Inv X pins σ H s->RelV o ov->RelV i iv->RelV v u->t o i v H Q ->
  wpAny (model X.prog X.w) X.A (setItem ov iv u) (fun _ s'=>∃ H',Inv X pins σ H' s'/\Q H') X.xe s
abbrev YU:=V->V->Hp->VK->Prop
section
variable {X:Cx} {pos:Pos}
def fm (i:Nat):TG:=fun v σ H Q=>Q (σ.set i (some v)) H
def VT {i:Nat} {x:Str} (hN:X.N.Nodup) (hi:X.N[i]?=some x) (hx:Loc X.env.scope x) (hf:X.fn x=true\/X.env.scope.names.lookup x=some .local:=by first | exact .inl rfl | exact .inr rfl | assumption):PG X (.Name x pos) (fm i):=by
 intro pins s σ H v u Q I r h;exact wpAny_assign_Name (Hn I hN hi hx r (fun s' I'=>⟨_,H,I',h⟩) hf)
def yy:gf:=fun vs σ H Q=>vs=[]/\Q σ H
def yl (t:TG) (u:gf):gf:=fun vs σ H Q=>∃ v r,vs=v::r/\t v σ H fun σ' H'=>u r σ' H' Q
def Rt:nQ X [] yy:=by
 intro pins s σ H vs us Q I r h;obtain ⟨e,h⟩:=h;subst e;cases r;exact assignInOrder_nil ⟨σ,H,I,h⟩
def V9 {e:Expr} {es:List Expr} {t:TG} {u:gf} (h1:PG X e t) (h2:nQ X es u)
  (hs:(assignEach (e::es) X.env).map (·.2)=assign e X.env::(assignEach es X.env).map (·.2):=by rfl):nQ X (e::es) (yl t u):=by
 intro pins s σ H vs us Q I r h;obtain ⟨v,vr,e1,h⟩:=h;subst e1;cases r with
 | cons r rr =>
  rw [hs];refine assignInOrder_cons (aF (h1 pins s σ H _ _ _ I r h) fun _ s1 ⟨σ1,H1,I1,q1⟩=>?_);exact h2 pins s1 σ1 H1 _ _ Q I1 rr q1
def zN (K:PySem.W.Frag) (n:Nat) (t:gf):TG:=fun v σ H Q=>∃ a xs,v=.ref a/\bI K H a xs/\xs.length=n/\t xs σ H Q
def Q5 {es:List Expr} {k:Nat} {t:gf} {n:Nat} (hc:X.calm=true) (h:nQ X es t)
  (hn:(assignEach es X.env).length=n:=by rfl) (aO:(assignEach es X.env).findIdx? (·.1)=none:=by rfl):PG X (.Tuple es k pos) (zN X.K n t):=by
 intro pins s σ H v u Q I r hw;obtain ⟨a,xs,e1,hq,hl,hw⟩:=hw;subst e1;cases r;obtain ⟨aj,rv,ht,hz⟩:=I.tuple hq;refine assign_Tuple_tuple (I.ok.hd hc) ht (by simp [hn,<- hl,rv.length]) aO fun h' hx=>?_;have I1:Inv X pins σ H { s with heap:=h' }:=I.kept (t':=s.toks) fun b o e=>hx b o (xL (wf e)) e;exact h pins _ σ H xs _ Q I1 (by simpa using rv) hw
def AQ (to ti:TE) (t:pR):TG:=fun v σ H Q=>to σ H fun o H1=>ti σ H1 fun i H2=>t o i v H2 fun H3=>Q σ H3
def Mo {o i:Expr} {to ti:TE} {t:pR} (ho:PE X o to) (hi:PE X i ti) (hs:vG X t)
  (ha:∀ v,assign (.Subscript o i pos) X.env v=(do
   let ov <- holding [v] (eval o X.env)
   let iv <- holding [v,ov] (eval i X.env)
   standAt pos
   holding [v,ov,iv] (setItem ov iv v)
   release [v,ov,iv] []):=by intro _; rfl):PG X (.Subscript o i pos) (AQ to ti t):=by
 intro pins s σ H v u Q I r h;rw [ha];refine kt (Id (aF (ho pins s σ H _ I h) fun ov s1 ⟨x,H1,I1,r1,q1⟩=>?_));refine kt (Id (aF (hi pins s1 σ H1 _ I1 q1) fun iv s2 ⟨y,H2,I2,r2,q2⟩=>?_));refine kt (ZN (kt (Id (aF (hs pins s2 σ H2 x y v ov iv u _ I2 r1 r2 r q2) fun _ s3 ⟨H3,I3,q3⟩=>?_))));exact wpAny_release ⟨σ,H3,I3,q3⟩
def kf (te:TE) (g:TG):TS:=fun D σ H=>te σ H fun x H1=>g x σ H1 D.nx
def VB {tg e:Expr} {te:TE} {g:TG} (he:PE X e te) (hg:PG X tg g) (hs:swapsWithSole [tg] e pos.line X.env=pure false:=by rfl) (hw:swappedStores [tg] e X.env=pure none:=by rfl)
  (h1:(assignEach [tg] X.env).map (·.2)=[assign tg X.env]:=by rfl):PS X (.Assign [tg] e pos) (kf te g):=by
 intro pins s σ H D I h;refine wpAny_Assign_stores (aF (he pins s σ H _ I h) fun v s1 ⟨x,H1,I1,r1,q1⟩=>?_) hs hw;rw [h1];exact aF (hg pins s1 σ H1 x v _ I1 r1 q1) fun _ s2 q=>q
def VH {i:Nat} {x:Str} {e:Expr} {te:TE} {pos':Pos} (hN:X.N.Nodup) (hi:X.N[i]?=some x) (hx:Loc X.env.scope x) (he:PE X e te) (hs:swapsWith e (some (.Name x pos')) pos.line X.env=pure false:=by rfl) (hf:X.fn x=true\/X.env.scope.names.lookup x=some .local:=by first | exact .inl rfl | exact .inr rfl | assumption) :
  PS X (.Assign [.Name x pos'] e pos) (kf te (fm i)):=by
 intro pins s σ H D I h;refine wpAny_Assign_Name (aF (he pins s σ H _ I h) fun v s1 ⟨y,H1,I1,r1,q1⟩=>?_) hs;exact Hn I1 hN hi hx r1 (fun s2 I2=>⟨_,H1,I2,q1⟩) hf
end
section
variable {X:Cx} {pos:Pos}
def G6 (c:TT) (tb:TS):TS:=fun D σ H=>∃ W:Nat->St->Hp->Prop,(∃ m,W m σ H)/\∀ m σ H,W m σ H ->
 c σ H fun b H1=>if b=true then ∃ N:St->Hp->Prop,(∀ σ' H',N σ' H'->∃ m',m' < m/\W m' σ' H')/\tb { D with nx:=N,ct:=N,bk:=D.nx } σ H1 else D.nx σ H1
def TJ {c:Expr} {body:List Stmt} {tc:TT} {tb:TS} (hp:PassesOwn (model X.prog X.w) X.A X.env X.xe) (hc:PT X c tc) (hb:dQ X body tb):PS X (.While c body [] pos) (G6 tc tb):=by
 intro pins s σ H D I h;obtain ⟨W,⟨m0,w0⟩,turn⟩:=h;refine wpAny_While (codeAny_whileLoop (fun n s'=>∃ σ' H',Inv X pins σ' H' s'/\W n σ' H') ?_ m0 ⟨σ,H,I,w0⟩);rintro n s1 ⟨σ1,H1,I1,w1⟩;refine Zs hp (aF (hc pins s1 σ1 H1 _ I1 (turn n σ1 H1 w1)) fun b s2 ⟨H2,I2,q2⟩=>?_);cases b with
 | true =>
  obtain ⟨N,hN,q2⟩:=q2;rw [Db rfl];refine Zs hp (aF (hb pins s2 σ1 H2 _ I2 q2) fun f s3 q3=>?_);cases f with
  | next =>
   obtain ⟨σ3,H3,I3,n3⟩:=q3;obtain ⟨m',hm,w3⟩:=hN σ3 H3 n3;exact ⟨m',hm,σ3,H3,I3,w3⟩
  | cont =>
   obtain ⟨σ3,H3,I3,n3⟩:=q3;obtain ⟨m',hm,w3⟩:=hN σ3 H3 n3;exact ⟨m',hm,σ3,H3,I3,w3⟩
  | brk=>exact q3
  | ret v=>exact q3
 | false =>
  rw [Ch wT];exact _s ⟨σ1,H2,I2,q2⟩
end
structure It where
 go:Nat->Hp->Prop
 jz:Nat->Hp->V->Hp->Prop
 stop:Nat->Hp->Prop
def jQ (X:Cx) (pins:List (Addr×Obj)) (H:Hp) (b:Addr):Prop :=
 H b=none/\b≠X.env.locals/\b ∉ X.fs/\(b∈X.ex\/X.s₀.heap.objs.size<=b)/\(∀ x c,X.env.cells.lookup x=some c->c≠b)/\∀ p∈X.pn++pins,p.1≠b
def Inv.rA {X:Cx} {pins:List (Addr×Obj)} {σ:St} {H H':Hp} {s:Shared} {b:Addr} (I:Inv X pins σ H s) (hb:s.heap.objs.size<=b) (hn:H' b=none):jQ X pins H' b:=by
 refine ⟨hn,_d (xz I.lt hb),I.JU hb,.inr (wE I.sz hb),fun x c e z=>?_,fun p hp z=>?_⟩
 ·obtain ⟨v,q⟩:=I.cell x c e;exact absurd (xz q.lt (by rw [z]; exact hb)) (No _)
 ·exact absurd (xz (wf (I.pin p hp).1) (by rw [z]; exact hb)) (No _)
structure Turn (P:Program) (w:World) (K:PySem.W.Frag) (tg:Expr) (J:It) (fp:List Addr) (it:Addr) (tn:Nat->Heap->Prop):Prop where
 mem:it∈fp
 obj:∀ i h,tn i h->∀ b∈fp,∃ o,h.get? b=some o/\∀ v,o.data≠.cell v
 keep:∀ i h h',tn i h->(∀ b∈fp,∀ o,h.get? b=some o->h'.get? b=some o)->tn i h'
 item:∀ (X:Cx),X.prog=P->X.w=w->X.K=K->X.calm=true->∀ (i:Nat) (pins:List (Addr×Obj)) (s:Shared) (σ:St) (H:Hp) (E:Value->Shared->Prop),Inv X pins σ H s->(∀ b∈fp,jQ X pins H b)->tn i s.heap->J.go i H ->
  wpAny (model P w) X.A (pyNext (.ref it)) (fun r s1=>∃ u,r=some u /\
   wpAny (model P w) X.A (letOwnedTupleGo tg (.ref it) u) (fun _ s2=>∃ x H',Inv X pins σ H' s2/\RelV x u/\J.jz i H x H'/\tn (i+1) s2.heap/\∀ b∈fp,H' b=none) E s1) E s
 done:∀ (X:Cx),X.prog=P->X.w=w->X.K=K->X.calm=true->∀ (i:Nat) (pins:List (Addr×Obj)) (s:Shared) (σ:St) (H:Hp) (E:Value->Shared->Prop),Inv X pins σ H s->(∀ b∈fp,jQ X pins H b)->tn i s.heap->J.stop i H ->
  wpAny (model P w) X.A (pyNext (.ref it)) (fun r s1=>r=none/\Inv X pins σ H s1) E s
 self:∀ (A:Around) (i:Nat) (s:Shared) (Q:Value->Shared->Prop) (E:Value->Shared->Prop),tn i s.heap->Q (.ref it) s->wpAny (model P w) A (pyIter (.ref it)) Q E s
abbrev TI:=St->Hp->(It->Hp->Prop)->Prop
def FX (X:Cx) (pins:List (Addr×Obj)) (σ:St) (tg:Expr) (R:It->Hp->Prop) (Cp:Value) (s2:Shared):Prop :=
 ∃ (it:Addr) (fp:List Addr) (tn:Nat->Heap->Prop) (J:It) (H':Hp),Cp=.ref it/\Inv X pins σ H' s2/\Turn X.prog X.w X.K tg J fp it tn/\tn 0 s2.heap/\(∀ b∈fp,jQ X pins H' b)/\R J H'
def PI (X:Cx) (tg iter:Expr) (wi:TI):Prop :=
 ∀ (pins:List (Addr×Obj)) (s:Shared) (σ:St) (H:Hp) (R:It->Hp->Prop),Inv X pins σ H s->wi σ H R ->
  wpAny (model X.prog X.w) X.A (eval iter X.env) (fun v s1=>wpAny (model X.prog X.w) X.A (pyIter v) (FX X pins σ tg R) X.xe s1) X.xe s
def uH {M:Model} {A:Around} {E:Value->Shared->Prop} {s:Shared} {tg:Expr} {it:Addr} {u:Value} {o:Obj} {n:String} {vs:Array Value} {Q:Unit->Shared->Prop} (ho:s.heap.get? it=some o) (hc:o.cls=.type n) (hd:o.data=.fields vs)
  (hn:["enumerate","zip","dict_itemiterator","dict_reverseitemiterator","odict_iterator","itertools.zip_longest","itertools.pairwise"].contains n=false) (hQ:Q () s):wpAny M A (letOwnedTupleGo tg (.ref it) u) Q E s:=by
 unfold letOwnedTupleGo;cases tg <;> first
  | exact sK hQ
  | (cases u <;> first
    | exact sK hQ
    | (refine kt (wpAny_load ho ?_)
       rw [hc,hd];show wpAny M A (if (["enumerate","zip","dict_itemiterator","dict_reverseitemiterator","odict_iterator","itertools.zip_longest","itertools.pairwise"].contains n && vs[0]? == some (rawInt _))=true then _ else _) Q E s;rw [Ch (by intro h; rw [hn,_H] at h; cases h)];exact sK hQ))
def j6 (K:PySem.W.Frag) (a:Addr):It :=
 ⟨fun i H=>∃ xs x,aE K H a xs/\xs[i]?=some x,fun i H x H'=>H'=H/\∀ xs,aE K H a xs->xs[i]?=some x,fun i H=>∃ xs,aE K H a xs/\xs.length<=i⟩
def jD (lo:Int) (n:Nat):It:=⟨fun i _=>i < n,fun i H x H'=>H'=H/\x=.int (lo+i),fun i _=>n<=i⟩
def NV {P:Program} {w:World} {K:PySem.W.Frag} {tg:Expr} (a it:Addr):Turn P w K tg (j6 K a) [it] it (fun i h=>h.IsListIter it a i) where
 mem:=by simp
 obj:=fun i h st b hb=>by
  have e:b=it:=by simpa using hb
  subst e;obtain ⟨o,e,c,d⟩:=st;exact ⟨o,e,fun v z=>by rw [d] at z; cases z⟩
 keep:=fun i h h' st k=>st.at fun o e=>k it (by simp) o e
 item:=by
  intro X hP hw hK hc i pins s σ H E I hf st hg;subst hP hw hK;obtain ⟨xs,x,hq,hx⟩:=hg;obtain ⟨aj,rv,p,hz⟩:=I.list hq;obtain ⟨u,hu,ru⟩:=rv.get hx;obtain ⟨f0,f1,f2,f3,f4,f5⟩:=hf it (by simp);refine wpAny_pyNext_list_item st p.isList (x:=u) (by simpa using hu) fun h' st' sb=>?_;have I1:Inv X pins σ H { s with heap:=h' }:=I.turned (t':=s.toks) (fun b o hb e=>(sb.2 b hb).trans e) f0 f1 f3 f4 f5;obtain ⟨o,e,c,d⟩:=id st';exact ⟨u,rfl,uH (s:={ s with heap:=h' }) e c d (by decide) ⟨x,H,I1,ru,⟨rfl,fun ys hy=>by rw [I.XD hy hq]; exact hx⟩,st',fun b hb=>(hf b hb).1⟩⟩
 done:=by
  intro X hP hw hK hc i pins s σ H E I hf st hg;subst hP hw hK;obtain ⟨xs,hq,hx⟩:=hg;obtain ⟨aj,rv,p,hz⟩:=I.list hq;obtain ⟨f0,f1,f2,f3,f4,f5⟩:=hf it (by simp);have hl:=rv.length;exact wpAny_pyNext_list_end (I.ok.hd hc) st p.isList (by simp; omega) fun h' eb=>⟨rfl,I.turned (t':=s.toks) (fun b o hb e=>eb b o hb e) f0 f1 f3 f4 f5⟩
 self:=fun _ _ _ _ _ st h=>wpAny_pyIter_listiter st h
def W8 {P:Program} {w:World} {K:PySem.W.Frag} {tg:Expr} (it:Addr) (lo:Int) (n:Nat):Turn P w K tg (jD lo n) [it] it (fun i h=>IsRangeIter h it (lo+(i:Nat) * 1) ((n:Int) - (i:Nat)) 1) where
 mem:=by simp
 obj:=fun i h st b hb=>by
  have e:b=it:=by simpa using hb
  subst e;exact ⟨_,st,fun v z=>by
   have z':Data.fields _=Data.cell v:=z;cases z'⟩
 keep:=fun i h h' st k=>k it (by simp) _ st
 item:=by
  intro X hP hw hK hc i pins s σ H E I hf st hg;subst hP hw hK;obtain ⟨f0,f1,f2,f3,f4,f5⟩:=hf it (by simp);have W:=Walks.range (prog:=X.prog) (w:=X.w) (I.ok.hd hc) it lo 1 n;refine W.item i s _ _ hg st fun v h' tk hv st' kk=>?_;obtain ⟨t,rfl⟩:=hv;have I1:Inv X pins σ H { s with heap:=h',toks:=tk }:=I.turned (fun b o hb e=>kk b o (by simpa using hb) e) f0 f1 f3 f4 f5;refine ⟨_,rfl,uH (s:={ s with heap:=h',toks:=tk }) (n := "range_iterator") st' rfl rfl (by decide) ⟨.int (lo+i),H,I1,⟨t,?_⟩,⟨rfl,rfl⟩,st',fun b hb=>(hf b hb).1⟩⟩;rw [Int.mul_one]
 done:=by
  intro X hP hw hK hc i pins s σ H E I hf st hg;subst hP hw hK;obtain ⟨f0,f1,f2,f3,f4,f5⟩:=hf it (by simp);exact wpAny_pyNext_range_end (I.ok.hd hc) st (by have:n<=i:=hg; omega) fun h' eb=>⟨rfl,I.turned (t':=s.toks) (fun b o hb e=>eb b o hb e) f0 f1 f3 f4 f5⟩
 self:=fun _ _ _ _ _ st h=>wpAny_pyIter_rangeiter st h
section
variable {X:Cx} {tg:Expr}
def Vk (K:PySem.W.Frag) (tl:TE):TI:=fun σ H R=>tl σ H fun x H1=>∃ a,x=.ref a/\(∃ xs,aE K H1 a xs)/\R (j6 K a) H1
def Wx {l:Expr} {tl:TE} (hl:PE X l tl):PI X tg l (Vk X.K tl):=by
 intro pins s σ H R I h;refine aF (hl pins s σ H _ I h) fun v s1 ⟨x,H1,I1,r1,q1⟩=>?_;obtain ⟨a,e,⟨xs,hq⟩,q⟩:=q1;subst e;cases r1;obtain ⟨aj,rv,p,hz⟩:=I1.list hq;refine wpAny_pyIter_list p.isList ?_;refine ⟨s1.heap.objs.size,[s1.heap.objs.size],_,_,H1,rfl,I1.kept (t':=s1.toks) fun b o e=>li _ e,NV a _,⟨_,wn _ rfl,rfl,rfl⟩,fun b hb=>?_,q⟩;have e:b=s1.heap.objs.size:=by simpa using hb
 subst e;exact I1.rA (sB _) (I1.aB.fresh (sB _))
def Sy {pins:List (Addr×Obj)} {σ:St} {H:Hp} {s:Shared} {R:It->Hp->Prop} {E:Value->Shared->Prop} {lo hi:Int} {t u v:Tok} {tk:Nat} (I:Inv X pins σ H s) (h1:-(2 ^ 62)<=lo) (h2:lo < 2 ^ 62) (h3:-(2 ^ 62)<=hi) (h4:hi < 2 ^ 62)
  (q:R (jD lo (hi - lo).toNat) H):wpAny (model X.prog X.w) X.A (pyIter (.ref s.heap.objs.size)) (FX X pins σ tg R) E { s with heap:=s.heap.push { cls:=.type "range",data:=.fields #[.int lo t,.int hi u,.int 1 v] },toks:=tk }:=by
 refine wpAny_pyIter_range (IsRange.new ..) (small_one h1 h2 h3 h4) ?_;have I1:Inv X pins σ H { s with heap:=s.heap.push { cls:=.type "range",data:=.fields #[.int lo t,.int hi u,.int 1 v] },toks:=tk }:=I.kept fun b o e=>li _ e;refine ⟨(s.heap.push { cls:=.type "range",data:=.fields #[.int lo t,.int hi u,.int 1 v] }).objs.size,[(s.heap.push { cls:=.type "range",data:=.fields #[.int lo t,.int hi u,.int 1 v] }).objs.size],_,_,H,rfl,
  I1.kept (t':=tk) fun b o e=>li _ e,W8 _ lo (hi - lo).toNat,?_,fun b hb=>?_,q⟩
 ·have e1:lo+((0:Nat):Int) * 1=lo:=by simp
  have e2:(((hi - lo).toNat:Nat):Int) - ((0:Nat):Int)=Builtin.Range.rangeSize lo hi 1:=by rw [rangeSize_one]; split <;> omega
  show IsRangeIter _ _ (lo+((0:Nat):Int) * 1) ((((hi - lo).toNat:Nat):Int) - ((0:Nat):Int)) 1;rw [e1,e2];exact wn _ rfl
 ·have e:b=(s.heap.push { cls:=.type "range",data:=.fields #[.int lo t,.int hi u,.int 1 v] }).objs.size:=by simpa using hb
  subst e;exact I1.rA (sB _) (I1.aB.fresh (sB _))
def U8 (ta:TA):TI:=fun σ H R=>ta σ H fun vs H1=>∃ j:Int,vs=[.int j]/\-(2 ^ 62)<=j/\j < 2 ^ 62/\R (jD 0 j.toNat) H1
def Vh {a:Expr} {ta:TA} {p pos:Pos} (hg:Gl X "range") (hm:X.mg "range" = none) (ha:PA X [a] ta) (hs:starEach [a] X.env=[(false,eval a X.env)]:=by rfl):PI X tg (.Call (.Name "range" p) [a] [] pos) (U8 ta):=by
 intro pins s σ H R I h;refine Call_ (my I hg hm boot_range (WF (aF (ha pos pins s σ H _ I h) fun us s1 ⟨vs,H1,I1,r1,q1⟩=>?_) hs rfl));obtain ⟨j,e,q1,q2,q⟩:=q1;subst e;cases r1 with
 | cons r rr =>
  cases rr;obtain ⟨t,rfl⟩:=r;exact call_range_1 (Sy I1 (by omega) (by omega) q1 q2 (by simpa using q))
def Ba (wi:TI) (g:TG) (tb:TS):TS:=fun D σ H=>wi σ H fun J H1=>∃ W:Nat->Nat->St->Hp->Prop,(∃ m,W 0 m σ H1)/\∀ i m σ H,W i m σ H ->
 (J.stop i H/\D.nx σ H)\/(J.go i H/\∃ N:St->Hp->Prop,(∀ σ' H',N σ' H'->∃ m',m' < m/\W (i+1) m' σ' H')/\∀ x H',J.jz i H x H'->g x σ H' fun σ2 H2=>tb { D with nx:=N,ct:=N,bk:=D.nx } σ2 H2)
def qj (fp:List Addr) (h:Heap):List (Addr×Obj):=fp.filterMap fun b=>(h.get? b).map fun o=>(b,o)
def ub {fp:List Addr} {h:Heap} {b:Addr} {o:Obj} (hb:b∈fp) (e:h.get? b=some o):(b,o)∈qj fp h:=_b.mpr ⟨b,hb,by rw [e]; rfl⟩
def Sb {fp:List Addr} {h:Heap} {p:Addr×Obj} (hp:p∈qj fp h):p.1∈fp/\h.get? p.1=some p.2:=by
 obtain ⟨b,hb,e⟩:=_b.mp hp;cases q:h.get? b with
 | none=>rw [q] at e; cases e
 | some o =>
  rw [q] at e;have e':(b,o)=p:=FM e;subst e';exact ⟨hb,q⟩
def Inv.pinned {pins:List (Addr×Obj)} {σ:St} {H:Hp} {s:Shared} {fp:List Addr} (I:Inv X pins σ H s) (hf:∀ b∈fp,jQ X pins H b) (ho:∀ b∈fp,∃ o,s.heap.get? b=some o/\∀ v,o.data≠.cell v):Inv X (pins++qj fp s.heap) σ H s :=
 I.rQ fun p hp=>(LE.mp hp).elim (fun z=>I.pin p (Da _ z)) fun z=>by
  obtain ⟨hb,e⟩:=Sb z;obtain ⟨f0,f1,f2,_⟩:=hf p.1 hb;obtain ⟨o,e',d⟩:=ho p.1 hb;rw [e] at e'; cases e';exact ⟨e,f0,f1,f2,d⟩
def Inv.xO {pins pl:List (Addr×Obj)} {σ:St} {H:Hp} {s:Shared} (I:Inv X (pins++pl) σ H s):Inv X pins σ H s:=I.rQ fun p hp=>I.pin p (Da _ (ZU _ hp))
def Nz {iter:Expr} {body:List Stmt} {wi:TI} {g:TG} {tb:TS} {pos:Pos} (hp:PassesOwn (model X.prog X.w) X.A X.env X.xe) (hc:X.calm=true) (hi:PI X tg iter wi) (hg:PG X tg g) (hb:dQ X body tb)
  (hs:∀ x,foldedSetIterable iter X.env x=pure x:=by intro _; rfl):PS X (.For tg iter body [] pos) (Ba wi g tb):=by
 intro pins s σ H D I h;refine wpAny_For (aF (hi pins s σ H _ I h) fun v s1 h1=>aF h1 fun Cp s2 h2=>?_) hs;obtain ⟨it,fp,tn,J,H2,e,I2,T,jm,f2,W,⟨m0,w0⟩,turn⟩:=h2;subst e
 -- what stays true of gF iterator's objects through gF loop
 have CY:∀ {H':Hp},(∀ b∈fp,H' b=none)->∀ b∈fp,jQ X pins H' b:=fun hn b hb=>⟨hn b hb,(f2 b hb).2⟩;refine codeAny_forLoop_any (fun n s'=>∃ i σ' H',Inv X pins σ' H' s'/\tn i s'.heap/\(∀ b∈fp,H' b=none)/\W i n σ' H') ?_ m0 ⟨0,σ,H2,I2,jm,fun b hb=>(f2 b hb).1,w0⟩;rintro n s3 ⟨i,σ3,H3,I3,LD,wJ,w3⟩;rcases turn i n σ3 H3 w3 with ⟨stop,qn⟩ | ⟨go,N,hN,step⟩
 ·refine Zs hp (aF (T.done X rfl rfl rfl hc i pins s3 σ3 H3 X.xe I3 (CY wJ) LD stop) fun r s4 ⟨hr,I4⟩=>?_);subst hr;exact _s ⟨σ3,H3,I4,qn⟩
 ·refine Zs hp (aF (T.item X rfl rfl rfl hc i pins s3 σ3 H3 X.xe I3 (CY wJ) LD go) fun r s4 ⟨u,hr,h4⟩=>?_);subst hr;refine Zs hp (aF h4 fun _ s5 ⟨x,H5,I5,r5,y5,px,wQ⟩=>?_);have I5':=I5.pinned (CY wQ) (T.obj _ _ px);refine Zs hp (aF (hg _ s5 σ3 H5 x u _ I5' r5 (step x H5 y5)) fun _ s6 ⟨σ6,H6,I6,q6⟩=>?_);refine Zs hp (aF (hb _ s6 σ6 H6 _ I6 q6) fun f s7 q7=>?_);have again:∀ {σ7:St} {H7:Hp},Inv X (pins++qj fp s5.heap) σ7 H7 s7->N σ7 H7->∃ m,m < n/\∃ i σ' H',Inv X pins σ' H' s7/\tn i s7.heap/\(∀ b∈fp,H' b=none)/\W i m σ' H':=fun {σ7 H7} I7 n7=>by
   obtain ⟨m',hm,w7⟩:=hN σ7 H7 n7;refine ⟨m',hm,i+1,σ7,H7,I7.xO,T.keep _ _ _ px fun b hb o e=>(I7.pin (b,o) (Da _ (Da _ (ub hb e)))).1,fun b hb=>?_,w7⟩;obtain ⟨o,e,d⟩:=T.obj _ _ px b hb;exact (I7.pin (b,o) (Da _ (Da _ (ub hb e)))).2.1
  cases f with
  | next=>obtain ⟨σ7,H7,I7,n7⟩:=q7; exact again I7 n7
  | cont=>obtain ⟨σ7,H7,I7,n7⟩:=q7; exact again I7 n7
  | brk=>obtain ⟨σ7,H7,I7,q7⟩:=q7; exact ⟨σ7,H7,I7.xO,q7⟩
  | ret v=>obtain ⟨x7,σ7,H7,I7,r7,q7⟩:=q7; exact ⟨x7,σ7,H7,I7.xO,r7,q7⟩
end
def Qw {K:PySem.W.Frag} {a:Addr} {xs:List V} {g:TG} {tb:TS} {D:Ends} {σ:St} {H:Hp} (Pv:Nat->St->Hp->Prop) (h0:Pv 0 σ H) (hl:∀ i σ H,i<=xs.length->Pv i σ H->aE K H a xs)
  (hs:∀ i x σ H,xs[i]?=some x->Pv i σ H->g x σ H fun σ2 H2=>tb { D with nx:=Pv (i+1),ct:=Pv (i+1),bk:=D.nx } σ2 H2) (hd:∀ σ H,Pv xs.length σ H->D.nx σ H) :
  ∃ W:Nat->Nat->St->Hp->Prop,(∃ m,W 0 m σ H)/\∀ i m σ H,W i m σ H ->
   ((j6 K a).stop i H/\D.nx σ H)\/((j6 K a).go i H/\∃ N:St->Hp->Prop,(∀ σ' H',N σ' H'->∃ m',m' < m/\W (i+1) m' σ' H')/\∀ x H',(j6 K a).jz i H x H'->g x σ H' fun σ2 H2=>tb { D with nx:=N,ct:=N,bk:=D.nx } σ2 H2):=by
 refine ⟨fun i m σ H=>m=xs.length - i/\i<=xs.length/\Pv i σ H,⟨xs.length,by simp,At _,h0⟩,?_⟩;rintro i m σ H ⟨rfl,hi,p⟩;have q:=hl i σ H hi p;by_cases bH:i < xs.length
 ·refine .inr ⟨⟨xs,xs[i],q,by simp [bH]⟩,Pv (i+1),fun σ' H' p'=>⟨xs.length - (i+1),by omega,rfl,bH,p'⟩,fun x H' y=>?_⟩;obtain ⟨e,y⟩:=y;subst e;exact hs i x σ _ (y xs q) p
 ·have e:i=xs.length:=by omega
  subst e;exact .inl ⟨⟨xs,q,sB _⟩,hd σ H p⟩
def OP {lo:Int} {n:Nat} {g:TG} {tb:TS} {D:Ends} {σ:St} {H:Hp} (Pv:Nat->St->Hp->Prop) (h0:Pv 0 σ H)
  (hs:∀ i σ H,i < n->Pv i σ H->g (.int (lo+i)) σ H fun σ2 H2=>tb { D with nx:=Pv (i+1),ct:=Pv (i+1),bk:=D.nx } σ2 H2) (hd:∀ σ H,Pv n σ H->D.nx σ H) :
  ∃ W:Nat->Nat->St->Hp->Prop,(∃ m,W 0 m σ H)/\∀ i m σ H,W i m σ H ->
   ((jD lo n).stop i H/\D.nx σ H)\/((jD lo n).go i H/\∃ N:St->Hp->Prop,(∀ σ' H',N σ' H'->∃ m',m' < m/\W (i+1) m' σ' H')/\∀ x H',(jD lo n).jz i H x H'->g x σ H' fun σ2 H2=>tb { D with nx:=N,ct:=N,bk:=D.nx } σ2 H2):=by
 refine ⟨fun i m σ H=>m=n - i/\i<=n/\Pv i σ H,⟨n,by simp,At _,h0⟩,?_⟩;rintro i m σ H ⟨rfl,hi,p⟩;by_cases bH:i < n
 ·refine .inr ⟨bH,Pv (i+1),fun σ' H' p'=>⟨n - (i+1),by omega,rfl,bH,p'⟩,fun x H' y=>?_⟩;obtain ⟨e,y⟩:=y;subst e y;exact hs i σ _ bH p
 ·have e:i=n:=by omega
  subst e;exact .inl ⟨sB _,hd σ H p⟩
abbrev R2:=V->V->Hp->VK->Prop
def aW (X:Cx) (f:Value->Value->Sem Value) (r:R2):Prop :=
 ∀ (pins:List (Addr×Obj)) (s:Shared) (σ:St) (H:Hp) (x y:V) (v u:Value) (Q:VK),Inv X pins σ H s->RelV x v->RelV y u->r x y H Q ->
  wpAny (model X.prog X.w) X.A (f v u) (EP X pins σ Q) X.xe s
def qF (X:Cx) (f:Value->Sem Value) (r:V->Hp->VK->Prop):Prop :=
 ∀ (pins:List (Addr×Obj)) (s:Shared) (σ:St) (H:Hp) (x:V) (v:Value) (Q:VK),Inv X pins σ H s->RelV x v->r x H Q ->
  wpAny (model X.prog X.w) X.A (f v) (EP X pins σ Q) X.xe s
def cq (X:Cx) (f:Value) (r:List V->Hp->VK->Prop):Prop :=
 ∀ (pins:List (Addr×Obj)) (s:Shared) (σ:St) (H:Hp) (xs:List V) (us:List Value) (Q:VK),Inv X pins σ H s->Vals xs us->r xs H Q ->
  wpAny (model X.prog X.w) X.A (call f us) (EP X pins σ Q) X.xe s
def jB (r:R2) (ta tb:TE):TE:=fun σ H Q=>ta σ H fun x H1=>tb σ H1 fun y H2=>r x y H2 Q
def BA (r:V->Hp->VK->Prop) (ta:TE):TE:=fun σ H Q=>ta σ H fun x H1=>r x H1 Q
def rI (C:Int->Int->Prop) (g:Int->Int->V):R2:=fun x y H Q=>∃ i j,x=.int i/\y=.int j/\C i j/\Q (g i j) H
def km (g:Int->Int->V):R2:=fun x y H Q=>∃ i j,x=.int i/\y=.int j/\Q (g i j) H
def rU (g:Int->V):V->Hp->VK->Prop:=fun x H Q=>∃ i,x=.int i/\Q (g i) H
section
variable {X:Cx} {a b c:Expr} {ta tb tc:TE} {pos:Pos}
def zS (ha:PE X a ta) (hb:PE X b tb) {pins:List (Addr×Obj)} {s:Shared} {σ:St} {H:Hp} {R:V->V->Hp->Prop} (I:Inv X pins σ H s)
  (h:ta σ H fun x H1=>tb σ H1 fun y H2=>R x y H2) {Q:Value->Shared->Prop} {f:Value->Value->Sem Value}
  (hf:∀ v u s2 x y H2,Inv X pins σ H2 s2->RelV x v->RelV y u->R x y H2->wpAny (model X.prog X.w) X.A (f v u) Q X.xe s2) :
  wpAny (model X.prog X.w) X.A (eval a X.env) (fun v s₁=>wpAny (model X.prog X.w) X.A (eval b X.env) (fun u s₂=>wpAny (model X.prog X.w) X.A (f v u) Q X.xe s₂) X.xe s₁) X.xe s:=by
 refine aF (ha pins s σ H _ I h) fun v s1 ⟨x,H1,I1,r1,q1⟩=>?_;refine aF (hb pins s1 σ H1 _ I1 q1) fun u s2 ⟨y,H2,I2,r2,q2⟩=>?_;exact hf v u s2 x y H2 I2 r1 r2 q2
def Qv {op:Operator} {r:R2} (ho:aW X (binaryOp op) r) (ha:PE X a ta) (hb:PE X b tb):PE X (.BinOp a op b pos) (jB r ta tb):=by
 intro pins s σ H Q I h;exact wpAny_BinOp (zS ha hb I h fun v u s2 x y H2 I2 rx ry q=>ho pins s2 σ H2 x y v u Q I2 rx ry q)
def XF {op:UnaryOp} {r:V->Hp->VK->Prop} (ho:qF X (unaryOp op) r) (ha:PE X a ta):PE X (.UnaryOp op a pos) (BA r ta):=by
 intro pins s σ H Q I h;exact UnaryOp_ (aF (ha pins s σ H _ I h) fun v s1 ⟨x,H1,I1,r1,q1⟩=>ho pins s1 σ H1 x v Q I1 r1 q1)
def v8 {f:Value->Value->Sem Value} {C:Int->Int->Prop} {g:Int->Int->Int}
  (rule:∀ (i j:Int) (t u:Tok) (s:Shared) (Q:Value->Shared->Prop) (E:Value->Shared->Prop),C i j->Q (.int (g i j) s.toks) { s with toks:=s.toks+1 }->wpAny (model X.prog X.w) X.A (f (.int i t) (.int j u)) Q E s) :
  aW X f (rI C fun i j=>.int (g i j)):=by
 intro pins s σ H x y v u Q I rx ry h;obtain ⟨i,j,rfl,rfl,hc,q⟩:=h;obtain ⟨t,rfl⟩:=rx;obtain ⟨t',rfl⟩:=ry;exact rule i j t t' s _ _ hc ⟨.int (g i j),H,I.tok _,⟨_,rfl⟩,q⟩
def Ge {f:Value->Value->Sem Value} {g:Int->Int->Int}
  (rule:∀ (i j:Int) (t u:Tok) (s:Shared) (Q:Value->Shared->Prop) (E:Value->Shared->Prop),Q (.int (g i j) s.toks) { s with toks:=s.toks+1 }->wpAny (model X.prog X.w) X.A (f (.int i t) (.int j u)) Q E s) :
  aW X f (km fun i j=>.int (g i j)):=by
 intro pins s σ H x y v u Q I rx ry h;obtain ⟨i,j,rfl,rfl,q⟩:=h;obtain ⟨t,rfl⟩:=rx;obtain ⟨t',rfl⟩:=ry;exact rule i j t t' s _ _ ⟨.int (g i j),H,I.tok _,⟨_,rfl⟩,q⟩
def yT {f:Value->Value->Sem Value} {g:Int->Int->Bool}
  (rule:∀ (i j:Int) (t u:Tok) (s:Shared) (Q:Value->Shared->Prop) (E:Value->Shared->Prop),Q (.bool (g i j)) s->wpAny (model X.prog X.w) X.A (f (.int i t) (.int j u)) Q E s) :
  aW X f (km fun i j=>.bl (g i j)):=by
 intro pins s σ H x y v u Q I rx ry h;obtain ⟨i,j,rfl,rfl,q⟩:=h;obtain ⟨t,rfl⟩:=rx;obtain ⟨t',rfl⟩:=ry;exact rule i j t t' s _ _ ⟨.bl (g i j),H,I,rfl,q⟩
def EF (i j:Int):Prop:=0 < j/\j < 1073741824
def HV (i j:Int):Prop:=0<=j/\j<=1000000/\i.natAbs < 2 ^ 64
def vc (i j:Int):Prop:=(-(2 ^ 64) < i/\i < 2 ^ 64)\/(-(2 ^ 64) < j/\j < 2 ^ 64)
def vc.ok {i j:Int} (h:vc i j):IntMulOk i j:=by
 rcases h with ⟨h1,h2⟩ | ⟨h1,h2⟩
 ·exact .of_left (intBits_le_64 h1 h2)
 ·exact .of_right (intBits_le_64 h1 h2)
def NM:aW X (binaryOp .Add) (km fun i j=>.int (i+j)):=Ge fun _ _ _ _ _ _ _ q=>add_int q
def Yy:aW X (binaryOp .Sub) (km fun i j=>.int (i - j)):=Ge fun _ _ _ _ _ _ _ q=>sub_int q
def Ni:aW X (binaryOp .Mult) (rI vc fun i j=>.int (i * j)):=v8 fun _ _ _ _ _ _ _ hc q=>mul_int q hc.ok
def Xm:aW X (binaryOp .FloorDiv) (rI EF fun i j=>.int (i / j)):=v8 fun i j _ _ _ _ _ hc q=>by
 have h1:(0:Int) < j:=hc.1;have h2:j < 1073741824:=hc.2;exact floordiv_int (by omega) (by rw [Int.fdiv_eq_ediv_of_nonneg i (by omega)]; exact q) (.inl (PyProof.noPylong_small (by omega)))
def OR:aW X (binaryOp .Mod) (rI (fun _ j=>0 < j) fun i j=>.int (i % j)):=v8 fun i j _ _ _ _ _ hc q=>by
 have h1:(0:Int) < j:=hc;exact mod_int' (by omega) (by rw [Int.fmod_eq_emod_of_nonneg i (by omega)]; exact q)
def PY:aW X (binaryOp .Pow) (rI HV fun i j=>.int (i ^ j.toNat)):=v8 fun _ _ _ _ _ _ _ hc q=>pow_int_small hc.1 hc.2.1 hc.2.2 q
def Vt {f:Value->Sem Value} {g:Int->Int}
  (rule:∀ (i:Int) (t:Tok) (s:Shared) (Q:Value->Shared->Prop) (E:Value->Shared->Prop),Q (.int (g i) s.toks) { s with toks:=s.toks+1 }->wpAny (model X.prog X.w) X.A (f (.int i t)) Q E s) :
  qF X f (rU fun i=>.int (g i)):=by
 intro pins s σ H x v Q I rx h;obtain ⟨i,rfl,q⟩:=h;obtain ⟨t,rfl⟩:=rx;exact rule i t s _ _ ⟨.int (g i),H,I.tok _,⟨_,rfl⟩,q⟩
def OW:qF X (unaryOp .USub) (rU fun i=>.int (-i)):=Vt fun _ _ _ _ _ q=>neg_int q
end
def vO:V->V->Bool
 | .aq,.aq=>true | .aq,.int _=>true | .int _,.aq=>true | .aq,.bl _=>true | .bl _,.aq=>true | .aq,.str _=>true | .str _,.aq=>true
 | .int _,.int _=>true | .bl _,.bl _=>true | .str _,.str _=>true | .byt _,.byt _=>true
 | .int _,.str _=>true | .str _,.int _=>true | .bl _,.str _=>true | .str _,.bl _=>true
 | _,_=>false
def Rh:R2:=fun x y H Q=>vO x y=true/\Q (.bl (decide (x=y))) H
def Qc:R2:=fun x y H Q=>vO x y=true/\Q (.bl (!decide (x=y))) H
def Ig {i j:Int}:decide (V.int i=V.int j)=(i == j):=by
 rw [Zt];simp
def ES {i j:Bool}:decide (V.bl i=V.bl j)=(i == j):=by
 rw [Zt];simp
def FW {i j:Str}:decide (V.str i=V.str j)=(i == j):=by
 rw [Zt];simp
def GG {i j:Array UInt8}:decide (V.byt i=V.byt j)=(i.toList == j.toList):=by
 rw [Zt];cases i;cases j;simp
section
variable {X:Cx} {a b c:Expr} {ta tb tc:TE} {pos:Pos}
def cm {pins:List (Addr×Obj)} {σ:St} {H:Hp} {s:Shared} {Q:VK} {k k':Bool} (I:Inv X pins σ H s) (q:Q (.bl k) H) (e:k=k'):EP X pins σ Q (.bool k') s:=by
 subst e;exact ⟨.bl k,H,I,rfl,q⟩
def Vj:aW X (compareOp .Eq) Rh:=by
 intro pins s σ H x y v u Q I rx ry h;obtain ⟨hs,q⟩:=h;cases x with
 | aq =>
  cases rx;cases y with
  | aq=>cases ry; exact PySem.EqNone.eq_none_none (cm I q (by simp))
  | bl j=>cases ry; exact PySem.EqNone.eq_none_bool (cm I q (by simp))
  | int j=>obtain ⟨t',rfl⟩:=ry; exact PySem.EqNone.eq_none_int (cm I q (by simp))
  | str j=>obtain ⟨t',rfl⟩:=ry; exact PySem.EqNone.eq_none_str (cm I q (by simp))
  | _=>exact absurd (show false=true from hs) wT
 | bl i =>
  cases rx;cases y with
  | aq=>cases ry; exact PySem.EqNone.eq_bool_none (cm I q (by simp))
  | bl j=>cases ry; exact eq_bool (cm I q ES)
  | str j=>obtain ⟨t',rfl⟩:=ry; exact PySem.EqMixed.eq_bool_str (cm I q (by simp))
  | _=>exact absurd (show false=true from hs) wT
 | int i =>
  obtain ⟨t,rfl⟩:=rx;cases y with
  | aq=>cases ry; exact PySem.EqNone.eq_int_none (cm I q (by simp))
  | int j=>obtain ⟨t',rfl⟩:=ry; exact eq_int (cm I q Ig)
  | str j=>obtain ⟨t',rfl⟩:=ry; exact PySem.EqMixed.eq_int_str (cm I q (by simp))
  | _=>exact absurd (show false=true from hs) wT
 | str i =>
  obtain ⟨t,rfl⟩:=rx;cases y with
  | aq=>cases ry; exact PySem.EqNone.eq_str_none (cm I q (by simp))
  | bl j=>cases ry; exact PySem.EqMixed.eq_str_bool (cm I q (by simp))
  | int j=>obtain ⟨t',rfl⟩:=ry; exact PySem.EqMixed.eq_str_int (cm I q (by simp))
  | str j=>obtain ⟨t',rfl⟩:=ry; exact eq_str (cm I q FW)
  | _=>exact absurd (show false=true from hs) wT
 | byt i =>
  obtain ⟨t,rfl⟩:=rx;cases y with
  | byt j=>obtain ⟨t',rfl⟩:=ry; exact PySem.W.eq_bytes (cm I q GG)
  | _=>exact absurd (show false=true from hs) wT
 | _=>cases y <;> exact absurd (show false=true from hs) wT
def US:aW X (compareOp .NotEq) Qc:=by
 intro pins s σ H x y v u Q I rx ry h;obtain ⟨hs,q⟩:=h;cases x with
 | aq =>
  cases rx;cases y with
  | aq=>cases ry; exact PySem.EqNone.ne_none_none (cm I q (by simp))
  | bl j=>cases ry; exact PySem.EqNone.ne_none_bool (cm I q (by simp))
  | int j=>obtain ⟨t',rfl⟩:=ry; exact PySem.EqNone.ne_none_int (cm I q (by simp))
  | str j=>obtain ⟨t',rfl⟩:=ry; exact PySem.EqNone.ne_none_str (cm I q (by simp))
  | _=>exact absurd (show false=true from hs) wT
 | bl i =>
  cases rx;cases y with
  | aq=>cases ry; exact PySem.EqNone.ne_bool_none (cm I q (by simp))
  | bl j=>cases ry; exact ne_bool (cm I q (Tm not ES))
  | str j=>obtain ⟨t',rfl⟩:=ry; exact PySem.EqMixed.ne_bool_str (cm I q (by simp))
  | _=>exact absurd (show false=true from hs) wT
 | int i =>
  obtain ⟨t,rfl⟩:=rx;cases y with
  | aq=>cases ry; exact PySem.EqNone.ne_int_none (cm I q (by simp))
  | int j=>obtain ⟨t',rfl⟩:=ry; exact ne_int (cm I q (Tm not Ig))
  | str j=>obtain ⟨t',rfl⟩:=ry; exact PySem.EqMixed.ne_int_str (cm I q (by simp))
  | _=>exact absurd (show false=true from hs) wT
 | str i =>
  obtain ⟨t,rfl⟩:=rx;cases y with
  | aq=>cases ry; exact PySem.EqNone.ne_str_none (cm I q (by simp))
  | bl j=>cases ry; exact PySem.EqMixed.ne_str_bool (cm I q (by simp))
  | int j=>obtain ⟨t',rfl⟩:=ry; exact PySem.EqMixed.ne_str_int (cm I q (by simp))
  | str j=>obtain ⟨t',rfl⟩:=ry; exact ne_str (cm I q (Tm not FW))
  | _=>exact absurd (show false=true from hs) wT
 | byt i =>
  obtain ⟨t,rfl⟩:=rx;cases y with
  | byt j=>obtain ⟨t',rfl⟩:=ry; exact PySem.W.ne_bytes (cm I q (Tm not GG))
  | _=>exact absurd (show false=true from hs) wT
 | _=>cases y <;> exact absurd (show false=true from hs) wT
def Mp:aW X (compareOp .Lt) (km fun i j=>.bl (decide (i < j))):=yT fun _ _ _ _ _ _ _ q=>lt_int q
def TY:aW X (compareOp .LtE) (km fun i j=>.bl (decide (i<=j))):=yT fun _ _ _ _ _ _ _ q=>le_int q
def N8:aW X (compareOp .Gt) (km fun i j=>.bl (decide (j < i))):=yT fun _ _ _ _ _ _ _ q=>gt_int q
def Q7:aW X (compareOp .In) (fun x y H Q=>∃ i j,x=.str i/\y=.str j/\Q (.bl (!(Builtin.Str.occurrences j i 0 j.length 1).isEmpty)) H):=by
 intro pins s σ H x y v u Q I rx ry h;obtain ⟨i,j,rfl,rfl,q⟩:=h;obtain ⟨t,rfl⟩:=rx;obtain ⟨t',rfl⟩:=ry;exact in_str (cm I q rfl)
def qi:aW X (compareOp .Is) (fun x y H Q=>y=.aq/\Q (.bl (decide (x=.aq))) H):=by
 intro pins s σ H x y v u Q I rx ry h;obtain ⟨rfl,q⟩:=h;cases ry;refine is_none_gen (cm I q ?_);cases x <;> first
  | (cases rx; rfl)
  | (obtain ⟨t,rfl⟩:=rx; rfl)
def xc:aW X (compareOp .IsNot) (fun x y H Q=>y=.aq/\Q (.bl (!decide (x=.aq))) H):=by
 intro pins s σ H x y v u Q I rx ry h;obtain ⟨rfl,q⟩:=h;cases ry;refine isnot_none_gen (cm I q ?_);cases x <;> first
  | (cases rx; rfl)
  | (obtain ⟨t,rfl⟩:=rx; rfl)
def aW.or {f:Value->Value->Sem Value} {r r':R2} (h:aW X f r) (h':aW X f r'):aW X f (fun x y H Q=>r x y H Q\/r' x y H Q):=by
 intro pins s σ H x y v u Q I rx ry q;rcases q with q | q
 ·exact h pins s σ H x y v u Q I rx ry q
 ·exact h' pins s σ H x y v u Q I rx ry q
def O9 {op:CmpOp} {r:R2} (ho:aW X (compareOp op) r) (ha:PE X a ta) (hb:PE X b tb) (hm:behindInMarks op b=false):PE X (.Compare a [op] [b] pos) (jB r ta tb):=by
 intro pins s σ H Q I h;exact wpAny_Compare1 (zS ha hb I h fun v u s2 x y H2 I2 rx ry q=>ho pins s2 σ H2 x y v u Q I2 rx ry q) hm
def qH:(sizeLine:Nat) < 2 ^ 63:=by rw [ZV]; decide
def WR:aW X (binaryOp .Add) (fun x y H Q=>∃ i j,x=.str i/\y=.str j/\i.length+j.length<=sizeLine/\Q (.str (i++j)) H):=by
 intro pins s σ H x y v u Q I rx ry h;obtain ⟨i,j,rfl,rfl,hz,q⟩:=h;obtain ⟨t,rfl⟩:=rx;obtain ⟨t',rfl⟩:=ry;exact add_str (fun t' tk=>⟨.str (i++j),H,I.tok _,⟨_,rfl⟩,q⟩) hz
def vals1 {x:V} {us:List Value} (r:Vals [x] us):∃ u,us=[u]/\RelV x u:=by
 cases r with
 | cons r1 r2=>cases r2; exact ⟨_,rfl,r1⟩
def vals2 {x y:V} {us:List Value} (r:Vals [x,y] us):∃ u w',us=[u,w']/\RelV x u/\RelV y w':=by
 cases r with
 | cons r1 r2 =>
  cases r2 with
  | cons r3 r4=>cases r4; exact ⟨_,_,rfl,r1,r3⟩
def S2 (K:PySem.W.Frag) (x:V) (H:Hp) (n:Nat):Prop :=
 match x with
 | .str y=>y.length<=sizeLine/\n=y.length
 | .byt y=>y.size<=sizeLine/\n=y.size
 | .ref p=>(∃ xs,aE K H p xs/\n=xs.length)\/∃ xs,bI K H p xs/\n=xs.length
 | _=>False
def N7:cq X (.builtin "len") (fun xs H Q=>∃ x n,xs=[x]/\S2 X.K x H n/\Q (.int n) H):=by
 intro pins s σ H xs us Q I r h;obtain ⟨x,n,rfl,e,q⟩:=h;obtain ⟨u,rfl,rx⟩:=vals1 r;have hl:=qH;have hs:sizeLine=16777216:=ZV;cases x with
 | str y =>
  obtain ⟨t,rfl⟩:=rx;obtain ⟨hy,e'⟩:y.length<=sizeLine/\n=y.length:=e;subst e';exact len_str (by omega) ⟨.int _,H,I.tok _,⟨_,rfl⟩,q⟩
 | byt y =>
  obtain ⟨t,rfl⟩:=rx;obtain ⟨hy,e'⟩:y.size<=sizeLine/\n=y.size:=e;subst e';exact PySem.W.len_bytes (by omega) ⟨.int _,H,I.tok _,⟨_,rfl⟩,q⟩
 | ref p =>
  cases rx;have e':(∃ xs,aE X.K H p xs/\n=xs.length)\/∃ xs,bI X.K H p xs/\n=xs.length:=e;rcases e' with ⟨xs,hx,e'⟩ | ⟨xs,hx,e'⟩
  ·subst e';obtain ⟨aj,r',pl,hz⟩:=I.list hx;have hlen:=r'.length;exact Calls.call_len_list pl.isList (by simp only [tz]; omega) ⟨.int xs.length,H,I.tok _,⟨_,by simp only [tz]; rw [hlen]⟩,q⟩
  ·subst e';obtain ⟨aj,r',pl,hz⟩:=I.tuple hx;have hlen:=r'.length;exact len_tuple pl (by simp only [tz]; omega) ⟨.int xs.length,H,I.tok _,⟨_,by simp only [tz]; rw [hlen]⟩,q⟩
 | _=>exact (show False from e).elim
end
structure lP (h:Heap) (x dx C:Addr) (mA:Str->Option Value):Prop where
 obj:h.get? x=some (PySem.W.instObj C dx)
 ns:h.Ns1 dx mA
 ne:dx≠x
def Nn {h:Heap} {dx:Addr} {mA:Str->Option Value} (n:h.Ns1 dx mA):∃ od,h.get? dx=some od/\∀ name,PySem.W.lookIn name od=some (mA name):=by
 obtain ⟨o,es,ep,ho,hd,hk,_,hm⟩:=n;refine ⟨o,ho,fun name=>?_⟩;have e:=hm name;unfold nsFind findBy at e;rw [<- Array.find?_toList] at e;unfold PySem.W.lookIn;rw [hd];dsimp only;split
 ·rename_i y q;rw [q] at e;exact Tm some e
 ·rename_i q;rw [q] at e;have a:es.toList.any (·.refKey)=false:=by
   rw [List.any_eq_false];intro y hy;obtain ⟨z,t,Ca⟩:=hk y (Array.mem_toList_iff.mp hy);simp [DictEntry.refKey,Ca]
  have a':¬ es.toList.any (·.refKey)=true:=by rw [a]; exact wT
  rw [Ch a'];exact Tm some e
def lP.look {h:Heap} {x dx C:Addr} {mA:Str->Option Value} (I:lP h x dx C mA):∃ od,PySem.W.InstAt h x (PySem.W.instObj C dx) C (some od)/\∀ name,PySem.W.lookIn name od=some (mA name) :=
 let ⟨od,ho,hl⟩:=Nn I.ns
 ⟨od,⟨I.obj,rfl,rfl,ho⟩,hl⟩
section
variable {prog:Program} {w:World} {A:Around} {E:Value->Shared->Prop} {s:Shared} {K:PySem.W.Frag} {x dx C f:Addr} {mA:Str->Option Value} {name:Str} {v:Value}
def get_map {expr:Bool} {Q:Value->Shared->Prop} (X:K.In s.heap) (I:lP s.heap x dx C mA) (hg:PySem.W.plainGet K C name=true) (hh:PySem.W.hasDictIn K C=true)
  (ha:PySem.W.findIn K (.ref C) name=some none) (hv:mA name=some v) (hv':PySem.W.handedIn v=true) (h:Q v { s with toks:=s.toks+1 }) :
  wpAny (model prog w) A (getAttr (.ref x) name expr) Q E s:=by
 obtain ⟨od,J,hl⟩:=I.look;exact PySem.W.get_value X J (_y hg).1 (PySem.W.findObj_own hh ha rfl (by rw [hl,hv])) hv' h
def XW {pl:Sem Bool} {Q:Value×List Value->Shared->Prop} (X:K.In s.heap) (I:lP s.heap x dx C mA) (hg:PySem.W.plainGet K C name=true)
  (hf:PySem.W.findIn K (.ref C) name=some (some (.ref f))) (ht:PySem.W.isFn K (.ref f)=true) (hv:mA name=none) (h:Q (.ref f,[.ref x]) s) :
  wpAny (model prog w) A (getMethod (.ref x) name pl) Q E s:=by
 obtain ⟨od,J,hl⟩:=I.look;exact PySem.W.method_fn X J (_y hg).1 (_y hg).2 hf (Zp.mp ht) (by show (PySem.W.lookIn name od).map (·.isSome)=some false; rw [hl,hv]; rfl) h
def Qx {ns:List Str} {Q:Unit->Shared->Prop} (X:K.In s.heap) (I:lP s.heap x dx C mA)
  (hs:PySem.W.findIn K (.ref C) "__setattr__" = some (some (.builtin "object.__setattr__"))) (hp:PySem.W.plainOver K C=true) (ht:PySem.W.takerIn K C name=some none) (hh:PySem.W.hasDictIn K C=true)
  (hw:PySem.Within mA ns) (hsz:ns.length<=sizeLine)
  (h:∀ h',lP h' x dx C (fun y=>if y=name then some v else mA y)->Heap.SameBut dx s.heap h'->Q () { s with heap:=h',toks:=s.toks+2 }) :
  wpAny (model prog w) A (setAttr (.ref x) name v) Q E s:=by
 obtain ⟨od,J,hl⟩:=I.look;refine PySem.W.set_plain X J hs (PySem.W.osa_open (s:={ s with toks:=s.toks+1 }) (r:=none) X J hp ht fun b=>?_);obtain ⟨cd,hc,hd'⟩:=PySem.W.any_some hh;have hx:s.heap.get? x=some ⟨.ref C,some dx,.plain,#[]⟩:=I.obj;refine kt (sK (kt (kt (_I hx (kt (PySem.W.Looks.here (s:={ s with toks:=s.toks+1 }) (PySem.W.looks_clsIn X hc) ?_))))));rw [hd'];refine sK (a:=some dx) (kt (sK (kt ?_)));refine wpAny_nsSet1 (s:={ s with toks:=s.toks+1 }) I.ns fun h' hX mP=>?_;obtain ⟨oD,esD,epD,Di,Dk,DF⟩:=hX.count (PySem.Within.cons name v hw);refine kt (wpAny_lookBehind Di (by rw [Dk]; exact pastItsLine_dict (wE DF (by rw [GE]; omega))) ?_);exact sK (h _ ⟨(mP.2 _ (sw I.ne)).trans I.obj,hX,I.ne⟩ mP)
def WG {R:Result->Shared->Prop} {vs:List Value} {kw:List (Str×Value)} (X:K.In s.heap) (hm:PySem.W.makesIn K C=true)
  (hi:PySem.W.findIn K (.ref C) "__init__" = some (some (.ref f))) (hf:PySem.W.typeIn K (.ref f)=some (.type "function"))
  (h:codeAny (model prog w) (A.under (.builtin "type.__call__" ⟨.ref C::vs,kw⟩)) (.call (.ref f) ⟨.ref (s.heap.objs.size+1)::vs,kw⟩) (PySem.W.InitBack (s.heap.objs.size+1) R)
   { s with heap:=(s.heap.push PySem.W.emptyDict).push (PySem.W.instObj C s.heap.objs.size) }) :
  codeAny (model prog w) A (.call (.ref C) ⟨vs,kw⟩) R s:=by
 obtain ⟨hh,g,d,t,os⟩:=s;exact PySem.W.make_core (PySem.W.makes_of X hm) (SC X hi) (fun self=>PySem.W.bind_fn X self hf) (.inl rfl) h
end
def ay (f:Str) (v:V):List (Str×V)->List (Str×V)
 | []=>[(f,v)]
 | (g,x)::r=>if g=f then (g,v)::r else (g,x)::ay f v r
def ee (f g:Str) (v:V):∀ fs:List (Str×V),(ay f v fs).lookup g=if g=f then some v else fs.lookup g
 | []=>by
  show List.lookup g [(f,v)]=_;by_cases h:g=f
  ·have hb:(g == f)=true:=Zp.mpr h;simp only [List.lookup,hb,Db h]
  ·have hb:(g == f)=false:=GM.mpr h;simp only [List.lookup,hb,Ch h]
 | (k,x)::r=>by
  have ih:=ee f g v r;rw [show ay f v ((k,x)::r)=(if k=f then (k,v)::r else (k,x)::ay f v r) from rfl];by_cases hk:k=f
  ·rw [Db hk];by_cases h:g=k
   ·have hb:(g == k)=true:=Zp.mpr h;simp only [List.lookup,hb,Db (h.trans hk)]
   ·have hb:(g == k)=false:=GM.mpr h;simp only [List.lookup,hb,Ch (fun e:g=f=>h (e.trans hk.symm))]
  ·rw [Ch hk];by_cases h:g=k
   ·have hb:(g == k)=true:=Zp.mpr h;simp only [List.lookup,hb,Ch (fun e:g=f=>hk (h.symm.trans e))]
   ·have hb:(g == k)=false:=GM.mpr h;simp only [List.lookup,hb];exact ih
def yf (f:Str) (v:V):∀ fs:List (Str×V),f∈(ay f v fs).map (·.1)/\∀ g,g∈fs.map (·.1)->g∈(ay f v fs).map (·.1)
 | []=>⟨by simp [ay],fun g h=>by simp at h⟩
 | (k,x)::r=>by
  obtain ⟨i1,i2⟩:=yf f v r;rw [show ay f v ((k,x)::r)=(if k=f then (k,v)::r else (k,x)::ay f v r) from rfl];by_cases hk:k=f
  ·rw [Db hk];subst hk;exact ⟨by simp,fun g h=>by simpa using h⟩
  ·rw [Ch hk];refine ⟨?_,fun g h=>?_⟩
   ·rw [Fa];exact Ev _ i1
   ·rw [Fa] at h ⊢;rcases ss.mp h with e | e
    ·exact ss.mpr (.inl e)
    ·exact Ev _ (i2 g e)
def zg (f:Str) (v:V):∀ fs:List (Str×V),(ay f v fs).length<=fs.length+1
 | []=>by simp [ay]
 | (k,x)::r=>by
  have ih:=zg f v r;rw [show ay f v ((k,x)::r)=(if k=f then (k,v)::r else (k,x)::ay f v r) from rfl];by_cases hk:k=f
  ·rw [Db hk,GE,GE]; omega
  ·rw [Ch hk,GE,GE]; omega
def eh.some_of {v:V} {o:Option Value} (r:eh (some v) o):∃ u,o=some u/\RelV v u:=by
 cases o with
 | none=>exact (show False from r).elim
 | some u=>exact ⟨u,rfl,r⟩
def eh.none_of {o:Option Value} (r:eh none o):o=none:=by
 cases o with
 | none=>rfl
 | some u=>exact (show False from r).elim
def Na {v:V} {u:Value} (r:RelV v u):PySem.W.handedIn u=true:=by
 cases v with
 | aq=>cases (show u=Value.none from r); rfl
 | bl b=>cases (show u=Value.bool b from r); rfl
 | int i=>obtain ⟨t,e⟩:=(show ∃ t,u=Value.int i t from r); cases e; rfl
 | str x=>obtain ⟨t,e⟩:=(show ∃ t,u=Value.str x t from r); cases e; rfl
 | byt b=>obtain ⟨t,e⟩:=(show ∃ t,u=Value.bytes b t from r); cases e; rfl
 | l9 b=>obtain ⟨t,e⟩:=(show ∃ t,u=Value.float b t from r); cases e; rfl
 | ref a=>cases (show u=Value.ref a from r); rfl
 | ty n=>cases (show u=Value.type n from r); rfl
section
variable {P:Program} {w:World} {H H':Hp} {h h':Heap} {a C dx:Addr} {fs fs':List (Str×V)}
def vj (aB:bY P w H h) (e:H a=some (.ins C dx fs)):∃ mA,lP h a dx C mA/\(∀ f,eh (fs.lookup f) (mA f))/\PySem.Within mA (fs.map (·.1))/\fs.length<=1000/\H dx=some (.own a):=by
 obtain ⟨d,z,ne,ob,mA,n,r,q⟩:=(show bN P w H h a (.ins C dx fs) from aB a _ e);exact ⟨mA,⟨ob,n,ne⟩,r,q,z,d⟩
end
structure cJ (K:PySem.W.Frag) (C:Addr):Prop where
 pg:PySem.W.plainGet K C Str.empty=true
 hd:PySem.W.hasDictIn K C=true
 po:PySem.W.plainOver K C=true
 sa:PySem.W.findIn K (.ref C) "__setattr__" = some (some (.builtin "object.__setattr__"))
def cJ.get {K:PySem.W.Frag} {C:Addr} (c:cJ K C) (f:Str):PySem.W.plainGet K C f=true:=c.pg
def bE (K:PySem.W.Frag) (C:Addr) (f:Str):Prop:=PySem.W.findIn K (.ref C) f=some none
def bE.Tb {K:PySem.W.Frag} {C:Addr} {f:Str} (n:bE K C f):PySem.W.takerIn K C f=some none:=by
 unfold PySem.W.takerIn;rw [show PySem.W.findIn K (.ref C) f=some none from n];rfl
structure YT (K:PySem.W.Frag) (C:Addr) (f:Str) (v:V) (u:Value):Prop where
 at_:PySem.W.findIn K (.ref C) f=some (some u)
 rel:RelV v u
 get:PySem.W.specialIn K u "__get__" = some none
 cp:PySem.W.copiedNames.contains f=false
structure Meth (K:PySem.W.Frag) (C:Addr) (m:Str) (f:Addr):Prop where
 at_:PySem.W.findIn K (.ref C) m=some (some (.ref f))
 fn:PySem.W.isFn K (.ref f)=true
 kp:PySem.W.keepIn K (.ref f)=true
section
variable {X:Cx} {pins:List (Addr×Obj)} {σ:St} {H:Hp} {s:Shared} {a C dx:Addr} {fs:List (Str×V)} {f:Str} {v:V} {A:Around} {E:Value->Shared->Prop}
def Jc {b:Bool} {Q:Value->Shared->Prop} (I:Inv X pins σ H s) (e:H a=some (.ins C dx fs)) (c:cJ X.K C) (n:bE X.K C f) (l:fs.lookup f=some v)
  (h:∀ u s',Inv X pins σ H s'->RelV v u->Q u s'):wpAny (model X.prog X.w) A (getAttr (.ref a) f b) Q E s:=by
 obtain ⟨mA,O,r,_,_,_⟩:=vj I.aB e;obtain ⟨u,hu,ru⟩:=eh.some_of (v:=v) (o:=mA f) (by rw [<- l]; exact r f);exact get_map I.bW O (c.get f) c.hd n hu (Na ru) (h u _ (I.tok _) ru)
def z8 {m:Str} {g:Addr} {pl:Sem Bool} {Q:Value×List Value->Shared->Prop} (I:Inv X pins σ H s) (e:H a=some (.ins C dx fs)) (c:cJ X.K C) (k:Meth X.K C m g) (l:fs.lookup m=none)
  (h:Q (.ref g,[.ref a]) s):wpAny (model X.prog X.w) A (getMethod (.ref a) m pl) Q E s:=by
 obtain ⟨mA,O,r,_,_,_⟩:=vj I.aB e;have hn:mA m=none:=eh.none_of (by rw [<- l]; exact r m);exact XW I.bW O (c.get m) k.at_ k.fn hn h
def DZ {y:V} {u:Value} {Q:Unit->Shared->Prop} (I:Inv X pins σ H s) (e:H a=some (.ins C dx fs)) (c:cJ X.K C) (n:bE X.K C f) (hl:fs.length < 1000) (ry:RelV y u)
  (h:∀ s',Inv X pins σ (upd H a (.ins C dx (ay f y fs))) s'->Q () s'):wpAny (model X.prog X.w) A (setAttr (.ref a) f u) Q E s:=by
 obtain ⟨mA,O,r,wi,_,ho⟩:=vj I.aB e;have hz:(fs.map (·.1)).length<=sizeLine:=by rw [mo,ZV]; omega
 refine Qx I.bW O c.sa c.po n.Tb c.hd wi hz fun h' O' sb=>h _ ?_;have hd:∃ o,h'.get? dx=some o:=let ⟨o,_,_,e',_⟩:=O'.ns; ⟨o,e'⟩
 refine I.write (x:=a) (e:=dx) (by rw [e]; exact True.intro) (.inr ho) (fun b q hb z=>(sb.2 b hb).trans z) hd ?_;refine ⟨by rw [ah O.ne]; exact ho,?_,O.ne,O'.obj,_,O'.ns,fun g=>?_,fun g hg=>?_⟩
 ·have:=zg f y fs; omega
 ·show eh ((ay f y fs).lookup g) (if g=f then some u else mA g);rw [ee];by_cases q:g=f
  ·rw [Db q,Db q]; exact ry
  ·rw [Ch q,Ch q]; exact r g
 ·by_cases q:g=f
  ·rw [q]; exact (yf f y fs).1
  ·refine (yf f y fs).2 g (wi g fun z=>hg ?_);show (if g=f then some u else mA g)=none;rw [Ch q]; exact z
def Inv.made (I:Inv X pins σ H s):Inv X pins σ (upd (upd H s.heap.objs.size (.own (s.heap.objs.size+1))) (s.heap.objs.size+1) (.ins C s.heap.objs.size []))
  { s with heap:=(s.heap.push PySem.W.emptyDict).push (PySem.W.instObj C s.heap.objs.size) }:=by
 have e1:(s.heap.push PySem.W.emptyDict).get? s.heap.objs.size=some PySem.W.emptyDict:=wn s.heap rfl;have e2:((s.heap.push PySem.W.emptyDict).push (PySem.W.instObj C s.heap.objs.size)).get? (s.heap.objs.size+1)=some (PySem.W.instObj C s.heap.objs.size):=by
  have:=wn (s.heap.push PySem.W.emptyDict) (o:=PySem.W.instObj C s.heap.objs.size) rfl
  rwa [TW] at this
 have e3:(s.heap.push PySem.W.emptyDict).Ns s.heap.objs.size (fun _=>none):=⟨PySem.W.emptyDict,#[],_,e1,rfl,(fun e he=>absurd he (by simp)),fun _=>rfl⟩;have I1:=I.laid (a:=s.heap.objs.size) (o:=.own (s.heap.objs.size+1)) (h':=s.heap.push PySem.W.emptyDict) (t':=s.toks) (fun b u q=>li _ q) (sB _) ⟨_,e1⟩;refine I1.laid (a:=s.heap.objs.size+1) (o:=.ins C s.heap.objs.size []) (t':=s.toks) (fun b u q=>li _ q) (Nat.le_of_eq (TW _ _)) ?_;have ne:s.heap.objs.size≠s.heap.objs.size+1:=xL (Os _);refine ⟨by rw [ah ne,au],At _,ne,e2,fun _=>none,(Heap.Ns1.of_empty e3).at fun o q=>li _ q,fun _=>True.intro,fun y hy=>absurd rfl hy⟩
def QK {prog:Program} {w:World} {env:Env} {e:Expr} {f:Str} {pos:Pos} {s:Shared} {Q:Value->Shared->Prop} (hb:attributeBase e f env (eval e env)=eval e env)
  (h:wpAny (model prog w) A (eval e env) (fun o s₁=>wpAny (model prog w) A (getAttr o f true) Q E s₁) E s):wpAny (model prog w) A (eval (.Attribute e f pos) env) Q E s :=
 Attribute_any_ h (by rw [arm_eval_Attribute,hb])
end
def zM (X:Cx) (op:Operator) (rd:V->V->Hp->VK->Prop):Prop :=
 ∀ (pins:List (Addr×Obj)) (s:Shared) (σ:St) (H:Hp) (x y:V) (u v:Value) (Q:VK),Inv X pins σ H s->RelV x u->RelV y v->rd x y H Q->wpAny (model X.prog X.w) X.A (inplaceOp op u v) (EP X pins σ Q) X.xe s
section
variable {X:Cx} {o e value:Expr} {f:Str} {pos pos' jv:Pos} {ta tv:TE}
def Ez:V->V->Hp->VK->Prop:=fun x y H Q=>∃ i j,x=.int i/\y=.int j/\Q (.int (i+j)) H
def ki:zM X .Add Ez:=by
 rintro pins s σ H x y u v Q I rx ry ⟨i,j,rfl,rfl,q⟩;obtain ⟨t,rfl⟩:=(show ∃ t,u=Value.int i t from rx);obtain ⟨t',rfl⟩:=(show ∃ t',v=Value.int j t' from ry);exact PyProof.Rows.iadd_int ⟨.int (i+j),H,I.tok _,⟨_,rfl⟩,q⟩
end
section
variable {X:Cx} {pins:List (Addr×Obj)} {σ:St} {H:Hp} {s:Shared} {A:Around} {E:Value->Shared->Prop} {Q:Value->Shared->Prop} {c:Value} {b:Bool}
inductive eQ (K:PySem.W.Frag) (H:Hp):V->Value->Prop where
 | aq:eQ K H .aq (.type "NoneType")
 | bl (x:Bool):eQ K H (.bl x) (.type "bool")
 | int (i:Int):eQ K H (.int i) (.type "int")
 | str (x:Str):eQ K H (.str x) (.type "str")
 | l9 (x:UInt64):eQ K H (.l9 x) (.type "float")
 | lst {a:Addr} {xs:List V} (e:H a=some (.lst xs)):eQ K H (.ref a) (.type "list")
 | bG {a:Addr} {o:Obj} {xs:List V} (e:H a=some (.bG o (.lst xs))):eQ K H (.ref a) (.type "list")
 | tup {a:Addr} {xs:List V} (e:H a=some (.tup xs)):eQ K H (.ref a) (.type "tuple")
 | dK {a:Addr} {kvs:List (Key×V)} (e:H a=some (.dK kvs)):eQ K H (.ref a) (.type "dict")
 | dT {a:Addr} {kvs:List (List Key×V)} (e:H a=some (.dT kvs)):eQ K H (.ref a) (.type "dict")
 | ins {a C dx:Addr} {fs:List (Str×V)} (e:H a=some (.ins C dx fs)) (cl:cJ K C) (ha:PySem.W.findIn K (.ref C) "__class__" = some (some (.builtin "object.__class__")))
   (hn:PySem.W.specialIn K (.builtin "object.__class__") "__get__" = some (some (.builtin "getset_descriptor.__get__"))) (eC:PySem.W.takesIn K (.builtin "object.__class__")=some true)
   (hm:PySem.W.mroIn K C (.type "object")=some true):eQ K H (.ref a) (.ref C)
def Bp {x:V} {u t:Value} (I:Inv X pins σ H s) (rx:RelV x u) (ty:eQ X.K H x t) (e:PySem.W.kitOne X.K t c=some b) (h:∀ tk,Q (.bool b) { s with toks:=tk }) :
  wpAny (model X.prog X.w) A (call (.builtin "isinstance") [u,c]) Q E s:=by
 cases ty with
 | aq=>cases (show u=Value.none from rx); exact LT PySem.W.kitx_none I.bW True.intro e (fun z=>nomatch z) h
 | bl y=>cases (show u=Value.bool y from rx); exact LT PySem.W.kitx_bool I.bW True.intro e (fun z=>nomatch z) h
 | int i=>obtain ⟨t,q⟩:=(show ∃ t,u=Value.int i t from rx); cases q; exact LT PySem.W.kitx_int I.bW True.intro e (fun z=>nomatch z) h
 | str y=>obtain ⟨t,q⟩:=(show ∃ t,u=Value.str y t from rx); cases q; exact LT PySem.W.kitx_str I.bW True.intro e (fun z=>nomatch z) h
 | l9 y=>obtain ⟨t,q⟩:=(show ∃ t,u=Value.float y t from rx); cases q; exact LT PySem.W.kitx_float I.bW True.intro e (fun z=>nomatch z) h
 | @lst a xs ea =>
  cases (show u=Value.ref a from rx);obtain ⟨_,_,n,_,h1⟩:=(show bN X.prog X.w H s.heap a (.lst xs) from I.aB a _ ea);exact LT PySem.W.kitx_list I.bW ⟨_,h1,rfl⟩ e (fun z=>nomatch z) h
 | @bG a ob xs ea =>
  cases (show u=Value.ref a from rx);obtain ⟨_,_,_,n,_,h1⟩:=(show bN X.prog X.w H s.heap a (.bG ob (.lst xs)) from I.aB a _ ea);exact LT PySem.W.kitx_list I.bW ⟨_,h1,rfl⟩ e (fun z=>nomatch z) h
 | @tup a xs ea =>
  cases (show u=Value.ref a from rx);obtain ⟨_,_,_,p⟩:=(show bN X.prog X.w H s.heap a (.tup xs) from I.aB a _ ea);obtain ⟨o,h1,h2,_⟩:=p;exact LT PySem.W.kitx_tuple I.bW ⟨o,h1,h2⟩ e (fun z=>nomatch z) h
 | @dK a kvs ea =>
  cases (show u=Value.ref a from rx);obtain ⟨_,_,vs,_,p⟩:=(show bN X.prog X.w H s.heap a (.dK kvs) from I.aB a _ ea);obtain ⟨o,es,ep,h1,h2,_⟩:=p;exact LT PySem.W.kitx_dict I.bW ⟨o,h1,h2.1⟩ e (fun z=>nomatch z) h
 | @dT a kvs ea =>
  cases (show u=Value.ref a from rx);obtain ⟨_,_,xs,_,o,es,ep,h1,h2,_⟩:=(show bN X.prog X.w H s.heap a (.dT kvs) from I.aB a _ ea);exact LT PySem.W.kitx_dict I.bW ⟨o,h1,h2.1⟩ e (fun z=>nomatch z) h
 | @ins a C dx fs ea cl ha hn eC hm =>
  cases (show u=Value.ref a from rx);obtain ⟨mA,O,_⟩:=vj I.aB ea;obtain ⟨od,J,_⟩:=O.look;exact LT (PySem.W.kitx_own (cl.get _) cl.hd ha hn eC hm) I.bW J e (fun z=>nomatch z) h
end
structure bx (k:Nat) (A:Around):Prop where
 hd:A.handled=none
 dp:A.depth+3 * k+5 < recursionLimit
 un:A.units+16 * k+200 < cLine
def bx.mono {j k:Nat} {A:Around} (r:bx k A) (h:j<=k):bx j A:=⟨r.hd,by have:=r.dp; omega,by have:=r.un; omega⟩
def bx.deeper {k:Nat} {A:Around} (r:bx (k+1) A) (env:Env):bx k (A.deeper env) :=
 ⟨r.hd,by have:=r.dp; show A.depth+1+3 * k+5 < _; omega,by have:=r.un; show A.units+3+16 * k+200 < _; omega⟩
def VL {A:Around} {C:Addr} {us:List Value} {kw:List (Str×Value)}:(A.under (.builtin "type.__call__" ⟨.ref C::us,kw⟩)).depth=A.depth+1:=by
 first | rfl | simp [Around.under,Code.weight,Code.isCreation,Code.isGuard,Code.isCaller,Code.frames,Code.isFrame,guardIds]
def Rm {A:Around} {C:Addr} {us:List Value} {kw:List (Str×Value)}:(A.under (.builtin "type.__call__" ⟨.ref C::us,kw⟩)).units=A.units+1:=by
 first | rfl | simp [Around.under,Code.cUnits,Code.frames,Code.isFrame]
def bx.make {k:Nat} {A:Around} (r:bx (k+1) A) (C:Addr) (us:List Value) (kw:List (Str×Value)):bx k (A.under (.builtin "type.__call__" ⟨.ref C::us,kw⟩)) :=
 ⟨r.hd,by have:=r.dp; rw [VL]; omega,by have:=r.un; rw [Rm]; omega⟩
def bx.depth {k:Nat} {A:Around} (r:bx k A):A.depth < recursionLimit:=by have:=r.dp; omega
def bx.units {k:Nat} {A:Around} (r:bx k A):A.units+64 < cLine:=by have:=r.un; omega
def bx.oY {k:Nat} {A:Around} (r:bx k A):A.units < cLine:=by have:=r.un; omega
def iC:TA:=fun _ H Q=>Q [] H
def i9 (ta:TE) (tr:TA):TA:=fun σ H Q=>ta σ H fun x H1=>tr σ H1 fun xs H2=>Q (x::xs) H2
section
variable {X:Cx} {e:Expr} {es:List Expr} {te:TE} {t:TA} {pos:Pos}
def W4:PA X [] iC:=fun _ _ _ _ H Q I h=>ZQ ⟨[],H,I,.nil,h⟩
def TK (ha:PE X e te) (hr:PA X es t) (hs:starEach (e::es) X.env=(false,eval e X.env)::starEach es X.env:=by rfl):PA X (e::es) (i9 te t):=by
 intro pos pins s σ H Q I h;rw [hs];show wpAny _ _ (spliced ((false,eval e X.env)::backTo pos (starEach es X.env))) _ _ s;refine ZE (aF (ha pins s σ H _ I h) fun u s1 ⟨x,H1,I1,r1,q1⟩=>?_);exact aF (hr pos pins s1 σ H1 _ I1 q1) fun us s2 ⟨xs,H2,I2,r2,q2⟩=>⟨x::xs,H2,I2,.cons r1 r2,q2⟩
def uk (t:TA):TE:=fun σ H Q=>t σ H fun xs H1=>xs.length<=sizeLine/\∀ p,H1 p=none->Q (.ref p) (upd H1 p (.tup xs))
def zt (t:TA):TE:=fun σ H Q=>t σ H fun xs H1=>xs.length<=sizeLine/\∀ p,H1 p=none->Q (.ref p) (upd H1 p (.lst xs))
def PM {x1} (h:PA X es t):PE X (.Tuple es x1 pos) (uk t):=by
 intro pins s σ H Q I hq;refine wpAny_Tuple_spliced (aF (h pos pins s σ H _ I hq) fun us s1 ⟨xs,H1,I1,r,z,q⟩=>⟨by rw [<- r.length]; exact z,?_⟩);have hf:H1 s1.heap.objs.size=none:=I1.aB.fresh (sB _);refine ⟨.ref s1.heap.objs.size,upd H1 s1.heap.objs.size (.tup xs),I1.laid (t':=s1.toks) (fun b u e=>li _ e) (sB _) ?_,rfl,q _ hf⟩;exact ⟨z,us,r,⟨_,wn _ rfl,rfl,_,rfl,rfl⟩⟩
def Xi (h:PA X es t):PE X (.List es pos) (zt t):=by
 intro pins s σ H Q I hq;refine wpAny_List_spliced (aF (h pos pins s σ H _ I hq) fun us s1 ⟨xs,H1,I1,r,z,q⟩=>⟨by rw [<- r.length]; exact z,?_⟩);have hf:H1 s1.heap.objs.size=none:=I1.aB.fresh (sB _);refine ⟨.ref s1.heap.objs.size,upd H1 s1.heap.objs.size (.lst xs),I1.laid (t':=s1.toks) (fun b u e=>li _ e) (sB _) ?_,rfl,q _ hf⟩;exact ⟨z,us,0,r,wn _ rfl⟩
end
abbrev Sp:=List V->Hp->VK->XK->Prop
abbrev dD:=List Env->Hp->Shared->XK->Value->Shared->Prop
structure kz (P:Program) (w:World) (K:PySem.W.Frag) (mg:Str->Option Value) (base:Heap) (A:Around) (outer:List Env) (s:Shared) (H:Hp):Prop where
 frames:A.frames=some outer
 mod:Mod K mg base
 bs:∀ b o,base.get? b=some o->s.heap.get? b=some o/\H b=none
 jI:base.objs.size<=s.heap.objs.size
 gL:s.heap.FunFrames base outer
 lE:∀ b∈bM outer,H b=none
 aB:bY P w H s.heap
 bare:AllBare s.gens
def CE (outer:List Env) (P:Program) (w:World) (H:Hp) (s:Shared) (Q:VK) (u:Value) (s':Shared):Prop :=
 ∃ v H',s'.os=s.os/\AllBare s'.gens/\Un (bM outer) [] H H' s.heap s'.heap/\bY P w H' s'.heap/\RelV v u/\Q v H'
def CR (CX:dD) (outer:List Env) (P:Program) (w:World) (H:Hp) (s:Shared) (Q:VK) (E:XK) (r:Result) (s':Shared):Prop :=
 match r with
 | .ok (.ret u)=>CE outer P w H s Q u s'
 | .ok _=>False
 | .error e=>CX outer H s E e s'
structure aC (P:Program) (w:World) (K:PySem.W.Frag) (mg:Str->Option Value) (base:Heap) (CX:dD) (k:Nat) (f:Addr) (fd:FuncData) (ps:List Str) (sp:Sp):Prop where
 len:∀ vs H Q E,sp vs H Q E->vs.length=ps.length
 run:∀ (A:Around) (outer:List Env) (s:Shared) (H:Hp) (args:Args) (us:List Value) (vs:List V) (Q:VK) (E:XK),bx k A->kz P w K mg base A outer s H->BindsTo s fd args (ps.zip us)->Vals vs us->sp vs H Q E ->
  codeAny (model P w) A (.call (.ref f) args) (CR CX outer P w H s Q E) s
def kz.make {P:Program} {w:World} {K:PySem.W.Frag} {mg:Str->Option Value} {base:Heap} {A:Around} {outer:List Env} {s:Shared} {H:Hp} (e:kz P w K mg base A outer s H) (C:Addr) (us:List Value) (kw:List (Str×Value)) :
  kz P w K mg base (A.under (.builtin "type.__call__" ⟨.ref C::us,kw⟩)) outer s H:=⟨by first | exact e.frames | (simpa [Around.under,Code.envs,Code.isFrame,pushEnvs] using e.frames),e.mod,e.bs,e.jI,e.gL,e.lE,e.aB,e.bare⟩
section
variable {X:Cx} {pins:List (Addr×Obj)} {σ:St} {H:Hp} {s s':Shared}
def Inv.qA (I:Inv X pins σ H s):kz X.prog X.w X.K X.mg X.base X.A X.stack s H :=
 ⟨I.ok.frames,I.ok.mod,I.bs,wE I.ok.jI I.sz,I.stack,I.u4,I.aB,I.bare⟩
def Inv.after {Q:VK} {u:Value} (I:Inv X pins σ H s) (h:CE X.stack X.prog X.w H s Q u s'):EP X pins σ Q u s':=by
 obtain ⟨v,H',os,bare,un,aB,r,q⟩:=h;obtain ⟨hh,g,d,t,os'⟩:=s';obtain rfl:os'=s.os:=os;exact ⟨v,H',I.call (h':=hh) (g':=g) (d':=d) (t':=t) (ch:=[]) un aB bare (fun b z=>absurd z (by simp)),r,q⟩
end
def uT (sp:Sp) (bj:List V) (E:XK) (t:TA):TE:=fun σ H Q=>t σ H fun vs H1=>sp (vs++bj) H1 Q E
inductive MI (C:Addr) (m:Str) (x:V) (H:Hp) (q:Prop):Prop
 | mk:∀ a dx fs,x=.ref a->H a=some (.ins C dx fs)->fs.lookup m=none->q->MI C m x H q
def rm (C:Addr) (m:Str) (sp:Sp) (bj:List V) (E:XK) (ta:TE) (t:TA):TE:=fun σ H Q=>ta σ H fun x H1=>MI C m x H1 (t σ H1 fun vs H2=>sp (x::(vs++bj)) H2 Q E)
def pS (C:Addr) (sp:Sp) (bj:List V) (E:XK) (t:TA):TE:=fun σ H Q=>t σ H fun vs H1=>∀ x dx,H1 x=none->H1 dx=none->dx≠x ->
 sp (.ref x::(vs++bj)) (upd (upd H1 dx (.own x)) x (.ins C dx [])) (fun v H2=>v=.aq/\Q (.ref x) H2) E
def Binds (K:PySem.W.Frag) (fd:FuncData) (ps:List Str) (ds:List Value):Prop :=
 ∀ (s:Shared) (us:List Value),K.In s.heap->(us++ds).length=ps.length->BindsTo s fd ⟨us,[]⟩ (ps.zip (us++ds))
def Binds.all {K:PySem.W.Frag} {fd:FuncData} {ps:List Str} (h:∀ us:List Value,us.length=ps.length->bindArgs fd ⟨us,[]⟩=pure (ps.zip us)):Binds K fd ps []:=fun s us _ hl=>by
 rw [_t] at hl ⊢;exact .of_eq (h us hl)
def Passes (CX:dD) (X:Cx) (E:XK):Prop:=∀ (pins:List (Addr×Obj)) (σ:St) (H:Hp) (s:Shared) (e:Value) (s':Shared),Inv X pins σ H s->CX X.stack H s E e s'->X.xe e s'
section
variable {X:Cx} {CX:dD} {k:Nat} {f C:Addr} {fd:FuncData} {ps:List Str} {sp:Sp} {bj:List V} {ds:List Value} {E:XK} {x m:Str} {p pos apos:Pos} {e o:Expr} {es:List Expr} {ta:TE} {t:TA}
def zi {pins:List (Addr×Obj)} {σ:St} {H:Hp} {s:Shared} {Q:VK} {us:List Value} {vs:List V} (F:aC X.prog X.w X.K X.mg X.base CX k f fd ps sp) (hr:bx k X.A) (hb:Binds X.K fd ps ds) (hd:Vals bj ds) (hx:Passes CX X E)
  (I:Inv X pins σ H s) (r:Vals vs us) (h:sp (vs++bj) H Q E):wpAny (model X.prog X.w) X.A (call (.ref f) us) (EP X pins σ Q) X.xe s:=by
 have r2:Vals (vs++bj) (us++ds):=r.append hd;have hl:(us++ds).length=ps.length:=by rw [<- r2.length]; exact F.len _ _ _ _ h
 refine ZF (_e (F.run X.A X.stack s H ⟨us,[]⟩ (us++ds) (vs++bj) Q E hr I.qA (hb s us I.bW hl) r2 h) fun r s' hq=>?_);cases r with
 | error e=>exact hx pins σ H s e s' I hq
 | ok fl =>
  cases fl with
  | ret u=>exact I.after hq
  | next=>exact False.elim hq
  | brk=>exact False.elim hq
  | cont=>exact False.elim hq
def SU (F:aC X.prog X.w X.K X.mg X.base CX k f fd ps sp) (hr:bx k X.A) (hg:Gl X x) (hm:X.mg x=some (.ref f)) (hk:PySem.W.keepIn X.K (.ref f)=true) (hb:Binds X.K fd ps ds) (hd:Vals bj ds) (hx:Passes CX X E)
  (ha:PA X (e::es) t) (bP:(x == ("__debug__" : Str))=false:=by decide) (he:starEach (e::es) X.env=(false,eval e X.env)::starEach es X.env:=by rfl) (bw:(backTo pos (starEach es X.env)).any (·.1)=false:=by rfl) :
  PE X (.Call (.Name x p) (e::es) [] pos) (uT sp bj E t):=by
 intro pins s σ H Q I h;refine KB (kJ I hg hm ?_ bP);refine Zq (h₀:=X.base) I.ok.mod.ir hk (aF (ha pos pins s σ H _ I h) fun us s1 ⟨vs,H1,I1,r,q⟩=>⟨I1.bW,?_⟩) he bw;exact zi F hr hb hd hx I1 r q
def Rp {pl:Sem Bool} (he:PE X o ta) (c:cJ X.K C) (hm:Meth X.K C m f) (F:aC X.prog X.w X.K X.mg X.base CX k f fd ps sp) (hr:bx k X.A) (hb:Binds X.K fd ps ds) (hd:Vals bj ds) (hx:Passes CX X E) (ha:PA X (e::es) t)
  (aO:starEach (e::es) X.env=(false,eval e X.env)::starEach es X.env:=by rfl) (bw:(backTo pos (starEach es X.env)).any (·.1)=false:=by rfl)
  (ht:eval (.Call (.Attribute o m apos) (e::es) [] pos) X.env=(do
   let ov <- eval o X.env
   standAt apos.atName
   let (f,first) <- holding [ov] (getMethod ov m pl)
   callWith pos f first (backTo pos (starEach (e::es) X.env)) (backToKw pos (keywordEach [] X.env))):=by rfl) :
  PE X (.Call (.Attribute o m apos) (e::es) [] pos) (rm C m sp bj E ta t):=by
 intro pins s σ H Q I h;refine _l (pl:=pl) (aF (he pins s σ H _ I h) fun u s1 ⟨x,H1,I1,rx,a,dx,fs,ex,ea,l,q⟩=>?_) ht;subst ex;obtain rfl:u=Value.ref a:=rx;refine z8 I1 ea c hm l ?_;refine Zq (first:=[.ref a]) (h₀:=X.base) I.ok.mod.ir hm.kp (aF (ha pos pins s1 σ H1 _ I1 q) fun us s2 ⟨vs,H2,I2,r,q2⟩=>⟨I2.bW,?_⟩) aO bw;exact zi (us:=.ref a::us) (vs:=.ref a::vs) F hr hb hd hx I2 (.cons rfl r) q2
def Xk {pl:Sem Bool} (he:PE X o ta) (c:cJ X.K C) (hm:Meth X.K C m f) (F:aC X.prog X.w X.K X.mg X.base CX k f fd ps sp) (hr:bx k X.A) (hb:Binds X.K fd ps ds) (hd:Vals bj ds) (hx:Passes CX X E)
  (ht:eval (.Call (.Attribute o m apos) [] [] pos) X.env=(do
   let ov <- eval o X.env
   standAt apos.atName
   let (f,first) <- holding [ov] (getMethod ov m pl)
   callWith pos f first (backTo pos (starEach [] X.env)) (backToKw pos (keywordEach [] X.env))):=by rfl) :
  PE X (.Call (.Attribute o m apos) [] [] pos) (rm C m sp bj E ta iC):=by
 intro pins s σ H Q I h;refine _l (pl:=pl) (aF (he pins s σ H _ I h) fun u s1 ⟨x,H1,I1,rx,a,dx,fs,ex,ea,l,q⟩=>?_) ht;subst ex;obtain rfl:u=Value.ref a:=rx;refine z8 I1 ea c hm l ?_;exact PySem.W.callWith_K0 (first:=[.ref a]) I1.bW hm.kp (zi (us:=[.ref a]) (vs:=[.ref a]) F hr hb hd hx I1 (.cons rfl .nil) q)
structure Mk (K:PySem.W.Frag) (C f:Addr):Prop where
 makes:PySem.W.makesIn K C=true
 init:PySem.W.findIn K (.ref C) "__init__" = some (some (.ref f))
 fn:PySem.W.isFn K (.ref f)=true
 kp:PySem.W.keepIn K (.ref C)=true
def EM {pins:List (Addr×Obj)} {σ:St} {H:Hp} {s:Shared} {Q:VK} {us:List Value} {vs:List V} (M:Mk X.K C f) (F:aC X.prog X.w X.K X.mg X.base CX k f fd ps sp) (hr:bx (k+1) X.A) (hb:Binds X.K fd ps ds) (hd:Vals bj ds)
  (hx:Passes CX X E) (I:Inv X pins σ H s) (r:Vals vs us)
  (h:∀ x dx,H x=none->H dx=none->dx≠x->sp (.ref x::(vs++bj)) (upd (upd H dx (.own x)) x (.ins C dx [])) (fun v H2=>v=.aq/\Q (.ref x) H2) E) :
  wpAny (model X.prog X.w) X.A (call (.ref C) us) (EP X pins σ Q) X.xe s:=by
 have hq:=h (s.heap.objs.size+1) s.heap.objs.size (I.aB.fresh (ZW _)) (I.aB.fresh (sB _)) (xL (Os _));have I2:=Inv.made (C:=C) I;have r2:Vals (V.ref (s.heap.objs.size+1)::(vs++bj)) (Value.ref (s.heap.objs.size+1)::(us++ds)):=.cons rfl (r.append hd);have hl:(Value.ref (s.heap.objs.size+1)::us++ds).length=ps.length:=by
  have e:=r2.length;rw [F.len _ _ _ _ hq] at e;exact e.symm
 refine ZF (WG (f:=f) I.bW M.makes M.init (Zp.mp M.fn) (_e (F.run _ X.stack _ _ ⟨Value.ref (s.heap.objs.size+1)::us,[]⟩ (Value.ref (s.heap.objs.size+1)::(us++ds)) _ _ E (hr.make C us [])
  (I2.qA.make C us []) (hb _ (Value.ref (s.heap.objs.size+1)::us) I2.bW hl) r2 hq) fun r s' hq'=>?_))
 cases r with
 | error e=>exact hx pins σ _ _ e s' I2 hq'
 | ok fl =>
  cases fl with
  | ret u =>
   obtain ⟨v,H',I3,rv,ev,q3⟩:=I2.after hq';subst ev;exact ⟨rv,⟨V.ref (s.heap.objs.size+1),H',I3,rfl,q3⟩⟩
  | next=>exact False.elim hq'
  | brk=>exact False.elim hq'
  | cont=>exact False.elim hq'
def Td (M:Mk X.K C f) (F:aC X.prog X.w X.K X.mg X.base CX k f fd ps sp) (hr:bx (k+1) X.A) (hg:Gl X x) (hm:X.mg x=some (.ref C)) (hb:Binds X.K fd ps ds) (hd:Vals bj ds) (hx:Passes CX X E)
  (ha:PA X (e::es) t) (bP:(x == ("__debug__" : Str))=false:=by decide) (he:starEach (e::es) X.env=(false,eval e X.env)::starEach es X.env:=by rfl) (bw:(backTo pos (starEach es X.env)).any (·.1)=false:=by rfl) :
  PE X (.Call (.Name x p) (e::es) [] pos) (pS C sp bj E t):=by
 intro pins s σ H Q I h;refine KB (kJ I hg hm ?_ bP);refine Zq (h₀:=X.base) I.ok.mod.ir M.kp (aF (ha pos pins s σ H _ I h) fun us s1 ⟨vs,H1,I1,r,q⟩=>⟨I1.bW,?_⟩) he bw;exact EM M F hr hb hd hx I1 r q
def Qg (M:Mk X.K C f) (F:aC X.prog X.w X.K X.mg X.base CX k f fd ps sp) (hr:bx (k+1) X.A) (hg:Gl X x) (hm:X.mg x=some (.ref C)) (hb:Binds X.K fd ps ds) (hd:Vals bj ds) (hx:Passes CX X E)
  (bP:(x == ("__debug__" : Str))=false:=by decide):PE X (.Call (.Name x p) [] [] pos) (pS C sp bj E iC):=by
 intro pins s σ H Q I h;refine KB (kJ I hg hm ?_ bP);exact PySem.W.callWith_K0 I.bW M.kp (EM (us:=[]) M F hr hb hd hx I .nil h)
end
def PK (X:Cx) (jn:List Keyword) (t:TA):Prop :=
 ∀ (pos:Pos) (pins:List (Addr×Obj)) (s:Shared) (σ:St) (H:Hp) (Q:List V->Hp->Prop),Inv X pins σ H s->t σ H Q->wpAny (model X.prog X.w) X.A (evalAll ((backToKw pos (keywordEach jn X.env)).map (·.2))) (AP X pins σ Q) X.xe s
section
variable {X:Cx} {CX:dD} {k:Nat} {f C:Addr} {fd:FuncData} {ps ks:List Str} {sp:Sp} {E:XK} {x m:Str} {p pos apos mQ:Pos} {e o:Expr} {es:List Expr} {jn:List Keyword} {te ta:TE} {t tk:TA} {nm:Option Str}
def Fz:PK X [] iC:=fun _ _ _ _ H Q I h=>wpAny_evalAll_nil ⟨[],H,I,.nil,h⟩
def B7 (ha:PE X e te) (hr:PK X jn t):PK X (⟨nm,e,mQ⟩::jn) (i9 te t):=by
 intro pos pins s σ H Q I h;show wpAny _ _ (evalAll ((do let v <- eval e X.env; standAt pos; pure v)::(backToKw pos (keywordEach jn X.env)).map (·.2))) _ _ s;refine wpAny_evalAll_cons (kt (aF (ha pins s σ H _ I h) fun u s1 ⟨x,H1,I1,r1,q1⟩=>kt (ZN (sK ?_))));exact aF (hr pos pins s1 σ H1 _ I1 q1) fun us s2 ⟨xs,H2,I2,r2,q2⟩=>⟨x::xs,H2,I2,.cons r1 r2,q2⟩
structure nO (K:PySem.W.Frag) (fd:FuncData) (ps ks:List Str) (g:List Value->List Value->List Value) (gV:List V->List V->List V):Prop where
 to:∀ (s:Shared) (us ws:List Value),K.In s.heap->(g us ws).length=ps.length->BindsTo s fd ⟨us,ks.zip ws⟩ (ps.zip (g us ws))
 rel:∀ {vs:List V} {us:List Value} {zs:List V} {ws:List Value},Vals vs us->Vals zs ws->Vals (gV vs zs) (g us ws)
def vY (sp:Sp) (gV:List V->List V->List V) (E:XK) (t tk:TA):TE:=fun σ H Q=>t σ H fun vs H1=>tk σ H1 fun zs H2=>sp (gV vs zs) H2 Q E
variable {g:List Value->List Value->List Value} {gV:List V->List V->List V}
def Oq {pins:List (Addr×Obj)} {σ:St} {H:Hp} {s:Shared} {Q:VK} {us ws:List Value} {vs zs:List V} (F:aC X.prog X.w X.K X.mg X.base CX k f fd ps sp) (hr:bx k X.A) (hb:nO X.K fd ps ks g gV) (hx:Passes CX X E)
  (I:Inv X pins σ H s) (r:Vals vs us) (rz:Vals zs ws) (h:sp (gV vs zs) H Q E):wpAny (model X.prog X.w) X.A (call (.ref f) us (ks.zip ws)) (EP X pins σ Q) X.xe s:=by
 have r2:=hb.rel r rz;have hl:(g us ws).length=ps.length:=by rw [<- r2.length]; exact F.len _ _ _ _ h
 refine ZF (_e (F.run X.A X.stack s H ⟨us,ks.zip ws⟩ (g us ws) (gV vs zs) Q E hr I.qA (hb.to s us ws I.bW hl) r2 h) fun r s' hq=>?_);cases r with
 | error e=>exact hx pins σ H s e s' I hq
 | ok fl =>
  cases fl with
  | ret u=>exact I.after hq
  | next=>exact False.elim hq
  | brk=>exact False.elim hq
  | cont=>exact False.elim hq
def Gr (F:aC X.prog X.w X.K X.mg X.base CX k f fd ps sp) (hr:bx k X.A) (hg:Gl X x) (hm:X.mg x=some (.ref f)) (hk:PySem.W.keepIn X.K (.ref f)=true) (hb:nO X.K fd ps ks g gV) (hx:Passes CX X E)
  (ha:PA X (e::es) t) (tE:PK X jn tk) (kY:(backToKw pos (keywordEach jn X.env)).all (·.1.isSome)=true:=by rfl) (tK:(backToKw pos (keywordEach jn X.env)).filterMap (·.1)=ks:=by rfl)
  (bP:(x == ("__debug__" : Str))=false:=by decide) (he:starEach (e::es) X.env=(false,eval e X.env)::starEach es X.env:=by rfl)
  (bw:((backTo pos (starEach (e::es) X.env)).any (·.1) || (backToKw pos (keywordEach jn X.env)).any (·.1.isNone))=false:=by rfl) :
  PE X (.Call (.Name x p) (e::es) jn pos) (vY sp gV E t tk):=by
 intro pins s σ H Q I h;refine KB (kJ I hg hm ?_ bP);refine PySem.W.callWith_KW (h₀:=X.base) I.ok.mod.ir hk kY (aF (ha pos pins s σ H _ I h) fun us s1 ⟨vs,H1,I1,r,q⟩=>?_) bw he;refine aF (tE pos pins s1 σ H1 _ I1 q) fun ws s2 ⟨zs,H2,I2,rz,q2⟩=>⟨I2.bW,?_⟩;rw [tK];exact Oq F hr hb hx I2 r rz q2
end
structure aG (N P:List Str) (sc:Scope):Prop where
 kind:sc.kind=.function
 co:sc.isCoroutine=false
 gen:sc.isGenerator=false
 nd:N.Nodup
 pre:N.take P.length=P
 par:∀ x∈P,sc.names.lookup x=some .local\/sc.names.lookup x=some .cell
 Sv:∀ y∈sc.names,y.2≠.free
def GV {kindOf:Str->Option NameKind} {x:Str}:∀ {binds:List (Str×Value)} {m:Str->Option Value},(∀ v,(x,v) ∉ binds)->bindL kindOf binds m x=m x
 | [],_,_=>rfl
 | (n,v)::r,m,h=>by
  unfold bindL;rw [GV fun w hw=>h w (Ev _ hw)];split
  ·have:x≠n:=by rintro rfl; exact h v ZD
   simp [this]
  ·rfl
def Fw {kindOf:Str->Option NameKind} {x:Str}:∀ {binds:List (Str×Value)} {m:Str->Option Value},(∀ v,(x,v) ∉ binds)->bindC kindOf binds m x=m x
 | [],_,_=>rfl
 | (n,v)::r,m,h=>by
  unfold bindC;rw [Fw fun w hw=>h w (Ev _ hw)];split
  ·rfl
  ·have:x≠n:=by rintro rfl; exact h v ZD
   simp [this]
def GI {kindOf:Str->Option NameKind} {x:Str} {v:Value}:∀ {P:List Str} {vs:List Value} {i:Nat} {m:Str->Option Value},P.Nodup->P[i]?=some x->vs[i]?=some v->kindOf x=some .local ->
  bindL kindOf (P.zip vs) m x=some v
 | [],_,_,_,_,h,_,_=>by simp at h
 | _::_,[],_,_,_,_,h,_=>by simp at h
 | p::P,w::vs,0,m,nd,h1,h2,hk=>by
  simp at h1 h2; subst h1; subst h2;show bindL kindOf ((p,w)::P.zip vs) m p=_;unfold bindL;rw [GV fun v hv=>(Ix.mp nd).1 (List.of_mem_zip hv).1,Db hk];simp
 | p::P,w::vs,i+1,m,nd,h1,h2,hk=>by
  show bindL kindOf ((p,w)::P.zip vs) m x=_;unfold bindL;exact GI (i:=i) (Ix.mp nd).2 (by simpa using h1) (by simpa using h2) hk
def Gh {kindOf:Str->Option NameKind} {x:Str} {v:Value}:∀ {P:List Str} {vs:List Value} {i:Nat} {m:Str->Option Value},P.Nodup->P[i]?=some x->vs[i]?=some v->kindOf x≠some .local ->
  bindC kindOf (P.zip vs) m x=some v
 | [],_,_,_,_,h,_,_=>by simp at h
 | _::_,[],_,_,_,_,h,_=>by simp at h
 | p::P,w::vs,0,m,nd,h1,h2,hk=>by
  simp at h1 h2; subst h1; subst h2;show bindC kindOf ((p,w)::P.zip vs) m p=_;unfold bindC;rw [Fw fun v hv=>(Ix.mp nd).1 (List.of_mem_zip hv).1,Ch hk];simp
 | p::P,w::vs,i+1,m,nd,h1,h2,hk=>by
  show bindC kindOf ((p,w)::P.zip vs) m x=_;unfold bindC;exact Gh (i:=i) (Ix.mp nd).2 (by simpa using h1) (by simpa using h2) hk
def start (N:List Str) (vs:List V):St:=vs.map some++List.replicate (N.length - vs.length) none
def fh (CX:dD) (P:Program) (w:World) (K:PySem.W.Frag) (mg:Str->Option Value) (base:Heap) (N:List Str) (qual:Str) (scope:Scope) (f:Addr) (cd:Value) (A:Around) (outer:List Env) (s:Shared) (H:Hp) (E:XK):Cx where
 prog:=P
 w:=w
 K:=K
 mg:=mg
 base:=base
 A:=A.deeper (envOfC qual scope s.heap.objs.size f cd)
 N:=N
 s₀:=s
 H₀:=H
 env:=envOfC qual scope s.heap.objs.size f cd
 outer:=outer
 stack:=envOfC qual scope s.heap.objs.size f cd::outer
 ex:=[]
 calm:=true
 fn:=fun _=>true
 pn:=[]
 xe:=fun e s'=>wpAny (model P w) (A.deeper (envOfC qual scope s.heap.objs.size f cd)) (leaving (envOfC qual scope s.heap.objs.size f cd) e) (fun _ s''=>CX outer H s E e s'') (fun e' s''=>CX outer H s E e' s'') s'
def Ep {sc:Scope} {n:Nat} {x:Str} (h:sc.names.lookup x=some .cell):∃ c,(cellsFrom n sc.names []).lookup x=some c:=by
 have q:=PySem.W.cellsFrom_some sc.names n [] (.inl h);exact Option.isSome_iff_exists.mp q
def SE {CX:dD} {P:Program} {w:World} {K:PySem.W.Frag} {mg:Str->Option Value} {base:Heap} {N ps:List Str} {qual:Str} {scope:Scope} {f:Addr} {cd:Value} {A:Around} {outer:List Env} {s s1:Shared} {H:Hp} {E:XK} {us:List Value} {vs:List V}
  (S:aG N ps scope) (hd:A.handled=none) (e0:kz P w K mg base A outer s H) (hl:vs.length=ps.length) (r:Vals vs us)
  (x:InCallC s s.heap.objs.size (bindL (envOfC qual scope s.heap.objs.size f cd).kindOf (ps.zip us) fun _=>none) (cellsFrom (s.heap.objs.size+1) scope.names []) (bindC (envOfC qual scope s.heap.objs.size f cd).kindOf (ps.zip us) fun _=>none) s1) :
  Inv (fh CX P w K mg base N qual scope f cd A outer s H E) [] (start N vs) H s1:=by
 have bw:ps.length<=N.length:=by have:=Tm List.length S.pre; rw [ZA] at this; omega
 obtain ⟨h1,tk,rfl,hk⟩:=x.done;have tZ:∀ b:Addr,b ∉ (fh CX P w K mg base N qual scope f cd A outer s H E).ex:=fun b z=>absurd (show b∈([]:List Addr) from z) (by simp);refine ⟨⟨e0.mod,S.kind,rfl,rfl,sB _,fun y z c h1 h2=>?_,fun y hy=>?_,fun y c _ h=>?_,fun _=>hd,Around.frames_deeper e0.frames,.inr ⟨rfl,rfl⟩,fun b z=>absurd z (tZ b),e0.bs,e0.jI,fun b _ _=>tZ b,fun b z=>absurd z (tZ b),e0.gL,e0.lE⟩,
  rfl,e0.bare,Un.kept hk,⟨_,x.toInCall.ns,fun i y v h1 h2 h3=>?_⟩,fun y c h=>⟨_,x.cell y c h⟩,e0.aB.fresh (sB _),fun y c h=>?_,fun p hp=>absurd (show p∈([]:List (Addr×Obj)) from hp) (by simp),e0.aB.kept hk,?_⟩
 ·exact name_of_addr x.apart (Rs h1) (Rs h2)
 ·have hy:scope.names.lookup y=some .cell\/scope.names.lookup y=some .free:=hy;rcases hy with hy | hy
  ·exact Ep hy
  ·exact absurd rfl (S.Sv _ (Rs hy))
 ·exact Nat.le_of_lt (x.above y c (Rs h))
 ·have hi:i < vs.length:=by
   unfold start at h2;by_cases hi:i < vs.length
   ·exact hi
   ·rw [Fk (by simpa using hi)] at h2;rw [List.getElem?_replicate] at h2;split at h2 <;> cases h2
  have ha:vs[i]?=some v:=by
   unfold start at h2;rw [zn (by simpa using hi),FS] at h2;cases e:vs[i]? with
   | none=>rw [e] at h2; cases h2
   | some a=>rw [e] at h2; cases h2; rfl
  obtain ⟨u,hu,rv⟩:=r.get ha;have hp:ps[i]?=some y:=by
   rw [<- S.pre,List.getElem?_take_of_lt (by omega)]; exact h1
  have Mf:ps.Nodup:=by rw [<- S.pre]; exact S.nd.sublist (List.take_sublist _ _)
  refine ⟨u,rv,?_⟩;rcases S.par y (FB hp) with k | k
  ·exact .inl ⟨k,GI Mf hp hu k⟩
  ·obtain ⟨c,e⟩:=Ep (n:=s.heap.objs.size+1) k;refine .inr ⟨.inl k,c,e,?_⟩;have q:=x.cell y c e;rw [Gh Mf hp hu (by show scope.names.lookup y≠_; rw [k]; decide)] at q;exact q
 ·exact e0.aB.fresh (Nat.le_of_lt (x.above y c (Rs h)))
 ·unfold start;show _=N.length;rw [ww,mo,List.length_replicate];omega
def zT {CX:dD} {P:Program} {w:World} {K:PySem.W.Frag} {mg:Str->Option Value} {base:Heap} {k:Nat} {f:Addr} {name qual:Str} {params:Arguments} {body:List Stmt} {scope:Scope} {dV kV doc pm ax ct oc:Value} {an od:Option Addr}
  {dA:Array (Option Value)} {N ps:List Str} {sp:Sp} (lk:K.lookup f=some ⟨oc,od,.func (PySem.W.fnOf name qual params body scope dV kV doc pm an ax ct),dA⟩) (cT:PySem.W.codeIn K ax qual=true) (S:aG N ps scope)
  (len:∀ vs H Q E,sp vs H Q E->vs.length=ps.length)
  (Dy:∀ (A:Around) (outer:List Env) (s:Shared) (H:Hp) (vs:List V) (Q:VK) (E:XK),bx k (A.deeper (envOfC qual scope s.heap.objs.size f ax))->sp vs H Q E ->
   ∃ t,dQ (fh CX P w K mg base N qual scope f ax A outer s H E) body t/\t { nx:=fun _ H'=>Q .aq H',rt:=Q } (start N vs) H) :
  aC P w K mg base CX (k+1) f (PySem.W.fnOf name qual params body scope dV kV doc pm an ax ct) ps sp:=by
 refine ⟨len,fun A outer s H args us vs Q E hr e0 hb r gY=>?_⟩;have hl:=len _ _ _ _ gY;have KX:K.In s.heap:=e0.mod.ir.keeps fun b o e=>(e0.bs b o e).1;have lim:s.heap.NoLimit:=e0.mod.nolimit.keeps fun b o e=>(e0.bs b o e).1;have hkind:∀ y∈ps.zip us,scope.names.lookup y.1=some .local\/(scope.names.lookup y.1=some .cell/\((cellsFrom (s.heap.objs.size+1) scope.names []).lookup y.1).isSome=true):=fun ⟨n,v⟩ hy=>by
  rcases S.par n (List.of_mem_zip hy).1 with q | q
  ·exact .inl q
  ·exact .inr ⟨q,PySem.W.cellsFrom_some _ _ _ (.inl q)⟩
 refine codeAny_call_function hr.depth (KX _ _ lk) rfl S.co S.gen rfl (PySem.W.codeRec_of KX cT) (hb _ _ _ _ ?_);refine wpAny_newFunctionEnv_cells S.kind hkind fun env he s1 x=>?_;subst he;refine ⟨lim.keeps x.toInCall.keep,codeAny_func ?_⟩;obtain ⟨t,ht,hq⟩:=Dy A outer s H vs Q E (hr.deeper _) gY;have I:Inv (fh CX P w K mg base N qual scope f ax A outer s H E) [] (start N vs) H s1:=SE S hr.hd e0 hl r x;refine Re (ht [] s1 (start N vs) H _ I hq) (fun fl s' hs=>?_) fun e s' hs=>hs;have fin:∀ {σ':St} {H':Hp} {v:V} {u:Value},Inv (fh CX P w K mg base N qual scope f ax A outer s H E) [] σ' H' s'->RelV v u->Q v H'->CE outer P w H s Q u s' :=
  fun {σ' H' v u} J rv q=>⟨v,H',J.os,J.bare,J.base,J.aB,rv,q⟩
 cases fl with
 | ret u =>
  obtain ⟨v,σ',H',J,rv,q⟩:=hs;exact fin J rv q
 | next =>
  obtain ⟨σ',H',J,q⟩:=hs;exact fin (v:=V.aq) (u:=Value.none) J rfl q
 | brk =>
  obtain ⟨_,_,_,q⟩:=hs;exact False.elim q
 | cont =>
  obtain ⟨_,_,_,q⟩:=hs;exact False.elim q
section
variable {X:Cx} {x:Str} {p pos:Pos} {e:Expr} {es:List Expr} {t:TA} {id T:String} {r:List V->Hp->VK->Prop}
def lQ (r:List V->Hp->VK->Prop) (t:TA):TE:=fun σ H Q=>t σ H fun vs H1=>r vs H1 Q
def Xw (hc:cq X (.builtin id) r) (hg:Gl X x) (hm:X.mg x=none) (hv:bootBuiltins x=some (.builtin id)) (ha:PA X (e::es) t) (hn:x ≠ "__name__" := by decide) (bP:(x == ("__debug__" : Str))=false:=by decide)
  (he:starEach (e::es) X.env=(false,eval e X.env)::starEach es X.env:=by rfl) (bw:(backTo pos (starEach es X.env)).any (·.1)=false:=by rfl):PE X (.Call (.Name x p) (e::es) [] pos) (lQ r t):=by
 intro pins s σ H Q I h;refine KB (my I hg hm hv ?_ hn bP);exact PyProof.Rows.callWith_builtin1 (aF (ha pos pins s σ H _ I h) fun us s1 ⟨vs,H1,I1,r1,q1⟩=>hc pins s1 σ H1 vs us Q I1 r1 q1) he bw
def Xb (hc:cq X (.type T) r) (hg:Gl X x) (hm:X.mg x=none) (hv:bootBuiltins x=some (.type T)) (ha:PA X (e::es) t) (hn:x ≠ "__name__" := by decide) (bP:(x == ("__debug__" : Str))=false:=by decide)
  (he:starEach (e::es) X.env=(false,eval e X.env)::starEach es X.env:=by rfl) (bw:(backTo pos (starEach es X.env)).any (·.1)=false:=by rfl):PE X (.Call (.Name x p) (e::es) [] pos) (lQ r t):=by
 intro pins s σ H Q I h;refine KB (my I hg hm hv ?_ hn bP);exact WF (aF (ha pos pins s σ H _ I h) fun us s1 ⟨vs,H1,I1,r1,q1⟩=>hc pins s1 σ H1 vs us Q I1 r1 q1) he bw
end
end L2
namespace HT
open PySem PyProof.Rows
section
open PySem.SeqAt
open PySem.AutoSeq1 (wpAny_loadPart')
open PySem.MeetsSeq PySem.MeetsSeq2 PySem.MeetsSeq3
end
section
variable {prog:Program} {w:World} {A:Around} {E:Value->Shared->Prop} {s:Shared}
def da (n d:Nat):Option Int->Nat
 | none=>d
 | some v=>if v < 0 then (v+(n:Int)).toNat else min v.toNat n
def AJ (n d:Nat):da n d none=d:=rfl
def vC (n d k:Nat):da n d (some (k:Int))=min k n:=by
 show (if (k:Int) < 0 then ((k:Int)+(n:Int)).toNat else min (k:Int).toNat n)=min k n;rw [if_neg (by omega),Int.toNat_natCast]
end
end HT
namespace L2
open PySem PySem.Spec PyProof.Rows
abbrev TO:=St->Hp->(Option Int->Hp->Prop)->Prop
def PO (X:Cx) (e:Option Expr) (t:TO):Prop :=
 ∀ (pins:List (Addr×Obj)) (s:Shared) (σ:St) (H:Hp) (Q:Option Int->Hp->Prop),Inv X pins σ H s->t σ H Q ->
  wpAny (model X.prog X.w) X.A (evalPart e X.env) (fun u s'=>∃ o H',Inv X pins σ H' s'/\IsPart u o/\Q o H') X.xe s
def xU:TO:=fun _ H Q=>Q none H
section
variable {X:Cx} {e:Expr} {te:TE} {lo hi:Option Expr} {tl th:TO} {pos p2:Pos}
def Mz:PO X none xU:=by
 intro pins s σ H Q I h;rw [evalPart_none];exact sK ⟨none,H,I,.none,h⟩
def iX (X:Cx) (r:V->Option Int->Option Int->Hp->VK->Prop):Prop :=
 ∀ (pins:List (Addr×Obj)) (s:Shared) (σ:St) (H:Hp) (x:V) (v vl vu:Value) (lo hi:Option Int) (sl:Addr) (Q:VK),Inv X pins σ H s->RelV x v->s.heap.IsSliceOf sl vl vu .none->IsPart vl lo->IsPart vu hi->r x lo hi H Q ->
  ∃ T id,typeLookup (.type T) "__getitem__" = pure (some (.builtin id))/\s.TypeIs v T/\wpAny (model X.prog X.w) X.A (getItem v (.ref sl)) (EP X pins σ Q) X.xe s
def iX.or {r r':V->Option Int->Option Int->Hp->VK->Prop} (h:iX X r) (h':iX X r'):iX X (fun x lo hi H Q=>r x lo hi H Q\/r' x lo hi H Q):=by
 intro pins s σ H x v vl vu lo hi sl Q I rx hs pl pu q;rcases q with q | q
 ·exact h pins s σ H x v vl vu lo hi sl Q I rx hs pl pu q
 ·exact h' pins s σ H x v vl vu lo hi sl Q I rx hs pl pu q
def Bf (r:V->Option Int->Option Int->Hp->VK->Prop) (te:TE) (tl th:TO):TE:=fun σ H Q=>te σ H fun x H1=>tl σ H1 fun l H2=>th σ H2 fun u H3=>r x l u H3 Q
def VI {r:V->Option Int->Option Int->Hp->VK->Prop} (hr:iX X r) (he:PE X e te) (hl:PO X lo tl) (hu:PO X hi th):PE X (.Subscript e (.Slice lo hi none p2) pos) (Bf r te tl th):=by
 intro pins s σ H Q I h;refine Subscript_ (aF (he pins s σ H _ I h) fun v s1 ⟨x,H1,I1,r1,q1⟩=>?_);refine wpAny_Slice (aF (hl pins s1 σ H1 _ I1 q1) fun vl s2 ⟨l,H2,I2,pl,q2⟩=>aF (hu pins s2 σ H2 _ I2 q2) fun vu s3 ⟨u,H3,I3,pu,q3⟩=>?_);rw [evalPart_none];refine sK ?_;have I4:Inv X pins σ H3 { s3 with heap:=s3.heap.push { cls:=.type "slice",data:=.fields #[vl,vu,.none] } }:=I3.kept (t':=s3.toks) fun b ob q=>li _ q;obtain ⟨T,id,hT,ht,hg⟩:=hr pins { s3 with heap:=s3.heap.push { cls:=.type "slice",data:=.fields #[vl,vu,.none] } } σ H3 x v vl vu l u s3.heap.objs.size Q I4 r1 (Heap.IsSliceOf.new ..) pl pu q3;show wpAny (model X.prog X.w) X.A (subscriptTail e (.Slice lo hi none p2) v (.ref s3.heap.objs.size)) (EP X pins σ Q) X.xe { s3 with heap:=s3.heap.push { cls:=.type "slice",data:=.fields #[vl,vu,.none] } };exact tail_any (ops:=[.ref s3.heap.objs.size,v]) ht hT hg (by with_unfolding_all rfl)
def eV (xs:List V) (lo hi:Option Int):List V:=(xs.drop (HT.da xs.length 0 lo)).take (HT.da xs.length xs.length hi - HT.da xs.length 0 lo)
def Tt (xs:List V) (lo hi:Option Int):(eV xs lo hi).length<=xs.length:=by
 unfold eV;rw [ZA,List.length_drop];omega
end
def fN (n:Nat) (i:Int):Option Nat:=if 0<=i then (if i < n then some i.toNat else none) else if -(n:Int)<=i then some (i+n).toNat else none
def cz {α:Type} (xs:List α) (i:Int):Option α:=(fN xs.length i).bind fun j=>xs[j]?
def HK {n:Nat} {i:Int} {j:Nat} (h:fN n i=some j):seqIndex? i n=some j/\j < n/\-(n:Int)<=i/\i < n:=by
 unfold fN at h;by_cases h0:0<=i
 ·rw [Db h0] at h;by_cases h1:i < n
  ·rw [Db h1] at h;have e:i.toNat=j:=FM h;exact ⟨by rw [seqIndex_of h0 h1,e],by omega,by omega,h1⟩
  ·rw [Ch h1] at h; cases h
 ·rw [Ch h0] at h;by_cases h1:-(n:Int)<=i
  ·rw [Db h1] at h;have e:(i+n).toNat=j:=FM h;exact ⟨by rw [seqIndex_neg (by omega) h1,e],by omega,h1,by omega⟩
  ·rw [Ch h1] at h; cases h
def Bl {α:Type} {xs:List α} {i:Int} {v:α} (h:cz xs i=some v):∃ j,seqIndex? i xs.length=some j/\xs[j]?=some v/\j < xs.length/\-(xs.length:Int)<=i/\i < xs.length:=by
 unfold cz at h;cases e:fN xs.length i with
 | none=>rw [e] at h; cases h
 | some j =>
  rw [e] at h;obtain ⟨h1,h2,h3,h4⟩:=HK e;exact ⟨j,h1,h,h2,h3,h4⟩
def eU {α:Type} {xs:List α} {j:Nat} {v:α} (h:xs[j]?=some v):cz xs (j:Int)=some v:=by
 have hj:j < xs.length:=(lv.mp h).1;have e:fN xs.length (j:Int)=some j:=by
  unfold fN;rw [Db (by omega),Db (by omega)]; simp
 unfold cz; rw [e]; exact h
def pf {α:Type} (xs:List α) (v:α):cz (xs++[v]) (-1)=some v:=by
 have hl:(xs++[v]).length=xs.length+1:=by simp
 have e:fN (xs++[v]).length (-1)=some xs.length:=by
  unfold fN;rw [hl,Ch (by decide),Db (by omega)]
  congr 1
  omega
 unfold cz;rw [e];show (xs++[v])[xs.length]?=some v;simp
def Gm (b:Expr):Prop:=∀ o i,subscripted b false o i=operate [o,i] (getItem o i)
def fo (X:Cx) (r:R2):Prop :=
 ∀ (value slice:Expr) (pins:List (Addr×Obj)) (s:Shared) (σ:St) (H:Hp) (x y:V) (v u:Value) (Q:VK),Inv X pins σ H s->RelV x v->RelV y u->r x y H Q ->
  subscripted slice false v u=operate [v,u] (getItem v u)->wpAny (model X.prog X.w) X.A (subscriptTail value slice v u) (EP X pins σ Q) X.xe s
def dB (X:Cx) (id:String) (r:V->List V->Hp->VK->Prop):Prop :=
 ∀ (pins:List (Addr×Obj)) (s:Shared) (σ:St) (H:Hp) (x:V) (xs:List V) (v:Value) (us:List Value) (Q:VK),Inv X pins σ H s->RelV x v->Vals xs us->r x xs H Q ->
  wpAny (model X.prog X.w) X.A (call (.builtin id) (v::us)) (EP X pins σ Q) X.xe s
section
variable {X:Cx} {a b:Expr} {ta tb:TE} {pos:Pos}
def fo.or {r r':R2} (h:fo X r) (h':fo X r'):fo X (fun x y H Q=>r x y H Q\/r' x y H Q):=by
 intro value slice pins s σ H x y v u Q I rx ry q hs;rcases q with q | q
 ·exact h value slice pins s σ H x y v u Q I rx ry q hs
 ·exact h' value slice pins s σ H x y v u Q I rx ry q hs
def RM {r:R2} (hr:fo X r) (ha:PE X a ta) (hb:PE X b tb) (hs:Gm b):PE X (.Subscript a b pos) (jB r ta tb):=by
 intro pins s σ H Q I h;exact Subscript_ (zS ha hb I h fun v u s2 x y H2 I2 rx ry q=>hr a b pins s2 σ H2 x y v u Q I2 rx ry q (hs _ _))
def JP (K:PySem.W.Frag):R2:=fun x y H Q=>∃ p xs i v,x=.ref p/\y=.int i/\aE K H p xs/\cz xs i=some v/\Q v H
def JA (K:PySem.W.Frag):R2:=fun x y H Q=>∃ p xs i v,x=.ref p/\y=.int i/\bI K H p xs/\cz xs i=some v/\Q v H
def Eo:R2:=fun x y H Q=>∃ z i c,x=.str z/\y=.int i/\z.length<=sizeLine/\cz z.cps.toList i=some c/\Q (.str ⟨#[c]⟩) H
def Yb:fo X (JP X.K):=by
 intro value slice pins s σ H x y v u Q I rx ry h hs;obtain ⟨p,xs,i,z,rfl,rfl,hq,he,q⟩:=h;cases rx;obtain ⟨t,rfl⟩:=ry;obtain ⟨aj,r,pl,hz⟩:=I.list hq;obtain ⟨j,h1,h2,h3,h4,h5⟩:=Bl he;obtain ⟨w,ew,rw'⟩:=r.get h2;have hl:=r.length;have hn:=qH;have fin:EP X pins σ Q w s:=⟨z,H,I,rw',q⟩;by_cases h0:0<=i
 ·have hj:i.toNat=j:=by
   rw [seqIndex_of h0 h5] at h1;exact FM h1
  exact item_listR pl.isList h0 (by omega) (by rw [hj]; simpa using ew) fin hs
 ·have hj:(i+(aj.toArray.size:Int)).toNat=j:=by
   rw [seqIndex_neg (by omega) h4] at h1;rw [tz,<- hl];exact FM h1
  exact subscriptTail_builtinR (x:=w) pl.isList.typeIs slot_list_getitem.lookup
   (wpAny_getItem_list_neg (Q:=fun r s'=>r=w/\EP X pins σ Q r s') pl.isList (by omega) (by rw [tz] <;> omega) (by omega) (by rw [hj]; simpa using ew) ⟨rfl,fin⟩) hs
def Mu:fo X (JA X.K):=by
 intro value slice pins s σ H x y v u Q I rx ry h hs;obtain ⟨p,xs,i,z,rfl,rfl,hq,he,q⟩:=h;cases rx;obtain ⟨t,rfl⟩:=ry;obtain ⟨aj,r,pl,hz⟩:=I.tuple hq;obtain ⟨j,h1,h2,h3,h4,h5⟩:=Bl he;obtain ⟨w,ew,rw'⟩:=r.get h2;have hl:=r.length;have hn:=qH;have fin:EP X pins σ Q w s:=⟨z,H,I,rw',q⟩;exact subscriptTail_builtinR (x:=w) pl.typeIs slot_tuple_getitem.lookup
  (getItem_tuple (j:=j) (Q:=fun r s'=>r=w/\EP X pins σ Q r s') pl (by omega) (by omega) (by rw [tz,<- hl]; exact h1) (by simpa using ew) ⟨rfl,fin⟩) hs
def S4:fo X Eo:=by
 intro value slice pins s σ H x y v u Q I rx ry h hs;obtain ⟨z,i,c,rfl,rfl,hz,he,q⟩:=h;obtain ⟨t,rfl⟩:=rx;obtain ⟨t',rfl⟩:=ry;obtain ⟨j,h1,h2,h3,h4,h5⟩:=Bl he;have hl:z.cps.toList.length=z.length:=by simp [Str.length]
 rw [hl] at h1 h4 h5;have hn:=qH;exact tail_any (ZX s z t) slot_str_getitem.lookup (getItem_str (c:=c) (by
  have e1:decide (i < -(2 ^ 63:Int))=false:=ut (by omega);have e2:decide (i ≥ 2 ^ 63)=false:=ut (by omega);rw [e1,e2,_Q]) (by rw [h1]; simpa using h2) ⟨.str ⟨#[c]⟩,H,I.tok _,⟨_,rfl⟩,q⟩) hs
def UI (K:PySem.W.Frag):R2:=fun x y H Q=>JP K x y H Q\/JA K x y H Q\/Eo x y H Q
def OB:fo X (UI X.K):=Yb.or (Mu.or S4)
def V4 (aj:List Value) (n j:Nat) (u:Value):Obj.mapSeq (·.setIfInBounds j u) { cls:=.type "list",data:=.seq aj.toArray n }={ cls:=.type "list",data:=.seq (aj.set j u).toArray n }:=by
 simp [Obj.mapSeq]
def Inv.lst {pins:List (Addr×Obj)} {σ:St} {H:Hp} {s:Shared} {p:Addr} {xs:List V} (I:Inv X pins σ H s) (h:H p=some (.lst xs)) :
  ∃ (aj:List Value) (n:Nat),Vals xs aj/\s.heap.get? p=some { cls:=.type "list",data:=.seq aj.toArray n }/\xs.length<=sizeLine:=by
 obtain ⟨z,aj,n,r,e⟩:=I.aB p _ h;exact ⟨aj,n,r,e,z⟩
def Inv.RE {pins:List (Addr×Obj)} {σ:St} {H:Hp} {s:Shared} {p:Addr} {xs ys:List V} {aj its':List Value} {n n':Nat} {f:Obj->Obj} (I:Inv X pins σ H s) (h:H p=some (.lst xs))
  (ho:s.heap.get? p=some { cls:=.type "list",data:=.seq aj.toArray n }) (hf:f { cls:=.type "list",data:=.seq aj.toArray n }={ cls:=.type "list",data:=.seq its'.toArray n' }) (r:Vals ys its') (hz:ys.length<=sizeLine) (t:Nat) :
  Inv X pins σ (upd H p (.lst ys)) { s with heap:=s.heap.update p f,toks:=t }:=by
 have e:(s.heap.update p f).get? p=some { cls:=.type "list",data:=.seq its'.toArray n' }:=by
  rw [Ty f ho (by rw [hf] <;> rfl),hf]
 refine I.write (x:=p) (e:=p) (by rw [h]; trivial) (.inl rfl) (fun b u hb q=>(IR _ _ (sw hb)).trans q) ⟨_,e⟩ ?_;exact ⟨hz,its',n',r,e⟩
def Qa:V->V->V->Hp->(Hp->Prop)->Prop:=fun o i v H Q=>∃ p xs k j,o=.ref p/\i=.int k/\H p=some (.lst xs)/\fN xs.length k=some j/\Q (upd H p (.lst (xs.set j v)))
def set_list:vG X Qa:=by
 intro pins s σ H o i v ov iv u Q I ro ri rv h;obtain ⟨p,xs,k,j,rfl,rfl,hp,hj,q⟩:=h;cases ro;obtain ⟨t,rfl⟩:=ri;obtain ⟨aj,n,r,ho,hz⟩:=I.lst hp;obtain ⟨h1,h2,h3,h4⟩:=HK hj;have hl:=r.length;have hn:=qH;have I':Inv X pins σ (upd H p (.lst (xs.set j v))) { s with heap:=s.heap.update p (Obj.mapSeq (·.setIfInBounds j u)) } :=
  I.RE hp ho (V4 aj n j u) (r.set rv j) (by rw [ZJ]; exact hz) s.toks
 by_cases h0:0<=k
 ·have hk:k.toNat=j:=by
   rw [seqIndex_of h0 h4] at h1;exact FM h1
  exact PySem.W.ki_setAt ho h0 (by omega) (by rw [tz,<- hl]; exact h4) (by rw [hk]; exact ⟨_,I',q⟩)
 ·have hk:(k+(aj.toArray.size:Int)).toNat=j:=by
   rw [seqIndex_neg (by omega) h3] at h1;rw [tz,<- hl];exact FM h1
  exact PySem.W.ki_setBack ho (by omega) (by rw [tz,<- hl]; exact h3) (by omega) (by rw [hk]; exact ⟨_,I',q⟩)
def Wn (lo hi:Option Int) (n:Nat):(sliceBounds lo hi none n).1=((HT.da n 0 lo:Nat):Int)/\(sliceBounds lo hi none n).2.1=((HT.da n n hi:Nat):Int)/\(sliceBounds lo hi none n).2.2=1:=by
 refine ⟨?_,?_,rfl⟩
 ·cases lo with
  | none=>simp [sliceBounds,HT.da]
  | some i =>
   simp only [sliceBounds,HT.da,Option.getD_none,show (1:Int) > 0 by decide,if_true];by_cases h:i < 0
   ·simp only [h,if_true] <;> omega
   ·simp only [h,ZB] <;> omega
 ·cases hi with
  | none=>simp [sliceBounds,HT.da]
  | some i =>
   simp only [sliceBounds,HT.da,Option.getD_none,show (1:Int) > 0 by decide,if_true];by_cases h:i < 0
   ·simp only [h,if_true] <;> omega
   ·simp only [h,ZB] <;> omega
def WL (aj:List Value) (lo hi:Option Int):slicePick aj.toArray lo hi none=((aj.drop (HT.da aj.length 0 lo)).take (HT.da aj.length aj.length hi - HT.da aj.length 0 lo)).toArray:=by
 obtain ⟨h1,h2,h3⟩:=Wn lo hi aj.toArray.size;unfold slicePick;rw [h1,h2,h3];simp only [sliceRange_one,pick_run,tz] <;> rfl
def Vb (K:PySem.W.Frag):V->Option Int->Option Int->Hp->VK->Prop:=fun x lo hi H Q=>∃ a xs,x=.ref a/\aE K H a xs/\∀ p,H p=none->Q (.ref p) (upd H p (.lst (eV xs lo hi)))
def Mq:iX X (Vb X.K):=by
 intro pins s σ H x v vl vu lo hi sl Q I rx hs pl pu h;obtain ⟨a,xs,rfl,hx,q⟩:=h;cases rx;obtain ⟨aj,r,ht,hz⟩:=I.list hx;have hlen:=r.length;refine ⟨"list",_,slot_list_getitem.lookup,ht.isList.typeIs,?_⟩;refine wpAny_getItem_list_slice ht.isList hs pl pu .none (by simp) ?_ (by rw [tz] <;> omega);rw [WL,<- hlen];refine ⟨.ref s.heap.objs.size,_,I.laid (t':=s.toks) (o:=.lst (eV xs lo hi)) (fun b ob q=>li _ q) (sB _) ?_,rfl,q _ (I.aB.fresh (sB _))⟩;exact ⟨wE (Tt xs lo hi) hz,_,0,(r.drop (HT.da xs.length 0 lo)).take (HT.da xs.length xs.length hi - HT.da xs.length 0 lo),wn _ rfl⟩
def cM:V->Bool
 | .aq=>true
 | .bl _=>true
 | .int _=>true
 | .str _=>true
 | _=>false
def eT:V->V->Bool
 | .aq,.aq=>true
 | .bl a,.bl b=>a == b
 | .bl a,.int b=>(if a then 1 else 0) == b
 | .int a,.bl b=>a == (if b then 1 else 0)
 | .int a,.int b=>a == b
 | .str a,.str b=>a == b
 | _,_=>false
def xl {A:Around} {s:Shared} {y x:V} {u v:Value} (ry:RelV y u) (rx:RelV x v) (fy:cM y=true) (fx:cM x=true):SeqAt.EqAt A s u v (eT y x):=by
 cases y with
 | aq =>
  cases ry;cases x with
  | aq=>cases rx; exact SeqAt.EqAt.same _
  | bl b=>cases rx; exact SeqAt.EqAt.none_bool b
  | int b=>obtain ⟨t,rfl⟩:=rx; exact SeqAt.EqAt.none_int b t
  | str b=>obtain ⟨t,rfl⟩:=rx; exact SeqAt.EqAt.none_str b t
  | _=>exact absurd (show false=true from fx) wT
 | bl a =>
  cases ry;cases x with
  | aq=>cases rx; exact SeqAt.EqAt.bool_none a
  | bl b=>cases rx; exact SeqAt.EqAt.bool_bool a b
  | int b=>obtain ⟨t,rfl⟩:=rx; exact SeqAt.EqAt.bool_int a b t
  | str b=>obtain ⟨t,rfl⟩:=rx; exact SeqAt.EqAt.bool_str a b t
  | _=>exact absurd (show false=true from fx) wT
 | int a =>
  obtain ⟨t',rfl⟩:=ry;cases x with
  | aq=>cases rx; exact SeqAt.EqAt.int_none a t'
  | bl b=>cases rx; exact SeqAt.EqAt.int_bool a t' b
  | int b=>obtain ⟨t,rfl⟩:=rx; exact SeqAt.EqAt.int_int a t' b t
  | str b=>obtain ⟨t,rfl⟩:=rx; exact SeqAt.EqAt.int_str a t' b t
  | _=>exact absurd (show false=true from fx) wT
 | str a =>
  obtain ⟨t',rfl⟩:=ry;cases x with
  | aq=>cases rx; exact SeqAt.EqAt.str_none a t'
  | bl b=>cases rx; exact SeqAt.EqAt.str_bool a t' b
  | int b=>obtain ⟨t,rfl⟩:=rx; exact SeqAt.EqAt.str_int a t' b t
  | str b=>obtain ⟨t,rfl⟩:=rx; exact SeqAt.EqAt.str_str a t' b t
  | _=>exact absurd (show false=true from fx) wT
 | _=>exact absurd (show false=true from fy) wT
def fC (x:V) (u:Value):Bool:=match u with
 | .none=>eT .aq x
 | .bool b=>eT (.bl b) x
 | .int i _=>eT (.int i) x
 | .str z _=>eT (.str z) x
 | _=>false
def Em {x y:V} {u:Value} (r:RelV y u) (f:cM y=true):fC x u=eT y x:=by
 cases y with
 | aq=>cases r; rfl
 | bl b=>cases r; rfl
 | int i=>obtain ⟨t,rfl⟩:=r; rfl
 | str z=>obtain ⟨t,rfl⟩:=r; rfl
 | _=>exact absurd (show false=true from f) wT
def su {x:V}:∀ {xs:List V} {us:List Value},Vals xs us->xs.all cM=true->us.any (fC x)=xs.any fun y=>eT y x
 | _,_,.nil,_=>rfl
 | y::xs,u::us,.cons r t,f=>by
  rw [NE,Do] at f;rw [Zx,Zx,Em r f.1,su t f.2]
def rG {A:Around} {s:Shared} {x:V} {v:Value} (rx:RelV x v) (fx:cM x=true):∀ {xs:List V} {us:List Value},Vals xs us->xs.all cM=true->∀ u∈us,SeqAt.EqAt A s u v (fC x u)
 | _,_,.nil,_=>fun u hu=>by cases hu
 | y::xs,u::us,.cons r t,f=>fun u' hu=>by
  rw [NE,Do] at f;rcases ss.mp hu with rfl | hu
  ·rw [Em r f.1]; exact xl r rx f.1 fx
  ·exact rG rx fx t f.2 u' hu
def f6 (x:V) (xs:List V):Bool:=xs.any fun y=>eT y x
def Hu (K:PySem.W.Frag) (neg:Bool):R2:=fun x y H Q=>∃ p xs,y=.ref p/\(aE K H p xs\/bI K H p xs)/\cM x=true/\xs.all cM=true/\Q (.bl (if neg then !f6 x xs else f6 x xs)) H
def D4:aW X (compareOp .In) (Hu X.K false):=by
 intro pins s σ H x y v u Q I rx ry h;obtain ⟨p,xs,rfl,hq,fx,fs,q⟩:=h;cases ry;rcases hq with hq | hq
 ·obtain ⟨aj,r,pl,hz⟩:=I.list hq;refine SeqAt.in_listAt (fC x) pl.isList (fun w hw=>rG rx fx r fs w (by simpa using hw)) ⟨.bl _,H,I,rfl,?_⟩;rw [show aj.toArray.any (fC x)=aj.any (fC x) by simp,su r fs];exact q
 ·obtain ⟨aj,r,pl,hz⟩:=I.tuple hq;refine SeqAt.in_tupleAt (fC x) pl (fun w hw=>rG rx fx r fs w (by simpa using hw)) ⟨.bl _,H,I,rfl,?_⟩;rw [show aj.toArray.any (fC x)=aj.any (fC x) by simp,su r fs];exact q
def Ud:aW X (compareOp .NotIn) (Hu X.K true):=by
 intro pins s σ H x y v u Q I rx ry h;obtain ⟨p,xs,rfl,hq,fx,fs,q⟩:=h;cases ry;rcases hq with hq | hq
 ·obtain ⟨aj,r,pl,hz⟩:=I.list hq;refine SeqAt.notIn_listAt (fC x) pl.isList (fun w hw=>rG rx fx r fs w (by simpa using hw)) ⟨.bl _,H,I,rfl,?_⟩;rw [show aj.toArray.any (fC x)=aj.any (fC x) by simp,su r fs];exact q
 ·obtain ⟨aj,r,pl,hz⟩:=I.tuple hq;refine SeqAt.notIn_tupleAt (fC x) pl (fun w hw=>rG rx fx r fs w (by simpa using hw)) ⟨.bl _,H,I,rfl,?_⟩;rw [show aj.toArray.any (fC x)=aj.any (fC x) by simp,su r fs];exact q
def Yi:cq X (.type "list") (fun xs H Q=>∃ p ys,xs=[.ref p]/\(aE X.K H p ys\/bI X.K H p ys)/\∀ l,H l=none->Q (.ref l) (upd H l (.lst ys))):=by
 intro pins s σ H xs us Q I r h;obtain ⟨p,ys,rfl,hq,q⟩:=h;obtain ⟨u,rfl,rx⟩:=vals1 r;cases rx;have fin:∀ (aj:List Value),Vals ys aj->ys.length<=sizeLine->∀ (h':Heap) (c':Nat),(∀ b o',s.heap.get? b=some o'->h'.get? b=some o') ->
   h'.get? s.heap.objs.size=some { cls:=.type "list",dict:=none,data:=.seq aj.toArray c',slots:=#[] }->EP X pins σ Q (.ref s.heap.objs.size) { s with heap:=h' }:=fun aj r' hz h' c' kp e =>
  ⟨.ref s.heap.objs.size,_,I.laid (t':=s.toks) kp (sB _) (show bN X.prog X.w _ h' _ (.lst ys) from ⟨hz,aj,c',r',e⟩),rfl,q _ (I.aB.fresh (sB _))⟩
 rcases hq with hq | hq
 ·obtain ⟨aj,r',pl,hz⟩:=I.list hq;have hlen:=r'.length;obtain ⟨o,ho,hc,n,hd⟩:=pl.isList;exact call_list_seq p (.inl rfl) ho hc hd (fun h' c' kp e=>fin aj r' hz h' c' kp e) (by simp only [tz] <;> omega)
 ·obtain ⟨aj,r',pl,hz⟩:=I.tuple hq;have hlen:=r'.length;obtain ⟨o,ho,hc,n,hd⟩:=pl;exact call_list_seq p (.inr rfl) ho hc hd (fun h' c' kp e=>fin aj r' hz h' c' kp e) (by simp only [tz] <;> omega)
def Py (K:PySem.W.Frag) (T:String) (x:V) (H:Hp):Prop:=match x with
 | .str _=>T = "str"
 | .int _=>T = "int"
 | .ref p=>(T = "list" /\ ∃ xs,aE K H p xs)\/(T = "tuple" /\ ∃ o,K.lookup p=some o/\o.cls=.type "tuple" /\ o.dict=none) \/
   (T = "dict" /\ ((∃ kvs,H p=some (.dK kvs))\/∃ kvs,H p=some (.dT kvs)))\/(T = "set" /\ ∃ S n,H p=some (.set S n))
 | _=>False
def zb {pins:List (Addr×Obj)} {σ:St} {H:Hp} {s:Shared} {T:String} {x:V} {v:Value} (I:Inv X pins σ H s) (r:RelV x v) (ty:Py X.K T x H) :
  s.TypeIs v T/\∀ a,v=.ref a->∃ ob,s.heap.get? a=some ob/\ob.dict=none:=by
 cases x with
 | str z =>
  obtain ⟨t,rfl⟩:=r;cases (show T = "str" from ty);exact ⟨ZX s z t,fun _ e=>nomatch e⟩
 | int i =>
  obtain ⟨t,rfl⟩:=r;cases (show T = "int" from ty);exact ⟨typeIs_int s i t,fun _ e=>nomatch e⟩
 | ref p =>
  cases r;rcases ty with ⟨rfl,xs,hq⟩ | ⟨rfl,o,hk,hc,hd⟩ | ⟨rfl,hk⟩ | ⟨rfl,S,n,hk⟩
  ·obtain ⟨aj,_,pl,_⟩:=I.list hq;refine ⟨pl.isList.typeIs,fun a e=>?_⟩;cases e;obtain ⟨o,n,e,c,hd,_⟩:=pl;exact ⟨o,e,hd⟩
  ·refine ⟨⟨o,I.bW p o hk,hc⟩,fun a e=>?_⟩;cases e;exact ⟨o,I.bW _ o hk,hd⟩
  ·have z:∃ o,s.heap.get? p=some o/\o.ExactDict:=by
    rcases hk with ⟨kvs,hk⟩ | ⟨kvs,hk⟩
    ·obtain ⟨_,_,_,_,o,_,_,e,ex,_⟩:=I.aB p _ hk;exact ⟨o,e,ex⟩
    ·obtain ⟨_,_,_,_,o,_,_,e,ex,_⟩:=I.aB p _ hk;exact ⟨o,e,ex⟩
   obtain ⟨o,e,ex⟩:=z;refine ⟨⟨o,e,ex.1⟩,fun a e2=>?_⟩;cases e2;exact ⟨o,e,ex.2.1⟩
  ·obtain ⟨o,_,_,_,e,ex,_⟩:=I.aB p _ hk;refine ⟨⟨o,e,ex.1⟩,fun a e2=>?_⟩;cases e2;exact ⟨o,e,ex.2.1⟩
 | _=>exact False.elim ty
variable {o e:Expr} {es:List Expr} {to:TE} {t:TA} {name:Str} {apos bo:Pos} {T id:String} {r:V->List V->Hp->VK->Prop}
/- xs.append(e),list.index on a module's tuple .. are dB facts of 06m -/
end
def B5 (X:Cx) (id:String) (r:V->List V->Hp->VK->Prop):Prop :=
 ∀ (pins:List (Addr×Obj)) (s:Shared) (σ:St) (H:Hp) (x:V) (xs:List V) (v:Value) (us:List Value) (Q:VK),Inv X pins σ H s->RelV x v->Vals xs us->r x xs H Q ->
  wpAny (model X.prog X.w) X.A (call (.builtin id) (v::us)) (EP X pins σ Q) X.xe s
def Vals.one:∀ {x:V} {us:List Value},Vals [x] us->∃ u,us=[u]/\RelV x u
 | _,_,.cons r .nil=>⟨_,rfl,r⟩
def Vals.zero:∀ {us:List Value},Vals [] us->us=[]
 | _,.nil=>rfl
def Vals.dropLast {xs:List V} {us:List Value} (h:Vals xs us):Vals xs.dropLast us.dropLast:=by
 induction h with
 | nil=>exact .nil
 | cons r t ih =>
  cases t with
  | nil=>exact .nil
  | cons q t'=>exact .cons r ih
def Vals.rep {xs:List V} {us:List Value} (h:Vals xs us):∀ k:Nat,Vals (List.replicate k xs).flatten (List.replicate k us).flatten
 | 0=>.nil
 | k+1=>by
  rw [UV,UV,_f,_f];exact Vals.append h (Vals.rep h k)
def SM {α:Type} (l:List α):l.eraseIdx (l.length - 1)=l.dropLast:=by
 induction l with
 | nil=>rfl
 | cons a r ih =>
  cases r with
  | nil=>rfl
  | cons b r =>
   have e:(a::b::r).length - 1=((b::r).length - 1)+1:=by
    have h1:(a::b::r).length=r.length+2:=rfl;have h2:(b::r).length=r.length+1:=rfl;omega
   rw [e,List.eraseIdx_cons_succ,ih]
   all_goals rfl
def foldl_rep (aj:List Value):∀ (k:Nat) (acc:List Value),
  List.foldl (fun x1 x2=>x1++x2) acc.toArray (List.replicate k aj.toArray)=(acc++(List.replicate k aj).flatten).toArray
 | 0,acc=>by simp
 | k+1,acc=>by
  have e:acc.toArray++aj.toArray=(acc++aj).toArray:=by simp
  have e2:(acc++aj)++(List.replicate k aj).flatten=acc++(List.replicate (k+1) aj).flatten:=by
   rw [UV,_f,T0]
  rw [<- e2,<- foldl_rep aj k (acc++aj),<- e,UV,List.foldl_cons]
section
variable {X:Cx} {pins:List (Addr×Obj)} {σ:St} {H:Hp} {s:Shared} {l b:Addr} {xs ys zs:List V}
def Inv.xn {aj its':List Value} {n:Nat} {f:Array Value->Array Value} {t':Nat} (I:Inv X pins σ H s) (hH:H l=some (.lst xs))
  (e:s.heap.get? l=some { cls:=.type "list",data:=.seq aj.toArray n }) (hf:f aj.toArray=its'.toArray) (hv:Vals ys its') (hz:ys.length<=sizeLine) :
  Inv X pins σ (upd H l (.lst ys)) { s with heap:=s.heap.update l (Obj.mapSeq f),toks:=t' }:=by
 have q:=PySem.IsL.update e f;rw [hf] at q;refine I.write (x:=l) (e:=l) (by rw [hH]; exact trivial) (.inl rfl) (fun b' u hb hu=>(IR s.heap (Obj.mapSeq f) (sw hb)).trans hu) ⟨_,q⟩ ?_;exact ⟨hz,its',_,hv,q⟩
def Inv.EB {aj:List Value} {t':Nat} (I:Inv X pins σ H s) (hv:Vals ys aj) (hz:ys.length<=sizeLine) :
  Inv X pins σ (upd H s.heap.objs.size (.lst ys)) { s with heap:=s.heap.push { cls:=.type "list",data:=.seq aj.toArray },toks:=t' } :=
 I.laid (fun _ _ q=>li _ q) (sB _) ⟨hz,aj,0,hv,wn _ rfl⟩
def Inv.fresh (I:Inv X pins σ H s):H s.heap.objs.size=none:=I.aB.fresh (sB _)
def Inv.mr (I:Inv X pins σ H s) (hH:H l=some (.lst xs)):xs.length<=sizeLine/\∃ (aj:List Value) (n:Nat),Vals xs aj/\xs.length=aj.length/\s.heap.get? l=some { cls:=.type "list",data:=.seq aj.toArray n }:=by
 obtain ⟨z,aj,n,r,e⟩:=I.aB l _ hH;exact ⟨z,aj,n,r,r.length,e⟩
def Gw {n:Nat} (h:n<=sizeLine):Builtin.List.listTooLong n=false:=by
 unfold Builtin.List.listTooLong;exact ut (by omega)
end
section
variable {X:Cx}
def UL:V->List V->Hp->VK->Prop:=fun x vs H Q=>∃ l xs y,x=.ref l/\vs=[y]/\H l=some (.lst xs)/\xs.length < sizeLine/\Q .aq (upd H l (.lst (xs++[y])))
def Ve:B5 X "list.append" UL:=by
 intro pins s σ H x vs v us Q I rx rv h;obtain ⟨l,xs,y,rfl,rfl,hH,hz,q⟩:=h;cases rx;obtain ⟨u,rfl,ru⟩:=rv.one;obtain ⟨z,aj,n,r,hl,e⟩:=I.mr hH;refine UF F.slot_list_append ⟨_,e,rfl⟩ F.entry_list_append (F.args_list_append_2 _ _) (PySem.list_append l aj.toArray n u (by rw [tz]; omega)) ⟨e,?_⟩;refine ⟨.aq,_,I.xn (its':=aj++[u]) hH e (by simp) (r.append (.cons ru .nil)) ?_,rfl,q⟩;rw [ww,List.length_singleton];omega
def QL:V->List V->Hp->VK->Prop:=fun x vs H Q=>∃ l b xs zs,x=.ref l/\vs=[.ref b]/\H l=some (.lst xs)/\H b=some (.lst zs)/\xs.length+zs.length<=sizeLine/\Q .aq (upd H l (.lst (xs++zs)))
def Rw:B5 X "list.extend" QL:=by
 intro pins s σ H x vs v us Q I rx rv h;obtain ⟨l,b,xs,zs,rfl,rfl,hH,hB,hz,q⟩:=h;cases rx;obtain ⟨u,rfl,ru⟩:=rv.one;cases ru;obtain ⟨z,aj,n,r,hl,e⟩:=I.mr hH;obtain ⟨z2,mU,n2,r2,cg,e2⟩:=I.mr hB;have hsz:aj.toArray.size+mU.toArray.size<=sizeLine:=by rw [tz,tz]; omega
 have Dt:¬ (!aj.toArray.isEmpty && Builtin.List.listTooLong (aj.toArray.size+mU.toArray.size))=true:=by
  rw [Gw hsz,Bool.and_false];exact wT
 refine UF F.slot_list_extend ⟨_,e,rfl⟩ F.entry_list_extend (F.args_list_extend_2 _ _)
  (AutoSeq1.list_extend_list_list_0 l aj.toArray n b mU.toArray n2 Dt (by rw [tz]; omega) (by omega)) ⟨e,e2,?_⟩
 refine ⟨.aq,_,I.xn (its':=aj++mU) hH e (by simp) (r.append r2) ?_,rfl,q⟩;rw [ww];omega
def Ia:V->List V->Hp->VK->Prop:=fun x vs H Q=>∃ l xs y,x=.ref l/\vs=[]/\H l=some (.lst xs)/\xs[xs.length - 1]?=some y/\Q y (upd H l (.lst xs.dropLast))
def XM:B5 X "list.pop" Ia:=by
 intro pins s σ H x vs v us Q I rx rv h;obtain ⟨l,xs,y,rfl,rfl,hH,hy,q⟩:=h;cases rx;have hus:=rv.zero;subst hus;obtain ⟨z,aj,n,r,hl,e⟩:=I.mr hH;obtain ⟨u,hu,ru⟩:=r.get hy;have hy':aj.toArray[aj.toArray.size - 1]?=some u:=by
  show aj.toArray[aj.length - 1]?=some u;rw [<- Ps,<- hl];exact hu
 refine UF F.slot_list_pop ⟨_,e,rfl⟩ F.entry_list_pop (F.args_list_pop_1 _) (MeetsSeq.list_pop_last l aj.toArray n u hy' (by rw [tz]; omega)) ⟨e,?_⟩;refine ⟨y,_,I.xn (its':=aj.dropLast) hH e ?_ r.dropLast ?_,ru,q⟩
 ·show aj.toArray.eraseIdxIfInBounds (aj.toArray.size - 1)=aj.dropLast.toArray;rw [tz,List.eraseIdxIfInBounds_toArray,SM]
 ·rw [List.length_dropLast];omega
def Uc:R2:=fun x y H Q=>∃ l b xs zs,x=.ref l/\y=.ref b/\H l=some (.lst xs)/\H b=some (.lst zs)/\xs.length+zs.length<=sizeLine/\∀ p,H p=none->Q (.ref p) (upd H p (.lst (xs++zs)))
def Pn:aW X (binaryOp .Add) Uc:=by
 intro pins s σ H x y v u Q I rx ry h;obtain ⟨l,b,xs,zs,rfl,rfl,hH,hB,hz,q⟩:=h;cases rx;cases ry;obtain ⟨z,aj,n,r,hl,e⟩:=I.mr hH;obtain ⟨z2,mU,n2,r2,cg,e2⟩:=I.mr hB;refine PySem.P.add_list e e2 ?_ (by rw [tz,tz]; omega);have ea:aj.toArray++mU.toArray=(aj++mU).toArray:=by simp
 rw [ea];exact ⟨.ref _,_,I.EB (t':=s.toks) (r.append r2) (by rw [ww]; omega),rfl,q _ I.fresh⟩
def V8:R2:=fun x y H Q=>∃ l k xs,x=.ref l/\y=.int k/\H l=some (.lst xs)/\-(2 ^ 63)<=k/\k < 2 ^ 63/\xs.length * k.toNat<=sizeLine /\
 ∀ p,H p=none->Q (.ref p) (upd H p (.lst (List.replicate k.toNat xs).flatten))
def len_rep {α:Type} (xs:List α) (k:Nat):(List.replicate k xs).flatten.length=k * xs.length:=by
 induction k with
 | zero=>simp
 | succ k ih=>rw [UV,_f,ww,ih,Nat.succ_mul,Nat.add_comm]
def UU:aW X (binaryOp .Mult) V8:=by
 intro pins s σ H x y v u Q I rx ry h;obtain ⟨l,k,xs,rfl,rfl,hH,h1,h2,hz,q⟩:=h;cases rx;obtain ⟨t,rfl⟩:=ry;obtain ⟨z,aj,n,r,hl,e⟩:=I.mr hH;have hlen:aj.toArray.size * k.toNat<=sizeLine:=by rw [tz,<- hl]; exact hz
 have hcap:¬ aj.toArray.size * k.toNat > (2 ^ 63 - 1) / 8:=by
  have:(sizeLine:Nat)<=(2 ^ 63 - 1) / 8:=by decide
  omega
 have Cs:¬ (!Builtin.List.listFitsIndex k)=true:=by
  rw [fitsIndex_both h1 h2];exact wT
 have Dt:¬ Builtin.List.listTooLong (aj.toArray.size * k.toNat)=true:=by
  rw [Gw hlen];exact wT
 have hnew:List.foldl (fun x1 x2=>x1++x2) #[] (List.replicate (if aj.toArray.isEmpty=true then 0 else k.toNat) aj.toArray)=(List.replicate k.toNat aj).flatten.toArray:=by
  have f0:∀ m:Nat,List.foldl (fun x1 x2=>x1++x2) #[] (List.replicate m aj.toArray)=(List.replicate m aj).flatten.toArray:=fun m=>by
   have:=foldl_rep aj m [];rw [List.nil_append] at this;exact this
  rw [f0];cases aj with
  | nil=>simp
  | cons a r'=>rw [Ch (by simp)]
 refine wpAny_binaryOp_repeat_ref (T := "list") (U := "int") (by decide) ⟨_,e,rfl⟩ (fun s'=>typeIs_int s' k t) noFill_list_mul F.fills_int_mul F.slot_int_rmul repeat_list F.slot_int_index.lookup
  (UF F.slot_int_rmul (typeIs_int s k t) F.entry_int_rmul (F.args_int_rmul_2 _ _) (int___rmul___int_list k t l aj.toArray n)
   ⟨e,rfl,⟨_,e,rfl⟩,UF F.slot_list_mul ⟨_,e,rfl⟩ F.entry_list_mul (F.args_list_mul_2 _ _) (AutoListH.list___mul___list_int_3 l aj.toArray n k t Cs hcap Dt) ⟨e,?_⟩⟩)
 rw [hnew];exact ⟨.ref _,_,I.EB (t':=s.toks) (r.rep k.toNat) (by rw [len_rep,Nat.mul_comm]; exact hz),rfl,q _ I.fresh⟩
end
section
variable {prog:Program} {w:World} {A:Around} {E:Value->Shared->Prop} {s:Shared}
end
section
variable {X:Cx}
end
section
variable {κ:Type} [DecidableEq κ]
def aI (kvs:List (κ×V)) (k:κ):Option V:=(kvs.find? fun kv=>decide (kv.1=k)).map (·.2)
def putK (kvs:List (κ×V)) (k:κ) (v:V):List (κ×V) :=
 if (kvs.any fun kv=>decide (kv.1=k))=true then kvs.map (fun kv=>if kv.1=k then (kv.1,v) else kv) else kvs++[(k,v)]
def lT {p:κ×V} {r:List (κ×V)} {k:κ} (e:p.1=k):aI (p::r) k=some p.2:=by simp [aI,ZK,e]
def lC {p:κ×V} {r:List (κ×V)} {k:κ} (e:¬ p.1=k):aI (p::r) k=aI r k:=by simp [aI,ZK,e]
def um (k:κ):∀ kvs:List (κ×V),(kvs.any fun kv=>decide (kv.1=k))=(aI kvs k).isSome
 | []=>rfl
 | p::r=>by
  rw [Zx];by_cases e:p.1=k
  ·simp only [lT e,AT e,Bool.true_or,Option.isSome_some]
  ·rw [lC e,ut e,Bool.false_or]; exact um k r
def pP (k j:κ) (y:V):∀ kvs:List (κ×V),aI kvs k=none->aI (kvs++[(k,y)]) j=if j=k then some y else aI kvs j
 | [],_=>by
  by_cases e:k=j
  ·rw [Db e.symm]; exact lT (p:=(k,y)) e
  ·rw [Ch (fun z=>e z.symm)]; exact lC (p:=(k,y)) e
 | p::r,hn=>by
  rw [List.cons_append];have hk:¬ p.1=k:=fun z=>by rw [lT z] at hn; cases hn
  rw [lC hk] at hn;have ih:=pP k j y r hn;by_cases e:p.1=j
  ·rw [lT e,lT e,Ch (fun z=>hk (e.trans z))]
  ·rw [lC e,lC e,ih]
def Jf (kvs:List (κ×V)) (k:κ) (v:V):(putK kvs k v).length<=kvs.length+1:=by
 unfold putK;split
 ·rw [mo]; omega
 ·rw [ww,GE,Z8]; omega
def RT {kvs:List (κ×V)} {k:κ} (v:V) (h:aI kvs k=none):putK kvs k v=kvs++[(k,v)]:=by
 unfold putK;rw [um,h];exact Ch (by decide)
def eh.rC {o:Option V} {u:Option Value} (r:eh o u):o.isSome=u.isSome:=by
 cases o with
 | none=>cases u with
  | none=>rfl
  | some _=>exact (show False from r).elim
 | some _=>cases u with
  | none=>exact (show False from r).elim
  | some _=>rfl
def eh.getD {o:Option V} {u:Option Value} {d:V} {d':Value} (r:eh o u) (rd:RelV d d'):RelV (o.getD d) (u.getD d'):=by
 cases o with
 | none=>cases u with
  | none=>exact rd
  | some _=>exact (show False from r).elim
 | some _=>cases u with
  | none=>exact (show False from r).elim
  | some _=>exact r
def KV.val {kvs:List (κ×V)} {vs:List (κ×Value)} (r:KV kvs vs) (k:κ):eh (aI kvs k) (valueAt vs k):=by
 unfold KV at r
 induction r with
 | nil=>exact True.intro
 | @cons p q ps qs h t ih =>
  obtain ⟨h1,h2⟩:=h;by_cases e:p.1=k
  ·have e':q.1=k:=h1.symm.trans e;have b:valueAt (q::qs) k=some q.2:=by simp [valueAt,ZK,e']
   rw [lT e,b]; exact h2
  ·have e':¬ q.1=k:=fun z=>e (h1.trans z);have b:valueAt (q::qs) k=valueAt qs k:=by simp [valueAt,ZK,e']
   rw [lC e,b]; exact ih
def KV.any {kvs:List (κ×V)} {vs:List (κ×Value)} (r:KV kvs vs) (k:κ):(kvs.any fun kv=>decide (kv.1=k))=vs.any fun kv=>decide (kv.1=k):=by
 unfold KV at r
 induction r with
 | nil=>rfl
 | cons h t ih=>rw [Zx,Zx,ih,h.1]
def KV.z9 {kvs:List (κ×V)} {vs:List (κ×Value)} (r:KV kvs vs) (k:κ) {y:V} {u:Value} (ry:RelV y u) :
  KV (kvs.map fun kv=>if kv.1=k then (kv.1,y) else kv) (vs.map fun kv=>if kv.1=k then (kv.1,u) else kv):=by
 unfold KV at r ⊢
 induction r with
 | nil=>exact .nil
 | @cons p q ps qs h t ih =>
  rw [Fa,Fa];refine .cons ?_ ih;obtain ⟨h1,h2⟩:=h;by_cases e:p.1=k
  ·rw [Db e,Db (h1.symm.trans e)]; exact ⟨h1,ry⟩
  ·rw [Ch e,Ch (fun z=>e (h1.trans z))]; exact ⟨h1,h2⟩
def KV.put {kvs:List (κ×V)} {vs:List (κ×Value)} (r:KV kvs vs) (k:κ) {y:V} {u:Value} (ry:RelV y u):KV (putK kvs k y) (stored vs k u):=by
 unfold putK stored;rw [r.any k];by_cases e:(vs.any fun kv=>decide (kv.1=k))=true
 ·rw [Db e,Db e]; exact r.z9 k ry
 ·rw [Ch e,Ch e]; exact Paired.snoc r ⟨rfl,ry⟩
def KV.keys {kvs:List (κ×V)} {vs:List (κ×Value)} (r:KV kvs vs):kvs.map (·.1)=vs.map (·.1):=by
 unfold KV at r
 induction r with
 | nil=>rfl
 | cons h t ih=>rw [Fa,Fa,ih,h.1]
def KV.length {kvs:List (κ×V)} {vs:List (κ×Value)} (r:KV kvs vs):kvs.length=vs.length:=Paired.length r
end
def oW {P:Program} {w:World} {k:Key} {u:Value} (r:RelV (kV k) u):(cS P w).is k u=true:=by
 cases k with
 | inl i=>obtain ⟨t,e⟩:=(show ∃ t,u=Value.int i t from r); subst e; exact RN P w i t
 | inr x=>obtain ⟨t,e⟩:=(show ∃ t,u=Value.str x t from r); subst e; exact TV P w x t
def Gi {P:Program} {w:World}:∀ {ks:List Key} {us:List Value},Vals (ks.map kV) us->ItemsAre (cS P w) ks us
 | [],_,r=>by rw [_g] at r; cases r; exact .nil
 | k::ks,_,r=>by
  rw [Fa] at r;cases r with
  | cons h t=>exact .cons (oW h) (Gi t)
abbrev KT (H:Hp):List (List Key×V)->List (List Key×Addr×Value)->Prop:=Paired fun p q=>p.1=q.1/\H q.2.1=some (.tup (p.1.map kV))/\RelV p.2 q.2.2
def KT.val {H:Hp} {kvs:List (List Key×V)} {xs:List (List Key×Addr×Value)} (r:KT H kvs xs) (k:List Key):eh (aI kvs k) ((atKey xs k).map (·.2)):=by
 induction r with
 | nil=>exact True.intro
 | @cons p q ps qs h t ih =>
  obtain ⟨h1,_,h2⟩:=h;by_cases e:p.1=k
  ·have e':q.1=k:=h1.symm.trans e;have b:atKey (q::qs) k=some q.2:=by simp [atKey,ZK,e']
   rw [lT e,b]; exact h2
  ·have e':¬ q.1=k:=fun z=>e (h1.trans z);have b:atKey (q::qs) k=atKey qs k:=by simp [atKey,ZK,e']
   rw [lC e,b]; exact ih
def KT.z9 {H:Hp} {kvs:List (List Key×V)} {xs:List (List Key×Addr×Value)} (r:KT H kvs xs) (k:List Key) {y:V} {u:Value} (ry:RelV y u) :
  KT H (kvs.map fun kv=>if kv.1=k then (kv.1,y) else kv) (xs.map (putAt k u)):=by
 induction r with
 | nil=>exact .nil
 | @cons p q ps qs h t ih =>
  rw [Fa,Fa];refine .cons ?_ ih;obtain ⟨h1,h2,h3⟩:=h;unfold putAt;by_cases e:p.1=k
  ·rw [Db e,Db (h1.symm.trans e)]; exact ⟨h1,h2,ry⟩
  ·rw [Ch e,Ch (fun z=>e (h1.trans z))]; exact ⟨h1,h2,h3⟩
def KT.put {H:Hp} {kvs:List (List Key×V)} {xs:List (List Key×Addr×Value)} (r:KT H kvs xs) (k:List Key) {b:Addr} {y:V} {u:Value} (hb:H b=some (.tup (k.map kV))) (ry:RelV y u) :
  KT H (putK kvs k y) (storedH xs k b u):=by
 have e:(kvs.any fun kv=>decide (kv.1=k))=(atKey xs k).isSome:=by
  rw [um,(r.val k).rC,Option.isSome_map]
 unfold putK storedH;rw [e];by_cases q:(atKey xs k).isSome=true
 ·rw [Db q,Db q]; exact r.z9 k ry
 ·rw [Ch q,Ch q]; exact Paired.snoc r ⟨rfl,hb,ry⟩
def KT.keeps {H H':Hp} {kvs:List (List Key×V)} {xs:List (List Key×Addr×Value)} (r:KT H kvs xs) (ht:∀ b ys,H b=some (.tup ys)->H' b=some (.tup ys)):KT H' kvs xs :=
 Paired.Al r fun _ _ z=>⟨z.1,ht _ _ z.2.1,z.2.2⟩
section
variable {P:Program} {w:World} {H:Hp} {h:Heap} {a:Addr}
def IQ {u:HO} (ok:bY P w H h) (e:Rd H a u):bN P w H h a u:=e.ok ok
def mx {kvs:List (Key×V)} (ok:bY P w H h) (e:Rd H a (.dK kvs)):kvs.length<=sizeLine/\(a == sysModules)=false/\∃ vs,KV kvs vs/\h.DictOf (cS P w) a vs :=
 show bN P w H h a (.dK kvs) from IQ ok e
def RS {kvs:List (Key×V)} (ok:bY P w H h) (e:H a=some (.dK kvs)):kvs.length<=sizeLine/\(a == sysModules)=false/\∃ vs,KV kvs vs/\h.DictOf (cS P w) a vs:=mx ok (.inl e)
def nh {ks:List Key} (ok:bY P w H h) (e:H a=some (.tup (ks.map kV))):(tupleKind (cS P w)).is h ks a:=by
 obtain ⟨_,aj,r,o,h1,h2,n,h3⟩:=(show bN P w H h a (.tup (ks.map kV)) from ok a _ e);exact ⟨o,aj.toArray,n,h1,h2,h3.1,by simpa using Gi r⟩
def lU {kvs:List (List Key×V)} (ok:bY P w H h) (e:Rd H a (.dT kvs)):kvs.length<=sizeLine/\(a == sysModules)=false /\
  ∃ xs,KT H kvs xs/\h.DictOfH (tupleKind (cS P w)) a xs:=by
 obtain ⟨z,y,xs,r,o,es,ep,h1,h2,h3,h4,h5⟩:=(show bN P w H h a (.dT kvs) from IQ ok e);refine ⟨z,y,xs,r,o,es,ep,h1,h2,h3,h4,fun x hx=>?_,h5⟩;have all:∀ {l:List (List Key×V)} {m:List (List Key×Addr×Value)},KT H l m->∀ x∈m,(tupleKind (cS P w)).is h x.1 x.2.1:=by
  intro l m q
  induction q with
  | nil=>intro x hx; exact nomatch hx
  | @cons p q ps qs hq t ih =>
   intro x hx;rcases ss.mp hx with e | hx
   ·subst e;exact nh ok (by rw [<- hq.1]; exact hq.2.1)
   ·exact ih x hx
 exact all r x hx
def N2 {kvs:List (List Key×V)} (ok:bY P w H h) (e:H a=some (.dT kvs)):kvs.length<=sizeLine/\(a == sysModules)=false /\
  ∃ xs,KT H kvs xs/\h.DictOfH (tupleKind (cS P w)) a xs:=lU ok (.inl e)
end
def dO (H:Hp) (a:Addr) (y:V) (r:Option V):Prop :=
 (∃ kvs k,Rd H a (.dK kvs)/\y=kV k/\r=aI kvs k)\/∃ kvs k b,Rd H a (.dT kvs)/\y=.ref b/\H b=some (.tup (k.map kV))/\r=aI kvs k
def gP (H:Hp) (a:Addr) (y v:V) (H':Hp):Prop :=
 (∃ kvs k,H a=some (.dK kvs)/\y=kV k/\kvs.length < sizeLine/\H'=upd H a (.dK (putK kvs k v))) \/
 ∃ kvs k b,H a=some (.dT kvs)/\y=.ref b/\H b=some (.tup (k.map kV))/\kvs.length < sizeLine/\H'=upd H a (.dT (putK kvs k v))
def dO.k {H:Hp} {a:Addr} {kvs:List (Key×V)} {k:Key} (e:H a=some (.dK kvs)):dO H a (kV k) (aI kvs k):=.inl ⟨kvs,k,.inl e,rfl,rfl⟩
def gP.k {H:Hp} {a:Addr} {kvs:List (Key×V)} {k:Key} {v:V} (e:H a=some (.dK kvs)) (hl:kvs.length < sizeLine):gP H a (kV k) v (upd H a (.dK (putK kvs k v))):=.inl ⟨kvs,k,e,rfl,hl,rfl⟩
def gP.t {H:Hp} {a b:Addr} {kvs:List (List Key×V)} {k:List Key} {v:V} (e:H a=some (.dT kvs)) (eb:H b=some (.tup (k.map kV))) (hl:kvs.length < sizeLine) :
  gP H a (.ref b) v (upd H a (.dT (putK kvs k v))):=.inr ⟨kvs,k,b,e,rfl,eb,hl,rfl⟩
section
variable {X:Cx} {pins:List (Addr×Obj)} {σ:St} {H:Hp} {s:Shared} {a:Addr} {y v:V} {u r:Value} {o:Option V} {A:Around} {E:Value->Shared->Prop}
def Inv.big (I:Inv X pins σ H s):sysModules < s.heap.objs.size:=by
 have h:mainGlobals < s.heap.objs.size:=(I.mod.glob.keeps I.bk).lt;exact Nat.lt_trans (by decide) h
def S6 {Q:Value->Shared->Prop} (hu:A.units+1 < cLine) (I:Inv X pins σ H s) (g:dO H a y (some v)) (ry:RelV y u) (h:∀ w' s',Inv X pins σ H s'->RelV v w'->Q w' s') :
  wpAny (model X.prog X.w) A (getItem (.ref a) u) Q E s:=by
 rcases g with ⟨kvs,k,e,ey,l⟩ | ⟨kvs,k,b,e,ey,eb,l⟩
 ·subst ey;obtain ⟨z,hd,vs,rel,dd⟩:=mx I.aB e;obtain ⟨w',hw,rw'⟩:=eh.some_of (v:=v) (o:=valueAt vs k) (by rw [l]; exact rel.val k);exact wpAny_getItem_of (oW ry) dd.mapOf hw (h w' _ (I.tok _) rw')
 ·subst ey;cases (show u=Value.ref b from ry);obtain ⟨z,hd,xs,rel,dd⟩:=lU I.aB e;obtain ⟨w',hw,rw'⟩:=eh.some_of (v:=v) (o:=(atKey xs k).map (·.2)) (by rw [l]; exact rel.val k);obtain ⟨p,hp,cE⟩:=ZG.mp hw;refine wpAny_getItem_heap (ZH hu) (nh I.aB eb) dd hp ?_;rw [cE];exact h w' _ (I.tok _) rw'
def Ww {Q:Value->Shared->Prop} (hu:A.units+1 < cLine) (I:Inv X pins σ H s) (g:dO H a y o) (ry:RelV y u) (h:∀ s',Inv X pins σ H s'->Q (.bool o.isSome) s') :
  wpAny (model X.prog X.w) A (compareOp .In u (.ref a)) Q E s:=by
 rcases g with ⟨kvs,k,e,ey,l⟩ | ⟨kvs,k,b,e,ey,eb,l⟩
 ·subst ey;obtain ⟨z,hd,vs,rel,dd⟩:=mx I.aB e;refine wpAny_in_of (oW ry) hd dd.mapOf ?_;rw [<- (rel.val k).rC,<- l];exact h _ (I.tok _)
 ·subst ey;cases (show u=Value.ref b from ry);obtain ⟨z,hd,xs,rel,dd⟩:=lU I.aB e;refine wpAny_in_heap (ZH hu) (nh I.aB eb) hd dd ?_;have q:=(rel.val k).rC;rw [Option.isSome_map] at q;rw [<- q,<- l];exact h _ (I.tok _)
def Ym {Q:Value->Shared->Prop} (hu:A.units+1 < cLine) (I:Inv X pins σ H s) (g:dO H a y o) (ry:RelV y u) (h:∀ s',Inv X pins σ H s'->Q (.bool (!o.isSome)) s') :
  wpAny (model X.prog X.w) A (compareOp .NotIn u (.ref a)) Q E s:=by
 rcases g with ⟨kvs,k,e,ey,l⟩ | ⟨kvs,k,b,e,ey,eb,l⟩
 ·subst ey;obtain ⟨z,hd,vs,rel,dd⟩:=mx I.aB e;refine wpAny_notIn_of (oW ry) hd dd.mapOf ?_;rw [<- (rel.val k).rC,<- l];exact h _ (I.tok _)
 ·subst ey;cases (show u=Value.ref b from ry);obtain ⟨z,hd,xs,rel,dd⟩:=lU I.aB e;refine wpAny_notIn_heap (ZH hu) (nh I.aB eb) hd dd ?_;have q:=(rel.val k).rC;rw [Option.isSome_map] at q;rw [<- q,<- l];exact h _ (I.tok _)
def FU {h':Heap} {t':Nat} {ob:HO} (I:Inv X pins σ H s) (mu:oS (H a)) (hs:Heap.SameBut a s.heap h') (he:∃ q,h'.get? a=some q) (new:bN X.prog X.w (upd H a ob) h' a ob) :
  Inv X pins σ (upd H a ob) { s with heap:=h',toks:=t' } :=
 I.write (x:=a) (e:=a) mu (.inl rfl) (fun b q hb z=>(hs.2 b hb).trans z) he new
def Nj {P:Program} {w:World} {H':Hp} {h':Heap} {kvs:List (Key×V)} {vs:List (Key×Value)} (z:kvs.length<=sizeLine) (hd:(a == sysModules)=false) (rel:KV kvs vs) (dd:h'.DictOf (cS P w) a vs) :
  bN P w H' h' a (.dK kvs):=⟨z,hd,vs,rel,dd⟩
def V5 {H':Hp} {Q:Unit->Shared->Prop} (hu:A.units+1 < cLine) (I:Inv X pins σ H s) (g:gP H a y v H') (ry:RelV y u) (rv:RelV v r) (h:∀ s',Inv X pins σ H' s'->Q () s') :
  wpAny (model X.prog X.w) A (setItem (.ref a) u r) Q E s:=by
 rcases g with ⟨kvs,k,e,ey,l,eH⟩ | ⟨kvs,k,b,e,ey,eb,l,eH⟩
 ·subst ey eH;obtain ⟨z,hd,vs,rel,dd⟩:=RS I.aB e;have hz:vs.length<=sizeLine:=by rw [<- rel.length]; exact z
  have hl:(putK kvs k v).length<=sizeLine:=by have:=Jf kvs k v; omega
  refine wpAny_setItem_pairs (hsz:=hz) (oW ry) dd fun h' dd' hs=>h _ ?_;have he:∃ q,h'.get? a=some q:=let ⟨q,_,_,hq,_⟩:=dd'; ⟨q,hq⟩
  exact FU I (by rw [e]; exact True.intro) hs he (Nj hl hd (rel.put k rv) dd')
 ·subst ey eH;cases (show u=Value.ref b from ry);obtain ⟨z,hd,xs,rel,dd⟩:=N2 I.aB e;have hz:xs.length<=sizeLine:=by rw [<- Paired.length rel]; exact z
  have hl:(putK kvs k v).length<=sizeLine:=by have:=Jf kvs k v; omega
  refine wpAny_setItem_heap (hsz:=hz) (ZH hu) (nh I.aB eb) dd fun h' dd' hs=>h _ ?_;obtain ⟨q,es,ep,hq,h2,h3,h4,_,h5⟩:=dd';refine FU I (by rw [e]; exact True.intro) hs ⟨q,hq⟩ ⟨hl,hd,_,(rel.put k eb rv).keeps fun c ys ec=>?_,q,es,ep,hq,h2,h3,h4,h5⟩;rw [ah (X0 ec e (fun z=>nomatch z))];exact ec
end
section
variable {X:Cx} {pins:List (Addr×Obj)} {σ:St} {H:Hp} {s:Shared} {a:Addr} {kvs:List (Key×V)} {k:Key} {u:Value} {A:Around} {E:Value->Shared->Prop}
end
def yV (i:Expr):Prop:=∀ ov iv,subscripted i false ov iv=operate [ov,iv] (getItem ov iv)
def VD {prog:Program} {w:World} {A:Around} {E:Value->Shared->Prop} {s:Shared} {env:Env} {value slice:Expr} {pos:Pos} {T id:String} {Q:Value->Shared->Prop}
  (hl:typeLookup (.type T) "__getitem__" = pure (some (.builtin id))) (hs:yV slice)
  (h:wpAny (model prog w) A (eval value env) (fun o s₁=>wpAny (model prog w) A (eval slice env) (fun i s₂=>s₂.TypeIs o T/\wpAny (model prog w) A (getItem o i) Q E s₂) E s₁) E s) :
  wpAny (model prog w) A (eval (.Subscript value slice pos) env) Q E s:=by
 refine Subscript_ (Re h (fun o s₁ h₁=>Re h₁ (fun i s₂ h₂=>?_) fun _ _ x=>x) fun _ _ x=>x);obtain ⟨hT,h₂⟩:=h₂;unfold subscriptTail;refine kt ?_;rw [getitemInPython_of_ne hT.not_modules];refine kt (wpAny_specialOf hT hl ?_);have fin:wpAny (model prog w) A (subscripted slice false o i) (fun r s₃=>wpAny (model prog w) A (letTemporaryGo value o r >>= fun _=>pure r) Q E s₃) E s₂:=by
  rw [hs o i];exact wpAny_operating (Re h₂ (fun r s₃ h₃=>kt (wpAny_letTemporaryGo (sK h₃))) fun _ _ x=>x)
 first
  | exact sK (kt fin)
  | exact kt (sK (kt fin))
  | exact kt fin
def My {X:Cx} {pins:List (Addr×Obj)} {σ:St} {H:Hp} {s:Shared} {a:Addr} {y:V} {o:Option V} (I:Inv X pins σ H s) (g:dO H a y o):s.TypeIs (.ref a) "dict" := by
 rcases g with ⟨kvs,k,e,_,_⟩ | ⟨kvs,k,b,e,_,_,_⟩
 ·obtain ⟨_,_,vs,_,dd⟩:=mx I.aB e;exact dd.typeIs
 ·obtain ⟨_,_,xs,_,dd⟩:=lU I.aB e;exact dd.typeIs
def wY (td ty:TE):TE:=fun σ H Q=>td σ H fun x H1=>ty σ H1 fun y H2=>∃ a v,x=.ref a/\dO H2 a y (some v)/\Q v H2
def Ak (ty td:TE):TE:=fun σ H Q=>ty σ H fun y H1=>td σ H1 fun x H2=>∃ a o,x=.ref a/\dO H2 a y o/\Q (.bl o.isSome) H2
def wV (ty td:TE):TE:=fun σ H Q=>ty σ H fun y H1=>td σ H1 fun x H2=>∃ a o,x=.ref a/\dO H2 a y o/\Q (.bl (!o.isSome)) H2
def zk (td ty tv:TE):TS:=fun D σ H=>tv σ H fun v H1=>td σ H1 fun x H2=>ty σ H2 fun y H3=>∃ a H4,x=.ref a/\gP H3 a y v H4/\D.nx σ H4
section
variable {X:Cx} {o i e value:Expr} {pos pos' jv:Pos} {td ty tv:TE}
def Se (hu:X.A.units+1 < cLine) (ho:PE X o td) (hi:PE X i ty) (hs:yV i):PE X (.Subscript o i pos) (wY td ty):=by
 intro pins s σ H Q I h;refine VD PySem.F.slot_dict_getitem.lookup hs (aF (ho pins s σ H _ I h) fun u s1 ⟨x,H1,I1,rx,q1⟩=>aF (hi pins s1 σ H1 _ I1 q1) fun iv s2 ⟨y,H2,I2,ry,a,v,ex,g,q2⟩=>?_);subst ex;obtain rfl:u=Value.ref a:=rx;exact ⟨My I2 g,S6 hu I2 g ry fun w' s3 I3 rw'=>⟨v,H2,I3,rw',q2⟩⟩
def N6 (hu:X.A.units+1 < cLine) (hi:PE X i ty) (ho:PE X o td):PC X .In i o (Ak ty td):=by
 intro pins s σ H Q I h;refine aF (hi pins s σ H _ I h) fun iv s1 ⟨y,H1,I1,ry,q1⟩=>aF (ho pins s1 σ H1 _ I1 q1) fun u s2 ⟨x,H2,I2,rx,a,ov,ex,g,q2⟩=>?_;subst ex;obtain rfl:u=Value.ref a:=rx;exact Ww hu I2 g ry fun s3 I3=>⟨.bl ov.isSome,H2,I3,rfl,q2⟩
def VN (hu:X.A.units+1 < cLine) (hi:PE X i ty) (ho:PE X o td):PC X .NotIn i o (wV ty td):=by
 intro pins s σ H Q I h;refine aF (hi pins s σ H _ I h) fun iv s1 ⟨y,H1,I1,ry,q1⟩=>aF (ho pins s1 σ H1 _ I1 q1) fun u s2 ⟨x,H2,I2,rx,a,ov,ex,g,q2⟩=>?_;subst ex;obtain rfl:u=Value.ref a:=rx;exact Ym hu I2 g ry fun s3 I3=>⟨.bl (!ov.isSome),H2,I3,rfl,q2⟩
def NZ (hu:X.A.units+1 < cLine) (ho:PE X o td) (hi:PE X i ty) (hv:PE X value tv) (hs:swapsWith value (some (.Subscript o i pos')) pos.line X.env=pure false) :
  PS X (.Assign [.Subscript o i pos'] value pos) (zk td ty tv):=by
 intro pins s σ H D I h;refine wpAny_Assign_Subscript (aF (hv pins s σ H _ I h) fun r s1 ⟨v,H1,I1,rv,q1⟩=>aF (ho pins s1 σ H1 _ I1 q1) fun u s2 ⟨x,H2,I2,rx,q2⟩=>aF (hi pins s2 σ H2 _ I2 q2) fun iv s3 ⟨y,H3,I3,ry,a,H4,ex,g,q3⟩=>?_) hs;subst ex;obtain rfl:u=Value.ref a:=rx;exact V5 hu I3 g ry rv fun s4 I4=>⟨σ,H4,I4,q3⟩
end
def NQ {P:Program} {w:World} {H:Hp} (h:Heap) (hb:sysModules < h.objs.size):bN P w H (h.push { cls:=.type "dict",data:=.dict #[] }) h.objs.size (.dK []) :=
 ⟨At _,GM.mpr (sw (xL hb)),[],.nil,Heap.DictOf.new h⟩
def TL {P:Program} {w:World} {H:Hp} (h:Heap) (hb:sysModules < h.objs.size):bN P w H (h.push { cls:=.type "dict",data:=.dict #[] }) h.objs.size (.dT []) :=
 ⟨At _,GM.mpr (sw (xL hb)),[],.nil,_,#[],0,wn _ rfl,⟨rfl,rfl,rfl⟩,rfl,rfl,_h⟩
def zK:TE:=fun _ H Q=>∀ p,H p=none->Q (.ref p) (upd H p (.dK []))
def AY:TE:=fun _ H Q=>∀ p,H p=none->Q (.ref p) (upd H p (.dT []))
section
variable {X:Cx} {pos:Pos}
def Yp:PE X (.Dict [] [] pos) zK:=fun pins s σ H Q I h =>
 wpAny_Dict_empty ⟨.ref s.heap.objs.size,_,I.laid (a:=s.heap.objs.size) (o:=.dK []) (t':=s.toks) (fun _ _ q=>li _ q) (sB _) (NQ s.heap I.big),rfl,h _ (I.aB.fresh (sB _))⟩
def QQ:PE X (.Dict [] [] pos) AY:=fun pins s σ H Q I h =>
 wpAny_Dict_empty ⟨.ref s.heap.objs.size,_,I.laid (a:=s.heap.objs.size) (o:=.dT []) (t':=s.toks) (fun _ _ q=>li _ q) (sB _) (TL s.heap I.big),rfl,h _ (I.aB.fresh (sB _))⟩
end
def E8:List (TE×TE)->St->Hp->(List (V×V)->Hp->Prop)->Prop
 | [],_,H,Q=>Q [] H
 | (tk,tv)::r,σ,H,Q=>tk σ H fun x H1=>tv σ H1 fun y H2=>E8 r σ H2 fun ps H3=>Q ((x,y)::ps) H3
abbrev VV:List (V×V)->List (Value×Value)->Prop:=Paired fun p q=>RelV p.1 q.1/\RelV p.2 q.2
def R6 (X:Cx) (pos:Pos) (keys:List (Option Expr)) (values:List Expr) (trs:List (TE×TE)):Prop :=
 ∀ (pins:List (Addr×Obj)) (s:Shared) (σ:St) (H:Hp) (Q:List (V×V)->Hp->Prop),Inv X pins σ H s->E8 trs σ H Q ->
  wpAny (model X.prog X.w) X.A (evalPairs (pairTrees keys values X.env pos)) (fun vs s'=>∃ ps H',Inv X pins σ H' s'/\VV ps vs/\Q ps H') X.xe s
structure M1 (X:Cx) (o:Expr) (m:Str) (apos:Pos) (e:Expr) (bo:Pos):Prop where
 base:attributeBase o m X.env (eval o X.env)=eval o X.env
 FD:((backTo bo (starEach [e] X.env)).all (fun x=>!x.1) && (backToKw bo (keywordEach [] X.env)).all (fun x=>x.1.isSome)
  && decide (([e]:List Expr).length+([]:List Keyword).length+(if ([]:List Keyword).isEmpty then 0 else 1) < 30))=true
 line:(apos.endLine == bo.line)=true
 trees:backTo bo (starEach [e] X.env)=[(false,eval e X.env)]
structure M2 (X:Cx) (o:Expr) (m:Str) (apos:Pos) (e f:Expr) (bo:Pos):Prop where
 base:attributeBase o m X.env (eval o X.env)=eval o X.env
 FD:((backTo bo (starEach [e,f] X.env)).all (fun x=>!x.1) && (backToKw bo (keywordEach [] X.env)).all (fun x=>x.1.isSome)
  && decide (([e,f]:List Expr).length+([]:List Keyword).length+(if ([]:List Keyword).isEmpty then 0 else 1) < 30))=true
 line:(apos.endLine == bo.line)=true
 trees:backTo bo (starEach [e,f] X.env)=[(false,eval e X.env),(false,eval f X.env)]
def EN (H:Hp) (a:Addr):Prop:=(∃ kvs,Rd H a (.dK kvs))\/∃ kvs,Rd H a (.dT kvs)
def UQ {X:Cx} {pins:List (Addr×Obj)} {σ:St} {H:Hp} {s:Shared} {a:Addr} (I:Inv X pins σ H s) (d:EN H a) :
  s.TypeIs (.ref a) "dict" /\ (∀ b,Value.ref a=.ref b->∃ ob,s.heap.get? b=some ob/\ob.dict=none)/\(a == sysModules)=false:=by
 rcases d with ⟨kvs,e⟩ | ⟨kvs,e⟩
 ·obtain ⟨_,hd,vs,_,dd⟩:=mx I.aB e;refine ⟨dd.typeIs,fun b q=>?_,hd⟩;cases q;obtain ⟨ob,_,_,h1,h2,_⟩:=dd;exact ⟨ob,h1,h2.2.1⟩
 ·obtain ⟨_,hd,xs,_,dd⟩:=lU I.aB e;refine ⟨dd.typeIs,fun b q=>?_,hd⟩;cases q;obtain ⟨ob,_,_,h1,h2,_⟩:=dd;exact ⟨ob,h1,h2.2.1⟩
section
variable {X:Cx} {pins:List (Addr×Obj)} {σ:St} {H:Hp} {s:Shared} {a:Addr} {y d:V} {u r:Value} {o:Option V} {A:Around} {E:Value->Shared->Prop}
def Ur {Q:Value->Shared->Prop} (hu:A.units+1 < cLine) (I:Inv X pins σ H s) (g:dO H a y o) (ry:RelV y u) (h:∀ w' s',Inv X pins σ H s'->RelV (o.getD .aq) w'->Q w' s') :
  wpAny (model X.prog X.w) A (call (.builtin "dict.get") [.ref a,u]) Q E s:=by
 rcases g with ⟨kvs,k,e,ey,l⟩ | ⟨kvs,k,b,e,ey,eb,l⟩
 ·subst ey;obtain ⟨z,hd,vs,rel,dd⟩:=mx I.aB e;refine call_meetsIn _m dd.typeIs PySem.F.entry_dict_get (PySem.F.args_dict_get_2 _ _) (meets_dict_get (cS X.prog X.w) a (oW ry) hd) ⟨_,dd.mapOf,h _ _ (I.tok _) ?_⟩;rw [l];exact (rel.val k).getD rfl
 ·subst ey;cases (show u=Value.ref b from ry);obtain ⟨z,hd,xs,rel,dd⟩:=lU I.aB e;refine call_meetsIn _m dd.typeIs PySem.F.entry_dict_get (PySem.F.args_dict_get_2 _ _) (meetsH_dict_get (tupleKind (cS X.prog X.w)) a b hd) ⟨ZH hu,k,xs,nh I.aB eb,dd,h _ _ (I.tok _) ?_⟩;rw [l];exact (rel.val k).getD rfl
end
def zX (td ty:TE):TE:=fun σ H Q=>td σ H fun x H1=>∃ a,x=.ref a/\EN H1 a/\ty σ H1 fun y H2=>∃ o,dO H2 a y o/\Q (o.getD .aq) H2
section
variable {X:Cx} {o e f:Expr} {apos bo:Pos} {td ty tx:TE}
def Wh (hu:X.A.units+1 < cLine) (ho:PE X o td) (he:PE X e ty) (m:M1 X o "get" apos e bo):PE X (.Call (.Attribute o "get" apos) [e] [] bo) (zX td ty):=by
 intro pins s σ H Q I h;refine wpAny_Call_method m.base m.FD m.line PySem.F.plainAttrs_dict _m PySem.F.type_dict_get (aF (ho pins s σ H _ I h) fun u s1 ⟨x,H1,I1,rx,a,ex,d,q1⟩=>?_);subst ex;obtain rfl:u=Value.ref a:=rx;obtain ⟨t1,t2,_⟩:=UQ I1 d;refine ⟨t1,t2,?_⟩;rw [m.trees];refine WP rfl (ZY (ZE (aF (he pins s1 σ H1 _ I1 q1) fun iv s2 ⟨y,H2,I2,ry,ov,g,q2⟩=>ZQ ?_)));exact Ur hu I2 g ry fun w' s3 I3 rw'=>⟨_,H2,I3,rw',q2⟩
end
section
variable {X:Cx} {pins:List (Addr×Obj)} {σ:St} {H:Hp} {s:Shared} {a:Addr} {kvs:List (Key×V)} {A:Around} {E:Value->Shared->Prop}
end
section
variable {X:Cx} {pins:List (Addr×Obj)} {σ:St} {H:Hp} {s:Shared} {a:Addr} {y:V} {u:Value} {A:Around} {E:Value->Shared->Prop}
end
end L2
namespace Att
open PySem PySem.W PySem.Calls PyProof.Rows
def XA {P:Params} {h:Heap}:∀ (ns:List Int) (vs:List Value),WellAll P h vs (ns.map WData.int)->IntsAre vs ns:=by
 intro ns
 induction ns with
 | nil =>
  intro vs w;rw [List.map_nil] at w;cases w;exact .nil
 | cons n ns ih =>
  intro vs w;rw [List.map_cons] at w;cases w with
  | cons a b =>
   cases a;exact .cons _ _ (ih _ b)
def Sa {l:OpenLaw} {n:Nat} (hn:l.most=some n) {P:Params} {h:Heap} {args:List WData} {vals:List Value}
  (wA:l.row.toRowW.claim.pre args=true) (pN:WellAll P h vals args) :
  ∃ a vs ns,vals=[Value.ref a]/\args=[WData.list (ns.map WData.int)]/\h.get? a=some { cls:=.type "list",data:=.seq vs.toArray }/\IntsAre vs ns/\ns.length<=n:=by
 have j5:WShape.hasAll [] args [.list .int]=true:=(pre_splitW wA).1;have hc:l.pre.holds [] { args:=args }=true:=(pre_splitW wA).2;obtain ⟨d,r,rfl,h1,h2⟩:=hasAllW_cons j5;obtain rfl:=hasAllW_nil h2;obtain ⟨xs,rfl,h3⟩:=hasW_list h1;obtain ⟨ns,rfl⟩:=items_int h3;have hlen:ns.length<=n:=by
  unfold OpenLaw.pre at hc;have h4:(WTm.not (.lt (.lit (.int (n:Int))) (.len (.arg 0)))).holds [] { args:=[.list (ns.map .int)] }=true:=by
   have h4:=(holds_andW hc).1;rw [hn] at h4;exact h4
  have h5:=condW_of h4 (w_not (w_lt w_lit (w_len_list (w_arg rfl))));rw [List.length_map] at h5;refine Nat.le_of_not_lt fun q=>?_;have q':(n:Int) < ((ns.length:Nat):Int):=by omega
  first
   | (rw [decide_eq_true q'] at h5; exact absurd h5 (by decide))
   | (simp at h5; omega)
 cases pN with
 | cons w1 w2 =>
  cases w2;cases w1 with
  | list ho kY=>exact ⟨_,_,ns,rfl,rfl,ho,XA ns _ kY,hlen⟩
def Yr (l:OpenLaw) (args:List WData):l.row.toRowW.claim.post args (.bool true) args=true :=
 postW_of (r:=l.row.toRowW) (X:=(true == true))
  (show WShape.has [] (.bool true) .bool=true by first | rfl | decide | simp [WShape.has,WShape.arms,WShape.armsAll])
  (show (WTm.eq .res (.lit (.bool true))).value [] { args:=args,res:=some (.bool true),after:=args }=some (.bool (true == true)) from w_eq_bool (w_res rfl) w_lit) rfl
def Ob {l:OpenLaw} {n:Nat} {q:Program} {loose:List Str} {XP:(Str->Option Value)->Heap->Prop} {YP:World->Heap->Prop} {d:DefRec}
  (hn:l.most=some n) (sV:d.params.defaults=[])
  (call:∀ (w:World) (s₀ s₁:Shared) (mg mb:Str->Option Value) (fa:Addr) (o:Obj) (pm cd doc:Value) (a:Addr) (vs:List Value) (ns:List Int),
   Ground q loose [] XP w s₀ mg mb s₁.heap->YP w s₁.heap ->
   s₁.heap.get? fa=some o->o.data=.func (docDef d.name d.params d.body d.scope pm cd doc)->s₁.heap.CodeRec cd d.name->mg d.name=some (.ref fa) ->
   s₁.heap.get? a=some { cls:=.type "list",data:=.seq vs.toArray }->IntsAre vs ns->ns.length<=n->s₁.gens=#[] ->
   codeAny (model l.prog w) callerA (.call (.ref fa) ⟨[.ref a],[]⟩) (fun r s'=>r=.ok (.ret (.bool true))/\OldK s₁.heap s'.heap/\s'.os=s₁.os/\AllBare s'.gens) s₁) :
  WalkO q loose XP YP l.row.toRowW d [] (fun f vs=>PySem.call f vs):=by
 intro w s₀ s₁ mg mb G Y fa o pm cd doc dV kV ho hd cT hD hmg hg args vals as wA hlay fR pN hlo;obtain rfl:dV=.none:=Dflts.none hD sV;obtain rfl:kV=.none:=Dflts.noKw hD;obtain ⟨a,vs,ns,rfl,rfl,tV,hints,hlen⟩:=Sa hn wA pN;refine enter_call (codeAny_mono (call w s₀ s₁ mg mb fa o pm cd doc a vs ns G Y ho (fd_plain hd) cT hmg tV hints hlen hg) fun r s' hq=>?_);obtain ⟨rfl,h2,h3,h4⟩:=hq;exact ⟨.inl ⟨.bool true,.bool true,[],rfl,fun _=>rfl,.bool true,Yr l _,fun _=>⟨List.Pairwise.nil,fun _ hm=>(nomatch hm)⟩⟩,h2,h3,h4⟩
section
variable {prog:Program} {w:World} {A:Around} {E:Value->Shared->Prop} {s:Shared} {K:Frag}
end
end Att
namespace L2
open PySem PySem.Spec PyProof.Rows
def HM:∀ {vs:List Value} {ns:List Int},IntsAre vs ns->Vals (ns.map V.int) vs
 | _,_,.nil=>.nil
 | _,_,.cons n t h=>.cons ⟨t,rfl⟩ (HM h)
def rX (H:Hp):Prop:=∀ b,H b=none\/∃ o xs,H b=some (.bG o (.lst xs))
def UM {P:Program} {w:World} {K:PySem.W.Frag} {mg mb:Str->Option Value} {CX:dD} {k:Nat} {fa a:Addr} {fd:FuncData} {x:Str} {sp:Sp} {s₁:Shared} {vs:List Value} {ns:List Int}
  (KX:K.In s₁.heap) (fX:s₁.heap.Ns mainGlobals mg) (hb:s₁.heap.Ns builtinsNs mb) (hbb:∀ x:Str,x ≠ "__name__" -> mb x=bootBuiltins x) (hlim:s₁.heap.NoLimit) (hg:s₁.gens=#[])
  (ha:s₁.heap.get? a=some { cls:=.type "list",data:=.seq vs.toArray }) (hi:IntsAre vs ns) (hl:ns.length<=sizeLine) (hr:bx k callerA)
  (F:∀ base:Heap,K.In base->base.Ns mainGlobals mg->aC P w K mg base CX k fa fd [x] sp) (hbind:∀ (s:Shared) (u:Value),BindsTo s fd ⟨[u],[]⟩ [(x,u)])
  (gY:∀ H:Hp,rX H->aE K H a (ns.map V.int)->sp [.ref a] H (fun v _=>v=.bl true) fun _ _ _=>False)
  (DV:∀ H e s',CX [] H s₁ (fun _ _ _=>False) e s'->False) :
  codeAny (model P w) callerA (.call (.ref fa) ⟨[.ref a],[]⟩) (fun r s'=>r=.ok (.ret (.bool true))/\OldK s₁.heap s'.heap/\s'.os=s₁.os/\AllBare s'.gens) s₁:=by
 have rv:=HM hi;have lenV:=hi.length
 -- from an abstract heap in which nothing but gF script may be tracked
 have core:∀ H:Hp,rX H->aE K H a (ns.map V.int)->bY P w H s₁.heap->(∀ b,H b≠none->b=a)->(H a≠none->K.lookup a=none) ->
   codeAny (model P w) callerA (.call (.ref fa) ⟨[.ref a],[]⟩) (fun r s'=>r=.ok (.ret (.bool true))/\OldK s₁.heap s'.heap/\s'.os=s₁.os/\AllBare s'.gens) s₁:=by
  intro H hO hS aB hA hK;have Ma:∀ {b:Addr} {o:Obj},s₁.heap.get? b=some o->H b=none->(jK s₁.heap H).get? b=some o:=fun e n=>YB e n;have tZ:∀ {b:Addr} {o:Obj} {es:Array DictEntry} {ep:Nat},s₁.heap.get? b=some o->o.data=.dict es ep->H b=none:=fun {b o es ep} e d=>by
   cases q:H b with
   | none=>rfl
   | some u =>
    have e':b=a:=hA b (by rw [q]; simp);subst e';rw [ha] at e; cases e;have d':Data.seq vs.toArray _=Data.dict es ep:=d;cases d'
  have wj:∀ {b:Addr} {m:Str->Option Value},s₁.heap.Ns b m->(jK s₁.heap H).Ns b m:=fun {b m} ⟨o,es,ep,e,d,r⟩=>⟨o,es,ep,Ma e (tZ e d),d,r⟩;have K3:K.In (jK s₁.heap H):=fun b o e=>Ma (KX b o e) (by
   cases q:H b with
   | none=>rfl
   | some u =>
    have e':b=a:=hA b (by rw [q]; simp);subst e';rw [hK (by rw [q]; simp)] at e; cases e)
  have hM:Mod K mg (jK s₁.heap H):=⟨K3,wj fX,⟨mb,wj hb,hbb⟩,let ⟨mc,h1,h2⟩:=hlim; ⟨mc,wj h1,h2⟩⟩;have e0:kz P w K mg (jK s₁.heap H) callerA [] s₁ H:=⟨rfl,hM,fun b o e=>UZ e,Nat.le_of_eq (OA _ _),trivial,fun b hb=>absurd (show b∈([]:List Addr) from hb) (by simp),aB,.of_eq hg⟩;refine _e ((F _ K3 (wj fX)).run callerA [] s₁ H ⟨[.ref a],[]⟩ [.ref a] [.ref a] _ _ hr e0 (hbind s₁ (.ref a)) (.cons rfl .nil) (gY H hO hS)) fun r s' h=>?_;cases r with
  | error e=>exact (DV H e s' h).elim
  | ok fl =>
   cases fl with
   | next=>exact False.elim h
   | brk=>exact False.elim h
   | cont=>exact False.elim h
   | ret u =>
    obtain ⟨v,H',os,bare,un,hok',r',q⟩:=h;have q':v=.bl true:=q;subst q';obtain rfl:u=Value.bool true:=r';refine ⟨rfl,OldK.of_keep fun b o e=>?_,os,bare⟩;cases q:H b with
    | none=>exact un.keep b o e q (by intro z; exact absurd (show b∈([]:List Addr) from z) (by simp)) (by simp)
    | some u =>
     rcases hO b with z | ⟨ob,xs,z⟩
     ·rw [q] at z; cases z
     ·have z2:=un.fk b ob _ z;obtain ⟨e1,_⟩:=aB b _ z;obtain ⟨e2,_⟩:=hok' b _ z2;rw [e] at e1; cases e1;exact e2
 cases hk:K.lookup a with
 | some o =>
  -- gF script is one of gF module's own objects
  have e:=KX a o hk;rw [ha] at e;cases e;refine core (fun _=>none) (fun _=>.inl rfl) (.inr ⟨_,vs.toArray,_,hk,rfl,rfl,rfl,by rw [tz,lenV]; exact hl,by simpa using rv⟩) (fun b u z=>by have z':(none:Option HO)=some u:=z; cases z') (fun b z=>absurd rfl z) fun z=>absurd rfl z
 | none =>
  refine core (fun b=>if b=a then some (.bG { cls:=.type "list",data:=.seq vs.toArray } (.lst (ns.map V.int))) else none) (fun b=>?_) (.inl (.inr ⟨{ cls:=.type "list",data:=.seq vs.toArray },Db rfl⟩)) (fun b u z=>?_) (fun b z=>?_) fun _=>hk
  ·by_cases hb:b=a
   ·exact .inr ⟨_,_,Db hb⟩
   ·exact .inl (Ch hb)
  ·by_cases hb:b=a
   ·have z':=(Db hb).symm.trans z;cases z';subst hb;exact ⟨ha,by rw [mo]; exact hl,vs,_,rv,ha⟩
   ·have z':=(Ch hb).symm.trans z;cases z'
  ·by_cases hb:b=a
   ·exact hb
   ·exact absurd (Ch hb) z
abbrev YR {K:PySem.W.Frag} {h:Heap} (_:K.In h):PySem.W.Frag:=K
def QJ {l:PySem.W.OpenLaw} {n k:Nat} {q:Program} {loose:List Str} {XP:(Str->Option Value)->Heap->Prop} {YP:World->Heap->Prop} {d:DefRec} {K:Params->PySem.W.Frag} {CX:World->dD} {sp:World->Sp} {x:Str}
  (hn:l.most=some n) (hX:n<=sizeLine) (sV:d.params.defaults=[]) (hr:bx k callerA)
  (hY:∀ (w:World) (h:Heap),YP w h->(K w.params).In h)
  (F:∀ (w:World) (mg:Str->Option Value) (fa:Addr) (h:Heap),(K w.params).In h->h.Ns mainGlobals mg->mg d.name=some (.ref fa) ->
   ∃ fd:FuncData,(∀ (s:Shared) (u:Value),BindsTo s fd ⟨[u],[]⟩ [(x,u)]) /\
    ∀ base:Heap,(K w.params).In base->base.Ns mainGlobals mg->aC l.prog w (K w.params) mg base (CX w) k fa fd [x] (sp w))
  (gY:∀ (w:World) (H:Hp) (a:Addr) (ns:List Int),ns.length<=n->rX H->aE (K w.params) H a (ns.map V.int)->sp w [.ref a] H (fun v _=>v=.bl true) fun _ _ _=>False)
  (DV:∀ (w:World) (H:Hp) (s:Shared) (e:Value) (s':Shared),CX w [] H s (fun _ _ _=>False) e s'->False) :
  PySem.W.WalkO q loose XP YP l.row.toRowW d [] (fun f vs=>PySem.call f vs):=by
 refine Att.Ob hn sV fun w s₀ s₁ mg mb fa o pm cd doc a vs ns G Y ho hd cT hmg tV hints hlen hg=>?_;have KX:=hY w _ Y;obtain ⟨fd,hb,hF⟩:=F w mg fa _ KX G.T.g hmg;exact UM KX G.T.g G.T.b G.T.builtins G.T.nolimit hg tV hints (wE hlen hX) hr hF hb (fun H hO hS=>gY w H a ns hlen hO hS) fun H e s'=>DV w H s₁ e s'
def inClass (s:Stmt) (j:Nat):Stmt:=match s with
 | .ClassDef _ _ _ body _ _ _ _ _ _ _=>body.getD j (.Pass ⟨0,0,0,0⟩)
 | _=>.Pass ⟨0,0,0,0⟩
def en (s:Stmt):Arguments:=match s with
 | .FunctionDef _ a _ _ _ _ _ _ _ _=>a
 | _=>{ posonlyargs:=[],args:=[],vararg:=none,kwonlyargs:=[],kw_defaults:=[],kwarg:=none,defaults:=[] }
def aZ (s:Stmt):List Stmt:=match s with
 | .FunctionDef _ _ b _ _ _ _ _ _ _=>b
 | _=>[]
def aD (s:Stmt):Scope:=match s with
 | .FunctionDef _ _ _ _ _ _ sc _ _ _=>sc
 | _=>{ kind:=.function,names:=[],isGenerator:=false,isCoroutine:=false }
abbrev aM:dD:=fun _ _ _ _ _ _=>False
abbrev E0:XK:=fun _ _ _=>False
def aA {X:Cx}:Passes aM X E0:=fun _ _ _ _ _ _ _ h=>h.elim
structure iT (K:PySem.W.Frag) (x qual:Str) (st:Stmt) (f:Addr) (fd:FuncData):Prop where
 ex:∃ (oc:Value) (od:Option Addr) (kV doc pm:Value) (an:Option Addr) (ax ct:Value) (dA:Array (Option Value)),
  fd=PySem.W.fnOf x qual (en st) (aZ st) (aD st) .none kV doc pm an ax ct/\K.lookup f=some ⟨oc,od,.func fd,dA⟩/\PySem.W.codeIn K ax qual=true
 kp:PySem.W.keepIn K (.ref f)=true
section
variable {P:Program} {w:World} {K:PySem.W.Frag} {mg:Str->Option Value} {base:Heap}
def iT.ok {x qual:Str} {st:Stmt} {f:Addr} {fd:FuncData} {N ps:List Str} {k:Nat} {sp:Sp} (F:iT K x qual st f fd) (S:aG N ps (aD st)) (len:∀ vs H Q E,sp vs H Q E->vs.length=ps.length)
  (Dy:∀ (ax:Value) (A:Around) (outer:List Env) (s:Shared) (H:Hp) (vs:List V) (Q:VK) (E:XK),bx k (A.deeper (envOfC qual (aD st) s.heap.objs.size f ax))->sp vs H Q E ->
   ∃ t,dQ (fh aM P w K mg base N qual (aD st) f ax A outer s H E).uK (aZ st) t/\t { nx:=fun _ H'=>Q .aq H',rt:=Q } (start N vs) H):aC P w K mg base aM (k+1) f fd ps sp:=by
 obtain ⟨oc,od,kV,doc,pm,an,ax,ct,dA,rfl,lk,cT⟩:=F.ex;refine zT lk cT S len fun A outer s H vs Q E hr gY=>?_;obtain ⟨t,h,q⟩:=Dy ax A outer s H vs Q E hr gY;exact ⟨t,h.uK,q⟩
def iT.binds {x qual:Str} {st:Stmt} {f:Addr} {fd:FuncData} {ps:List Str} (F:iT K x qual st f fd)
  (h:∀ (kV doc pm:Value) (an:Option Addr) (ax ct:Value) (us:List Value),us.length=ps.length->bindArgs (PySem.W.fnOf x qual (en st) (aZ st) (aD st) .none kV doc pm an ax ct) ⟨us,[]⟩=pure (ps.zip us)):Binds K fd ps []:=by
 obtain ⟨oc,od,kV,doc,pm,an,ax,ct,dA,rfl,lk,cT⟩:=F.ex;exact .all (h kV doc pm an ax ct)
def Bg {x qual:Str} {st:Stmt} {f:Addr} {oc:Value} {od an:Option Addr} {dA:Array (Option Value)} {kV doc pm ax ct:Value} (l:K.lookup f=some ⟨oc,od,.func (PySem.W.fnOf x qual (en st) (aZ st) (aD st) .none kV doc pm an ax ct),dA⟩)
  (c:PySem.W.codeIn K ax qual=true) (k:PySem.W.keepIn K (.ref f)=true):iT K x qual st f (PySem.W.fnOf x qual (en st) (aZ st) (aD st) .none kV doc pm an ax ct):=⟨⟨oc,od,kV,doc,pm,an,ax,ct,dA,rfl,l,c⟩,k⟩
end
def eD {A:Around} {k:Nat} (hr:bx k A):A.units+1 < cLine:=Gc (Zz (by decide:1<=64) _) hr.units
def EE {n:Nat} (h:n<=1000):n < sizeLine:=Gc h (by decide)
section
variable {X:Cx}
def pv (i:Nat) {x:Str} {pos:Pos} (hN:X.N[i]?=some x:=by rfl) (hv:qy X.env.scope x:=by first | exact Or.inl rfl | exact Or.inr (Or.inl rfl) | exact Or.inr (Or.inr rfl)) (hd:(x == ("__debug__" : Str))=false:=by decide)
  (cT:(x == ("__classdict__" : Str))=false:=by decide):PE X (.Name x pos) (IV i):=HJ hN hv hd cT
end
def bA {A B:Prop} (h:B):if false=true then A else B:=by
 rw [Ch wT];exact h
def bS {A B:Prop} (h:A):if true=true then A else B:=by
 rw [Db rfl];exact h
def e8 {c A B:Prop} [Decidable c] (h1:c->A) (h2:¬ c->B):if c then A else B:=by
 by_cases h:c
 ·rw [Db h];exact h1 h
 ·rw [Ch h];exact h2 h
def ag (H H':Hp):Prop:=∀ b o,H b=some o->H' b=some o
def ag.refl (H:Hp):ag H H:=fun _ _ h=>h
def ag.trans {H H1 H2:Hp} (a:ag H H1) (b:ag H1 H2):ag H H2:=fun c o h=>b c o (a c o h)
def ag.free {H H':Hp} (e:ag H H') {l:Addr} (h:H' l=Option.none):H l=Option.none:=by
 cases q:H l with
 | none=>rfl
 | some o =>
  rw [e l o q] at h;cases h
def ag.seq {K:PySem.W.Frag} {H H':Hp} {a:Addr} {xs:List V} (e:ag H H') (h:aE K H a xs):aE K H' a xs:=by
 rcases h with (h | ⟨o,h⟩) | h
 ·exact .inl (.inl (e _ _ h))
 ·exact .inl (.inr ⟨o,e _ _ h⟩)
 ·exact .inr h
section
variable {X:Cx}
end
section
variable {κ:Type} [DecidableEq κ]
end
end L2
namespace Tx
open PySem PySem.Builtin PySem.Builtin.Str PySem.StrLaws
def S (l:List Nat):Str:=⟨l.toArray⟩
def jx (l:List Nat):(S l).cps.toList=l:=by simp [S]
def Wm (s:Str):S s.cps.toList=s:=by cases s; simp [S]
def cB (l:List Nat):(S l).length=l.length:=by simp [S,Str.length]
def GP {a b:List Nat} (h:S a=S b):a=b:=by
 have:=congrArg (fun s=>s.cps.toList) h
 simpa [jx] using this
def ko (a b:List Nat):S a++S b=S (a++b):=by
 apply Str.ext';rw [Str.cps_append];simp [S]
def kE (c:Nat):(S [c]).length=1:=by rw [cB]; rfl
def subAt_one (x:List Nat) (c i:Nat) (h:i < x.length):subAt (S x) (S [c]) i=decide (x[i]?=some c):=by
 rw [subAt_eq,jx,jx,kE];rw [List.drop_eq_getElem_cons h,List.take_succ_cons,List.take_zero,List.getElem?_eq_getElem h];by_cases e:x[i]=c
 ·simp [e]
 ·simp [e]
def O7 (x:List Nat) (c:Nat):(!(occurrences (S x) (S [c]) 0 (S x).length 1).isEmpty)=x.contains c:=by
 rw [Bool.eq_iff_iff,found_iff,kE,cB];constructor
 ·rintro ⟨i,h1,h2⟩;rw [subAt_one x c i (by omega)] at h2;have h3:=of_decide_eq_true h2;exact List.elem_iff.mpr (List.mem_of_getElem? h3)
 ·intro h;obtain ⟨i,hi,e⟩:=List.getElem_of_mem (List.elem_iff.mp h);refine ⟨i,by omega,?_⟩;rw [subAt_one x c i hi,List.getElem?_eq_getElem hi,e];simp
def cut (c:Nat):List Nat->List (List Nat)
 | []=>[[]]
 | a::r=>if a=c then []::cut c r else match cut c r with
  | []=>[[a]]
  | h::t=>(a::h)::t
def XH (c:Nat):∀ l,cut c l≠[]
 | []=>by simp [cut]
 | a::r=>by
  unfold cut;split
  ·simp
  ·split <;> simp
def cL (c:Nat):Nat->List Nat->List Nat
 | _,[]=>[]
 | k,a::r=>if a=c then k::cL c (k+1) r else cL c (k+1) r
def HN (c:Nat):∀ (l:List Nat) (k j:Nat),cL c (k+j) l=(cL c k l).map (· + j)
 | [],_,_=>rfl
 | a::r,k,j=>by
  unfold cL;have e:k+j+1=(k+1)+j:=by omega
  rw [e,HN c r (k+1) j];split <;> simp
def xE (x:List Nat) (c limit:Nat):∀ (l:List Nat) (k:Nat) (acc:Array Nat) (free:Nat),x.drop k=l->free<=k->acc.size+l.length < limit->k<=x.length ->
  (forIn (List.range' k (x.length+1 - k)) (acc,free) (occBody (S x) (S [c]) x.length limit)).run.fst.toList=acc.toList++cL c k l
 | [],k,acc,free,hd,hf,hl,hk=>by
  have DR:k=x.length:=by
   have:=congrArg List.length hd;simp at this;omega
  have e:x.length+1 - k=1:=by omega
  have e1:List.range' k 1=[k]:=rfl;rw [e,e1,List.forIn_cons];unfold occBody;have hc:¬ (((((acc,free):Array Nat×Nat).fst.size < limit/\((acc,free):Array Nat×Nat).snd<=k)/\k+(S [c]).length<=x.length)/\subAt (S x) (S [c]) k=true):=by
   rw [kE];rintro ⟨⟨_,h⟩,_⟩;omega
  rw [if_neg hc];simp [cL]
 | a::r,k,acc,free,hd,hf,hl,hk=>by
  have bH:k < x.length:=by
   have:=congrArg List.length hd;simp at this;omega
  have e:x.length+1 - k=(x.length+1 - (k+1))+1:=by omega
  have hx:x[k]?=some a:=by
   have h1:(x.drop k)[0]?=some a:=by rw [hd]; rfl
   rw [List.getElem?_drop] at h1
   simpa using h1
  have hr:x.drop (k+1)=r:=by
   rw [<- List.drop_drop,hd]; rfl
  rw [e,List.range'_succ,List.forIn_cons];unfold occBody;simp only [List.length_cons] at hl;by_cases mX:a=c
  ·have hc:(((((acc,free):Array Nat×Nat).fst.size < limit/\((acc,free):Array Nat×Nat).snd<=k)/\k+(S [c]).length<=x.length)/\subAt (S x) (S [c]) k=true):=by
    rw [kE,subAt_one x c k bH,hx,mX];refine ⟨⟨⟨?_,hf⟩,by omega⟩,by simp⟩;show acc.size < limit;omega
   rw [if_pos hc];have ih:=xE x c limit r (k+1) (acc.push k) (k+(S [c]).length) hr (by rw [kE]; omega) (by simp; omega) (by omega);refine Eq.trans ih ?_;rw [show cL c k (a::r)=k::cL c (k+1) r from if_pos mX];simp
  ·have hc:¬ (((((acc,free):Array Nat×Nat).fst.size < limit/\((acc,free):Array Nat×Nat).snd<=k)/\k+(S [c]).length<=x.length)/\subAt (S x) (S [c]) k=true):=by
    rw [subAt_one x c k bH,hx];rintro ⟨_,h⟩;exact mX (Option.some.inj (of_decide_eq_true h))
   rw [if_neg hc];have ih:=xE x c limit r (k+1) acc free hr (by omega) (by omega) (by omega);refine Eq.trans ih ?_
   conv=>rhs; unfold cL
   rw [if_neg mX]
def y1 (x:List Nat) (c:Nat):occurrences (S x) (S [c]) 0 (S x).length ((S x).length+1)=cL c 0 x:=by
 rw [occ_eq,cB];have h:=xE x c (x.length+1) x 0 #[] 0 rfl (Nat.le_refl _) (by simp) (Nat.zero_le _);rw [h];simp
def pieces (l:List Nat) (ps:List Nat):List (List Nat):=((0::ps.map (· + 1)).zip (ps++[l.length])).map fun p=>(l.drop p.1).take (p.2 - p.1)
def sJ (c:Nat):∀ l:List Nat,pieces l (cL c 0 l)=cut c l
 | []=>rfl
 | a::r=>by
  have ih:=sJ c r;have sh:cL c (0+1) r=(cL c 0 r).map (· + 1):=HN c r 0 1;have tail:∀ (A B:List Nat),((A.map (· + 1)).zip (B.map (· + 1))).map (fun p:Nat×Nat=>((a::r).drop p.1).take (p.2 - p.1))=(A.zip B).map (fun p:Nat×Nat=>(r.drop p.1).take (p.2 - p.1)):=fun A B=>by
   rw [List.zip_map,List.map_map];refine List.map_congr_left fun p _=>?_;show ((a::r).drop (p.1+1)).take (p.2+1 - (p.1+1))=_;rw [List.drop_succ_cons]
   congr 1
   omega
  unfold pieces at ih ⊢;unfold cL cut;rw [sh];by_cases h:a=c
  ·rw [if_pos h,if_pos h];have e1:(0::(0::(cL c 0 r).map (· + 1)).map (· + 1))=0::((0::(cL c 0 r).map (· + 1)).map (· + 1)):=rfl;have e2:(0::(cL c 0 r).map (· + 1))++[(a::r).length]=0::((cL c 0 r++[r.length]).map (· + 1)):=by simp
   rw [e1,e2,List.zip_cons_cons,List.map_cons,tail,ih];simp
  ·rw [if_neg h,if_neg h];have e2:(cL c 0 r).map (· + 1)++[(a::r).length]=(cL c 0 r++[r.length]).map (· + 1):=by simp
   rw [e2];generalize hB:cL c 0 r++[r.length]=B at ih;cases B with
   | nil=>simp at hB
   | cons b B' =>
    rw [List.zip_cons_cons,List.map_cons] at ih;rw [<- ih];rw [List.map_cons (l:=B'),List.zip_cons_cons,List.map_cons,tail];simp
def MW (x:List Nat) (i j:Nat):strSub (S x) i j=S ((x.drop i).take (j - i)):=by
 rw [<- Wm (strSub (S x) i j),strSub_toList,jx]
def BO (x:List Nat) (ps:List Nat):partsBetween (S x) ps 1=(pieces x ps).map S:=by
 unfold partsBetween pieces;rw [List.map_map,cB];refine List.map_congr_left fun p _=>?_;exact MW x p.1 p.2
def Hr (c:Nat):∀ l:List Nat,cL c 0 l=[]->cut c l=[l]
 | l,h=>by
  have:=sJ c l;rw [h] at this;rw [<- this];simp [pieces]
def Fv (x:List Nat) (c:Nat) (hc:c < 256):Txt.split (S x) (S [c])=(cut c x).map S:=by
 unfold Txt.split;rw [y1,kE,BO,sJ];have nop:∀ k,¬ c∈x->cL c k x=[]:=by
  intro k
  induction x generalizing k with
  | nil=>intro _; rfl
  | cons a r ih =>
   intro hm;unfold cL;rw [if_neg (fun e=>hm (by simp [e]))];exact ih (k+1) fun m=>hm (List.mem_cons_of_mem _ m)
 by_cases h1:(decide ((S x).length < 1) || decide (PySem.Builtin.Str.strKind (S x) < PySem.Builtin.Str.strKind (S [c])))=true
 ·rw [if_pos h1];have hx:cL c 0 x=[]:=by
   refine nop 0 fun m=>?_;rw [cB] at h1;have hk:PySem.Builtin.Str.strKind (S [c])=1:=by unfold PySem.Builtin.Str.strKind S; simp [hc]
   rw [hk] at h1;have hp:¬ x.length < 1:=by cases x with | nil=>simp at m | cons _ _=>simp
   have hq:¬ PySem.Builtin.Str.strKind (S x) < 1:=by unfold PySem.Builtin.Str.strKind; split <;> (try split) <;> omega
   simp [hp,hq] at h1
  rw [Hr c x hx]; rfl
 ·rw [if_neg h1];by_cases h2:(cL c 0 x).isEmpty=true
  ·rw [if_pos h2];rw [Hr c x (List.isEmpty_iff.mp h2)]; rfl
  ·rw [if_neg h2]
end Tx
namespace L2
open PySem PySem.Spec PyProof.Rows
def noStar:Expr->Bool
 | .Starred _ _=>false
 | _=>true
def eZ {e:Expr} {es:List Expr} {env:Env} (h:noStar e=true):starEach (e::es) env=(false,eval e env)::starEach es env:=by
 cases e <;> first | rfl | cases h
def gI {pos:Pos} {env:Env}:∀ {es:List Expr},es.all noStar=true->(backTo pos (starEach es env)).any (·.1)=false
 | [],_=>rfl
 | e::es,h=>by
  rw [NE,Do] at h;rw [eZ h.1];have ih:=gI (pos:=pos) (env:=env) h.2;show ((false || (backTo pos (starEach es env)).any (·.1)))=false;rw [ih];rfl
def Bx {pos:Pos} {env:Env}:∀ {es:List Expr},es.all noStar=true->(backTo pos (starEach es env)).all (fun x=>!x.1)=true
 | [],_=>rfl
 | e::es,h=>by
  rw [NE,Do] at h;rw [eZ h.1];have ih:=Bx (pos:=pos) (env:=env) h.2;show ((true && (backTo pos (starEach es env)).all (fun x=>!x.1)))=true;rw [ih];rfl
section
variable {X:Cx}
def Uh {e:Expr} {es:List Expr} {te:TE} {t:TA} (ha:PE X e te) (hr:PA X es t) (hs:noStar e=true:=by rfl):PA X (e::es) (i9 te t):=TK ha hr (eZ hs)
def VX {CX:dD} {k:Nat} {f:Addr} {fd:FuncData} {ps:List Str} {sp:Sp} {bj:List V} {ds:List Value} {E:XK} {x:Str} {p pos:Pos} {e:Expr} {es:List Expr} {t:TA}
  (F:aC X.prog X.w X.K X.mg X.base CX k f fd ps sp) (hr:bx k X.A) (hg:Gl X x) (hm:X.mg x=some (.ref f)) (hk:PySem.W.keepIn X.K (.ref f)=true) (hb:Binds X.K fd ps ds) (hd:Vals bj ds) (hx:Passes CX X E)
  (ha:PA X (e::es) t) (hs:(e::es).all noStar=true:=by rfl) (bP:(x == ("__debug__" : Str))=false:=by decide):PE X (.Call (.Name x p) (e::es) [] pos) (uT sp bj E t):=by
 have hs':=hs;rw [NE,Do] at hs';exact SU F hr hg hm hk hb hd hx ha bP (eZ hs'.1) (gI hs'.2)
def Ue {x:Str} {p pos:Pos} {e:Expr} {es:List Expr} {t:TA} {id:String} {r:List V->Hp->VK->Prop} (hc:cq X (.builtin id) r) (hg:Gl X x) (hm:X.mg x=none) (hv:bootBuiltins x=some (.builtin id)) (ha:PA X (e::es) t)
  (hs:(e::es).all noStar=true:=by rfl) (hn:x ≠ "__name__" := by decide) (bP:(x == ("__debug__" : Str))=false:=by decide):PE X (.Call (.Name x p) (e::es) [] pos) (lQ r t):=by
 have hs':=hs;rw [NE,Do] at hs';exact Xw hc hg hm hv ha hn bP (eZ hs'.1) (gI hs'.2)
def TF {x:Str} {p pos:Pos} {e:Expr} {es:List Expr} {t:TA} {T:String} {r:List V->Hp->VK->Prop} (hc:cq X (.type T) r) (hg:Gl X x) (hm:X.mg x=none) (hv:bootBuiltins x=some (.type T)) (ha:PA X (e::es) t)
  (hs:(e::es).all noStar=true:=by rfl) (hn:x ≠ "__name__" := by decide) (bP:(x == ("__debug__" : Str))=false:=by decide):PE X (.Call (.Name x p) (e::es) [] pos) (lQ r t):=by
 have hs':=hs;rw [NE,Do] at hs';exact Xb hc hg hm hv ha hn bP (eZ hs'.1) (gI hs'.2)
end
section
variable {X:Cx}
def PE.imp {e:Expr} {t t':TE} (h:PE X e t) (i:∀ σ H Q,t' σ H Q->t σ H Q):PE X e t':=fun pins s σ H Q I hw=>h pins s σ H Q I (i σ H Q hw)
def PS.imp {e:Stmt} {t t':TS} (h:PS X e t) (i:∀ D σ H,t' D σ H->t D σ H):PS X e t':=fun pins s σ H D I hw=>h pins s σ H D I (i D σ H hw)
def aW.imp {f:Value->Value->Sem Value} {r r':R2} (h:aW X f r) (i:∀ x y H Q,r' x y H Q->r x y H Q):aW X f r':=fun pins s σ H x y v u Q I rx ry q=>h pins s σ H x y v u Q I rx ry (i x y H Q q)
def cq.imp {f:Value} {r r':List V->Hp->VK->Prop} (h:cq X f r) (i:∀ xs H Q,r' xs H Q->r xs H Q):cq X f r':=fun pins s σ H xs us Q I rx q=>h pins s σ H xs us Q I rx (i xs H Q q)
def jG (i:Nat):TE:=fun σ H Q=>match σ[i]? with
 | some (some v)=>Q v H
 | _=>False
def qv (i:Nat) {x:Str} {pos:Pos} (hN:X.N[i]?=some x:=by rfl) (hv:qy X.env.scope x:=by first | exact Or.inl rfl | exact Or.inr (Or.inl rfl) | exact Or.inr (Or.inr rfl)) (hd:(x == ("__debug__" : Str))=false:=by decide)
  (cT:(x == ("__classdict__" : Str))=false:=by decide):PE X (.Name x pos) (jG i):=(HJ hN hv hd cT).imp fun σ H Q h=>by
 unfold jG at h;split at h
 ·rename_i v e;exact ⟨v,e,h⟩
 ·exact h.elim
def Bs:R2:=fun x y H Q=>match x,y with
 | .int i,.int j=>Q (.int (i+j)) H
 | .str a,.str b=>a.length+b.length<=sizeLine/\Q (.str (a++b)) H
 | .ref l,.ref b=>match H l,H b with
  | some (.lst xs),some (.lst zs)=>xs.length+zs.length<=sizeLine/\∀ p,H p=none->Q (.ref p) (upd H p (.lst (xs++zs)))
  | _,_=>False
 | _,_=>False
def cR:aW X (binaryOp .Add) Bs:=(NM.or (WR.or Pn)).imp fun x y H Q h=>by
 unfold Bs at h;split at h
 ·exact .inl ⟨_,_,rfl,rfl,h⟩
 ·exact .inr (.inl ⟨_,_,rfl,rfl,h.1,h.2⟩)
 ·split at h
  ·rename_i xs zs h1 h2;exact .inr (.inr ⟨_,_,xs,zs,rfl,rfl,h1,h2,h.1,h.2⟩)
  ·exact h.elim
 ·exact h.elim
def bC (K:PySem.W.Frag) (H:Hp) (p:Addr) (R:List V->Prop):Prop:=match H p with
 | some (.lst xs)=>R xs
 | some (.tup xs)=>R xs
 | _=>∃ xs,(aE K H p xs\/bI K H p xs)/\R xs
def uD {K:PySem.W.Frag} {H:Hp} {p:Addr} {R:List V->Prop} (h:bC K H p R):∃ xs,(aE K H p xs\/bI K H p xs)/\R xs:=by
 unfold bC at h;split at h
 ·rename_i xs e;exact ⟨xs,.inl (aE.of e),h⟩
 ·rename_i xs e;exact ⟨xs,.inr (bI.of e),h⟩
 ·exact h
def ue (K:PySem.W.Frag) (H:Hp) (p:Addr) (R:List V->Prop):Prop:=∃ xs,aE K H p xs/\R xs
def AG {K:PySem.W.Frag} {H:Hp} {p:Addr} {R:List V->Prop} (h:ue K H p R):∃ xs,aE K H p xs/\R xs:=h
def BE (f:Int->Int->Int):R2:=fun x y H Q=>match x,y with
 | .int i,.int j=>Q (.int (f i j)) H
 | _,_=>False
def oF (C:Int->Int->Prop) (f:Int->Int->Int):R2:=fun x y H Q=>match x,y with
 | .int i,.int j=>C i j/\Q (.int (f i j)) H
 | _,_=>False
def Sk:aW X (binaryOp .Sub) (BE fun i j=>i - j):=Yy.imp fun x y H Q h=>by
 unfold BE at h;split at h
 ·exact ⟨_,_,rfl,rfl,h⟩
 ·exact h.elim
def w9 {C:Int->Int->Prop} {f:Int->Int->Int} {x y:V} {H:Hp} {Q:VK} (h:oF C f x y H Q):rI C (fun i j=>.int (f i j)) x y H Q:=by
 unfold oF at h;split at h
 ·exact ⟨_,_,rfl,rfl,h.1,h.2⟩
 ·exact h.elim
def jJ:aW X (binaryOp .Mod) (oF (fun _ j=>0 < j) fun i j=>i % j):=OR.imp fun _ _ _ _ h=>w9 h
def zx:aW X (binaryOp .FloorDiv) (oF EF fun i j=>i / j):=Xm.imp fun _ _ _ _ h=>w9 h
def n6 (neg:Bool):R2:=fun x y H Q=>match x,y with
 | .int i,.int j=>Q (.bl (neg ^^ decide (i=j))) H
 | .str i,.str j=>Q (.bl (neg ^^ decide (i=j))) H
 | .bl i,.bl j=>Q (.bl (neg ^^ decide (i=j))) H
 | _,_=>vO x y=true/\Q (.bl (neg ^^ decide (x=y))) H
def Gj (i j:Int):decide (V.int i=V.int j)=decide (i=j):=by by_cases h:i=j <;> simp [h]
def FO (i j:Str):decide (V.str i=V.str j)=decide (i=j):=by by_cases h:i=j <;> simp [h]
def Fi (i j:Bool):decide (V.bl i=V.bl j)=decide (i=j):=by by_cases h:i=j <;> simp [h]
def NA:aW X (compareOp .Eq) (n6 false):=Vj.imp fun x y H Q h=>by
 unfold n6 at h;simp only [Bool.false_bne] at h;split at h
 ·exact ⟨rfl,by rw [Gj]; exact h⟩
 ·exact ⟨rfl,by rw [FO]; exact h⟩
 ·exact ⟨rfl,by rw [Fi]; exact h⟩
 ·exact h
def Qt:aW X (compareOp .NotEq) (n6 true):=US.imp fun x y H Q h=>by
 unfold n6 at h;simp only [Bool.true_bne] at h;split at h
 ·exact ⟨rfl,by rw [Gj]; exact h⟩
 ·exact ⟨rfl,by rw [FO]; exact h⟩
 ·exact ⟨rfl,by rw [Fi]; exact h⟩
 ·exact h
def jf (f:Int->Int->Bool):R2:=fun x y H Q=>match x,y with
 | .int i,.int j=>Q (.bl (f i j)) H
 | _,_=>False
def wX {f:Int->Int->Bool} {x y:V} {H:Hp} {Q:VK} (h:jf f x y H Q):km (fun i j=>.bl (f i j)) x y H Q:=by
 unfold jf at h;split at h
 ·exact ⟨_,_,rfl,rfl,h⟩
 ·exact h.elim
def As:aW X (compareOp .Lt) (jf fun i j=>decide (i < j)):=Mp.imp fun _ _ _ _ h=>wX h
def oq:aW X (compareOp .LtE) (jf fun i j=>decide (i<=j)):=TY.imp fun _ _ _ _ h=>wX h
def BK:aW X (compareOp .Gt) (jf fun i j=>decide (j < i)):=N8.imp fun _ _ _ _ h=>wX h
def uZ (K:PySem.W.Frag):R2:=fun x y H Q=>match x,y with
 | .str i,.str j=>Q (.bl (!(Builtin.Str.occurrences j i 0 j.length 1).isEmpty)) H
 | _,.ref p=>bC K H p fun xs=>cM x=true/\xs.all cM=true/\Q (.bl (f6 x xs)) H
 | _,_=>False
def Yo:aW X (compareOp .In) (uZ X.K):=(Q7.or D4).imp fun x y H Q h=>by
 unfold uZ at h;split at h
 ·exact .inl ⟨_,_,rfl,rfl,h⟩
 ·obtain ⟨xs,h1,h2,h3,h4⟩:=uD h;exact .inr ⟨_,xs,rfl,h1,h2,h3,h4⟩
 ·exact h.elim
def ka (t:TE):TT:=fun σ H Q=>t σ H fun x H'=>match x with
 | .bl k=>Q k H'
 | _=>False
def zG {x:V} {H:Hp} {Q:Bool->Hp->Prop} (h:(match x with | .bl k=>Q k H | _=>False)):∃ k,x=.bl k/\Q k H:=by
 split at h
 ·exact ⟨_,rfl,h⟩
 ·exact h.elim
def UN {op:CmpOp} {r:R2} {a b:Expr} {ta tb:TE} {pos:Pos} (ho:aW X (compareOp op) r) (ha:PE X a ta) (hb:PE X b tb) (hm:behindInMarks op b=false:=by first | exact uv _ (by decide) (by decide) | rfl) :
  PT X (.Compare a [op] [b] pos) (ka (jB r ta tb)):=by
 intro pins s σ H Q I h;refine wpAny_isTrue_Compare1 ?_ hm;refine aF (ha pins s σ H _ I h) fun v s1 ⟨x,H1,I1,r1,q1⟩=>aF (hb pins s1 σ H1 _ I1 q1) fun u s2 ⟨y,H2,I2,r2,q2⟩=>?_;refine aF (ho pins s2 σ H2 x y v u _ I2 r1 r2 q2) fun c s3 ⟨z,H3,I3,r3,q3⟩=>?_;obtain ⟨k,rfl,q⟩:=zG q3;cases r3;exact Sc ⟨H3,I3,q⟩
def WM {e:Expr} {t:TE} (h:PE X e t) (he:∀ whole,isTrue e X.env whole=(do let v <- whole; standAt e.pos; holding [v] (truthy v)):=by intro _; rfl):PT X e (ka t):=by
 intro pins s σ H Q I hw;refine isTrue_plain (aF (h pins s σ H _ I hw) fun v s1 ⟨x,H1,I1,r1,q1⟩=>?_) (he _);obtain ⟨d,rfl,q⟩:=zG q1;cases r1;exact Sc ⟨H1,I1,q⟩
def xR (f g:Int->Int->Bool) (ta tb tc:TE):TT:=fun σ H Q=>ta σ H fun x H1=>tb σ H1 fun y H2=>match x,y with
 | .int i,.int j=>if f i j=true then tc σ H2 fun z H3=>(match z with | .int k=>Q (g j k) H3 | _=>False) else Q false H2
 | _,_=>False
def AW (ta tb:TE):TE:=fun σ H Q=>ta σ H fun x H1=>match x with
 | .bl c=>if c=true then tb σ H1 Q else Q (.bl false) H1
 | _=>False
def ym (ta tb:TE):TE:=fun σ H Q=>ta σ H fun x H1=>match x with
 | .bl c=>if c=true then Q (.bl true) H1 else tb σ H1 Q
 | _=>False
def xY (ta:TE):TE:=fun σ H Q=>ta σ H fun x H1=>match x with
 | .bl c=>Q (.bl (!c)) H1
 | _=>False
variable {a b:Expr} {ta tb:TE} {pos:Pos} {rest:List Expr}
def R8 (ha:PE X a ta) (hb:PE X (.BoolOp .And (b::rest) pos) tb):PE X (.BoolOp .And (a::b::rest) pos) (AW ta tb):=by
 intro pins s σ H Q I h;refine BoolOp_and (aF (ha pins s σ H _ I h) fun v s1 ⟨x,H1,I1,r1,q1⟩=>?_);have q1':∃ c,x=.bl c/\if c=true then tb σ H1 Q else Q (.bl false) H1:=by
  dsimp only at q1;split at q1
  ·exact ⟨_,rfl,q1⟩
  ·exact q1.elim
 obtain ⟨c,rfl,q1⟩:=q1';cases r1;refine Sc ?_;cases c with
 | true=>exact hb pins s1 σ H1 Q I1 q1
 | false=>exact ⟨.bl false,H1,I1,rfl,q1⟩
def ON (ha:PE X a ta) (hb:PE X (.BoolOp .Or (b::rest) pos) tb):PE X (.BoolOp .Or (a::b::rest) pos) (ym ta tb):=by
 intro pins s σ H Q I h;refine BoolOp_or (aF (ha pins s σ H _ I h) fun v s1 ⟨x,H1,I1,r1,q1⟩=>?_);have q1':∃ c,x=.bl c/\if c=true then Q (.bl true) H1 else tb σ H1 Q:=by
  dsimp only at q1;split at q1
  ·exact ⟨_,rfl,q1⟩
  ·exact q1.elim
 obtain ⟨c,rfl,q1⟩:=q1';cases r1;refine Sc ?_;cases c with
 | false=>exact hb pins s1 σ H1 Q I1 q1
 | true=>exact ⟨.bl true,H1,I1,rfl,q1⟩
def vd:V->Value
 | .ty n=>.type n
 | .ref a=>.ref a
 | _=>.none
def Mv:cq X (.builtin "isinstance") (fun xs H Q=>∃ x cV t b,xs=[x,cV]/\((∃ n,cV=.ty n)\/∃ a,cV=.ref a)/\eQ X.K H x t/\PySem.W.kitOne X.K t (vd cV)=some b/\Q (.bl b) H):=by
 intro pins s σ H xs us Q I r h;obtain ⟨x,cV,t,b,rfl,hc,ty,e,q⟩:=h;obtain ⟨u,c',rfl,ru,rc'⟩:=vals2 r;have ec:c'=vd cV:=by
  rcases hc with ⟨n,rfl⟩ | ⟨a,rfl⟩
  ·exact rc'
  ·exact rc'
 subst ec;exact Bp I ru ty e fun tk=>⟨.bl b,H,I.tok tk,rfl,q⟩
end
section
variable {X:Cx}
def xH:V->List V->Hp->VK->Prop:=fun x xs H Q=>match x,xs with
 | .str a,[.str b]=>Q (.bl (Txt.startswith a b)) H
 | _,_=>False
def So:dB X "str.startswith" xH:=by
 intro pins s σ H x xs v us Q I rx r h;unfold xH at h;split at h
 ·rename_i a b;obtain ⟨t,rfl⟩:=rx;obtain ⟨u,rfl,t',rfl⟩:=vals1 r;exact UF F.slot_str_startswith (ZX s a t) F.entry_str_startswith (F.args_str_startswith_2 _ _) (gives_str_startswith a b t t').meets ⟨.bl _,H,I,rfl,h⟩
 ·exact h.elim
def Ab:V->List V->Hp->VK->Prop:=fun x xs H Q=>match x,xs with
 | .str a,[.str b]=>Q (.bl (Txt.endswith a b)) H
 | _,_=>False
def NR:dB X "str.endswith" Ab:=by
 intro pins s σ H x xs v us Q I rx r h;unfold Ab at h;split at h
 ·rename_i a b;obtain ⟨t,rfl⟩:=rx;obtain ⟨u,rfl,t',rfl⟩:=vals1 r;exact UF F.slot_str_endswith (ZX s a t) F.entry_str_endswith (F.args_str_endswith_2 _ _) (gives_str_endswith a b t t').meets ⟨.bl _,H,I,rfl,h⟩
 ·exact h.elim
def FQ:∀ (l:List (Str×Tok)),Vals ((l.map (·.1)).map V.str) (strValues l)
 | []=>.nil
 | p::r=>.cons ⟨p.2,rfl⟩ (FQ r)
def uN:∀ {ts:List Str} {us:List Value},Vals (ts.map V.str) us->∃ l:List (Str×Tok),us=strValues l/\l.map (·.1)=ts
 | [],_,.nil=>⟨[],rfl,rfl⟩
 | t::r,_,.cons h h'=>by
  obtain ⟨k,rfl⟩:=h;obtain ⟨l,e1,e2⟩:=uN h';exact ⟨(t,k)::l,by rw [e1]; rfl,by rw [<- e2]; rfl⟩
def zA:V->List V->Hp->VK->Prop:=fun x xs H Q=>match x,xs with
 | .str a,[.str b]=>(b.length == 0)=false/\a.length<=sizeLine/\(Builtin.Str.partsBetween a (Builtin.Str.occurrences a b 0 a.length (a.length+1)) b.length).length<=sizeLine /\
   ∀ l,H l=none->Q (.ref l) (upd H l (.lst ((Txt.split a b).map V.str)))
 | _,_=>False
def Eu:dB X "str.split" zA:=by
 intro pins s σ H x xs v us Q I rx r h;unfold zA at h;split at h
 ·rename_i a b;obtain ⟨hy,hx,hn,q⟩:=h;obtain ⟨t,rfl⟩:=rx;obtain ⟨w',rfl,u,rfl⟩:=vals1 r;have fin:∀ (l:List (Str×Tok)) (tk:Nat),l.map (·.1)=Txt.split a b->l.length<=sizeLine ->
    EP X pins σ Q (.ref s.heap.objs.size) { s with heap:=s.heap.push { cls:=.type "list",data:=.seq (strValues l).toArray },toks:=tk }:=fun l tk e hz =>
   ⟨.ref _,_,I.laid (t':=tk) (o:=.lst ((Txt.split a b).map V.str)) (fun b' o' q'=>li _ q') (sB _)
    ⟨by rw [mo,<- e,mo]; exact hz,strValues l,0,by rw [<- e]; exact FQ l,wn _ rfl⟩,rfl,q _ (I.aB.fresh (sB _))⟩
  cases h1:(decide (a.length < b.length) || decide (Builtin.Str.strKind a < Builtin.Str.strKind b))
  ·cases hf:(Builtin.Str.occurrences a b 0 a.length (a.length+1)).isEmpty
   ·refine UF F.slot_str_split (ZX s a t) F.entry_str_split (_J _ _) (meets_str_split_sep a b t u h1 hy hf hx hn) ?_;have e:Txt.split a b=Builtin.Str.partsBetween a (Builtin.Str.occurrences a b 0 a.length (a.length+1)) b.length:=(Ch (_z h1)).trans (Ch (_z hf));have z:=fin (numbered s.toks (Builtin.Str.partsBetween a (Builtin.Str.occurrences a b 0 a.length (a.length+1)) b.length)) (s.toks+(Builtin.Str.partsBetween a (Builtin.Str.occurrences a b 0 a.length (a.length+1)) b.length).length)
     ((numbered_texts _ _).trans e.symm) (by
      have:=Tm List.length (numbered_texts s.toks (Builtin.Str.partsBetween a (Builtin.Str.occurrences a b 0 a.length (a.length+1)) b.length));rw [mo] at this;rw [this]; exact hn)
    rw [<- strsFrom_eq] at z;exact z
   ·exact UF F.slot_str_split (ZX s a t) F.entry_str_split (_J _ _) (meets_str_split_not_found a b t u h1 hy hf)
     (fin [(a,t)] s.toks ((Ch (_z h1)).trans (Db hf)).symm (by show 1<=sizeLine; decide))
  ·exact UF F.slot_str_split (ZX s a t) F.entry_str_split (_J _ _) (meets_str_split_cannot_occur a b t u h1)
    (fin [(a,t)] s.toks (Db h1).symm (by show 1<=sizeLine; decide))
 ·exact h.elim
def rJoin (K:PySem.W.Frag):V->List V->Hp->VK->Prop:=fun x xs H Q=>match x,xs with
 | .str a,[.ref p]=>ue K H p fun xs=>∃ ts:List Str,xs=ts.map V.str/\ts.foldl (fun n z=>n+z.length+a.length) 0<=sizeLine/\Q (.str (Str.join a ts)) H
 | _,_=>False
def V1:dB X "str.join" (rJoin X.K):=by
 intro pins s σ H x xs v us Q I rx r h;unfold rJoin at h;split at h
 ·rename_i a p;obtain ⟨xs,hq,ts,rfl,hz,q⟩:=AG h;obtain ⟨t,rfl⟩:=rx;obtain ⟨w',rfl,e⟩:=vals1 r;cases e;obtain ⟨aj,rv,pl,hl⟩:=I.list hq;obtain ⟨l,rfl,e2⟩:=uN rv;have Cs:Builtin.Str.tooLong ((l.map (·.1)).toArray.foldl (· + ·.length+a.length) 0)=false:=by
   unfold Builtin.Str.tooLong;refine ut (Nat.not_lt.mpr ?_);rw [List.foldl_toArray,e2];exact hz
  refine UF F.slot_str_join (ZX s a t) F.entry_str_join (F.args_str_join_2 _ _) (meets_str_join_list a t p l Cs) ⟨pl.isList,?_⟩;have hlen:(Builtin.Str.glued a (l.map (·.1))).length<=sizeLine:=by
   rw [e2,StrLaws.glued_eq_join];refine wE ?_ hz;have:∀ (us:List Str) (n:Nat),n+(Str.join a us).length<=us.foldl (fun n z=>n+z.length+a.length) n:=by
    intro us
    induction us with
    | nil=>intro n; exact sB _
    | cons y r ih =>
     intro n;cases r with
     | nil=>show n+y.length<=n+y.length+a.length; omega
     | cons z r' =>
      have h1:(Str.join a (y::z::r')).length=y.length+a.length+(Str.join a (z::r')).length:=by
       show ((y++a)++Str.join a (z::r')).length=_;rw [Str.length_append,Str.length_append]
      have h2:=ih (n+y.length+a.length);rw [h1];refine wE ?_ h2;omega
   have h0:=this ts 0;omega
  have e3:Builtin.Str.glued a (l.map (·.1))=Str.join a ts:=by rw [e2,StrLaws.glued_eq_join]
  match l,e2,e3,hlen with
  | [],e2,e3,hlen=>exact ⟨hlen,⟨.str (Str.join a ts),H,I.tok _,⟨_,by rw [e3]⟩,q⟩⟩
  | [p],e2,e3,hlen =>
   have e4:Str.join a ts=p.1:=by rw [<- e2]; rfl
   exact ⟨.str (Str.join a ts),H,I.tok _,⟨_,by rw [e4]⟩,q⟩
  | p1::p2::r',e2,e3,hlen=>exact ⟨hlen,⟨.str (Str.join a ts),H,I.tok _,⟨_,by rw [e3]⟩,q⟩⟩
 ·exact h.elim
def Jp {v:Value} {o:Option Int} (p:IsPart v o):∃ l:Option (Int×Tok),v=partValue l/\l.map (·.1)=o:=by
 cases p with
 | none=>exact ⟨none,rfl,rfl⟩
 | int i t=>exact ⟨some (i,t),rfl,rfl⟩
def Ha:V->Option Int->Option Int->Hp->VK->Prop:=fun x lo hi H Q=>match x with
 | .str z=>z.length<=sizeLine/\Q (.str (Txt.slice z lo hi)) H
 | _=>False
def Yk:iX X Ha:=by
 intro pins s σ H x v vl vu lo hi sl Q I rx hs pl pu h;unfold Ha at h;split at h
 ·rename_i z;obtain ⟨hz,q⟩:=h;obtain ⟨t,rfl⟩:=rx;obtain ⟨l,rfl,rfl⟩:=Jp pl;obtain ⟨u,rfl,rfl⟩:=Jp pu;refine ⟨"str",_,F.slot_str_getitem.lookup,ZX _ _ _,wpAny_getItem_str_slice (l:=l) (u:=u) (st:=none) hs rfl
   (post_val_or_str ⟨wE (Txt.slice_le z _ _) hz,fun t' k=>?_⟩)⟩
  exact ⟨.str (Txt.slice z (l.map (·.1)) (u.map (·.1))),H,I.tok k,⟨t',rfl⟩,q⟩
 ·exact h.elim
def Ag:R2:=fun x y H Q=>match x,y with
 | .int i,.int j=>vc i j/\Q (.int (i * j)) H
 | .str z,.int n=>MulOk z n/\Q (.str (Txt.mul z n)) H
 | .ref l,.int k=>match H l with
  | some (.lst xs)=>-(2 ^ 63)<=k/\k < 2 ^ 63/\xs.length * k.toNat<=sizeLine/\∀ p,H p=none->Q (.ref p) (upd H p (.lst (List.replicate k.toNat xs).flatten))
  | _=>False
 | _,_=>False
def V2:aW X (binaryOp .Mult) (fun x y H Q=>∃ z n,x=.str z/\y=.int n/\MulOk z n/\Q (.str (Txt.mul z n)) H):=by
 intro pins s σ H x y v u Q I rx ry h;obtain ⟨z,n,rfl,rfl,hm,q⟩:=h;obtain ⟨t,rfl⟩:=rx;obtain ⟨t',rfl⟩:=ry;exact SB.mul hm fun t2 k=>⟨.str _,H,I.tok _,⟨_,rfl⟩,q⟩
def oZ:aW X (binaryOp .Mult) Ag:=(Ni.or (V2.or UU)).imp fun x y H Q h=>by
 unfold Ag at h;split at h
 ·exact .inl ⟨_,_,rfl,rfl,h.1,h.2⟩
 ·exact .inr (.inl ⟨_,_,rfl,rfl,h.1,h.2⟩)
 ·split at h
  ·rename_i xs h1;obtain ⟨h2,h3,h4,h5⟩:=h;exact .inr (.inr ⟨_,_,xs,rfl,rfl,h1,h2,h3,h4,h5⟩)
  ·exact h.elim
 ·exact h.elim
def FK:∀ {bs:List Bool} {us:List Value},Vals (bs.map V.bl) us->us=bs.map Value.bool
 | [],_,.nil=>rfl
 | b::r,_,.cons h h'=>by
  have h:_=Value.bool b:=h;rw [h,FK h'];rfl
def all_range (bs:List Bool):(List.range bs.length).all (fun j=>bs.getD j true)=bs.all id:=by
 rw [Zt,Go,Go];constructor
 ·intro h b hb;obtain ⟨i,hi,e⟩:=List.getElem_of_mem hb;have:=h i (_G.mpr hi);rw [ZZ,ul hi,e] at this;exact this
 ·intro h j hj;have hj:=_G.mp hj;rw [ZZ,ul hj];exact h _ (Z3 hj)
def Nc (hc:X.calm=true):cq X (.builtin "all") (fun xs H Q=>∃ (p:Addr) (bs:List Bool),xs=[.ref p]/\aE X.K H p (bs.map V.bl)/\Q (.bl (bs.all id)) H):=by
 intro pins s σ H xs us Q I r h;obtain ⟨p,bs,rfl,hq,q⟩:=h;obtain ⟨u,rfl,e⟩:=vals1 r;cases e;obtain ⟨aj,rv,pl,hz⟩:=I.list hq;have eb:=FK rv;subst eb;have bw:p < s.heap.objs.size:=pl.lt;refine call_all_walk (wpAny_pyIter_list pl.isList ?_);refine ⟨s.heap.objs.size,_,_,_,_,_,fun j=>bs.getD j true,rfl,Walks.list (A:=X.A.in1) (show X.A.in1.handled=none from I.ok.hd hc) _ p (xL bw) (bs.map Value.bool).toArray,⟨⟨_,wn _ rfl,rfl,rfl⟩,pl.isList.push _⟩,?_,?_⟩
 ·intro i v s' Q' E' hP hQ;have hi:bs[i]?=some (bs.getD i true)/\v=.bool (bs.getD i true):=by
   have hP:(bs.map Value.bool).toArray[i]?=some v:=hP;rw [List.getElem?_toArray,FS] at hP;cases e:bs[i]? with
   | none=>rw [e] at hP; cases hP
   | some b =>
    rw [e] at hP;have:bs.getD i true=b:=by rw [ZZ,e]; rfl
    rw [this];exact ⟨rfl,(FM hP).symm⟩
  rw [hi.2];exact Sc hQ
 ·intro h' tk hk;have e:(List.range (bs.map Value.bool).toArray.size).all (fun j=>bs.getD j true)=bs.all id:=by
   rw [tz,mo];exact all_range bs
  rw [e];refine ⟨.bl (bs.all id),H,I.kept (t':=tk) (fun b o eo=>?_),rfl,q⟩;refine hk b o ?_ (li _ eo);intro hm;have e1:b=s.heap.objs.size:=by simpa using hm
  exact absurd (wf eo) (by rw [e1]; exact No _)
def uO (x:Str):It:=⟨fun i _=>i < x.length,fun i H y H'=>H'=H/\∃ c,x.cps[i]?=some c/\y=.str ⟨#[c]⟩,fun i _=>x.length<=i⟩
def HL {P:Program} {w:World} {K:PySem.W.Frag} {tg:Expr} {x:Str} {t:Tok} {ty:String} (it:Addr)
  (cF:["enumerate","zip","dict_itemiterator","dict_reverseitemiterator","odict_iterator","itertools.zip_longest","itertools.pairwise"].contains ty=false)
  (W:∀ A:Around,A.handled=none->Walks P w A it [it] [it] x.cps.size (SignAt x) (fun i h=>h.IsStrIter it ty x t i)) (W0:∀ (A:Around) (i:Nat) (s:Shared) (Q:Value->Shared->Prop) (E:Value->Shared->Prop),s.heap.IsStrIter it ty x t i->Q (.ref it) s->wpAny (model P w) A (pyIter (.ref it)) Q E s) :
  Turn P w K tg (uO x) [it] it (fun i h=>i<=x.length/\h.IsStrIter it ty x t i) where
 mem:=by simp
 obj:=fun i h st b hb=>by
  have e:b=it:=by simpa using hb
  subst e;obtain ⟨_,o,e,c,d⟩:=st;exact ⟨o,e,fun v z=>by rw [d] at z; cases z⟩
 keep:=fun i h h' st k=>⟨st.1,let ⟨o,ho,r⟩:=st.2; ⟨o,k it (by simp) o ho,r⟩⟩
 item:=by
  intro X hP hw hK hc i pins s σ H E I hf st hg;subst hP hw hK;obtain ⟨f0,f1,f2,f3,f4,f5⟩:=hf it (by simp);refine (W X.A (I.ok.hd hc)).item i s _ E hg st.2 fun v h' tk hv st' hk=>?_;obtain ⟨c,u,DS,rfl⟩:=hv;have I1:Inv X pins σ H { s with heap:=h',toks:=tk }:=I.turned (t':=tk) (fun b o hb e=>hk b o (by simpa using hb) e) f0 f1 f3 f4 f5;obtain ⟨o,e,cc,d⟩:=id st';exact ⟨_,rfl,uH (s:={ s with heap:=h',toks:=tk }) e cc d cF ⟨.str ⟨#[c]⟩,H,I1,⟨u,rfl⟩,⟨rfl,c,DS,rfl⟩,⟨hg,st'⟩,fun b hb=>(hf b hb).1⟩⟩
 done:=by
  intro X hP hw hK hc i pins s σ H E I hf st hg;subst hP hw hK;obtain ⟨f0,f1,f2,f3,f4,f5⟩:=hf it (by simp);have hi:i=x.cps.size:=Nat.le_antisymm st.1 hg;subst hi;exact (W X.A (I.ok.hd hc)).done s _ E st.2 fun h' tk hk=>⟨rfl,I.turned (t':=tk) (fun b o hb e=>hk b o (by simpa using hb) e) f0 f1 f3 f4 f5⟩
 self:=fun A i s Q E st h=>W0 A i s Q E st.2 h
def zP (tl:TE):TI:=fun σ H R=>tl σ H fun x H1=>match x with
 | .str z=>R (uO z) H1
 | _=>False
def PX {tg l:Expr} {tl:TE} (hl:PE X l tl):PI X tg l (zP tl):=by
 intro pins s σ H R I h;refine aF (hl pins s σ H _ I h) fun v s1 ⟨x,H1,I1,r1,q1⟩=>?_;have q1':∃ z,x=.str z/\R (uO z) H1:=by
  dsimp only at q1;split at q1
  ·exact ⟨_,rfl,q1⟩
  ·exact q1.elim
 obtain ⟨z,rfl,q⟩:=q1';obtain ⟨t,rfl⟩:=r1;have fp:∀ b∈[s1.heap.objs.size],jQ X pins H1 b:=fun b hb=>by
  have e:b=s1.heap.objs.size:=by simpa using hb
  subst e;exact I1.rA (sB _) (I1.aB.fresh (sB _))
 cases ha:z.cps.all (· < 128)
 ·refine wpAny_pyIter_wide ha ⟨s1.heap.objs.size,[s1.heap.objs.size],_,_,H1,rfl,I1.kept (t':=s1.toks) fun b o e=>li _ e,
   HL (ty := "str_iterator") (t:=t) _ (by decide) (fun A hA=>Walks.strWide hA _ z t) (fun A i s Q E st h=>wpAny_pyIter_striter_wide st h),⟨At _,_,wn _ rfl,rfl,rfl⟩,fp,q⟩
 ·refine wpAny_pyIter_ascii ha ⟨s1.heap.objs.size,[s1.heap.objs.size],_,_,H1,rfl,I1.kept (t':=s1.toks) fun b o e=>li _ e,
   HL (ty := "str_ascii_iterator") (t:=t) _ (by decide) (fun A hA=>Walks.strAscii hA _ z t) (fun A i s Q E st h=>wpAny_pyIter_striter_ascii st h),⟨At _,_,wn _ rfl,rfl,rfl⟩,fp,q⟩
end
section
variable {X:Cx} {a b c:Expr} {ta tb tc:TE} {pos:Pos}
def O5 (ha:PE X a ta):PE X (.UnaryOp .Not a pos) (xY ta):=by
 intro pins s σ H Q I h;refine UnaryOp_ (aF (ha pins s σ H _ I h) fun v s1 ⟨x,H1,I1,r1,q1⟩=>?_);have q1':∃ k,x=.bl k/\Q (.bl (!k)) H1:=by
  dsimp only at q1;split at q1
  ·exact ⟨_,rfl,q1⟩
  ·exact q1.elim
 obtain ⟨k,rfl,z1⟩:=q1';cases r1;exact not_of (Sc ⟨.bl (!k),H1,I1,rfl,z1⟩)
def Sh {op op':CmpOp} {f g:Int->Int->Bool} (ho:aW X (compareOp op) (jf f)) (ho':aW X (compareOp op') (jf g)) (ha:PE X a ta) (hb:PE X b tb) (hc:PE X c tc)
  (hm:lastMarks [op,op'] [b,c]=false:=by with_unfolding_all rfl):PT X (.Compare a [op,op'] [b,c] pos) (xR f g ta tb tc):=by
 intro pins s σ H Q I h;refine isTrue_chain (aF (ha pins s σ H _ I h) fun v s1 ⟨x,H1,I1,r1,q1⟩=>test_link (aF (hb pins s1 σ H1 _ I1 q1) fun u s2 ⟨y,H2,I2,r2,q2⟩=>?_)) hm;have q2':∃ i j,x=.int i/\y=.int j/\if f i j=true then tc σ H2 (fun z H3=>(match z with | .int k=>Q (g j k) H3 | _=>False)) else Q false H2:=by
  dsimp only at q2;split at q2
  ·exact ⟨_,_,rfl,rfl,q2⟩
  ·exact q2.elim
 obtain ⟨i,j,rfl,rfl,z2⟩:=q2';refine aF (ho pins s2 σ H2 (.int i) (.int j) v u (fun z H3=>z=.bl (f i j)/\H3=H2) I2 r1 r2 ⟨rfl,rfl⟩) fun d s3 ⟨z,H3,I3,r3,e,e'⟩=>?_;subst e e';cases r3;refine Sc ?_;cases hf:f i j with
 | false =>
  rw [hf] at z2;exact ite_ff ⟨H3,I3,z2⟩
 | true =>
  rw [hf,Db rfl] at z2;refine ite_tt (test_last (aF (hc pins s3 σ H3 _ I3 z2) fun w' s4 ⟨z',H4,I4,r4,q4⟩=>?_));have q4':∃ k,z'=.int k/\Q (g j k) H4:=by
   dsimp only at q4;split at q4
   ·exact ⟨_,rfl,q4⟩
   ·exact q4.elim
  obtain ⟨k,rfl,z4⟩:=q4';refine aF (ho' pins s4 σ H4 (.int j) (.int k) u w' (fun z H5=>z=.bl (g j k)/\H5=H4) I4 r2 r4 ⟨rfl,rfl⟩) fun d' s5 ⟨z2,H5,I5,r5,e,e'⟩=>?_;subst e e';cases r5;exact Sc ⟨H5,I5,z4⟩
def vx (K:PySem.W.Frag):List V->Hp->VK->Prop:=fun xs H Q=>match xs with
 | [.str y]=>y.length<=sizeLine/\Q (.int y.length) H
 | [.ref p]=>bC K H p fun ys=>Q (.int ys.length) H
 | _=>False
def Rr:cq X (.builtin "len") (vx X.K):=N7.imp fun xs H Q h=>by
 unfold vx at h;split at h
 ·exact ⟨_,_,rfl,⟨h.1,rfl⟩,h.2⟩
 ·obtain ⟨ys,h1,h2⟩:=uD h;rcases h1 with h1 | h1
  ·exact ⟨_,_,rfl,.inl ⟨ys,h1,rfl⟩,h2⟩
  ·exact ⟨_,_,rfl,.inr ⟨ys,h1,rfl⟩,h2⟩
 ·exact h.elim
def JV (K:PySem.W.Frag):List V->Hp->VK->Prop:=fun xs H Q=>match xs with
 | [x,cV]=>∃ t b,((∃ n,cV=.ty n)\/∃ a,cV=.ref a)/\eQ K H x t/\PySem.W.kitOne K t (vd cV)=some b/\Q (.bl b) H
 | _=>False
def YG:cq X (.builtin "isinstance") (JV X.K):=Mv.imp fun xs H Q h=>by
 unfold JV at h;split at h
 ·obtain ⟨t,b,h1,h2,h3,h4⟩:=h;exact ⟨_,_,t,b,rfl,h1,h2,h3,h4⟩
 ·exact h.elim
def vf (K:PySem.W.Frag):List V->Hp->VK->Prop:=fun xs H Q=>match xs with
 | [.ref p]=>ue K H p fun xs=>∃ bs:List Bool,xs=bs.map V.bl/\Q (.bl (bs.all id)) H
 | _=>False
def R0 (hc:X.calm=true):cq X (.builtin "all") (vf X.K):=(Nc hc).imp fun xs H Q h=>by
 unfold vf at h;split at h
 ·obtain ⟨xs,h1,bs,rfl,h2⟩:=AG h;exact ⟨_,bs,rfl,h1,h2⟩
 ·exact h.elim
def vF (K:PySem.W.Frag):List V->Hp->VK->Prop:=fun xs H Q=>match xs with
 | [.ref p]=>bC K H p fun ys=>∀ l,H l=none->Q (.ref l) (upd H l (.lst ys))
 | _=>False
def XU:cq X (.type "list") (vF X.K):=Yi.imp fun xs H Q h=>by
 unfold vF at h;split at h
 ·obtain ⟨ys,h1,h2⟩:=uD h;exact ⟨_,ys,rfl,h1,h2⟩
 ·exact h.elim
def oP (K:PySem.W.Frag):R2:=fun x y H Q=>match x,y with
 | .ref p,.int i=>bC K H p fun xs=>match cz xs i with
  | some v=>Q v H
  | none=>False
 | .str z,.int i=>z.length<=sizeLine/\match cz z.cps.toList i with
  | some c=>Q (.str ⟨#[c]⟩) H
  | none=>False
 | _,_=>False
def fo.imp {r r':R2} (h:fo X r) (i:∀ x y H Q,r' x y H Q->r x y H Q):fo X r':=fun value slice pins s σ H x y v u Q I rx ry q=>h value slice pins s σ H x y v u Q I rx ry (i x y H Q q)
def qx:fo X (oP X.K):=OB.imp fun x y H Q h=>by
 unfold oP at h;split at h
 ·obtain ⟨xs,h1,h2⟩:=uD h;split at h2
  ·rename_i v e;rcases h1 with h1 | h1
   ·exact .inl ⟨_,xs,_,v,rfl,rfl,h1,e,h2⟩
   ·exact .inr (.inl ⟨_,xs,_,v,rfl,rfl,h1,e,h2⟩)
  ·exact h2.elim
 ·obtain ⟨h1,h2⟩:=h;split at h2
  ·rename_i d e;exact .inr (.inr ⟨_,_,d,rfl,rfl,h1,e,h2⟩)
  ·exact h2.elim
 ·exact h.elim
def ux (K:PySem.W.Frag):V->Option Int->Option Int->Hp->VK->Prop:=fun x lo hi H Q=>match x with
 | .str z=>z.length<=sizeLine/\Q (.str (Txt.slice z lo hi)) H
 | .ref a=>ue K H a fun xs=>∀ p,H p=none->Q (.ref p) (upd H p (.lst (eV xs lo hi)))
 | _=>False
def P4:iX X (ux X.K):=by
 intro pins s σ H x v vl vu lo hi sl Q I rx hs pl pu h;refine (Yk.or Mq) pins s σ H x v vl vu lo hi sl Q I rx hs pl pu ?_;unfold ux at h;split at h
 ·exact .inl h
 ·obtain ⟨xs,h1,h2⟩:=AG h;exact .inr ⟨_,xs,rfl,h1,h2⟩
 ·exact h.elim
def xF (t:TE):TO:=fun σ H Q=>t σ H fun x H1=>match x with
 | .int i=>Q (some i) H1
 | _=>False
def WQ {e:Expr} {te:TE} (h:PE X e te):PO X (some e) (xF te):=by
 intro pins s σ H Q I q;refine evalPart_some_step (aF (h pins s σ H _ I q) fun v s1 ⟨x,H1,I1,r1,q1⟩=>?_);have q1':∃ i,x=.int i/\Q (some i) H1:=by
  dsimp only at q1;split at q1
  ·exact ⟨_,rfl,q1⟩
  ·exact q1.elim
 obtain ⟨i,rfl,z1⟩:=q1';obtain ⟨t,rfl⟩:=r1;exact ⟨some i,H1,I1,.int i t,z1⟩
def yx:pR:=fun o i v H Q=>match o,i with
 | .ref p,.int k=>match H p with
  | some (.lst xs)=>(match fN xs.length k with
   | some j=>Q (upd H p (.lst (xs.set j v)))
   | none=>False)
  | _=>False
 | _,_=>False
def Gn:vG X yx:=by
 intro pins s σ H o i v ov iv u Q I ro ri rv h;refine set_list pins s σ H o i v ov iv u Q I ro ri rv ?_;unfold yx at h;split at h
 ·split at h
  ·rename_i xs h1;split at h
   ·rename_i j h2;exact ⟨_,xs,_,j,rfl,rfl,h1,h2,h⟩
   ·exact h.elim
  ·exact h.elim
 ·exact h.elim
def dB.imp {id:String} {r r':V->List V->Hp->VK->Prop} (h:dB X id r) (i:∀ x xs H Q,r' x xs H Q->r x xs H Q):dB X id r':=fun pins s σ H x xs v us Q I rx rv q=>h pins s σ H x xs v us Q I rx rv (i x xs H Q q)
def zU:V->List V->Hp->VK->Prop:=fun x vs H Q=>match x,vs with
 | .ref l,[y]=>match H l with
  | some (.lst xs)=>xs.length < sizeLine/\Q .aq (upd H l (.lst (xs++[y])))
  | _=>False
 | _,_=>False
def dR:dB X "list.append" zU:=dB.imp Ve fun x xs H Q h=>by
 unfold zU at h;split at h
 ·split at h
  ·rename_i zs h1;exact ⟨_,zs,_,rfl,rfl,h1,h.1,h.2⟩
  ·exact h.elim
 ·exact h.elim
def Bt:V->List V->Hp->VK->Prop:=fun x vs H Q=>match x,vs with
 | .ref l,[.ref b]=>match H l,H b with
  | some (.lst xs),some (.lst zs)=>xs.length+zs.length<=sizeLine/\Q .aq (upd H l (.lst (xs++zs)))
  | _,_=>False
 | _,_=>False
def Q2:dB X "list.extend" Bt:=dB.imp Rw fun x xs H Q h=>by
 unfold Bt at h;split at h
 ·split at h
  ·rename_i zs ws h1 h2;exact ⟨_,_,zs,ws,rfl,rfl,h1,h2,h.1,h.2⟩
  ·exact h.elim
 ·exact h.elim
def clsName (H:Hp):V->Option String
 | .aq=>some "NoneType"
 | .bl _=>some "bool"
 | .int _=>some "int"
 | .str _=>some "str"
 | .ref p=>match H p with
  | some (.lst _)=>some "list"
  | some (.tup _)=>some "tuple"
  | some (.dK _)=>some "dict"
  | _=>none
 | _=>none
def uG (T n:String):Bool:=T == n || (T == "bool" && n == "int")
def P7 {K:PySem.W.Frag} {H:Hp} {x:V} {T:String} (h:clsName H x=some T):eQ K H x (.type T)/\T∈["NoneType","bool","int","str","list","tuple","dict"]:=by
 unfold clsName at h;split at h
 ·cases h; exact ⟨.aq,by simp⟩
 ·cases h; exact ⟨.bl _,by simp⟩
 ·cases h; exact ⟨.int _,by simp⟩
 ·cases h; exact ⟨.str _,by simp⟩
 ·split at h
  ·rename_i e; cases h; exact ⟨.lst e,by simp⟩
  ·rename_i e; cases h; exact ⟨.tup e,by simp⟩
  ·rename_i e; cases h; exact ⟨.dK e,by simp⟩
  ·cases h
 ·cases h
def WX (K:PySem.W.Frag):∀ T,T∈["NoneType","bool","int","str","list","tuple","dict"]->∀ n,n∈["bool","int","str","list","tuple","dict"]->PySem.W.kitOne K (.type T) (.type n)=some (uG T n):=by
 intro T hT n hn;simp only [ss,List.mem_nil_iff,EQ] at hT hn;rcases hT with rfl | rfl | rfl | rfl | rfl | rfl | rfl <;> rcases hn with rfl | rfl | rfl | rfl | rfl | rfl <;> kernel_rfl
def wU:List V->Hp->VK->Prop:=fun xs H Q=>match xs with
 | [x,.ty n]=>n∈["bool","int","str","list","tuple","dict"]/\match clsName H x with
  | some T=>Q (.bl (uG T n)) H
  | none=>False
 | _=>False
def ij:cq X (.builtin "isinstance") wU:=YG.imp fun xs H Q h=>by
 unfold wU at h;split at h
 ·rename_i x n;obtain ⟨hn,h⟩:=h;split at h
  ·rename_i T e;obtain ⟨h1,h2⟩:=P7 (K:=X.K) e;exact ⟨_,_,.inl ⟨_,rfl⟩,h1,WX _ T h2 n hn,h⟩
  ·exact h.elim
 ·exact h.elim
def yE (r:V->List V->Hp->VK->Prop) (to:TE) (t:TA):TE:=fun σ H Q=>to σ H fun x H1=>match x with
 | .str z=>t σ H1 fun xs H2=>r (.str z) xs H2 Q
 | _=>False
def zw (r:V->List V->Hp->VK->Prop) (to:TE) (t:TA):TE:=fun σ H Q=>to σ H fun x H1=>match x with
 | .ref l=>(match H1 l with
  | some (.lst _)=>t σ H1 fun xs H2=>r (.ref l) xs H2 Q
  | _=>False)
 | _=>False
section
variable {T:String} {name:Str} {id:String} {r:V->List V->Hp->VK->Prop} {o e:Expr} {es:List Expr} {to:TE} {t:TA} {apos bo:Pos}
def SD (slot:Slot "str" name id) (cF:typeOf (.builtin id)=pure (.type "method_descriptor")) (hm:dB X id r) (ho:PE X o to) (ha:PA X (e::es) t)
  (hs:(e::es).all noStar=true:=by rfl) (aU:decide ((e::es).length+([]:List Keyword).length+(if ([]:List Keyword).isEmpty then 0 else 1) < 30)=true:=by rfl)
  (fF:attributeBase o name X.env (eval o X.env)=eval o X.env:=by rfl) (fD:(apos.endLine == bo.line)=true:=by rfl) :
  PE X (.Call (.Attribute o name apos) (e::es) [] bo) (yE r to t):=by
 have hs':=hs;rw [NE,Do] at hs';have aO:starEach (e::es) X.env=(false,eval e X.env)::starEach es X.env:=eZ hs'.1;have Ct:(backTo bo (starEach es X.env)).any (·.1)=false:=gI hs'.2;have DD:((backTo bo (starEach (e::es) X.env)).all (fun x=>!x.1) && (backToKw bo (keywordEach [] X.env)).all (fun x=>x.1.isSome)
   && decide ((e::es).length+([]:List Keyword).length+(if ([]:List Keyword).isEmpty then 0 else 1) < 30))=true:=by
  rw [Bx hs,aU];rfl
 intro pins s σ H Q I h;refine wpAny_Call_method_late fF DD fD rfl (aF (ho pins s σ H _ I h) fun v s1 ⟨x,H1,I1,r1,q1⟩=>?_);dsimp only at q1;split at q1
 ·rename_i z;obtain ⟨h1,h2⟩:=zb (T := "str") I1 r1 rfl;refine ⟨"str",id,PySem.F.plainAttrs_str,slot,cF,h1,h2,?_⟩;have hA:=ha bo pins s1 σ H1 _ I1 q1;rw [aO] at hA ⊢;refine WP (by show (false || (backTo bo (starEach es X.env)).any (·.1))=false; rw [Ct] <;> rfl) (ZY ?_);exact aF hA fun us s2 ⟨vs,H2,I2,r2,q2⟩=>hm pins s2 σ H2 (.str z) vs v us Q I2 r1 r2 q2
 ·exact q1.elim
def U0 (slot:Slot "list" name id) (cF:typeOf (.builtin id)=pure (.type "method_descriptor")) (hm:dB X id r) (ho:PE X o to) (ha:PA X (e::es) t)
  (hs:(e::es).all noStar=true:=by rfl) (aU:decide ((e::es).length+([]:List Keyword).length+(if ([]:List Keyword).isEmpty then 0 else 1) < 30)=true:=by rfl)
  (fF:attributeBase o name X.env (eval o X.env)=eval o X.env:=by rfl) (fD:(apos.endLine == bo.line)=true:=by rfl) :
  PE X (.Call (.Attribute o name apos) (e::es) [] bo) (zw r to t):=by
 have hs':=hs;rw [NE,Do] at hs';have aO:starEach (e::es) X.env=(false,eval e X.env)::starEach es X.env:=eZ hs'.1;have Ct:(backTo bo (starEach es X.env)).any (·.1)=false:=gI hs'.2;have DD:((backTo bo (starEach (e::es) X.env)).all (fun x=>!x.1) && (backToKw bo (keywordEach [] X.env)).all (fun x=>x.1.isSome)
   && decide ((e::es).length+([]:List Keyword).length+(if ([]:List Keyword).isEmpty then 0 else 1) < 30))=true:=by
  rw [Bx hs,aU];rfl
 intro pins s σ H Q I h;refine wpAny_Call_method_late fF DD fD rfl (aF (ho pins s σ H _ I h) fun v s1 ⟨x,H1,I1,r1,q1⟩=>?_);dsimp only at q1;split at q1
 ·rename_i l;split at q1
  ·rename_i zs el;obtain ⟨h1,h2⟩:=zb (T := "list") I1 r1 (.inl ⟨rfl,zs,aE.of el⟩);refine ⟨"list",id,PySem.F.plainAttrs_list,slot,cF,h1,h2,?_⟩;have hA:=ha bo pins s1 σ H1 _ I1 q1;rw [aO] at hA ⊢;refine WP (by show (false || (backTo bo (starEach es X.env)).any (·.1))=false; rw [Ct] <;> rfl) (ZY ?_);exact aF hA fun us s2 ⟨vs,H2,I2,r2,q2⟩=>hm pins s2 σ H2 (.ref l) vs v us Q I2 r1 r2 q2
  ·exact q1.elim
 ·exact q1.elim
end
def WC {CX:dD} {P:Program} {w:World} {K:PySem.W.Frag} {mg:Str->Option Value} {base:Heap} {N:List Str} {qual:Str} {scope:Scope} {f:Addr} {cd:Value} {A:Around} {outer:List Env} {s:Shared} {H:Hp} {E:XK} :
  (fh CX P w K mg base N qual scope f cd A outer s H E).K=K:=rfl
def fv {α:Type} (a:α) (l:List α):cz (a::l) 0=some a:=eU (j:=0) rfl
def vZ {α:Type} (a b:α) (l:List α):cz (a::b::l) 1=some b:=eU (j:=1) rfl
def GA {α:Type} (a b c:α) (l:List α):cz (a::b::c::l) 2=some c:=eU (j:=2) rfl
def Sm (n:Nat):fN (n+1) 0=some 0:=by
 unfold fN;rw [Db (by decide),Db (by omega)];rfl
def Qk (n:Nat):fN (n+3) 2=some 2:=by
 unfold fN;rw [Db (by decide),Db (by omega)];rfl
def Oh {H:Hp} {p b:Addr} {o u:HO} (h:H b=some u) (hp:H p=Option.none):upd H p o b=some u:=by rw [ah (dP h hp)]; exact h
def gO:bootBuiltins "isinstance" = some (.builtin "isinstance"):=by decide +kernel
def zE:bootBuiltins "all" = some (.builtin "all"):=by decide +kernel
def nJ:bootBuiltins "str" = some (.type "str"):=by decide +kernel
def FJ:bootBuiltins "bool" = some (.type "bool"):=by decide +kernel
def E4:bootBuiltins "int" = some (.type "int"):=by decide +kernel
def uf:bootBuiltins "list" = some (.type "list"):=by decide +kernel
end
abbrev EA (ifs:List Expr) (env:Env):Sem Bool:=forIn ifs true fun c r=>if r=true then do let ok <- isTrue c env (eval c env); pure (ForInStep.yield ok) else pure (ForInStep.yield r)
section
variable {prog:Program} {w:World} {A:Around} {R:Result->Shared->Prop} {s:Shared}
def Xp {elt tg iter:Expr} {ifs:List Expr} {scope:Scope} {pos:Pos} {it acc:Value} {env:Env} (J:Nat->Shared->Prop) (hN:∀ e s',notedBy (model prog w) A env (fun e s'=>R (.error e) s') e s'->True)
  (turn:∀ n s,J n s->wpAny (model prog w) A (pyNext it) (fun r s1=>match r with
   | none=>R (.ok .next) s1
   | some v=>wpAny (model prog w) A (letOwnedTupleGo tg it v) (fun _ s2=>wpAny (model prog w) A (assign tg env v) (fun _ s3=>wpAny (model prog w) A (EA ifs env)
     (fun ok s4=>if ok=true then wpAny (model prog w) A (eval elt env) (fun x s5=>wpAny (model prog w) A (call (.builtin "list.append") [acc,x]) (fun _ s6=>∃ m,m < n/\J m s6) (fun _ _=>False) s5) (fun _ _=>False) s4
      else ∃ m,m < n/\J m s4) (fun _ _=>False) s3) (fun _ _=>False) s2) (fun _ _=>False) s1) (fun _ _=>False) s)
  (n:Nat) (h:J n s):codeAny (model prog w) A (.compLoop (.ListComp elt [⟨tg,iter,ifs,0⟩] scope pos) 0 it acc env) R s:=by
 have no:∀ {E:Value->Shared->Prop} (e:Value) (s':Shared),False->E e s':=fun _ _ z=>z.elim;refine codeAny_loop rfl J (fun n s hI=>?_) n h;refine (show wpAny _ A (Sem.onRaise (compTurn (.ListComp elt [⟨tg,iter,ifs,0⟩] scope pos) 0 it acc env) (fun x=>do noteFrame x env; theTreesLotGoes x)) _ _ s from ?_);refine wpAny_noted ?_;rw [compTurn_list];refine kt (ZN (kt (Re (turn n s hI) (fun r s1 q1=>?_) no)));cases r with
 | none=>exact sK q1
 | some v =>
  refine kt (Re q1 (fun _ s2 q2=>kt (Re q2 (fun _ s3 q3=>kt (Re q3 (fun ok s4 q4=>?_) no)) no)) no);cases ok with
  | false=>exact sK ⟨rfl,q4⟩
  | true=>exact kt (kt (Re q4 (fun x s5 q5=>kt (Re q5 (fun _ s6 q6=>sK (sK ⟨rfl,q6⟩)) no)) no))
end
def oi (X:Cx) (ifs:List Expr) (t:TT):Prop :=
 ∀ (pins:List (Addr×Obj)) (s:Shared) (σ:St) (H:Hp) (Q:Bool->Hp->Prop),Inv X pins σ H s->t σ H Q->wpAny (model X.prog X.w) X.A (EA ifs X.env) (TP X pins σ Q) X.xe s
def md:TT:=fun _ H Q=>Q true H
def Q0 {X:Cx}:oi X [] md:=fun _ _ _ H _ I h=>wpAny_tests_nil ⟨H,I,h⟩
def WN {X:Cx} {c:Expr} {t:TT} (h:PT X c t):oi X [c] t:=fun pins s σ H Q I q=>wpAny_tests_one (h pins s σ H Q I q)
def vb (wi:TI) (tt:TT) (te:TE):TE:=fun σ H Q=>wi σ H fun J H1=>∃ W:Nat->List V->Nat->Hp->Prop,(∃ m,W 0 [] m H1)/\∀ i ys m H,W i ys m H ->
 ys.length<=sizeLine/\((J.stop i H/\∀ l,H l=none->Q (.ref l) (upd H l (.lst ys))) \/
  (J.go i H/\ys.length < sizeLine/\∀ y H',J.jz i H y H'->tt [some y] H' fun c H2=>if c=true then te [some y] H2 fun z H3=>∃ m',m' < m/\W (i+1) (ys++[z]) m' H3 else ∃ m',m' < m/\W (i+1) ys m' H2))
section
variable {X:Cx}
structure xy (X:Cx) (pins:List (Addr×Obj)) (H:Hp) (C:Addr):Prop where
 fr:H C=none
 nl:C≠X.env.locals
 ab:X.s₀.heap.objs.size<=C
 nc:∀ x c,X.env.cells.lookup x=some c->c≠C
 np:∀ p∈X.pn++pins,p.1≠C
def xy.go {pins:List (Addr×Obj)} {σ:St} {H:Hp} {s:Shared} {C:Addr} {h':Heap} (o:xy X pins H C) (I:Inv X pins σ H s) (hs:Heap.SameBut C s.heap h'):Inv X pins σ H { s with heap:=h' } :=
 I.turned (t':=s.toks) (fun b ob hb e=>(hs.2 b hb).trans e) o.fr o.nl (.inr o.ab) o.nc o.np
end
def cH (st:Addr) (H H':Hp):Prop:=∀ c o,c≠st->H c=some o->H' c=some o
def cH.trans {st:Addr} {H H1 H2:Hp} (a:cH st H H1) (b:cH st H1 H2):cH st H H2:=fun c o n e=>b c o n (a c o n e)
def ag.upd {H:Hp} {p:Addr} {o:HO} (h:H p=Option.none):ag H (upd H p o):=fun b u e=>by rw [ah (dP e h)]; exact e
def ag.keep {H H':Hp} (h:ag H H') (st:Addr):cH st H H':=fun c o _ e=>h c o e
def cH.upd {H:Hp} {p:Addr} {o:HO}:cH p H (upd H p o):=fun c u n e=>by rw [ah n]; exact e
def cH.same {H H1 H':Hp} {st:Addr} (a:ag H H1) (h:H st=Option.none) (k:cH st H1 H'):ag H H':=fun c o e=>k c o (dP e h) (a c o e)
def vi:V->Bool
 | .str _=>true
 | _=>false
def mE (t:TE):TE:=fun σ H Q=>∃ M:VK,t σ H M/\∀ v H1,M v H1->Q v H1
def mA (t:TA):TA:=fun σ H Q=>∃ M:List V->Hp->Prop,t σ H M/\∀ v H1,M v H1->Q v H1
def PE.m {X:Cx} {e:Expr} {t:TE} (h:PE X e t):PE X e (mE t):=fun pins s σ H Q I ⟨M,h1,h2⟩=>aF (h pins s σ H M I h1) fun _ _ ⟨v,H1,I1,r,q⟩=>⟨v,H1,I1,r,h2 v H1 q⟩
def PA.m {X:Cx} {e:List Expr} {t:TA} (h:PA X e t):PA X e (mA t):=fun pos pins s σ H Q I ⟨M,h1,h2⟩=>aF (h pos pins s σ H M I h1) fun _ _ ⟨v,H1,I1,r,q⟩=>⟨v,H1,I1,r,h2 v H1 q⟩
def PI.imp {X:Cx} {tg it:Expr} {t t':TI} (h:PI X tg it t) (i:∀ σ H R,t' σ H R->t σ H R):PI X tg it t':=fun pins s σ H R I hw=>h pins s σ H R I (i σ H R hw)
def BQ (ta:TA):TI:=fun σ H R=>ta σ H fun vs H1=>match vs with
 | [.int j]=>(-(2 ^ 62)<=j/\j < 2 ^ 62)/\R (jD 0 j.toNat) H1
 | _=>False
def WO {X:Cx} {tg a:Expr} {ta:TA} {p pos:Pos} (hg:Gl X "range") (hm:X.mg "range" = none) (ha:PA X [a] ta) (hs:starEach [a] X.env=[(false,eval a X.env)]:=by rfl):PI X tg (.Call (.Name "range" p) [a] [] pos) (BQ ta) :=
 (Vh hg hm ha.m hs).imp fun σ H R h=>⟨_,h,fun vs H1 z=>by
  split at z
  ·exact ⟨_,rfl,z.1.1,z.1.2,z.2⟩
  ·exact z.elim⟩
def AV (K:PySem.W.Frag) (tl:TE):TI:=fun σ H R=>tl σ H fun x H1=>match x with
 | .ref a=>(∃ xs,aE K H1 a xs)/\R (j6 K a) H1
 | _=>False
def Wg {X:Cx} {tg l:Expr} {tl:TE} (hl:PE X l tl):PI X tg l (AV X.K tl):=(Wx hl.m).imp fun σ H R h=>⟨_,h,fun x H1 z=>by
  split at z
  ·exact ⟨_,rfl,z.1,z.2⟩
  ·exact z.elim⟩
def vP (J:It) (g:TG) (tb:TS) (D:Ends) (σ:St) (H1:Hp):Prop:=∃ W:Nat->Nat->St->Hp->Prop,(∃ m,W 0 m σ H1)/\∀ i m σ H,W i m σ H ->
 (J.stop i H/\D.nx σ H)\/(J.go i H/\∃ N:St->Hp->Prop,(∀ σ' H',N σ' H'->∃ m',m' < m/\W (i+1) m' σ' H')/\∀ x H',J.jz i H x H'->g x σ H' fun σ2 H2=>tb { D with nx:=N,ct:=N,bk:=D.nx } σ2 H2)
def Wf {wi:TI} {g:TG} {tb:TS} {D:Ends} {σ:St} {H:Hp}:Ba wi g tb D σ H=wi σ H fun J H1=>vP J g tb D σ H1:=rfl
def Hy {lo:Int} {n:Nat} {g:TG} {tb:TS} {D:Ends} {σ:St} {H:Hp} (Pv:Nat->St->Hp->Prop) (h0:Pv 0 σ H)
  (hs:∀ i σ H,i < n->Pv i σ H->g (.int (lo+i)) σ H fun σ2 H2=>tb { D with nx:=Pv (i+1),ct:=Pv (i+1),bk:=D.nx } σ2 H2) (hd:∀ σ H,Pv n σ H->D.nx σ H):vP (jD lo n) g tb D σ H:=OP Pv h0 hs hd
def D8 {K:PySem.W.Frag} {a:Addr} {xs:List V} {g:TG} {tb:TS} {D:Ends} {σ:St} {H:Hp} (Pv:Nat->St->Hp->Prop) (h0:Pv 0 σ H) (hl:∀ i σ H,i<=xs.length->Pv i σ H->aE K H a xs)
  (hs:∀ i x σ H,xs[i]?=some x->Pv i σ H->g x σ H fun σ2 H2=>tb { D with nx:=Pv (i+1),ct:=Pv (i+1),bk:=D.nx } σ2 H2) (hd:∀ σ H,Pv xs.length σ H->D.nx σ H):vP (j6 K a) g tb D σ H:=Qw Pv h0 hl hs hd
def fits {n:Nat} (h:n<=1000):n<=sizeLine:=Nat.le_of_lt (EE h)
def gR {n:Nat} (h:n<=1000):n < sizeLine:=EE h
def si (t u:TS):TS:=fun D σ H=>∃ P:St->Hp->Prop,t { D with nx:=P } σ H/\∀ σ' H',P σ' H'->u D σ' H'
def Yu {X:Cx} {st:Stmt} {rest:List Stmt} {t u:TS} (h1:PS X st t) (h2:dQ X rest u):dQ X (st::rest) (si t u):=by
 intro pins s σ H D I h;obtain ⟨P,ht,hu⟩:=h;have h1':PS X st (fun D' σ' H'=>D'={ D with nx:=P }/\t D' σ' H'):=h1.imp fun _ _ _ z=>z.2;have h2':dQ X rest (fun D' σ' H'=>P σ' H'/\D'=D):=fun pins s σ H D' I z=>by
  obtain ⟨z1,rfl⟩:=z;exact h2 pins s σ H D' I (hu σ H z1)
 refine VP (t:=fun D' σ' H'=>t { D with nx:=P } σ' H'/\D'.rt=D.rt/\D'.bk=D.bk/\D'.ct=D.ct/\∀ σ'' H'',P σ'' H''->D'.nx σ'' H'') (u:=fun D' σ' H'=>P σ' H'/\D'=D) ?_ h2' pins s σ H D I ⟨ht,rfl,rfl,rfl,fun σ'' H'' z=>⟨z,rfl⟩⟩;intro pins s σ H D' I z;obtain ⟨z1,z2,z3,z4,z5⟩:=z;refine aF (h1 pins s σ H { D with nx:=P } I z1) fun f s' hq=>?_;cases f with
 | next=>obtain ⟨σ',H',I',q⟩:=hq; exact ⟨σ',H',I',z5 _ _ q⟩
 | brk=>obtain ⟨σ',H',I',q⟩:=hq; exact ⟨σ',H',I',by rw [z3]; exact q⟩
 | cont=>obtain ⟨σ',H',I',q⟩:=hq; exact ⟨σ',H',I',by rw [z4]; exact q⟩
 | ret u=>obtain ⟨v,σ',H',I',r,q⟩:=hq; exact ⟨v,σ',H',I',r,by rw [z2]; exact q⟩
def ai {t u:TS} {D:Ends} {σ:St} {H:Hp} (h:t { D with nx:=u D } σ H):si t u D σ H:=⟨u D,h,fun _ _ z=>z⟩
def gj {t u:TS} {D:Ends} {σ:St} {H:Hp} (P:St->Hp->Prop) (h1:t { D with nx:=P } σ H) (h2:∀ σ' H',P σ' H'->u D σ' H'):si t u D σ H:=⟨P,h1,h2⟩
def wZ {H:Hp} {x:V} {T:String} (h:clsName H x=some T):uG T "str" = vi x:=by
 unfold clsName at h;split at h
 ·cases h; rfl
 ·cases h; rfl
 ·cases h; rfl
 ·cases h; rfl
 ·split at h
  ·cases h; rfl
  ·cases h; rfl
  ·cases h; rfl
  ·cases h
 ·cases h
def P1 (H:Hp) (z:Str):clsName H (.str z)=some "str" := rfl
def V3 (H:Hp) (z:Bool):clsName H (.bl z)=some "bool" := rfl
def RC (H:Hp) (z:Int):clsName H (.int z)=some "int" := rfl
def S5 (H:Hp):clsName H .aq=some "NoneType" := rfl
def JS {H:Hp} {p:Addr} {xs:List V} (h:H p=some (.lst xs)):clsName H (.ref p)=some "list" := by simp only [clsName,h]
def uV (n:String) (h:["bool","int","str","list","tuple","dict"].contains n=true):n∈["bool","int","str","list","tuple","dict"]:=by simpa using h
def vv (K:PySem.W.Frag):R2:=fun x y H Q=>match y with
 | .ref p=>∃ xs,(aE K H p xs\/bI K H p xs)/\cM x=true/\xs.all cM=true/\Q (.bl (f6 x xs)) H
 | _=>False
def Ug {X:Cx}:aW X (compareOp .In) (vv X.K):=D4.imp fun x y H Q h=>by
 unfold vv at h;split at h
 ·obtain ⟨xs,h1,h2,h3,h4⟩:=h;exact ⟨_,xs,rfl,h1,h2,h3,h4⟩
 ·exact h.elim
section
variable {X:Cx} {K:PySem.W.Frag}
def uP (h:X.K=K):aW X (compareOp .In) (uZ K):=h ▸ Yo
def Ap (h:X.K=K):aW X (compareOp .In) (vv K):=h ▸ Ug
def fZ (h:X.K=K):cq X (.builtin "len") (vx K):=h ▸ Rr
def xJ (h:X.K=K) (hc:X.calm=true):cq X (.builtin "all") (vf K):=h ▸ R0 hc
def VZ (h:X.K=K):cq X (.type "list") (vF K):=h ▸ XU
def bt (h:X.K=K):fo X (oP K):=h ▸ qx
def nN (h:X.K=K):iX X (ux K):=h ▸ P4
def jS (h:X.K=K):dB X "str.join" (rJoin K):=h ▸ V1
end
def qp (J:It) (tt:TT) (te:TE) (Q:VK) (H0:Hp):Prop:=∃ W:Nat->List V->Nat->Hp->Prop,(∃ m,W 0 [] m H0)/\∀ i ys m H,W i ys m H ->
 ys.length<=sizeLine/\((J.stop i H/\∀ l,H l=none->Q (.ref l) (upd H l (.lst ys))) \/
  (J.go i H/\ys.length < sizeLine/\∀ y H',J.jz i H y H'->tt [some y] H' fun c H2=>if c=true then te [some y] H2 fun z H3=>∃ m',m' < m/\W (i+1) (ys++[z]) m' H3 else ∃ m',m' < m/\W (i+1) ys m' H2))
def FE {wi:TI} {tt:TT} {te:TE} {σ:St} {H:Hp} {Q:VK}:vb wi tt te σ H Q=wi σ H fun J H1=>qp J tt te Q H1:=rfl
def Uy {z:Str} {te:TE} {H:Hp} {Q:VK} (f:Nat->V) (hz:z.length<=sizeLine)
  (he:∀ c,c∈z.cps.toList->∀ H1,ag H H1->∀ R:VK,(∀ H2,ag H1 H2->R (f c) H2)->te [some (.str ⟨#[c]⟩)] H1 R)
  (q:∀ H1,ag H H1->∀ l,H1 l=none->Q (.ref l) (upd H1 l (.lst (z.cps.toList.map f)))):qp (uO z) md te Q H:=by
 have hl:z.cps.toList.length=z.length:=by simp [Str.length]
 refine ⟨fun i ys m H1=>ag H H1/\ys=(z.cps.toList.take i).map f/\i<=z.length/\m=z.length - i,⟨_,ag.refl H,rfl,At _,rfl⟩,?_⟩;rintro i ys m H1 ⟨s1,rfl,hi,rfl⟩;have hlen:((z.cps.toList.take i).map f).length=i:=by rw [mo,ZA,hl]; omega
 refine ⟨by rw [hlen]; omega,?_⟩;by_cases h:i < z.length
 ·refine .inr ⟨h,by rw [hlen]; omega,?_⟩;rintro y H' ⟨rfl,c,hc,rfl⟩;have Cw:z.cps.toList[i]?=some c:=by simpa using hc
  simp only [md,if_true];refine he c (FB Cw) H' s1 _ fun H2 s2=>⟨_,?_,s1.trans s2,?_,h,rfl⟩
  ·omega
  ·rw [List.take_add_one,Cw,Fr]; rfl
 ·have Ku:i=z.length:=by omega
  refine .inl ⟨Nat.le_of_eq Ku.symm,fun l hl'=>?_⟩;have:=q H1 s1 l hl';rw [W1 (by rw [hl]; omega)];exact this
def xD {K:PySem.W.Frag} {a:Addr} {xs:List V} {tt:TT} {te:TE} {H:Hp} {Q:VK} (p:V->Bool) (f:V->V) (CK:aE K H a xs) (hz:xs.length<=sizeLine)
  (ht:∀ x,x∈xs->∀ H1,ag H H1->∀ R:Bool->Hp->Prop,(∀ H2,ag H1 H2->R (p x) H2)->tt [some x] H1 R)
  (he:∀ x,x∈xs->p x=true->∀ H1,ag H H1->∀ R:VK,(∀ H2,ag H1 H2->R (f x) H2)->te [some x] H1 R)
  (q:∀ H1,ag H H1->∀ l,H1 l=none->Q (.ref l) (upd H1 l (.lst ((xs.filter p).map f)))):qp (j6 K a) tt te Q H:=by
 refine ⟨fun i ys m H1=>ag H H1/\ys=((xs.take i).filter p).map f/\i<=xs.length/\m=xs.length - i,⟨_,ag.refl H,rfl,At _,rfl⟩,?_⟩;rintro i ys m H1 ⟨s1,rfl,hi,rfl⟩;have hlen:(((xs.take i).filter p).map f).length<=i:=by
  rw [mo];refine wE (List.length_filter_le _ _) ?_;rw [ZA]; omega
 refine ⟨by omega,?_⟩;by_cases h:i < xs.length
 ·have hx:xs[i]?=some xs[i]:=ul h;refine .inr ⟨⟨xs,xs[i],s1.seq CK,hx⟩,by omega,?_⟩;rintro y H' ⟨rfl,hy⟩;have K8:xs[i]?=some y:=hy xs (s1.seq CK);have hm:y∈xs:=FB K8;have e1:(xs.take (i+1)).filter p=(xs.take i).filter p++(if p y=true then [y] else []):=by
   rw [List.take_add_one,K8,List.filter_append];by_cases hp:p y=true
   ·simp [hp]
   ·simp [hp]
  refine ht y hm H' s1 _ fun H2 s2=>?_;by_cases hp:p y=true
  ·rw [Db hp];refine he y hm hp H2 (s1.trans s2) _ fun H3 s3=>⟨_,?_,(s1.trans s2).trans s3,?_,h,rfl⟩
   ·omega
   ·rw [e1,Db hp,Fr]; rfl
  ·rw [Ch hp];refine ⟨_,?_,s1.trans s2,?_,h,rfl⟩
   ·omega
   ·rw [e1,Ch hp,_t]
 ·have Ku:i=xs.length:=by omega
  refine .inl ⟨⟨xs,s1.seq CK,by omega⟩,fun l hl'=>?_⟩;have:=q H1 s1 l hl';rw [W1 (by omega)];exact this
structure QE (X:Cx) (e:Expr) (t:TE):Prop where
 h:PE X e t
structure QA (X:Cx) (e:List Expr) (t:TA):Prop where
 h:PA X e t
structure QT (X:Cx) (e:Expr) (t:TT):Prop where
 h:PT X e t
structure QW (X:Cx) (e:Expr) (t:TT):Prop where
 h:PW X e t
structure QS (X:Cx) (e:Stmt) (t:TS):Prop where
 h:PS X e t
structure QB (X:Cx) (e:List Stmt) (t:TS):Prop where
 h:dQ X e t
structure QI (X:Cx) (tg it:Expr) (t:TI):Prop where
 h:PI X tg it t
structure QG (X:Cx) (e:Expr) (t:TG):Prop where
 h:PG X e t
structure pV (X:Cx) (e:List Expr) (t:gf):Prop where
 h:nQ X e t
structure nv (X:Cx) (e:List Expr) (t:TT):Prop where
 h:oi X e t
structure QO (X:Cx) (e:Option Expr) (t:TO):Prop where
 h:PO X e t
structure QP (X:Cx) (pos:Pos) (ks:List (Option Expr)) (vs:List Expr) (t:List (TE×TE)):Prop where
 h:R6 X pos ks vs t
namespace Dv
section
variable {X:Cx} {a b c:Expr} {ta tb tc:TE} {pos:Pos} {rest:List Expr} {tA tB':TT}
def v (i:Nat) {x:Str} {pos:Pos} (hN:X.N[i]?=some x:=by rfl) (hv:qy X.env.scope x:=by first | exact Or.inl rfl | exact Or.inr (Or.inl rfl) | exact Or.inr (Or.inr rfl)) (hd:(x == ("__debug__" : Str))=false:=by decide)
  (cT:(x == ("__classdict__" : Str))=false:=by decide):QE X (.Name x pos) (jG i):=⟨qv i hN hv hd cT⟩
def int {i j pos}:QE X (.Constant (.int i) j pos) (tC (.int i)):=⟨P2⟩
def bl {b j pos}:QE X (.Constant (.bool b) j pos) (tC (.bl b)):=⟨OK⟩
def aq {j pos}:QE X (.Constant .none j pos) (tC .aq):=⟨P6⟩
def str {x j pos}:QE X (.Constant (.str x) j pos) (tC (.str x)):=⟨OD⟩
def glob {x:Str} (v:V) {u:Value} {pos:Pos} (hm:X.mg x=some u) (r:RelV v u) (hg:Gl X x:=by rfl) (hd:(x == ("__debug__" : Str))=false:=by decide):QE X (.Name x pos) (tC v):=⟨RB hg hm r hd⟩
def il {x:Str} (v:V) {u:Value} {pos:Pos} (hm:X.mg x=none) (hv:bootBuiltins x=some u) (r:RelV v u) (hg:Gl X x:=by rfl) (hn:x ≠ "__name__" := by decide) (hd:(x == ("__debug__" : Str))=false:=by decide):QE X (.Name x pos) (tC v):=⟨Ut hg hm hv r hn hd⟩
def op {o:Operator} {r:R2} (ho:aW X (binaryOp o) r) (ha:QE X a ta) (hb:QE X b tb):QE X (.BinOp a o b pos) (jB r ta tb):=⟨Qv ho ha.h hb.h⟩
def un {o:UnaryOp} {r:V->Hp->VK->Prop} (ho:qF X (unaryOp o) r) (ha:QE X a ta):QE X (.UnaryOp o a pos) (BA r ta):=⟨XF ho ha.h⟩
def cmp {o:CmpOp} {r:R2} (ho:aW X (compareOp o) r) (ha:QE X a ta) (hb:QE X b tb) (hm:behindInMarks o b=false:=by first | exact uv _ (by decide) (by decide) | rfl):QE X (.Compare a [o] [b] pos) (jB r ta tb):=⟨O9 ho ha.h hb.h hm⟩
def B0 (ha:QE X a ta) (hb:QE X (.BoolOp .And (b::rest) pos) tb):QE X (.BoolOp .And (a::b::rest) pos) (AW ta tb):=⟨R8 ha.h hb.h⟩
def M3 (ha:QE X a ta) (hb:QE X (.BoolOp .Or (b::rest) pos) tb):QE X (.BoolOp .Or (a::b::rest) pos) (ym ta tb):=⟨ON ha.h hb.h⟩
def one {o} {t:TE} (h:QE X a t):QE X (.BoolOp o [a] pos) t:=⟨Qp h.h⟩
def NO (ha:QE X a ta):QE X (.UnaryOp .Not a pos) (xY ta):=⟨O5 ha.h⟩
def ae:QA X [] iC:=⟨W4⟩
def aa {e:Expr} {es:List Expr} {te:TE} {t:TA} (ha:QE X e te) (hr:QA X es t) (hs:noStar e=true:=by rfl):QA X (e::es) (i9 te t):=⟨Uh ha.h hr.h hs⟩
def call {CX:dD} {k:Nat} {f:Addr} {fd:FuncData} {ps:List Str} {sp:Sp} {bj:List V} {ds:List Value} {E:XK} {x:Str} {p pos:Pos} {e:Expr} {es:List Expr} {t:TA}
  (F:aC X.prog X.w X.K X.mg X.base CX k f fd ps sp) (hr:bx k X.A) (hm:X.mg x=some (.ref f)) (hk:PySem.W.keepIn X.K (.ref f)=true) (hb:Binds X.K fd ps ds) (hd:Vals bj ds) (hx:Passes CX X E)
  (ha:QA X (e::es) t) (hg:Gl X x:=by rfl) (hs:(e::es).all noStar=true:=by rfl) (bP:(x == ("__debug__" : Str))=false:=by decide):QE X (.Call (.Name x p) (e::es) [] pos) (uT sp bj E t):=⟨VX F hr hg hm hk hb hd hx ha.h hs bP⟩
def cj {x:Str} {p pos:Pos} {e:Expr} {es:List Expr} {t:TA} {id:String} {r:List V->Hp->VK->Prop} (hc:cq X (.builtin id) r) (hm:X.mg x=none) (hv:bootBuiltins x=some (.builtin id)) (ha:QA X (e::es) t)
  (hg:Gl X x:=by rfl) (hs:(e::es).all noStar=true:=by rfl) (hn:x ≠ "__name__" := by decide) (bP:(x == ("__debug__" : Str))=false:=by decide):QE X (.Call (.Name x p) (e::es) [] pos) (lQ r t):=⟨Ue hc hg hm hv ha.h hs hn bP⟩
def BG {x:Str} {p pos:Pos} {e:Expr} {es:List Expr} {t:TA} {T:String} {r:List V->Hp->VK->Prop} (hc:cq X (.type T) r) (hm:X.mg x=none) (hv:bootBuiltins x=some (.type T)) (ha:QA X (e::es) t)
  (hg:Gl X x:=by rfl) (hs:(e::es).all noStar=true:=by rfl) (hn:x ≠ "__name__" := by decide) (bP:(x == ("__debug__" : Str))=false:=by decide):QE X (.Call (.Name x p) (e::es) [] pos) (lQ r t):=⟨TF hc hg hm hv ha.h hs hn bP⟩
section
variable {name:Str} {id:String} {r:V->List V->Hp->VK->Prop} {o e:Expr} {es:List Expr} {to:TE} {t:TA} {apos bo:Pos}
def gq (slot:Slot "str" name id) (cF:typeOf (.builtin id)=pure (.type "method_descriptor")) (hm:dB X id r) (ho:QE X o to) (ha:QA X (e::es) t)
  (hs:(e::es).all noStar=true:=by rfl) (aU:decide ((e::es).length+([]:List Keyword).length+(if ([]:List Keyword).isEmpty then 0 else 1) < 30)=true:=by rfl)
  (fF:attributeBase o name X.env (eval o X.env)=eval o X.env:=by rfl) (fD:(apos.endLine == bo.line)=true:=by rfl):QE X (.Call (.Attribute o name apos) (e::es) [] bo) (yE r to t):=⟨SD slot cF hm ho.h ha.h hs aU fF fD⟩
def dz (slot:Slot "list" name id) (cF:typeOf (.builtin id)=pure (.type "method_descriptor")) (hm:dB X id r) (ho:QE X o to) (ha:QA X (e::es) t)
  (hs:(e::es).all noStar=true:=by rfl) (aU:decide ((e::es).length+([]:List Keyword).length+(if ([]:List Keyword).isEmpty then 0 else 1) < 30)=true:=by rfl)
  (fF:attributeBase o name X.env (eval o X.env)=eval o X.env:=by rfl) (fD:(apos.endLine == bo.line)=true:=by rfl):QE X (.Call (.Attribute o name apos) (e::es) [] bo) (zw r to t):=⟨U0 slot cF hm ho.h ha.h hs aU fF fD⟩
end
def nS:QO X none xU:=⟨Mz⟩
def lR (h:QE X a ta):QO X (some a) (xF ta):=⟨WQ h.h⟩
def slice {r:V->Option Int->Option Int->Hp->VK->Prop} {lo hi:Option Expr} {tl th:TO} {p2:Pos} (hr:iX X r) (he:QE X a ta) (hl:QO X lo tl) (hu:QO X hi th):QE X (.Subscript a (.Slice lo hi none p2) pos) (Bf r ta tl th):=⟨VI hr he.h hl.h hu.h⟩
def ix {r:R2} (hr:fo X r) (ha:QE X a ta) (hb:QE X b tb) (hs:Gm b:=by intro _ _; rfl):QE X (.Subscript a b pos) (jB r ta tb):=⟨RM hr ha.h hb.h hs⟩
def lst {es:List Expr} {t:TA} (h:QA X es t):QE X (.List es pos) (zt t):=⟨Xi h.h⟩
def tup {es:List Expr} {x1} {t:TA} (h:QA X es t):QE X (.Tuple es x1 pos) (uk t):=⟨PM h.h⟩
def e9:QE X (.Dict [] [] pos) zK:=⟨Yp⟩
def bc {o:CmpOp} {r:R2} (ho:aW X (compareOp o) r) (ha:QE X a ta) (hb:QE X b tb) (hm:behindInMarks o b=false:=by first | exact uv _ (by decide) (by decide) | rfl):QT X (.Compare a [o] [b] pos) (ka (jB r ta tb)):=⟨UN ho ha.h hb.h hm⟩
def xm {o o':CmpOp} {f g:Int->Int->Bool} (ho:aW X (compareOp o) (jf f)) (ho':aW X (compareOp o') (jf g)) (ha:QE X a ta) (hb:QE X b tb) (hc:QE X c tc)
  (hm:lastMarks [o,o'] [b,c]=false:=by with_unfolding_all rfl):QT X (.Compare a [o,o'] [b,c] pos) (xR f g ta tb tc):=⟨Sh ho ho' ha.h hb.h hc.h hm⟩
def cX {t:TE} (h:QE X a t) (he:∀ whole,isTrue a X.env whole=(do let v <- whole; standAt a.pos; holding [v] (truthy v)):=by intro _; rfl):QT X a (ka t):=⟨WM h.h he⟩
def dN (ha:QT X a tA):QT X (.UnaryOp .Not a pos) (B8 tA):=⟨Vo ha.h⟩
def eB (h:QW X a tA):QT X a tA:=⟨h.h.pt⟩
def sH (ha:QT X a tA):QW X (.BoolOp .And [a] pos) tA:=⟨Vg ha.h⟩
def gg (ha:QT X a tA):QW X (.BoolOp .Or [a] pos) tA:=⟨Wr ha.h⟩
def w_and (ha:QT X a tA) (hb:QW X (.BoolOp .And (b::rest) pos) tB'):QW X (.BoolOp .And (a::b::rest) pos) (xx tA tB'):=⟨Yx ha.h hb.h⟩
def w_or (ha:QT X a tA) (hb:QW X (.BoolOp .Or (b::rest) pos) tB'):QW X (.BoolOp .Or (a::b::rest) pos) (yH tA tB'):=⟨Rb ha.h hb.h⟩
variable {st:Stmt} {J6:List Stmt} {t u:TS} {tg:Expr} {g:TG}
def cU (i:Nat) {x:Str} (hN:X.N.Nodup) (hi:X.N[i]?=some x:=by rfl) (hx:Loc X.env.scope x:=by first | exact Or.inl rfl | exact Or.inr rfl) (hf:X.fn x=true\/X.env.scope.names.lookup x=some .local:=by first | exact .inl rfl | exact .inr rfl):QG X (.Name x pos) (fm i):=⟨VT hN hi hx hf⟩
def Im {o i:Expr} {to ti:TE} {s:pR} (ho:QE X o to) (hi:QE X i ti) (hs:vG X s) (ha:∀ v,assign (.Subscript o i pos) X.env v=(do
   let ov <- holding [v] (eval o X.env)
   let iv <- holding [v,ov] (eval i X.env)
   standAt pos
   holding [v,ov,iv] (setItem ov iv v)
   release [v,ov,iv] []):=by intro _; rfl):QG X (.Subscript o i pos) (AQ to ti s):=⟨Mo ho.h hi.h hs ha⟩
def u0:pV X [] yy:=⟨Rt⟩
def gn {e:Expr} {es:List Expr} {t:TG} {u:gf} (h1:QG X e t) (h2:pV X es u) (hs:(assignEach (e::es) X.env).map (·.2)=assign e X.env::(assignEach es X.env).map (·.2):=by rfl):pV X (e::es) (yl t u):=⟨V9 h1.h h2.h hs⟩
def y9 {K:PySem.W.Frag} {es:List Expr} {k:Nat} {t:gf} {n:Nat} (hK:X.K=K) (hc:X.calm=true) (h:pV X es t) (hn:(assignEach es X.env).length=n:=by rfl) (aO:(assignEach es X.env).findIdx? (·.1)=none:=by rfl):QG X (.Tuple es k pos) (zN K n t):=hK ▸ ⟨Q5 hc h.h hn aO⟩
def aS (i:Nat) {x:Str} {e:Expr} {te:TE} {pos':Pos} (hN:X.N.Nodup) (he:QE X e te) (hi:X.N[i]?=some x:=by rfl) (hx:Loc X.env.scope x:=by first | exact Or.inl rfl | exact Or.inr rfl) (hs:swapsWith e (some (.Name x pos')) pos.line X.env=pure false:=by rfl)
  (hf:X.fn x=true\/X.env.scope.names.lookup x=some .local:=by first | exact .inl rfl | exact .inr rfl):QS X (.Assign [.Name x pos'] e pos) (kf te (fm i)):=⟨VH hN hi hx he.h hs hf⟩
def vm {e:Expr} {te:TE} (he:QE X e te) (hg:QG X tg g) (hs:swapsWithSole [tg] e pos.line X.env=pure false:=by rfl) (hw:swappedStores [tg] e X.env=pure none:=by rfl) (h1:(assignEach [tg] X.env).map (·.2)=[assign tg X.env]:=by rfl) :
  QS X (.Assign [tg] e pos) (kf te g):=⟨VB he.h hg.h hs hw h1⟩
def aL (he:QE X a ta):QS X (.Return (some a) pos) (xQ ta):=⟨Mr he.h⟩
def HP:QS X (.Return none pos) xV:=⟨RL⟩
def aX (he:QE X a ta) (hs:swapsWith a none pos.line X.env=pure false:=by rfl):QS X (.Expr a pos) (By ta):=⟨SH he.h hs⟩
def bb {A B:List Stmt} (hc:QT X a tA) (ha:QB X A t) (hb:QB X B u):QS X (.If a A B pos) (zI tA t u):=⟨OS hc.h ha.h hb.h⟩
def qG {iter:Expr} {body:List Stmt} {wi:TI} {tb:TS} (hp:PassesOwn (model X.prog X.w) X.A X.env X.xe) (hc:X.calm=true) (hi:QI X tg iter wi) (hg:QG X tg g) (hb:QB X body tb) (hs:∀ x,foldedSetIterable iter X.env x=pure x:=by intro _; rfl) :
  QS X (.For tg iter body [] pos) (Ba wi g tb):=⟨Nz hp hc hi.h hg.h hb.h hs⟩
def nil:QB X [] BJ:=⟨V0⟩
def ao (h1:QS X st t):QB X [st] t:=⟨Ny h1.h⟩
def cut (h1:QS X st t) (h2:QB X J6 u):QB X (st::J6) (si t u):=⟨Yu h1.h h2.h⟩
def rS {K:PySem.W.Frag} {l:Expr} {tl:TE} (h:X.K=K) (hl:QE X l tl):QI X tg l (AV K tl):=h ▸ ⟨Wg hl.h⟩
def Qy {l:Expr} {tl:TE} (hl:QE X l tl):QI X tg l (zP tl):=⟨PX hl.h⟩
def pa {ta:TA} {p:Pos} (hm:X.mg "range" = none) (ha:QA X [a] ta) (hg:Gl X "range" := by rfl) (hs:noStar a=true:=by rfl):QI X tg (.Call (.Name "range" p) [a] [] pos) (BQ ta):=⟨WO hg hm ha.h (eZ hs)⟩
def oJ:nv X [] md:=⟨Q0⟩
def yv (h:QT X c tA):nv X [c] tA:=⟨WN h.h⟩
end
end Dv
end L2
namespace Tx
open PySem PySem.Builtin PySem.StrLaws
def yi {c a:Nat} (h:a=c) (r:List Nat):cut c (a::r)=[]::cut c r:=if_pos h
def JH {c a:Nat} {r:List Nat} {x:List Nat} {y:List (List Nat)} (h:¬ a=c) (e:cut c r=x::y):cut c (a::r)=(a::x)::y:=by
 show (if a=c then _ else _)=_;rw [if_neg h,e]
def Io (c:Nat):∀ (t r:List Nat),cut c (t++c::r)=cut c t++cut c r
 | [],r=>yi rfl r
 | a::t,r=>by
  have ih:=Io c t r;show cut c (a::(t++c::r))=_;by_cases h:a=c
  ·rw [yi h,yi h,ih]; rfl
  ·cases e:cut c t with
   | nil=>exact absurd e (XH c t)
   | cons x y =>
    rw [e] at ih;rw [JH h ih,JH h e]; rfl
def words (c:Nat) (t:List Nat):List (List Nat):=(cut c t).filter fun w=>decide (w≠[])
def BX (c:Nat) (t r:List Nat):words c (t++c::r)=words c t++words c r:=by
 unfold words;rw [Io,List.filter_append]
def Yq (c:Nat) (r:List Nat):words c (c::r)=words c r:=BX c [] r
def ur (c:Nat) (r:List Nat):∀ n:Nat,words c (List.replicate n c++r)=words c r
 | 0=>rfl
 | n+1=>by
  show words c (c::(List.replicate n c++r))=_;rw [Yq,ur c r n]
def IA (c:Nat):∀ w:List Nat,c ∉ w->cut c w=[w]
 | [],_=>rfl
 | a::r,h=>by
  unfold cut;rw [if_neg (fun e=>h (by rw [e]; exact List.mem_cons_self)),IA c r (fun m=>h (List.mem_cons_of_mem _ m))]
def uS (c:Nat) (w:List Nat) (h:c ∉ w) (hn:w≠[]):words c w=[w]:=by
 unfold words;rw [IA c w h];simp [hn]
def xM (c:Nat):∀ t:List Nat,(cut c t).length<=t.length+1
 | []=>Nat.le_refl _
 | a::r=>by
  have ih:=xM c r;unfold cut;split
  ·simp only [List.length_cons]; omega
  ·split
   ·simp
   ·rename_i h t' e;rw [e] at ih;simp only [List.length_cons] at ih ⊢;omega
def Gy (t:List Nat) (c:Nat):((cut c t).map S).filter (fun z=>decide (z≠S []))=(words c t).map S:=by
 unfold words;rw [List.filter_map]
 congr 1
 refine List.filter_congr fun w _=>?_;show decide (S w≠S [])=decide (w≠[]);by_cases h:w=[]
 ·simp [h]
 ·have:S w≠S []:=fun e=>h (GP e);simp [h,this]
def U7 (x:List Nat) (c:Nat):Txt.startswith (S x) (S [c])=decide (x.head?=some c):=by
 unfold Txt.startswith;rw [cB,cB];cases x with
 | nil=>simp
 | cons a r =>
  rw [subAt_one (a::r) c 0 (by simp)];simp
def Nr (x:List Nat) (c:Nat):Txt.endswith (S x) (S [c])=decide (x.getLast?=some c):=by
 unfold Txt.endswith;rw [cB,cB];cases hx:x with
 | nil=>simp
 | cons a r =>
  have hl:(a::r).length - [c].length < (a::r).length:=by simp
  rw [subAt_one (a::r) c _ hl];have e:(a::r)[(a::r).length - [c].length]?=(a::r).getLast?:=by
   rw [List.getLast?_eq_getElem?]; rfl
  rw [e];have:decide (0+[c].length<=(a::r).length)=true:=decide_eq_true (by simp);rw [this,Bool.true_and]
end Tx
namespace L2
open PySem PySem.Spec PyProof.Rows
def Fo {A:Around} {s:Shared} {l1 l2:List (Str×Tok)} (j:Nat) (h1:j < (strValues l1).toArray.size) (h2:j < (strValues l2).toArray.size) :
  SeqAt.EqAt A s (strValues l1).toArray[j] (strValues l2).toArray[j] (decide ((l1.map (·.1))[j]?=(l2.map (·.1))[j]?)):=by
 have g1:j < l1.length:=by simpa [strValues] using h1
 have g2:j < l2.length:=by simpa [strValues] using h2
 have e1:(strValues l1).toArray[j]=Value.str l1[j].1 l1[j].2:=by simp [strValues]
 have e2:(strValues l2).toArray[j]=Value.str l2[j].1 l2[j].2:=by simp [strValues]
 rw [e1,e2];have e:decide ((l1.map (·.1))[j]?=(l2.map (·.1))[j]?)=(l1[j].1 == l2[j].1):=by
  rw [FS,FS,ul g1,ul g2];by_cases q:l1[j].1=l2[j].1
  ·simp [q]
  ·simp [q]
 rw [e];exact SeqAt.EqAt.str_str _ _ _ _
def all_eq {α:Type} [DecidableEq α] {xs ys:List α} (h:xs.length=ys.length):(List.range xs.length).all (fun j=>decide (xs[j]?=ys[j]?))=decide (xs=ys):=by
 rw [Zt,Go,Zu];constructor
 ·intro q;apply List.ext_getElem?;intro i;by_cases hi:i < xs.length
  ·exact of_decide_eq_true (q i (_G.mpr hi))
  ·rw [ZO (by omega),ZO (by omega)]
 ·rintro rfl j _;simp
section
variable {X:Cx}
def Js {pins:List (Addr×Obj)} {σ:St} {H:Hp} {s:Shared} {A:Around} {a b:Addr} {ts us:List Str} (I:Inv X pins σ H s) (ha:H a=some (.lst (ts.map V.str))) (hb:H b=some (.lst (us.map V.str))) (hu:A.units < cLine) :
  SeqAt.RcAt A s (.ref a) (.ref b) (decide (ts=us))/\SeqAt.RcNeAt A s (.ref a) (.ref b) (!decide (ts=us)):=by
 obtain ⟨i1,r1,p1,_⟩:=I.list (aE.of ha);obtain ⟨i2,r2,p2,_⟩:=I.list (aE.of hb);obtain ⟨l1,rfl,e1⟩:=uN r1;obtain ⟨l2,rfl,e2⟩:=uN r2;have n1:(strValues l1).toArray.size=ts.length:=by rw [<- e1]; simp [strValues]
 have n2:(strValues l2).toArray.size=us.length:=by rw [<- e2]; simp [strValues]
 by_cases h:ts.length=us.length
 ·have hsz:(strValues l1).toArray.size=(strValues l2).toArray.size:=by rw [n1,n2,h]
  have k1:=SeqAt.RcAt.lists (A:=A) p1.isList p2.isList hsz hu (fun j g1 g2=>Fo j g1 g2);have k2:=_K (A:=A) p1.isList p2.isList hsz hu (fun j g1 g2=>Fo j g1 g2);rw [n1,e1,e2,all_eq h] at k1 k2;exact ⟨k1,k2⟩
 ·have hsz:((strValues l1).toArray.size != (strValues l2).toArray.size)=true:=by rw [n1,n2]; simpa using h
  have e:decide (ts=us)=false:=ut fun z=>h (by rw [z]);rw [e];exact ⟨SeqAt.RcAt.lists_lengths p1.isList p2.isList hsz hu,SeqAt.RcNeAt.lists_lengths p1.isList p2.isList hsz hu⟩
def oj (neg:Bool):R2:=fun x y H Q=>match x,y with
 | .ref a,.ref b=>∃ ts us:List Str,H a=some (.lst (ts.map V.str))/\H b=some (.lst (us.map V.str))/\Q (.bl (neg ^^ decide (ts=us))) H
 | _,_=>False
def Rx (hu:X.A.units < cLine):aW X (compareOp .Eq) (oj false):=by
 intro pins s σ H x y v u Q I rx ry h;unfold oj at h;split at h
 ·obtain ⟨ts,us,ha,hb,q⟩:=h;cases rx; cases ry;simp only [Bool.false_bne] at q;exact (Js I ha hb hu).1 _ _ _ _ ⟨.bl _,H,I,rfl,q⟩
 ·exact h.elim
def N3 (hu:X.A.units < cLine):aW X (compareOp .NotEq) (oj true):=by
 intro pins s σ H x y v u Q I rx ry h;unfold oj at h;split at h
 ·obtain ⟨ts,us,ha,hb,q⟩:=h;cases rx; cases ry;simp only [Bool.true_bne] at q;exact (Js I ha hb hu).2 _ _ _ _ ⟨.bl _,H,I,rfl,q⟩
 ·exact h.elim
def Dv.iw {st:Stmt}:QS X st yj:=⟨OO⟩
end
end L2
namespace Tx
open PySem PySem.Builtin PySem.StrLaws
def qZ {α:Type} (a b:List α) (h:b≠[]):(a++b).getLast?=b.getLast?:=by
 rw [List.getLast?_append];rw [List.getLast?_eq_some_getLast h];rfl
def cC (c:Nat):List (List Nat)->List Nat
 | []=>[]
 | [x]=>x
 | x::y::r=>x++c::cC c (y::r)
def pb (c:Nat):∀ ps:List (List Nat),Str.join (S [c]) (ps.map S)=S (cC c ps)
 | []=>rfl
 | [x]=>rfl
 | x::y::r=>by
  have ih:=pb c (y::r);show S x++S [c]++Str.join (S [c]) ((y::r).map S)=S (x++c::cC c (y::r));rw [ih,ko,ko];simp
def wb (c:Nat):∀ ps:List (List Nat),(∀ w∈ps,c ∉ w/\w≠[])->words c (cC c ps)=ps
 | [],_=>rfl
 | [x],h=>uS c x (h x (by simp)).1 (h x (by simp)).2
 | x::y::r,h=>by
  have ih:=wb c (y::r) (fun w hw=>h w (List.mem_cons_of_mem _ hw));show words c (x++c::cC c (y::r))=_;rw [BX,ih,uS c x (h x (by simp)).1 (h x (by simp)).2];rfl
def rh (c k:Nat):∀ ps:List (List Nat),(∀ w∈ps,w.length<=k)->(cC c ps).length<=ps.length * (k+1)
 | [],_=>Nat.zero_le _
 | [x],h=>by
  have:=h x (by simp);show x.length<=1 * (k+1);omega
 | x::y::r,h=>by
  have ih:=rh c k (y::r) (fun w hw=>h w (List.mem_cons_of_mem _ hw));have:=h x (by simp);show (x++c::cC c (y::r)).length<=((y::r).length+1) * (k+1);rw [List.length_append,List.length_cons,Nat.add_mul];omega
def B2 (c:Nat) (ps:List (List Nat)) (h:∀ w∈ps,c ∉ w/\w≠[]) (hn:ps≠[]):cC c ps≠[]:=fun e=>by
 have:=wb c ps h;rw [e] at this;exact hn this.symm
def xq (c:Nat):∀ ps:List (List Nat),(∀ w∈ps,c ∉ w/\w≠[])->(cC c ps).getLast?≠some c
 | [],_=>by simp [cC]
 | [x],h=>fun e=>(h x (by simp)).1 (List.mem_of_getLast? e)
 | x::y::r,h=>by
  have hr:∀ w∈(y::r),c ∉ w/\w≠[]:=fun w hw=>h w (List.mem_cons_of_mem _ hw);have ih:=xq c (y::r) hr;show (x++c::cC c (y::r)).getLast?≠some c;rw [qZ _ _ (by simp)];have:(c::cC c (y::r))=[c]++cC c (y::r):=rfl;rw [this,qZ _ _ (B2 c (y::r) hr (by simp))];exact ih
end Tx
namespace L2
open PySem PySem.Spec PyProof.Rows
def Ae:V->Hp->VK->Prop:=fun x H Q=>match x with
 | .int i=>Q (.int (-i)) H
 | _=>False
def ky {X:Cx}:qF X (unaryOp .USub) Ae:=fun pins s σ H x v Q I rx h=>OW pins s σ H x v Q I rx (by
 unfold Ae at h;split at h
 ·exact ⟨_,rfl,h⟩
 ·exact h.elim)
def Yz (r:List V) (x:V):eV (r++[x]) Option.none (some (-1))=r:=by
 unfold eV;have e1:HT.da (r++[x]).length (r++[x]).length (some (-1))=r.length:=by
  unfold HT.da;simp;omega
 rw [HT.AJ,e1];simp
section
variable {X:Cx} {K:PySem.W.Frag}
def WH (K:PySem.W.Frag):List V->Hp->VK->Prop:=fun xs H Q=>match xs with
 | [.ref p]=>∃ ys,aE K H p ys/\Q (.int ys.length) H
 | _=>False
def Yj (K:PySem.W.Frag):R2:=fun x y H Q=>match x,y with
 | .ref p,.int i=>∃ xs v,aE K H p xs/\cz xs i=some v/\Q v H
 | _,_=>False
end
end L2
namespace L2
open PySem
open Sem (wp)
def dE (e:Addr) (c:Value) (od:Option Addr) (h:Heap):Prop:=∃ o,h.get? e=some o/\o.cls=c/\o.dict=od/\∃ vs,o.data=.fields vs
structure Kp (e:Addr) (c:Value) (od:Option Addr) {α:Type} (t:Sem α):Prop where
 out:∀ (M:Model) (Γ:Ctx) (P:α->Pos->Shared->Prop) (Ee:Value->Pos->Shared->Prop) (p:Pos) (s:Shared),dE e c od s.heap->wp M Γ t P Ee p s->wp M Γ t (fun a p' s'=>P a p' s'/\dE e c od s'.heap) Ee p s
section
variable {e:Addr} {c:Value} {od:Option Addr} {α β:Type}
def Kp.pure (a:α):Kp e c od (Pure.pure a:Sem α):=⟨fun _ _ _ _ _ _ hd h=>⟨h,hd⟩⟩
def Kp.unsupported (w:String):Kp e c od (PySem.unsupported w:Sem α):=⟨fun _ _ _ _ _ _ _ h=>h⟩
def Kp.bind {m:Sem α} {f:α->Sem β} (hm:Kp e c od m) (hf:∀ a,Kp e c od (f a)):Kp e c od (m >>= f):=⟨fun M Γ P Ee p s hd h=>by
 rw [Sem.wp_bind'] at h ⊢;exact Sem.wp_mono M Γ m (fun a p' s' h'=>(hf a).out M Γ P Ee p' s' h'.2 h'.1) (fun _ _ _ x=>x) p s (hm.out M Γ _ Ee p s hd h)⟩
def Kp.ite {q:Prop} [Decidable q] {t u:Sem α} (ht:Kp e c od t) (hu:Kp e c od u):Kp e c od (if q then t else u):=by split <;> assumption
def Kp.load (a:Addr):Kp e c od (PySem.load a):=⟨fun _ _ _ _ _ _ hd h=>let ⟨o,ho,z⟩:=h; ⟨o,ho,z,hd⟩⟩
def Kp.stack:Kp e c od PySem.stack:=⟨fun M Γ P Ee p s hd h=>by
 unfold PySem.stack at h ⊢;rw [Sem.wp_stack] at h ⊢;exact ⟨h,hd⟩⟩
def dE.push {h:Heap} (x:dE e c od h) (o:Obj):dE e c od (h.push o):=let ⟨u,hu,r⟩:=x; ⟨u,li _ hu,r⟩
def dE.update {h:Heap} (x:dE e c od h) (a:Addr) (f:Obj->Obj) (hf:∀ o,(f o).cls=o.cls/\(f o).dict=o.dict/\∀ vs,o.data=.fields vs->∃ ws,(f o).data=.fields ws):dE e c od (h.update a f):=by
 obtain ⟨u,hu,h1,h2,vs,h3⟩:=x;by_cases q:a=e
 ·subst q;obtain ⟨ws,h4⟩:=(hf u).2.2 vs h3;exact ⟨f u,Ty f hu (Obj.isFreed_of_fields h4),(hf u).1.trans h1,(hf u).2.1.trans h2,ws,h4⟩
 ·exact ⟨u,(IR _ _ q).trans hu,h1,h2,vs,h3⟩
def Kp.update (a:Addr) (f:Obj->Obj) (hf:∀ o,(f o).cls=o.cls/\(f o).dict=o.dict/\∀ vs,o.data=.fields vs->∃ ws,(f o).data=.fields ws):Kp e c od (PySem.update a f) :=
 ⟨fun _ _ _ _ _ _ hd h=>⟨h.1,h.2,hd.update a f hf⟩⟩
def PR (g:Array Value->Array Value) (o:Obj):(Obj.mapFields g o).cls=o.cls/\(Obj.mapFields g o).dict=o.dict/\∀ vs,o.data=.fields vs->∃ ws,(Obj.mapFields g o).data=.fields ws:=by
 obtain ⟨c1,d1,dt,sl⟩:=o;refine ⟨Obj.cls_mapFields _ _,?_,fun vs h=>⟨_,_L h g⟩⟩;cases dt <;> rfl
def Kp.alloc (o:Obj):Kp e c od (PySem.alloc o):=⟨fun _ _ _ _ _ _ hd h=>⟨h,hd.push o⟩⟩
def Kp.field (v:Value) (i:Nat):Kp e c od (PySem.field v i):=⟨fun _ Γ _ _ _ _ hd h=>by
 rw [wp_field_iff] at h ⊢;obtain ⟨a,o,vs,x,h1,h2,h3,h4,h5⟩:=h;exact ⟨a,o,vs,x,h1,h2,h3,h4,h5,hd⟩⟩
def Kp.setField (v:Value) (i:Nat) (x:Value):Kp e c od (PySem.setField v i x):=⟨fun _ Γ _ _ _ _ hd h=>by
 rw [wp_setField_iff] at h ⊢;obtain ⟨a,o,vs,h1,h2,h3,h4,h5⟩:=h;exact ⟨a,o,vs,h1,h2,h3,h4,h5,hd.update a _ (PR _)⟩⟩
local macro_rules | `(tactic| walk_at "kps")=>`(tactic| repeat' with_reducible first | assumption | exact Kp.pure _ | exact Kp.unsupported _ | exact Kp.field _ _ | exact Kp.setField _ _ _ | exact Kp.load _ | exact Kp.stack | exact Kp.alloc _ | apply Kp.ite | apply Kp.bind | intro _ | split)
def Kp.newFields (ty:String) (vs:List Value):Kp e c od (PySem.newFields ty vs):=by
 unfold PySem.newFields newObj newObjAsIs;walk_at "kps"
def Kp.frameEnvs:Kp e c od PySem.frameEnvs:=by
 unfold PySem.frameEnvs;walk_at "kps"
def Kp.isImport (env:Env) (outer:List Env):Kp e c od (behindIsImport env outer):=by
 unfold behindIsImport;walk_at "kps"
def Kp.caller:Kp e c od underTheClaimsCaller:=by
 unfold underTheClaimsCaller;walk_at "kps"
def Kp.keptBack (env:Env) (i:Bool) (l:List Env):Kp e c od (PySem.keptBack env i l):=by
 have:=Kp.caller (e:=e) (c:=c) (od:=od);cases l <;> unfold PySem.keptBack <;> walk_at "kps"
def Kp.ready:∀ l:List Env,Kp e c od (readyFrames l)
 | []=>Kp.pure _
 | env::outer=>by
  have ih:=Kp.ready outer;have h1:=Kp.isImport (e:=e) (c:=c) (od:=od) env outer;have h2:=fun i=>Kp.keptBack (e:=e) (c:=c) (od:=od) env i outer;unfold readyFrames;walk_at "kps"
  all_goals first | exact h2 _ | exact Kp.update _ _ (fun o=>⟨rfl,rfl,fun vs h=>⟨vs,h⟩⟩) | skip
def Kp.frameObject (l:List Env):Kp e c od (PySem.frameObject l):=by
 cases l with
 | nil=>exact Kp.pure _
 | cons env outer =>
  have:=Kp.ready (e:=e) (c:=c) (od:=od) (env::outer);unfold PySem.frameObject;walk_at "kps"
def Kp.frameOf (env:Env):Kp e c od (PySem.frameOf env):=by
 have h1:=Kp.frameEnvs (e:=e) (c:=c) (od:=od);have h2:=Kp.frameObject (e:=e) (c:=c) (od:=od);unfold PySem.frameOf;walk_at "kps"
 all_goals first | exact h2 _ | skip
def Kp.place (f:Addr) (b:Bool):Kp e c od (entryPlaceOf f b):=by
 unfold entryPlaceOf;walk_at "kps"
def Kp.setFlight (v:Value) (fr:Option Addr):Kp e c od (PySem.setFlight v fr):=by
 unfold PySem.setFlight;walk_at "kps"
def Kp.noteFrame (v:Value) (env:Env):Kp e c od (PySem.noteFrame v env):=by
 have h1:=Kp.frameOf (e:=e) (c:=c) (od:=od) env;have h2:=fun f b=>Kp.place (e:=e) (c:=c) (od:=od) f b;unfold PySem.noteFrame EntryCells.newEntry;walk_at "kps"
 all_goals first | exact h2 _ _ | exact Kp.newFields _ _ | skip
def Kp.leaving (env:Env) (v:Value):Kp e c od (PySem.leaving env v):=by
 have h1:=Kp.noteFrame (e:=e) (c:=c) (od:=od) v env;have h2:=Kp.setFlight (e:=e) (c:=c) (od:=od) v none;unfold PySem.leaving;walk_at "kps"
def Kp.any {t:Sem α} (k:Kp e c od t) {M:Model} {A:Around} {Q:α->Shared->Prop} {E:Value->Shared->Prop} {s:Shared} (hd:dE e c od s.heap) (h:wpAny M A t Q E s):wpAny M A t (fun a s'=>Q a s'/\dE e c od s'.heap) E s :=
 fun Γ p hΓ=>k.out M Γ _ _ p s hd (h Γ p hΓ)
end
end L2
namespace Tx
open PySem PySem.Builtin PySem.StrLaws
def JG (l:List Nat) (n:Nat) (hl:l.length<=2) (hn:n<=2100):MulOk (S l) (n:Int):=by
 refine ⟨?_,fun h1 h2=>?_,fun h1 h2=>?_⟩
 ·rw [decide_eq_false (by omega),decide_eq_false (by omega)]; rfl
 ·rw [cB];have h0:(0:Int) < n:=by omega
  have:(2:Int)<=(2 ^ 63 - 1) / (n:Int):=by
   rw [Int.le_ediv_iff_mul_le h0];omega
  omega
 ·unfold PySem.Builtin.Str.tooLong;rw [cB,Int.toNat_natCast];refine decide_eq_false ?_;have:(sizeLine:Nat)=16777216:=sizeLine_eq;have h3:l.length * n<=2 * 2100:=Nat.mul_le_mul hl hn;omega
end Tx
namespace L2
def SS (xs:List V) (k:Nat):eV xs none (some (k:Int))=xs.take k:=by
 unfold eV;rw [HT.AJ,HT.vC,List.drop_zero,Nat.sub_zero];by_cases h:k<=xs.length
 ·rw [Nat.min_eq_left h]
 ·rw [Nat.min_eq_right (by omega),W1 (sB _),W1 (by omega)]
def Hh (xs:List V) (k:Nat):eV xs (some (k:Int)) none=xs.drop k:=by
 unfold eV;rw [HT.AJ,HT.vC];by_cases h:k<=xs.length
 ·rw [Nat.min_eq_left h,W1 (by rw [List.length_drop]; exact sB _)]
 ·rw [Nat.min_eq_right (by omega),List.drop_eq_nil_of_le (sB _),List.drop_eq_nil_of_le (by omega)];simp
end L2
namespace L2
open PySem PySem.Spec PyProof.Rows
def bN.there {P:Program} {w:World} {H:Hp} {h:Heap} {a:Addr} {o:HO} (x:bN P w H h a o):∃ u,h.get? a=some u:=by
 cases o with
 | lst xs=>obtain ⟨_,_,_,_,e⟩:=x; exact ⟨_,e⟩
 | tup xs=>obtain ⟨_,_,_,u,e,_⟩:=x; exact ⟨_,e⟩
 | dK kvs=>obtain ⟨_,_,_,_,o,_,_,e,_⟩:=x; exact ⟨_,e⟩
 | dT kvs=>obtain ⟨_,_,_,_,o,_,_,e,_⟩:=x; exact ⟨_,e⟩
 | set S n=>obtain ⟨o,_,_,_,e,_⟩:=x; exact ⟨_,e⟩
 | ins C dx fs=>obtain ⟨_,_,_,e,_⟩:=x; exact ⟨_,e⟩
 | own y=>exact x
 | xd fs=>obtain ⟨_,⟨_,_,_,e,_⟩,_⟩:=x; exact ⟨_,e⟩
 | vo lo hi=>obtain ⟨_,_,_,e⟩:=x; exact ⟨_,e⟩
 | bG ob u=>obtain ⟨e,_⟩:=x; exact ⟨_,e⟩
 | kF ps=>exact ⟨_,(show h.get? a=some _ from x)⟩
 | met f y=>exact ⟨_,(show h.get? a=some _ from x)⟩
 | ext φ=>obtain ⟨_,e,_⟩:=x; exact e
def qI (B:Heap) (fs:List Addr) (h:Heap) (H':Hp) (h':Heap):Prop :=
 ∀ b o,h'.get? b=some o->b ∉ fs->((∃ u,h.get? b=some u)\/∃ u,H' b=some u)->B.get? b=some o
def N0 {P:Program} {w:World} {fs:List Addr} {H H':Hp} {h h1 h2 B:Heap} (u:Un fs [] H H' h h1) (aB:bY P w H' h1) (hf:∀ b∈fs,H b=none/\∃ o,h.get? b=some o/\∀ vs,o.data≠.fields vs) (ia:qI B fs h H' h1)
  (st:B.StaysIn h2) (up:h1.UpToSlots h2):Un fs [] H H' h h2/\bY P w H' h2:=by
 have kB:∀ b o,h1.get? b=some o->b ∉ fs->((∃ u,h.get? b=some u)\/∃ u,H' b=some u)->h2.get? b=some o:=fun b o e hb z=>st b o (ia b o e hb z);have fr:∀ b∈fs,∀ o,h.get? b=some o->∃ sl,h2.get? b=some { o with slots:=sl }:=fun b hb o e=>by
  obtain ⟨n,o',e',nf⟩:=hf b hb;rw [e] at e'; cases e';obtain ⟨sl,e1⟩:=u.slot b o e n hb (by simp);obtain ⟨sl',e2⟩:=up b _ e1 nf;exact ⟨sl',e2⟩
 refine ⟨⟨fun b o q n hb hx=>kB b o (u.keep b o q n hb hx) hb (.inl ⟨o,q⟩),fun b o q n hb hx=>fr b hb o q,u.free,fun b o q hx=>?_,u.fK,u.fk,u.fO⟩,fun a v e=>?_⟩
 ·by_cases hb:b∈fs
  ·obtain ⟨sl,e⟩:=fr b hb o q;exact ⟨_,e⟩
  ·obtain ⟨o',e1⟩:=u.there b o q hx;exact ⟨o',kB b o' e1 hb (.inl ⟨o,q⟩)⟩
 ·have tr:∀ b,(∃ u,H' b=some u)->b ∉ fs:=fun b ⟨v',e'⟩ hb=>by
   obtain ⟨n,o,ho,_⟩:=hf b hb;have:=u.free b o ho n (by simp);rw [e'] at this; cases this
  refine (aB a v e).eL (fun b x hb q=>?_) (fun _ q=>q) fun _ _ q=>q;have hs:∃ u,H' b=some u:=by
   rcases hb with rfl | hb
   ·exact ⟨v,e⟩
   ·exact ⟨_,hb⟩
  exact kB b x q (tr b hs) (.inr hs)
structure lA (P:Program) (w:World) (outer:List Env) (H:Hp) (s:Shared) (ea C:Addr) (od:Option Addr) (H':Hp) (s':Shared):Prop where
 os:s'.os=s.os
 bare:AllBare s'.gens
 un:Un (bM outer) [] H H' s.heap s'.heap
 aB:bY P w H' s'.heap
 free:H' ea=none
 new:s.heap.get? ea=none
 hd:dE ea (.ref C) od s'.heap
 Vv:∃ B a0,Heap.FlyingW B outer ea (.ref C) a0 s'.heap/\qI B (bM outer) s.heap H' s'.heap
def cI (P:Program) (w:World):dD:=fun outer H s E e s'=>∃ ea C od H',e=.ref ea/\lA P w outer H s ea C od H' s'/\E (.ref C) od H'
section
variable {X:Cx} {pins:List (Addr×Obj)} {σ:St} {H H':Hp} {s s':Shared} {ea C:Addr} {od:Option Addr}
def Inv.Oe (I:Inv X pins σ H s):∀ b∈bM X.stack,H b=none/\∃ o,s.heap.get? b=some o/\∀ vs,o.data≠.fields vs:=fun b hb=>⟨I.u4 b hb,(I.stack.mem hb).2⟩
structure Own (X:Cx):Prop where
 eE:X.stack=X.env::X.outer
 frame:X.env.frame=some X.env.locals
 ex:X.ex=[]
def Inv.xP {h1 B:Heap} {a0:Value} (I:Inv X pins σ H s) (O:Own X) (os:s'.os=s.os) (bare:AllBare s'.gens) (un:Un (bM X.stack) [] H H' s.heap h1) (aB:bY X.prog X.w H' h1) (free:H' ea=none) (new:s.heap.get? ea=none)
  (ia:qI B (bM X.stack) s.heap H' h1) (fl:Heap.FlyingW B X.outer ea (.ref C) a0 s'.heap) (up:h1.UpToSlots s'.heap) (hd:dE ea (.ref C) od s'.heap):lA X.prog X.w X.outer X.H₀ X.s₀ ea C od H' s':=by
 obtain ⟨u2,hok2⟩:=N0 un aB I.Oe ia fl.1 up;have C6:bM X.stack=X.env.locals::X.fs:=by
  rw [O.eE];unfold bM;rw [Zy,O.frame];rfl
 have tS:∀ b o,X.s₀.heap.get? b=some o->b≠X.env.locals:=fun b o e=>xL (xz (wf e) I.ok.above);have nx:∀ b:Addr,b ∉ X.ex:=fun b=>by rw [O.ex]; simp
 have iP:∀ b o,X.s₀.heap.get? b=some o->b ∉ X.fs->b ∉ bM X.stack:=fun b o e hb z=>by
  rw [C6] at z;rcases ss.mp z with q | q
  ·exact tS b o e q
  ·exact hb q
 have Lfree:H' X.env.locals=none:=by
  obtain ⟨m,⟨o,_,_,ho,_⟩,_⟩:=I.loc;exact un.free _ o ho I.free (by simp)
 refine ⟨os.trans I.os,bare,⟨fun b o q n hb _=>?_,fun b o q n hb _=>?_,fun b o q n _=>?_,fun b o q _=>?_,fun b xs q=>?_,fun b o v q=>?_,fun b ps q=>?_⟩,hok2,free,?_,hd,B,a0,fl,fun b o e hb z=>?_⟩
 ·exact u2.keep b o (I.base.keep b o q n hb (nx b)) (I.base.free b o q n (nx b)) (iP b o q hb) (by simp)
 ·obtain ⟨sl,e1⟩:=I.base.slot b o q n hb (nx b);obtain ⟨sl',e2⟩:=u2.slot b _ e1 (I.base.free b o q n (nx b)) (by rw [C6]; exact Ev _ hb) (by simp);exact ⟨sl',e2⟩
 ·obtain ⟨o',e1⟩:=I.base.there b o q (nx b);exact u2.free b o' e1 (I.base.free b o q n (nx b)) (by simp)
 ·obtain ⟨o',e1⟩:=I.base.there b o q (nx b);exact u2.there b o' e1 (by simp)
 ·exact u2.fK b xs (I.base.fK b xs q)
 ·exact u2.fk b o v (I.base.fk b o v q)
 ·obtain ⟨m1,e1⟩:=I.base.fO b ps q;obtain ⟨m2,e2⟩:=u2.fO b _ e1;exact ⟨m1++m2,by rw [e2,Array.append_assoc]⟩
 ·cases q:X.s₀.heap.get? ea with
  | none=>rfl
  | some u =>
   obtain ⟨u',e'⟩:=I.base.there ea u q (nx ea);rw [new] at e'; cases e'
 ·have hn:b ∉ bM X.stack:=fun z'=>by
   rw [C6] at z';rcases ss.mp z' with q | q
   ·rcases z with ⟨o',e'⟩ | ⟨v,e'⟩
    ·exact tS b o' e' q
    ·rw [q,Lfree] at e'; cases e'
   ·exact hb q
  have hs:∃ o',h1.get? b=some o'/\((∃ u,s.heap.get? b=some u)\/∃ u,H' b=some u):=by
   rcases z with ⟨o',e'⟩ | ⟨v,e'⟩
   ·obtain ⟨o2,e2⟩:=I.base.there b o' e' (nx b);obtain ⟨o3,e3⟩:=un.there b o2 e2 (by simp);exact ⟨o3,e3,.inl ⟨o2,e2⟩⟩
   ·obtain ⟨o3,e3⟩:=(aB b v e').there;exact ⟨o3,e3,.inr ⟨v,e'⟩⟩
  obtain ⟨o3,e3,z3⟩:=hs;have e4:=ia b o3 e3 hn z3;have e5:=fl.1 b o3 e4;rw [e] at e5; cases e5;exact e4
def Inv.VU {M:Model} {A:Around} {E:Value->Shared->Prop} (I:Inv X pins σ H s) (O:Own X) (hA:A.frames=some X.stack) (F:lA X.prog X.w X.stack H s ea C od H' s') :
  wpAny M A (leaving X.env (.ref ea)) (fun _ s''=>lA X.prog X.w X.outer X.H₀ X.s₀ ea C od H' s'') E s':=by
 obtain ⟨B,a0,fl,ia⟩:=F.Vv;have fl':=fl;rw [O.eE] at fl' hA;refine aF ((Kp.leaving X.env (.ref ea)).any F.hd (wpAny_leaves_onW (Q:=fun _ s''=>∃ h',s''={ s' with heap:=h' }/\Heap.FlyingW B X.outer ea (.ref C) a0 h'/\s'.heap.UpToSlots h') hA O.frame fl' fun h' x1 x2=>⟨h',rfl,x1,x2⟩)) fun _ s'' ⟨⟨h',e,x1,x2⟩,hd⟩=>?_;subst e;exact I.xP (s':={ s' with heap:=h' }) O F.os F.bare F.un F.aB F.free F.new ia x1 x2 hd
def G0 {h h':Heap} {e:Addr} {cls:Value} {args:List Value} (hx:Heap.MadeExcOf h h' e cls args):dE e cls none h':=by
 obtain ⟨t,he,_⟩:=hx.there;exact ⟨_,he,rfl,rfl,_,rfl⟩
def Inv.Uu {M:Model} {A:Around} {E:Value->Shared->Prop} {h':Heap} {vs:List Value} (I:Inv X pins σ H s) (O:Own X) (hA:A.frames=some X.stack) (hx:Heap.MadeExcOf s.heap h' ea (.ref C) vs) :
  wpAny M A (leaving X.env (.ref ea)) (fun _ s''=>lA X.prog X.w X.outer X.H₀ X.s₀ ea C none H s'') E { s with heap:=h' }:=by
 have aO:(PySem.W.hideAll s.heap (bM X.stack)).StaysIn s.heap:=fun b o q=>_F _ q;have eO:s.heap.FunFrames (PySem.W.hideAll s.heap (bM X.stack)) X.stack:=PySem.W.funFrames_hide I.stack fun env he a ha=>_b.mpr ⟨env,he,ha⟩;have lb:H ea=none:=by
  cases q:H ea with
  | none=>rfl
  | some u =>
   obtain ⟨o,e⟩:=(I.aB ea u q).there;have:=hx.new;rw [e] at this; cases this
 have ia:qI (PySem.W.hideAll s.heap (bM X.stack)) (bM X.stack) s.heap H h':=fun b o e hb z=>by
  have hs:∃ u,s.heap.get? b=some u:=by
   rcases z with z | ⟨v,z⟩
   ·exact z
   ·exact (I.aB b v z).there
  obtain ⟨u,eu⟩:=hs;have:=hx.keeps b u eu;rw [e] at this; cases this;exact _x _ eu hb
 generalize PySem.W.hideAll s.heap (bM X.stack)=B at aO eO ia;have hfr':=eO;rw [O.eE] at hfr' hA;refine aF ((Kp.leaving X.env (.ref ea)).any (s:={ s with heap:=h' }) (G0 hx) (wpAny_leaves_madeW (s:={ s with heap:=h' }) (Q:=fun _ s''=>∃ h2 t,s''={ s with heap:=h2 }/\Heap.FlyingW B X.outer ea (.ref C) (.ref t) h2/\h'.UpToSlots h2) hA O.frame aO hfr' hx
  fun h2 t x1 _ _ x4=>⟨h2,t,rfl,x1,x4⟩)) fun _ s'' ⟨⟨h2,t,e,x1,x4⟩,hd⟩=>?_
 subst e;exact I.xP (s':={ s with heap:=h2 }) O rfl I.bare (Un.kept hx.keeps) (I.aB.kept hx.keeps) lb hx.new ia x1 x4 hd
structure iD (X:Cx) (R:St->XK):Prop where
 pass:∀ (pins:List (Addr×Obj)) (σ:St) (H:Hp) (s:Shared) (e:Value) (s':Shared),Inv X pins σ H s->cI X.prog X.w X.stack H s (R σ) e s'->X.xe e s'
structure Raises (X:Cx) (R:St->XK):Prop where
 made:∀ (pins:List (Addr×Obj)) (σ:St) (H:Hp) (s:Shared) (h':Heap) (ea C:Addr) (vs:List Value),Inv X pins σ H s->Heap.MadeExcOf s.heap h' ea (.ref C) vs->R σ (.ref C) none H->X.xe (.ref ea) { s with heap:=h' }
def cY {P:Program} {w:World} {K:PySem.W.Frag} {mg:Str->Option Value} {base:Heap} {N:List Str} {qual:Str} {scope:Scope} {f:Addr} {cd:Value} {A:Around} {outer:List Env} {s₀:Shared} {H₀:Hp} {E:XK} :
  iD (fh (cI P w) P w K mg base N qual scope f cd A outer s₀ H₀ E) (fun _=>E) where
 pass:=fun pins σ H s e s' I hc=>by
  obtain ⟨ea,C,od,H',rfl,F,hE⟩:=hc;exact aF (I.VU ⟨rfl,rfl,rfl⟩ I.ok.frames F) fun _ s'' z=>⟨ea,C,od,H',rfl,z,hE⟩
def xw {P:Program} {w:World} {K:PySem.W.Frag} {mg:Str->Option Value} {base:Heap} {N:List Str} {qual:Str} {scope:Scope} {f:Addr} {cd:Value} {A:Around} {outer:List Env} {s₀:Shared} {H₀:Hp} {E:XK} :
  Raises (fh (cI P w) P w K mg base N qual scope f cd A outer s₀ H₀ E) (fun _=>E) where
 made:=fun pins σ H s h' ea C vs I hx hE=>aF (I.Uu ⟨rfl,rfl,rfl⟩ I.ok.frames hx) fun _ s'' z=>⟨ea,C,none,H,rfl,z,hE⟩
def BZ (sp:Sp) (bj:List V) (R:St->XK) (t:TA):TE:=fun σ H Q=>t σ H fun vs H1=>sp (vs++bj) H1 Q (R σ)
section
variable {k:Nat} {f:Addr} {fd:FuncData} {ps:List Str} {sp:Sp} {bj:List V} {ds:List Value} {R:St->XK} {x:Str} {p pos:Pos} {e:Expr} {es:List Expr} {t:TA}
def Ib {Q:VK} {us:List Value} {vs:List V} (F:aC X.prog X.w X.K X.mg X.base (cI X.prog X.w) k f fd ps sp) (hr:bx k X.A) (hb:Binds X.K fd ps ds) (hd:Vals bj ds) (hx:iD X R)
  (I:Inv X pins σ H s) (r:Vals vs us) (h:sp (vs++bj) H Q (R σ)):wpAny (model X.prog X.w) X.A (call (.ref f) us) (EP X pins σ Q) X.xe s:=by
 have r2:Vals (vs++bj) (us++ds):=r.append hd;have hl:(us++ds).length=ps.length:=by rw [<- r2.length]; exact F.len _ _ _ _ h
 refine ZF (_e (F.run X.A X.stack s H ⟨us,[]⟩ (us++ds) (vs++bj) Q (R σ) hr I.qA (hb s us I.bW hl) r2 h) fun r s' hq=>?_);cases r with
 | error e=>exact hx.pass pins σ H s e s' I hq
 | ok fl =>
  cases fl with
  | ret u=>exact I.after hq
  | next=>exact False.elim hq
  | brk=>exact False.elim hq
  | cont=>exact False.elim hq
def S9 (F:aC X.prog X.w X.K X.mg X.base (cI X.prog X.w) k f fd ps sp) (hr:bx k X.A) (hg:Gl X x) (hm:X.mg x=some (.ref f)) (hk:PySem.W.keepIn X.K (.ref f)=true) (hb:Binds X.K fd ps ds) (hd:Vals bj ds) (hx:iD X R)
  (ha:PA X (e::es) t) (hs:(e::es).all noStar=true:=by rfl) (bP:(x == ("__debug__" : Str))=false:=by decide):PE X (.Call (.Name x p) (e::es) [] pos) (BZ sp bj R t):=by
 have hs':=hs;rw [NE,Do] at hs';intro pins s σ H Q I h;refine KB (kJ I hg hm ?_ bP);refine Zq (h₀:=X.base) I.ok.mod.ir hk (aF (ha pos pins s σ H _ I h) fun us s1 ⟨vs,H1,I1,r,q⟩=>⟨I1.bW,?_⟩) (eZ hs'.1) (gI hs'.2);exact Ib F hr hb hd hx I1 r q
end
end
abbrev qw:List Value:=[.type "ValueError",.type "Exception",.type "BaseException",.type "object"]
def Sq {K:PySem.W.Frag} {h:Heap} {C:Addr} {Le:List Value} {newId:String} (X:K.In h) (q:PySem.W.excIn K C Le newId=true) :
  ∃ bm N nm q bs hdct sn sub ab col dd k0 k1 k2 k3 k5 mN,h.get? C=some (excClassObj nm q C N bs bm hdct sn sub ab col dd k0 k1 k2 k3 k5 newId)/\h.Ns N mN/\mN "__init__" = none/\OwnTail h Le bm:=by
 unfold PySem.W.excIn at q;split at q
 ·rename_i dd cd sl ho;split at q
  ·rename_i C' bm k0 k1 k2 k3 n k5 hm hs;simp only [Do,Zp,Bool.not_eq_true'] at q;obtain ⟨⟨⟨⟨⟨q1,q2⟩,q3⟩,q4⟩,q5⟩,q6⟩:=q;subst q1 q2;obtain ⟨nm,bs,mro,ns,qn,hd,sn,sub,ab,col,del⟩:=cd;dsimp only at hm q3 q5 q6;subst hm q3;have e1:sl=#[k0,k1,k2,k3,some (.builtin n),k5]:=by
    obtain ⟨l⟩:=sl;simp only at hs;rw [hs]
   subst e1;exact ⟨bm,ns,nm,qn,bs,hd,sn,sub,ab,col,dd,k0,k1,k2,k3,k5,_,X _ _ ho,.of_isNs (PySem.W.isNs_of_in X q5),PySem.W.nsMap_none_of_in X q5 q6,PySem.W.tail_of_in X q4⟩
  ·cases q
 ·cases q
def AE (C:Addr) (R:St->XK) (t:TA):TS:=fun _ σ H=>t σ H fun vs H1=>vs.length<=sizeLine/\R σ (.ref C) none H1
def Rq {X:Cx} {R:St->XK} {x:Str} {C:Addr} {e:Expr} {es:List Expr} {t:TA} {np bo pos:Pos} (hx:Raises X R) (hc:X.calm=true) (hm:X.mg x=some (.ref C)) (q:PySem.W.excIn X.K C qw "ValueError.__new__" = true) (ha:PA X (e::es) t)
  (hg:Gl X x:=by rfl) (hs:(e::es).all noStar=true:=by rfl) (bP:(x == ("__debug__" : Str))=false:=by decide):PS X (.Raise (some (.Call (.Name x np) (e::es) [] bo)) none pos) (AE C R t):=by
 have hs':=hs;rw [NE,Do] at hs';intro pins s σ H D I h;obtain ⟨bm,N,nm,qn,bs,hdct,sn,sub,ab,col,dd,k0,k1,k2,k3,k5,mN,hC,hN,hni,T⟩:=Sq I.ok.mod.ir q;refine wpAny_Raise_call_subT (C:=C) (nm:=nm) (q:=qn) (N:=N) (bs:=bs) (bm:=bm) (hdct:=hdct) (sn:=sn) (sub:=sub) (ab:=ab) (col:=col) (dd:=dd) (k0:=k0) (k1:=k1) (k2:=k2) (k3:=k3) (k5:=k5)
  Z0 (mN:=mN) (T.hasType Z0.hasBase) (I.ok.hd hc) (by rw [eZ hs'.1]; exact gI hs'.2) hni (kJ I hg hm ⟨rfl,?_⟩ bP)
 have ha':=ha bo pins s σ H _ I h;rw [eZ hs'.1] at ha' ⊢;refine ZY (aF ha' fun us s2 ⟨vs,H2,I2,r,z,hR⟩=>?_);exact ⟨rfl,by rw [<- r.length]; exact z,I2.bk _ _ hC,hN.keeps I2.bk,T.keeps I2.bk,fun h' ea hm'=>hx.made pins σ H2 s2 h' ea C us I2 hm' hR⟩
def xv (ea C:Addr) (od:Option Addr):HO:=.ext (dE ea (.ref C) od)
abbrev Cx.Y4 (X:Cx) (v:Value):Cx:={ X with A:=X.A.mark (some v),calm:=false,xe:=fun _ _=>False }
abbrev Cx.YY (X:Cx) (pins:List (Addr×Obj)) (R:St->XK):Cx:={ X with pn:=X.pn++pins,xe:=fun e s'=>∃ (σ':St) (H H':Hp) (s:Shared) (ea C:Addr) (od:Option Addr),Inv X pins σ' H s/\e=.ref ea/\lA X.prog X.w X.stack H s ea C od H' s'/\R σ' (.ref C) od H' }
section
variable {X:Cx} {pins pins':List (Addr×Obj)} {σ:St} {H H':Hp} {s s':Shared} {R:St->XK} {v:Value}
def Inv.GX {a:Addr} {o:HO} (I:Inv X pins σ H s) (hn:H a=none) (n0:X.s₀.heap.get? a=none) (nL:a≠X.env.locals) (nC:∀ x c,X.env.cells.lookup x=some c->c≠a) (nP:∀ p∈X.pn++pins,p.1≠a)
  (new:bN X.prog X.w (upd H a o) s.heap a o):Inv X pins σ (upd H a o) s:=by
 have ne:∀ b u,H b=some u->b≠a:=fun b u e=>dP e hn;have n0':∀ b u,X.s₀.heap.get? b=some u->b≠a:=fun b u e z=>by rw [z,n0] at e; cases e
 refine ⟨I.ok,I.os,I.bare,⟨I.base.keep,I.base.slot,fun b u e n hx=>by rw [ah (n0' b u e)]; exact I.base.free b u e n hx,I.base.there,fun b xs e=>by have:=I.base.fK b xs e; rw [ah (ne b _ this)]; exact this,
  fun b u v e=>by have:=I.base.fk b u v e; rw [ah (ne b _ this)]; exact this,fun b ps e=>?_⟩,I.loc,I.cell,by rw [ah (sw nL)]; exact I.free,fun x c e=>by rw [ah (nC x c e)]; exact I.ie x c e,fun p hp=>?_,fun b u e=>?_,I.len⟩
 ·obtain ⟨m,e1⟩:=I.base.fO b ps e;exact ⟨m,by rw [ah (ne b _ e1)]; exact e1⟩
 ·obtain ⟨e1,e2,r⟩:=I.pin p hp;exact ⟨e1,by rw [ah (nP p hp)]; exact e2,r⟩
 ·by_cases hb:b=a
  ·subst hb;rw [au] at e; cases e;exact new
  ·rw [ah hb] at e;exact (I.aB b u e).eL (fun _ _ _ q=>q) (fun c q=>by rw [ah (ne c _ q)]; exact q) fun c xs q=>by rw [ah (ne c _ q)]; exact q
end
def Ends.Ys (D:Ends) (i:Nat):Ends:=⟨fun σ H=>D.nx (σ.set i none) H,D.rt,fun σ H=>D.bk (σ.set i none) H,fun σ H=>D.ct (σ.set i none) H⟩
structure pY (K:PySem.W.Frag) (C:Addr):Prop where
 ha:PySem.W.findIn K (.ref C) "__class__" = some (some (.builtin "object.__class__"))
 hn:PySem.W.specialIn K (.builtin "object.__class__") "__get__" = some (some (.builtin "getset_descriptor.__get__"))
 eC:PySem.W.takesIn K (.builtin "object.__class__")=some true
 hm:PySem.W.mroIn K C (.type "object")=some true
 HI:PySem.W.findIn K (.ref C) "__getattribute__" = some (some (.builtin "BaseException.__getattribute__"))
 MZ:PySem.W.findIn K (.ref C) "__getattr__" = some none
 hb:PySem.W.mroIn K C (.type "BaseException")=some true
def ot {M:Model} {h:Heap} {x C:Addr} {od:Option Addr} (I:dE x (.ref C) od h):PySem.W.Looks M h (typeOf (.ref x)) (.ref C):=by
 obtain ⟨o,e,c,_⟩:=I;exact c ▸ (PySem.W.Looks.ld e).andThen .now
def G8 {K:PySem.W.Frag} {C:Addr} {b:Value} {r:Bool} (h:PySem.W.mroIn K C b=some r):∃ c d cd sl,K.lookup C=some ⟨c,d,.cls cd,sl⟩:=by
 obtain ⟨cd,cT,_⟩:=Option.bind_eq_some_iff.mp h;unfold PySem.W.clsIn at cT;split at cT
 ·rename_i c' d' cd' sl' ho;exact ⟨_,_,_,_,ho⟩
 ·cases cT
section
variable {prog:Program} {w:World} {A:Around} {E:Value->Shared->Prop} {s:Shared} {K:PySem.W.Frag} {x C:Addr} {od:Option Addr}
def Tq {M:Model} {h:Heap} {name:Str} {a g:Value} (X:K.In h) (ha:PySem.W.findIn K (.ref C) name=some (some a)) (hn:PySem.W.specialIn K a "__get__" = some (some g)) (eC:PySem.W.takesIn K a=some true) :
  PySem.W.Looks M h (Builtin.ObjectAttr.find (.ref x) (.ref C) name) (.bind g a):=by
 have L1:=SC (M:=M) X ha;have L2:PySem.W.Looks M h (Builtin.ObjectAttr.getOf (some a)) (some g):=PySem.W.looks_specialIn X hn;have L3:=PySem.W.looks_takesIn (M:=M) X eC;unfold Builtin.ObjectAttr.find;refine L1.andThen (L2.andThen ?_);have L4:PySem.W.Looks M h (Builtin.ObjectAttr.dataDescriptor? (some a) (some g)) (some (g,a)):=by
  unfold Builtin.ObjectAttr.dataDescriptor?;exact L3.andThen .now
 exact L4.andThen (PySem.W.Looks.tag .now)
open PySem.W in
open Builtin Builtin.ObjectAttr Builtin.Getset_descriptor in
def Ou {R:Result->Shared->Prop} {tp:Value} (Z:pY K C) (X:K.In s.heap) (I:dE x (.ref C) od s.heap) (h:R (.ok (.ret (.ref C))) s) :
  codeAny (model prog w) A (.call (.builtin "getset_descriptor.__get__") ⟨[.builtin "object.__class__",.ref x,tp],[]⟩) R s:=by
 obtain ⟨hh,g,dr,t,os⟩:=s;have L0:=ot (M:=model prog w) I;have L1:=looks_mroIn (M:=model prog w) X Z.hm;refine Z1 KF.slot_gs.plain KF.entry_gs (KF.slot_gs.check _ _ _ _ _ _ _ _ KF.type_class (KF.args_gs _ _ _) ?_);unfold Builtin.«getset_descriptor.__get__» descrGet;rw [dga_obj];refine kt (sK ?_);unfold descrGetter descrCheckInstance descrNameAndClass isInstance;simp only [KF.owner_class]
 repeat lk
 refine ⟨_M _ (by decide +kernel),_u KF.entry_class ?_⟩;unfold Builtin.«object.__class__» shownTypeOf
 repeat lk
 exact h
def TC {M:Model} {Ke:Value} {Q:Unit->Shared->Prop} (Z:pY K C) (X:K.In s.heap) (I:dE x (.ref C) od s.heap) (h:Q () s):wpAny M A (checkBuiltinCall "BaseException.__getattribute__" ⟨[.ref x,Ke],[]⟩) Q E s:=by
 have k1:builtinKind "BaseException.__getattribute__" = some .slot:=by decide +kernel
 have k2:splitId "BaseException.__getattribute__" = some ("BaseException","__getattribute__"):=by decide +kernel
 have k3:=PySem.F.args_bexc_ga (.ref x) Ke;have L0:=ot (M:=M) I;have L1:=Z5 (M:=M) X Z.hb;obtain ⟨hh,g,d,t,os⟩:=s;have L2:PySem.W.Looks M hh (isInstance (.ref x) (.type "BaseException")) true:=L0.andThen L1;simp only [checkBuiltinCall,k1,k2];refine kt (L2.at ?_)
 repeat (any_goals (first | assumption | wp_step))
def Wy {Q:Option Value->Shared->Prop} (Z:pY K C) (X:K.In s.heap) (I:dE x (.ref C) od s.heap) (h:Q (some (.ref C)) { s with toks:=s.toks+1 }):wpAny (model prog w) A (getAttr? (.ref x) "__class__") Q E s:=by
 obtain ⟨hh,g,d,t,os⟩:=s;have L0:=ot (M:=model prog w) I;have L1:=SC (M:=model prog w) X Z.HI;have L2:=SC (M:=model prog w) X Z.MZ;have L3:=Tq (M:=model prog w) (x:=x) X Z.ha Z.hn Z.eC;unfold getAttr? getAttrBy? getAttrBy;refine kt (wpAny_mkText (kt (wpAny_attempt (Id (kt (L0.at (kt (L1.at ?_))))))));show wpAny _ _ (getAttrByItsOwn (.ref x) (.str "__class__" t) (.ref C) (.builtin "BaseException.__getattribute__") false false) _ _ _;unfold getAttrByItsOwn;refine kt (L2.at ?_);refine kt (wpAny_attempt (Id ?_));show wpAny _ _ (boundAndCalled (.builtin "BaseException.__getattribute__") (.ref x) (.str "__class__" t)) _ _ _;unfold boundAndCalled;refine kt (wpAny_of_eq (PySem.F.attr_ValueError.ga.bind (.ref x)) ?_);refine ZF (Z1 PySem.F.attr_ValueError.ga.plain PySem.F.entry_bexc_ga (TC Z X I ?_));show wpAny _ _ (Builtin.«object.__getattribute__» ⟨[.ref x,.str "__class__" t],[]⟩) _ _ _;unfold Builtin.«object.__getattribute__»;refine kt (sK ?_);refine kt (sK ?_);refine kt (L0.at (kt (L3.at ?_)));show wpAny _ _ (Builtin.ObjectAttr.bindTo (.builtin "getset_descriptor.__get__") (.builtin "object.__class__") (.ref x) (.ref C)) _ _ _;show wpAny _ _ (holding [.builtin "object.__class__"] (call (.builtin "getset_descriptor.__get__") [.builtin "object.__class__",.ref x,.ref C]) >>= fun v=>ret v) _ _ _;refine kt (Id (ZF (Ou Z X I (sK ?_))));exact sK (sK h)
def yh (Z:pY K C):PySem.W.KitX K (.ref x) (.ref C) (dE x (.ref C) od) where
 ty:=fun _ _ _ I=>ot I
 it:=fun _ _ X _=>by
  obtain ⟨c',d',cd',sl',ho⟩:=G8 Z.hm;intro A' Q' E' s' k q;unfold isType loadHead;exact kt (_I (k _ _ (X _ _ ho)) (sK q))
 ne:=fun h tp dd aj n sl X htp=>by
  obtain ⟨c',d',cd',sl',ho⟩:=G8 Z.hm;refine Bool.eq_false_iff.mpr fun q=>?_;have e:C=tp:=Value.ref.inj (Zp.mp q);subst e;have z:=(X _ _ ho).symm.trans htp;cases z
 ca:=fun X I k=>Wy Z X I k
end
inductive uo (K:PySem.W.Frag) (H:Hp):V->Value->Bool->Prop where
 | of {x:V} {t:Value} (h:eQ K H x t):uo K H x t false
 | exc {ea C:Addr} {od:Option Addr} (e:H ea=some (xv ea C od)) (Z:pY K C):uo K H (.ref ea) (.ref C) true
inductive qU (K:PySem.W.Frag) (H:Hp) (t:Value):Bool->V->Bool->Prop where
 | ty {f:Bool} {n:String} {b:Bool} (e:PySem.W.kitOne K t (.type n)=some b):qU K H t f (.ty n) b
 | cls {f:Bool} {a:Addr} {b:Bool} (e:PySem.W.kitOne K t (.ref a)=some b):qU K H t f (.ref a) b
 | tup {p:Addr} {cs:List V} {us:List Value} {b:Bool} (h:H p=some (.tup cs)) (hu:∀ ws,Vals cs ws->ws=us) (e:PySem.W.kitAny K t us=some b):qU K H t true (.ref p) b
section
variable {X:Cx} {K:PySem.W.Frag}
def y6 (K:PySem.W.Frag):List V->Hp->VK->Prop:=fun xs H Q=>match xs with
 | [x,c]=>∃ (t:Value) (f b:Bool),uo K H x t f/\qU K H t f c b/\Q (.bl b) H
 | _=>False
def TB {x c:V} {u v t:Value} {pins:List (Addr×Obj)} {σ:St} {H:Hp} {s:Shared} {A:Around} {E:Value->Shared->Prop} {Q:Value->Shared->Prop} {f b:Bool} (I:Inv X pins σ H s) (rx:RelV x u) (rc:RelV c v) (ty:uo X.K H x t f) (a:qU X.K H t f c b)
  (h:∀ tk,Q (.bool b) { s with toks:=tk }):wpAny (model X.prog X.w) A (call (.builtin "isinstance") [u,v]) Q E s:=by
 cases ty with
 | of ty =>
  cases a with
  | ty e=>cases (show v=Value.type _ from rc); exact Bp I rx ty e h
  | cls e=>cases (show v=Value.ref _ from rc); exact Bp I rx ty e h
 | @exc ea C od e Z =>
  cases (show u=Value.ref ea from rx);obtain ⟨p,_,_⟩:=(show bN X.prog X.w H s.heap ea (xv ea C od) from I.aB ea _ e);cases a with
  | ty e'=>cases (show v=Value.type _ from rc); exact LT (yh Z) I.bW p e' (fun z=>nomatch z) h
  | cls e'=>cases (show v=Value.ref _ from rc); exact LT (yh Z) I.bW p e' (fun z=>nomatch z) h
  | @tup tp cs us b hp hu e' =>
   cases (show v=Value.ref tp from rc);obtain ⟨_,aj,rv,o,ho,hc,n,hd,_⟩:=(show bN X.prog X.w H s.heap tp (.tup cs) from I.aB tp _ hp);obtain rfl:=hu aj rv;obtain ⟨oc,odd,LH,dA⟩:=o;dsimp only at hc hd;subst hc hd;exact PySem.W.kia_tup (yh Z) I.bW p ho e' (fun z=>nomatch z) h
def T4 (h:X.K=K):cq X (.builtin "isinstance") (y6 K):=h ▸ fun pins s σ H xs us Q I r q=>by
 unfold y6 at q;split at q
 ·rename_i x c;obtain ⟨t,f,b,ty,a,q⟩:=q;obtain ⟨u,v,rfl,ru,rv⟩:=vals2 r;exact TB I ru rv ty a fun tk=>⟨.bl b,H,I.tok tk,rfl,q⟩
 ·exact q.elim
end
namespace Dv
section
variable {X:Cx} {st:Stmt} {t:TS}
def eG {k:Nat} {f:Addr} {fd:FuncData} {ps:List Str} {sp:Sp} {bj:List V} {ds:List Value} {R:St->XK} {x:Str} {p pos:Pos} {e:Expr} {es:List Expr} {t:TA}
  (F:aC X.prog X.w X.K X.mg X.base (cI X.prog X.w) k f fd ps sp) (hr:bx k X.A) (hm:X.mg x=some (.ref f)) (hk:PySem.W.keepIn X.K (.ref f)=true) (hb:Binds X.K fd ps ds) (hd:Vals bj ds) (hx:iD X R)
  (ha:QA X (e::es) t) (hg:Gl X x:=by rfl) (hs:(e::es).all noStar=true:=by rfl) (bP:(x == ("__debug__" : Str))=false:=by decide):QE X (.Call (.Name x p) (e::es) [] pos) (BZ sp bj R t):=⟨S9 F hr hg hm hk hb hd hx ha.h hs bP⟩
def xu {R:St->XK} {x:Str} {C:Addr} {e:Expr} {es:List Expr} {t:TA} {np bo pos:Pos} (hx:Raises X R) (hc:X.calm=true) (hm:X.mg x=some (.ref C)) (q:PySem.W.excIn X.K C qw "ValueError.__new__" = true) (ha:QA X (e::es) t)
  (hg:Gl X x:=by rfl) (hs:(e::es).all noStar=true:=by rfl) (bP:(x == ("__debug__" : Str))=false:=by decide):QS X (.Raise (some (.Call (.Name x np) (e::es) [] bo)) none pos) (AE C R t):=⟨Rq hx hc hm q ha.h hg hs bP⟩
end
end Dv
def iT.eK {P:Program} {w:World} {K:PySem.W.Frag} {mg:Str->Option Value} {base:Heap} {CX:dD} {x qual:Str} {st:Stmt} {f:Addr} {fd:FuncData} {N ps:List Str} {k:Nat} {sp:Sp} (F:iT K x qual st f fd) (S:aG N ps (aD st)) (len:∀ vs H Q E,sp vs H Q E->vs.length=ps.length)
  (hb:∀ (ax:Value) (A:Around) (outer:List Env) (s:Shared) (H:Hp) (vs:List V) (Q:VK) (E:XK),bx k (A.deeper (envOfC qual (aD st) s.heap.objs.size f ax))->sp vs H Q E ->
   ∃ t,dQ (fh CX P w K mg base N qual (aD st) f ax A outer s H E) (aZ st) t/\t { nx:=fun _ H'=>Q .aq H',rt:=Q } (start N vs) H):aC P w K mg base CX (k+1) f fd ps sp:=by
 obtain ⟨oc,od,kV,doc,pm,an,ax,ct,dA,rfl,lk,cT⟩:=F.ex;exact zT lk cT S len fun A outer s H vs Q E hr gY=>hb ax A outer s H vs Q E hr gY
def rM:List Value->Bool
 | []=>false
 | v::r=>(v::r) == qw || match v with
  | .ref _=>rM r
  | _=>false
def GJ (self:Value):∀ {l:List Value},rM l=true->refuseLoop self "__setattr__" l=pure ()
 | [],e=>nomatch e
 | v::r,e=>by
  unfold rM at e;rcases Bool.or_eq_true_iff.mp e with q | q
  ·rw [Zp.mp q]; exact PySem.F.store_ValueError.passes self
  ·split at q
   ·rw [refuseLoop_ref];exact GJ self q
   ·cases q
def va (K:PySem.W.Frag) (C:Addr):Bool:=match K.lookup C with
 | some ⟨.type "type",_,.cls cd,sl⟩=>(match cd.mro,sl.toList with
  | .ref C'::bm,[_,_,_,_,some (.builtin n),_]=>C' == C && n == "ValueError.__new__" && !cd.hasDel && PySem.W.tailIn K qw bm && rM cd.mro && cd.hasDict
  | _,_=>false)
 | _=>false
structure iU (K:PySem.W.Frag) (C f:Addr) (fld:Str):Prop where
 q:va K C=true
 hi:PySem.W.findIn K (.ref C) "__init__" = some (some (.ref f))
 hf:PySem.W.typeIn K (.ref f)=some (.type "function")
 sa:PySem.W.findIn K (.ref C) "__setattr__" = some (some (.builtin "object.__setattr__"))
 na:PySem.W.findIn K (.ref C) fld=some none
 ob:PySem.W.mroIn K C (.type "object")=some true
 be:PySem.W.mroIn K C (.type "BaseException")=some true
 self:PySem.W.mroIn K C (.ref C)=some true
 kp:PySem.W.keepIn K (.ref C)=true
def zr {K:PySem.W.Frag} {h:Heap} {C:Addr} (X:K.In h) (q:va K C=true) :
  ∃ bm N nm q bs sn sub ab col dd k0 k1 k2 k3 k5,h.get? C=some (excClassObj nm q C N bs bm true sn sub ab col dd k0 k1 k2 k3 k5 "ValueError.__new__")/\OwnTail h qw bm/\rM (.ref C::bm)=true:=by
 unfold va at q;split at q
 ·rename_i dd cd sl ho;split at q
  ·rename_i C' bm k0 k1 k2 k3 n k5 hm hs;simp only [Do,Zp,Bool.not_eq_true'] at q;obtain ⟨⟨⟨⟨⟨q1,q2⟩,q3⟩,q4⟩,q5⟩,q6⟩:=q;subst q1 q2;obtain ⟨nm,bs,mro,ns,qn,hd,sn,sub,ab,col,del⟩:=cd;dsimp only at hm q3 q5 q6;subst hm q3 q6;have e1:sl=#[k0,k1,k2,k3,some (.builtin "ValueError.__new__"),k5]:=by
    obtain ⟨l⟩:=sl;simp only at hs;rw [hs]
   subst e1;exact ⟨bm,ns,nm,qn,bs,sn,sub,ab,col,dd,k0,k1,k2,k3,k5,X _ _ ho,PySem.W.tail_of_in X q4,q5⟩
  ·cases q
 ·cases q
section
variable {prog:Program} {w:World} {A:Around} {E:Value->Shared->Prop} {s:Shared} {K:PySem.W.Frag} {x C f:Addr} {fld:Str} {v:Value}
open Builtin Builtin.ObjectAttr in
def Tz {Q:Unit->Shared->Prop} (Z:iU K C f fld) (X:K.In s.heap) (I:dE x (.ref C) none s.heap)
  (h:∀ h' d tk,s.heap.objs.size<=d->d≠x->(∃ o,s.heap.get? x=some o/\h'.get? x=some { o with dict:=some d })->h'.Ns1 d (fun y=>if y=fld then some v else none)->(∀ b o,b≠x->s.heap.get? b=some o->h'.get? b=some o)->Q () { s with heap:=h',toks:=tk }) :
  wpAny (model prog w) A (setAttr (.ref x) fld v) Q E s:=by
 obtain ⟨hh,g,dr,t,os⟩:=s;have L0:=ot (M:=model prog w) I;have L1:=SC (M:=model prog w) X Z.sa;have L2:=SC (M:=model prog w) X Z.na;obtain ⟨bm,N,nm,qn,bs,sn,sub,ab,col,dd,k0,k1,k2,k3,k5,hC,T,hve⟩:=zr X Z.q;have Lo:=Z5 (M:=model prog w) X Z.ob;have Li:PySem.W.Looks (model prog w) hh (isInstance (.ref x) (.type "object")) true:=L0.andThen Lo;have SF:=PySem.F.store_object;refine kt (wpAny_mkText (kt (kt (kt (L0.at (L1.at (Id ?_)))))));rw [SF.slot.bind];refine kt (sK (kt (ZF ?_)));refine Z1 SF.slot.plain SF.entry ?_;refine @PySem.W.check_slot (model prog w) _ _ ⟨hh,g,dr,t+1,os⟩ "object.__setattr__" "object" "__setattr__" (.ref x) [.str fld t,v] [] _ SF.kind SF.split Li (SF.args (.ref x) (.str fld t) v) ?_;show wpAny _ _ (Builtin.«object.__setattr__» ⟨[.ref x,.str fld t,v],[]⟩) _ _ _;rw [PySem.W.osa_eq,refuse_eq];refine kt (kt (L0.at (kt (wpAny_mroOf_exc hC ?_))));rw [GJ _ hve];refine sK (kt (L0.at (kt (L2.at (kt (sK ?_))))));obtain ⟨o,hx,hc,pL,vs,dH⟩:=I;show wpAny _ _ (storeInOwnDict (.ref x) (.ref C) (.str fld t) fld v false) _ _ _;have Lc:PySem.W.Looks (model prog w) hh (classData C) _:=(PySem.W.Looks.ld (part:=none) hC).andThen .now;obtain ⟨oc,od,LH,dA⟩:=o;dsimp only at hc pL dH;subst hc pL dH;have bB:(hh.push { cls:=.type "dict",data:=.dict #[] }).get? x=some ⟨.ref C,none,.fields vs,dA⟩:=li _ hx;have Dj:x≠hh.objs.size:=xL (wf hx);unfold storeInOwnDict ownDictForStores instanceDict;refine kt (sK ?_);refine kt (kt (_I hx (kt (Lc.at ?_))));refine kt (wpAny_alloc' ?_);refine kt (wpAny_update' bB (sK ?_));show wpAny _ _ (storeInDict hh.objs.size (.str fld t) fld v) _ _ _;have hself:((hh.push { cls:=.type "dict",data:=.dict #[] }).update x fun o=>{ o with dict:=some hh.objs.size }).get? x=some ⟨.ref C,some hh.objs.size,.fields vs,dA⟩:=Ty _ bB rfl;have hdict:((hh.push { cls:=.type "dict",data:=.dict #[] }).update x fun o=>{ o with dict:=some hh.objs.size }).get? hh.objs.size=some { cls:=.type "dict",data:=.dict #[] } :=
  (Heap.get?_update_ne _ _ _ _ Dj.symm).trans (Heap.get?_push_at rfl rfl)
 have hoth:∀ b o,b≠x->hh.get? b=some o->((hh.push { cls:=.type "dict",data:=.dict #[] }).update x fun o=>{ o with dict:=some hh.objs.size }).get? b=some o:=fun b o hb e =>
  (Heap.get?_update_ne _ _ _ _ hb).trans (li _ e)
 have fX:((hh.push { cls:=.type "dict",data:=.dict #[] }).update x fun o=>{ o with dict:=some hh.objs.size }).Ns hh.objs.size (fun _=>none):=⟨_,#[],_,hdict,rfl,fun e he=>absurd he (by simp),fun _=>rfl⟩;unfold storeInDict newKeyGuard;refine kt (sK (kt (wpAny_nsSet1 (Heap.Ns1.of_empty fX) fun h' hn' hs=>?_)));obtain ⟨oD,esD,epD,Di,Dk,DF⟩:=hn'.count (Within.cons fld v Within.nil);refine kt (wpAny_lookBehind Di (by rw [Dk]; exact pastItsLine_dict (wE DF (by rw [GE,Z8,ZV]; omega))) ?_);refine sK (sK (sK ?_));exact h h' hh.objs.size _ (sB _) (sw Dj) ⟨_,hx,(hs.2 x Dj).trans hself⟩ hn' fun b o hb e=>(hs.2 b (xL (wf e))).trans (hoth b o hb e)
end
def kh (e:Addr) (c:Value) (od:Option Addr) (h:Heap):Prop:=∃ o,h.get? e=some o/\o.cls=c/\o.dict=od/\∃ vs a0,o.data=.fields vs/\vs[1]?=some .none/\vs[0]?=some a0
def kh.hd {e:Addr} {c:Value} {od:Option Addr} {h:Heap} (x:kh e c od h):dE e c od h:=let ⟨o,a,b,c,vs,_,d,_⟩:=x; ⟨o,a,b,c,vs,d⟩
def dh (ea C:Addr) (od:Option Addr):HO:=.ext (kh ea (.ref C) od)
def EX {P:Program} {w:World} {H:Hp} {h:Heap} {ea C:Addr} {od:Option Addr} (x:kh ea (.ref C) od h):bN P w H h ea (dh ea C od) :=
 ⟨x,let ⟨o,e,_⟩:=x; ⟨o,e⟩,fun _ _ ⟨o,e,r⟩ k=>⟨o,k o e,r⟩⟩
def QX {h h':Heap} {e:Addr} {cls:Value} {args:List Value} (hx:Heap.MadeExcOf h h' e cls args):kh e cls none h':=by
 obtain ⟨t,he,_⟩:=hx.there;exact ⟨_,he,rfl,rfl,_,_,rfl,rfl,rfl⟩
def z6 (C:Addr) (fld:Str) (ta tv:TE):TS:=fun D σ H=>tv σ H fun y H1=>ta σ H1 fun x H2=>∃ ea,x=.ref ea/\H2 ea=some (dh ea C none)/\∀ d,H2 d=none->D.nx σ (upd (upd H2 ea (dh ea C (some d))) d (.xd [(fld,y)]))
def YE {fld g:Str} {y:V} {u:Value} (r:RelV y u):eh (([(fld,y)]:List (Str×V)).lookup g) (if g=fld then some u else none):=by
 by_cases h:g=fld
 ·have hb:(g == fld)=true:=Zp.mpr h;simp only [List.lookup,hb,Db h];exact r
 ·have hb:(g == fld)=false:=GM.mpr h;simp only [List.lookup,hb,Ch h];exact True.intro
section
variable {X:Cx} {C f:Addr} {fld:Str} {o value:Expr} {ta tv:TE} {pos pos':Pos}
def RI (Z:iU X.K C f fld) (ha:PE X o ta) (hv:PE X value tv) (hs:swapsWith value (some (.Attribute o fld pos')) pos.line X.env=pure false):PS X (.Assign [.Attribute o fld pos'] value pos) (z6 C fld ta tv):=by
 intro pins s σ H D I h;refine plainObj_wpAny_Assign_Attribute (aF (hv pins s σ H _ I h) fun u s1 ⟨y,H1,I1,ry,q⟩=>aF (ha pins s1 σ H1 _ I1 q) fun ov s2 ⟨x,H2,I2,rx,ea,ex,he,q2⟩=>?_) hs;subst ex;obtain rfl:ov=Value.ref ea:=rx;obtain ⟨p,_,_⟩:=(show bN X.prog X.w H2 s2.heap ea (dh ea C none) from I2.aB ea _ he);refine Tz Z I2.bW p.hd fun h' d tk hsz jW tV fX hkeep=>?_;obtain ⟨o0,e0,e1⟩:=tV;obtain ⟨o0',e0',c0,d0,vs,a0,v0⟩:=p;rw [e0] at e0'; cases e0';have hd':kh ea (.ref C) (some d) h':=⟨_,e1,c0,rfl,vs,a0,v0⟩;have cv:H2 d=none:=I2.aB.fresh hsz;have J:Inv X pins σ (upd H2 ea (dh ea C (some d))) { s2 with heap:=h',toks:=tk } :=
  I2.write (x:=ea) (e:=ea) (o:=dh ea C (some d)) (t':=tk) (by rw [he]; exact True.intro) (.inl rfl) hkeep ⟨_,e1⟩ (EX hd')
 have big:∀ b,(∃ u,s2.heap.get? b=some u)->b≠d:=fun b ⟨u,e⟩ z=>absurd (wf e) (by rw [z]; exact Nat.not_lt.mpr hsz);refine ⟨σ,_,J.GX (a:=d) (o:=.xd [(fld,y)]) (by rw [ah jW]; exact cv) (ZT (wE I2.sz hsz)) ?_ ?_ ?_ ⟨_,fX,fun g=>YE ry⟩,q2 d cv⟩
 ·obtain ⟨m,⟨o,_,_,ho,_⟩,_⟩:=I2.loc;exact sw (big _ ⟨o,ho⟩)
 ·intro z c e;obtain ⟨w',o,ho,_⟩:=I2.cell z c e;exact big _ ⟨o,ho⟩
 ·intro p hp;exact big _ ⟨_,(I2.pin p hp).1⟩
end
def kc (C:Addr) (fld:Str):Sp:=fun vs H Q _=>match vs with
 | [.ref ea,y]=>H ea=some (dh ea C none)/\∀ d,H d=none->Q .aq (upd (upd H ea (dh ea C (some d))) d (.xd [(fld,y)]))
 | _=>False
section
variable {prog:Program} {w:World} {A:Around} {E:Value->Shared->Prop} {h:Heap} {g:Array GenState} {d:Drawn} {t:Nat} {os:OsState} {K:PySem.W.Frag} {C f:Addr} {fld:Str}
def P0 {rest:List Value} {Q:Fin->Shared->Prop} (Z:iU K C f fld) (X:K.In h) (dF:rest.length<=sizeLine)
  (hq:∀ h' e,Heap.MadeExcOf h h' e (.ref C) rest->wpAny (model prog w) A (call (.ref f) (.ref e::rest)) (fun r s'=>r=.none/\Q (.done (.ret (.ref e))) s') E ⟨h',g,d,t,os⟩) :
  wpAny (model prog w) A (Builtin.«type.__call__» ⟨.ref C::rest,[]⟩) Q E ⟨h,g,d,t,os⟩:=by
 have F:=Z0;obtain ⟨bm,N,nm,qn,bs,sn,sub,ab,col,dd,k0,k1,k2,k3,k5,hC,T,_⟩:=zr X Z.q
 repeat (first | with_reducible refine wpAny_loadPart_at hC ?_ | with_reducible refine wpAny_madeBy_exc hC ?_ | wp_step)
 refine codeAny_call_builtin_code (_M _ F.quiet) (wpAny_check_new_subT F T hC (codeAny_exc_new_subT F T hC ?_ dF));show wpAny _ _ _ _ _ _;have kk:∀ b o,h.get? b=some o->((h.push { cls:=.type "tuple",data:=.seq rest.toArray }).push { cls:=.ref C,data:=.fields #[.ref h.objs.size,.none,.none,.none,.bool false,.none] }).get? b=some o:=fun b o e=>li _ (li _ e);have LL:((h.push { cls:=.type "tuple",data:=.seq rest.toArray }).push { cls:=.ref C,data:=.fields #[.ref h.objs.size,.none,.none,.none,.bool false,.none] }).get? (h.objs.size+1)=some { cls:=.ref C,data:=.fields #[.ref h.objs.size,.none,.none,.none,.bool false,.none] }:=by heap_get
 have Lu:((h.push { cls:=.type "tuple",data:=.seq rest.toArray }).push { cls:=.ref C,data:=.fields #[.ref h.objs.size,.none,.none,.none,.bool false,.none] }).get? h.objs.size=some { cls:=.type "tuple",data:=.seq rest.toArray }:=li _ (Heap.get?_push_at rfl rfl);generalize Ll:(h.push { cls:=.type "tuple",data:=.seq rest.toArray }).push { cls:=.ref C,data:=.fields #[.ref h.objs.size,.none,.none,.none,.bool false,.none] }=h2 at kk LL Lu ⊢;have made:Heap.MadeExcOf h h2 (h.objs.size+1) (.ref C) rest:=⟨kk,ZT (ZW _),h.objs.size,LL,ZT (sB _),Lu⟩;have X2:K.In h2:=fun b o e=>kk b o (X b o e);have L0:=ot (M:=model prog w) (G0 made);have L1:=SC (M:=model prog w) X2 Z.hi;have Lb:=PySem.W.bind_fn (M:=model prog w) X2 (.ref (h.objs.size+1)) Z.hf;have Ls:PySem.W.Looks (model prog w) h2 (isSubtype (.ref C) (.ref C)) true:=Z5 X2 Z.self;have Li:PySem.W.Looks (model prog w) h2 (isInstance (.ref (h.objs.size+1)) (.ref C)) true:=L0.andThen Ls;refine kt (Li.at ?_);simp only [_p,On,ZB];refine kt (Id ?_);unfold callSpecial? specialOf;refine kt (kt (L0.at (L1.at ?_)));refine Id (kt (Lb.at (kt (Re (hq h2 _ made) (fun r s' z=>?_) fun _ _ z=>z))));obtain ⟨rfl,z⟩:=z;exact sK (sK z)
def Pj {rest:List Value} {Q:Value->Shared->Prop} (Z:iU K C f fld) (X:K.In h) (dF:rest.length<=sizeLine)
  (hq:∀ h' e,Heap.MadeExcOf h h' e (.ref C) rest->wpAny (model prog w) (A.under (.builtin "type.__call__" ⟨.ref C::rest,[]⟩)) (call (.ref f) (.ref e::rest)) (fun r s'=>r=.none/\Q (.ref e) s') E ⟨h',g,d,t,os⟩) :
  wpAny (model prog w) A (call (.ref C) rest) Q E ⟨h,g,d,t,os⟩:=by
 obtain ⟨bm,N,nm,qn,bs,sn,sub,ab,col,dd,k0,k1,k2,k3,k5,hC,T,_⟩:=zr X Z.q;have f1:=tc_lookup;have f2:=tc_bind (.ref C);have hT:(⟨h,g,d,t,os⟩:Shared).TypeIs (.ref C) "type" := ⟨_,hC,rfl⟩;refine ZF (codeAny_of_tree ?_);show wpAny _ _ (callAny (.ref C) _) _ _ _
 repeat (any_goals (first | assumption | with_reducible refine wpAny_loadPart_at hC ?_ | wp_step))
 exact ⟨rfl,codeAny_call_builtin_at (_M _ (by decide +kernel)) entry_typeCall (wpAny_check_type_call_sub hC (P0 Z X dF fun h' e hm=>hq h' e hm))⟩
end
def Wb {M:Model} {A:Around} {E:Value->Shared->Prop} {s:Shared} {env:Env} {K:PySem.W.Frag} {C:Addr} {x:Sem Value} {Q:Flow->Shared->Prop} (hb:PySem.W.mroIn K C (.type "BaseException")=some true) (cF:PySem.W.typeIn K (.ref C)=some (.type "type")) (hh:A.handled=none)
  (h:wpAny M A x (fun v s₁=>∃ e o vs,v=.ref e/\s₁.heap.get? e=some o/\o.cls=.ref C/\o.data=.fields vs/\vs[1]?=some .none/\K.In s₁.heap/\E (.ref e) s₁) E s) :
  wpAny M A (raiseStmt env (some x) none) Q E s:=by
 unfold raiseStmt;refine kt (Re h (fun v s₁ h₁=>?_) fun _ _ x=>x);obtain ⟨e,o,vs,rfl,he,hc,hd,h1,X,hE⟩:=h₁;obtain ⟨hp,g,d,tk,os⟩:=s₁;have L0:PySem.W.Looks M hp (typeOf (.ref e)) (.ref C):=hc ▸ (PySem.W.Looks.ld he).andThen .now;have L1:=Z5 (M:=M) X hb;have L2:PySem.W.Looks M hp (isType (.ref e)) false:=by
  obtain ⟨oc,od,LH,dA⟩:=o;dsimp only at hd;subst hd;intro A' Q' E' s' k q;unfold isType loadHead;exact kt (_I (k _ _ he) (sK q))
 have L3:PySem.W.Looks M hp (isExcClass (.ref e)) false:=L2.andThen .now;have L4:PySem.W.Looks M hp (isInstance (.ref e) (.type "BaseException")) true:=L0.andThen L1;have L5:=PySem.W.looks_typeIn (M:=M) X cF;refine kt (sK (kt (Id ?_)));unfold excFromValue;refine kt (L3.at ?_);simp only [On,ZB];refine kt (L4.at ?_);simp only [if_true];refine sK ?_;refine kt (L2.at ?_);simp only [On,ZB];unfold raisedInstance;refine kt (kt (L0.at (kt (L5.at ?_))));refine sK ?_;unfold setFlight;refine kt (kt (wpAny_field he hd h1 ?_));refine sK ?_;exact wpAny_raiseNew_none hh hE
def EG {fs:List Addr} {H H':Hp} {h h1 base:Heap} (u:Un fs [] H H' h h1):∀ l:List Env,(∀ b∈bM l,b∈fs/\H b=none)->h.FunFrames base l->h1.FunFrames base l
 | [],_,_=>trivial
 | env::r,hs,⟨hk,⟨L,o,hf,hn,ho,hd⟩,hr⟩=>by
  have e:bM (env::r)=L::bM r:=by
   unfold bM;rw [Zy,hf]
  obtain ⟨h1',h2'⟩:=hs L (by rw [e]; exact ZD);obtain ⟨sl,e1⟩:=u.slot L o ho h2' h1' (by simp);exact ⟨hk,⟨L,_,hf,hn,e1,hd⟩,EG u r (fun b hb=>hs b (by rw [e]; exact Ev _ hb)) hr⟩
section
variable {X:Cx} {pins:List (Addr×Obj)} {σ:St} {H H':Hp} {s s1:Shared} {ea C:Addr} {od:Option Addr}
def Inv.Si {M:Model} {A:Around} {E:Value->Shared->Prop} (I:Inv X pins σ H s) (O:Own X) (hA:A.frames=some X.stack) (os:s1.os=s.os) (bare:AllBare s1.gens) (un:Un (bM X.stack) [] H H' s.heap s1.heap) (aB:bY X.prog X.w H' s1.heap)
  (free:H' ea=none) (new:s.heap.get? ea=none) (hn:kh ea (.ref C) od s1.heap):wpAny M A (leaving X.env (.ref ea)) (fun _ s''=>lA X.prog X.w X.outer X.H₀ X.s₀ ea C od H' s'') E s1:=by
 have aO:(PySem.W.hideAll s1.heap (ea::bM X.stack)).StaysIn s1.heap:=fun b o q=>_F _ q;have eO:s1.heap.FunFrames (PySem.W.hideAll s1.heap (ea::bM X.stack)) X.stack:=PySem.W.funFrames_hide (EG un X.stack (fun b hb=>⟨hb,I.u4 b hb⟩) I.stack) fun env he a ha=>Ev _ (_b.mpr ⟨env,he,ha⟩);have Cb:(PySem.W.hideAll s1.heap (ea::bM X.stack)).get? ea=none:=PySem.W.hideAll_none _ ZD;have ia:qI (PySem.W.hideAll s1.heap (ea::bM X.stack)) (bM X.stack) s.heap H' s1.heap:=fun b o e hb z=>by
  refine _x _ e fun hm=>?_;rcases ss.mp hm with q | q
  ·rcases z with ⟨u,z⟩ | ⟨u,z⟩
   ·rw [q,new] at z; cases z
   ·rw [q,free] at z; cases z
  ·exact hb q
 generalize PySem.W.hideAll s1.heap (ea::bM X.stack)=B at aO eO Cb ia;rw [O.eE] at eO hA;obtain ⟨oe,he,hc,wD,vs,a0,hd,h1,h0⟩:=id hn;refine aF ((Kp.leaving X.env (.ref ea)).any hn.hd (wpAny_leaving_firstW (Q:=fun _ s''=>∃ h2,s''={ s1 with heap:=h2 }/\Heap.LeftW B (X.env::X.outer) ea oe.cls a0 s1.heap h2) hA eO O.frame he aO Cb hd h1 h0 fun h2 x=>⟨h2,rfl,x⟩)) fun _ s'' ⟨⟨h2,e,k1,⟨_,_,k2⟩,k3,k4⟩,hd2⟩=>?_;subst e;rw [hc] at k3;exact I.xP (s':={ s1 with heap:=h2 }) O os bare un aB free new ia ⟨k1,Cb,k2,k3⟩ k4 hd2
structure xT (X:Cx) (R:St->XK):Prop where
 made:∀ (pins:List (Addr×Obj)) (σ:St) (H H':Hp) (s s1:Shared) (ea C:Addr) (od:Option Addr),Inv X pins σ H s->s1.os=s.os->AllBare s1.gens->Un (bM X.stack) [] H H' s.heap s1.heap->bY X.prog X.w H' s1.heap->H' ea=none->s.heap.get? ea=none ->
  kh ea (.ref C) od s1.heap->R σ (.ref C) od H'->X.xe (.ref ea) s1
end
def uR {P:Program} {w:World} {K:PySem.W.Frag} {mg:Str->Option Value} {base:Heap} {N:List Str} {qual:Str} {scope:Scope} {f:Addr} {cd:Value} {A:Around} {outer:List Env} {s₀:Shared} {H₀:Hp} {E:XK} :
  xT (fh (cI P w) P w K mg base N qual scope f cd A outer s₀ H₀ E) (fun _=>E) where
 made:=fun pins σ H H' s s1 ea C od I os bare un aB free new hn hE=>aF (I.Si ⟨rfl,rfl,rfl⟩ I.ok.frames os bare un aB free new hn) fun _ s'' z=>⟨ea,C,od,H',rfl,z,hE⟩
def z0 (C:Addr) (fld:Str) (R:St->XK) (t:TA):TS:=fun _ σ H=>t σ H fun vs H1=>∃ v,vs=[v]/\∀ d,H1 d=none->R σ (.ref C) (some d) (upd H1 d (.xd [(fld,v)]))
def To {X:Cx} {R:St->XK} {x fld:Str} {C f:Addr} {fd:FuncData} {k:Nat} {ps:List Str} {e:Expr} {es:List Expr} {t:TA} {np bo pos:Pos} (hx:xT X R) (hex:X.ex=[]) (hc:X.calm=true) (hm:X.mg x=some (.ref C)) (Z:iU X.K C f fld) (cF:PySem.W.typeIn X.K (.ref C)=some (.type "type"))
  (F:aC X.prog X.w X.K X.mg X.base aM k f fd ps (kc C fld)) (hr:bx (k+1) X.A) (hb:Binds X.K fd ps []) (ha:PA X (e::es) t)
  (hg:Gl X x:=by rfl) (hs:(e::es).all noStar=true:=by rfl) (bP:(x == ("__debug__" : Str))=false:=by decide):PS X (.Raise (some (.Call (.Name x np) (e::es) [] bo)) none pos) (z0 C fld R t):=by
 have hs':=hs;rw [NE,Do] at hs';intro pins s σ H D I h;rw [arm_exec_Raise];refine kt (ZN ?_);show wpAny _ _ (raiseStmt X.env (some (do let v <- eval (.Call (.Name x np) (e::es) [] bo) X.env; standAt pos; pure v)) none) _ _ s;refine Wb Z.be cF (I.ok.hd hc) (kt (Re (KB (kJ I hg hm ?_ bP)) (fun v s3 h3=>kt (ZN (sK h3))) fun _ _ z=>z));refine Zq (h₀:=X.base) I.ok.mod.ir Z.kp (aF (ha bo pins s σ H _ I h) fun us s2 ⟨vs,H2,I2,r,v,ev,hR⟩=>⟨I2.bW,?_⟩) (eZ hs'.1) (gI hs'.2);subst ev;obtain ⟨u,rfl,ru⟩:=vals1 r;obtain ⟨h2,g2,d2,t2,wR⟩:=s2;refine Pj Z I2.bW (by show 1<=sizeLine; decide) fun h3 ex kQ=>?_;have iP:∀ b,(∃ o,h2.get? b=some o)->b≠ex:=fun b ⟨o,e'⟩ z=>by
  have:=kQ.new;rw [z,this] at e'; cases e'
 have lb:H2 ex=none:=by
  cases q:H2 ex with
  | none=>rfl
  | some o=>exact absurd rfl (iP ex (I2.aB ex o q).there)
 have I3:Inv X pins σ H2 ⟨h3,g2,d2,t2,wR⟩:=I2.kept (t':=t2) kQ.keeps;have I4:Inv X pins σ (upd H2 ex (dh ex C none)) ⟨h3,g2,d2,t2,wR⟩:=by
  refine I3.GX lb ?_ ?_ ?_ ?_ (EX (QX kQ))
  ·cases q:X.s₀.heap.get? ex with
   | none=>rfl
   | some o =>
    exact absurd rfl (iP ex (I2.base.there ex o q (by rw [hex]; simp)))
  ·obtain ⟨m,⟨o,_,_,ho,_⟩,_⟩:=I2.loc;exact sw (iP _ ⟨o,ho⟩)
  ·intro y c e';obtain ⟨w',o,ho,_⟩:=I2.cell y c e';exact iP _ ⟨o,ho⟩
  ·intro p hp;exact iP _ ⟨_,(I2.pin p hp).1⟩
 have hl:([Value.ref ex,u]++([]:List Value)).length=ps.length:=by
  have:=F.len [.ref ex,v] (upd H2 ex (dh ex C none)) (fun _ _=>True) E0 ⟨au,fun _ _=>True.intro⟩;exact this
 refine ZF (_e (F.run (X.A.under (.builtin "type.__call__" ⟨[.ref C,u],[]⟩)) X.stack ⟨h3,g2,d2,t2,wR⟩ (upd H2 ex (dh ex C none)) ⟨[.ref ex,u],[]⟩ [.ref ex,u] [.ref ex,v]
  (fun r H5=>r=.aq/\∃ d,upd H2 ex (dh ex C none) d=none/\H5=upd (upd (upd H2 ex (dh ex C none)) ex (dh ex C (some d))) d (.xd [(fld,v)])) E0 (hr.make C [u] []) (I4.qA.make C [u] []) (hb _ [.ref ex,u] I4.bW hl) (.cons rfl (.cons ru .nil))
  ⟨au,fun d hd=>⟨rfl,d,hd,rfl⟩⟩) fun r s5 hq=>?_)
 cases r with
 | error e'=>exact False.elim hq
 | ok fl =>
  cases fl with
  | next=>exact False.elim hq
  | brk=>exact False.elim hq
  | cont=>exact False.elim hq
  | ret u5 =>
   obtain ⟨v5,H5,os5,bare5,lh,DW,rv5,rfl,d,wg,rfl⟩:=hq;have jW:d≠ex:=fun z=>by rw [z,au] at wg; cases wg
   have hd2:H2 d=none:=by rw [ah jW] at wg; exact wg
   have e5:upd (upd (upd H2 ex (dh ex C none)) ex (dh ex C (some d))) d (.xd [(fld,v)]) ex=some (dh ex C (some d)):=by rw [ah (sw jW),au]
   have e6:∀ b,b≠ex->upd (upd (upd H2 ex (dh ex C none)) ex (dh ex C (some d))) d (.xd [(fld,v)]) b=upd H2 d (.xd [(fld,v)]) b:=fun b hb=>by
    by_cases q:b=d
    ·rw [q,au,au]
    ·rw [ah q,ah hb,ah hb,ah q]
   have e7:upd H2 d (.xd [(fld,v)]) ex=none:=by rw [ah (sw jW)]; exact lb
   have e4:∀ b,b≠ex->upd H2 ex (dh ex C none) b=H2 b:=fun b hb=>ah hb;generalize upd (upd (upd H2 ex (dh ex C none)) ex (dh ex C (some d))) d (.xd [(fld,v)])=H5 at lh DW e5 e6;obtain ⟨hN,_,_⟩:=(show bN X.prog X.w H5 s5.heap ex (dh ex C (some d)) from DW ex _ e5);have pO:∀ b o,H2 b=some o->b≠ex:=fun b o q=>dP q lb;have Ko:Un (bM X.stack) [] H2 (upd H2 d (.xd [(fld,v)])) h2 s5.heap:=by
    refine ⟨fun b o q n hb hx=>?_,fun b o q n hb hx=>?_,fun b o q n hx=>?_,fun b o q hx=>?_,fun b xs q=>?_,fun b o v' q=>?_,fun b ps' q=>?_⟩
    ·exact lh.keep b o (kQ.keeps b o q) (by rw [e4 b (iP b ⟨o,q⟩)]; exact n) hb hx
    ·exact lh.slot b o (kQ.keeps b o q) (by rw [e4 b (iP b ⟨o,q⟩)]; exact n) hb hx
    ·rw [<- e6 b (iP b ⟨o,q⟩)];exact lh.free b o (kQ.keeps b o q) (by rw [e4 b (iP b ⟨o,q⟩)]; exact n) hx
    ·exact lh.there b o (kQ.keeps b o q) hx
    ·rw [<- e6 b (pO b _ q)];exact lh.fK b xs (by rw [e4 b (pO b _ q)]; exact q)
    ·rw [<- e6 b (pO b _ q)];exact lh.fk b o v' (by rw [e4 b (pO b _ q)]; exact q)
    ·rw [<- e6 b (pO b _ q)];exact lh.fO b ps' (by rw [e4 b (pO b _ q)]; exact q)
   have hokF:bY X.prog X.w (upd H2 d (.xd [(fld,v)])) s5.heap:=fun b o q=>by
    have hb:b≠ex:=fun z=>by rw [z,e7] at q; cases q
    have q5:H5 b=some o:=by rw [e6 b hb]; exact q
    have ne5:∀ c o',H5 c=some o'->o'≠dh ex C (some d)->c≠ex:=fun c o' z1 z2 z=>by rw [z,e5] at z1; exact z2 (FM z1).symm
    refine (DW b o q5).eL (fun _ _ _ z=>z) (fun c z=>?_) fun c xs z=>?_
    ·rw [<- e6 c (ne5 c _ z (fun z'=>by cases z'))]; exact z
    ·rw [<- e6 c (ne5 c _ z (fun z'=>by cases z'))]; exact z
   obtain ⟨oe,he,wL,wD,vs',a0,kX,h1,h0⟩:=id hN;refine ⟨rv5,ex,oe,vs',rfl,he,wL,kX,h1,?_,hx.made pins σ H2 _ ⟨h2,g2,d2,t2,wR⟩ s5 ex C (some d) I2 os5 bare5 Ko hokF e7 kQ.new hN (hR d hd2)⟩;exact I2.ok.mod.ir.keeps fun b o z=>Ko.keep b o (I2.bs b o z).1 (I2.bs b o z).2 (fun hb=>by have:=(I2.stack.mem hb).1; rw [z] at this; cases this) (by simp)
section
variable {prog:Program} {w:World} {A:Around} {E:Value->Shared->Prop} {s:Shared} {K:PySem.W.Frag} {x C f d:Addr} {fld:Str}
end
def W6 (C:Addr) (fld:Str) (ta:TE):TE:=fun σ H Q=>ta σ H fun x H1=>∃ ea d fs v,x=.ref ea/\H1 ea=some (xv ea C (some d))/\H1 d=some (.xd fs)/\fs.lookup fld=some v/\Q v H1
inductive FI (C:Addr) (f:Str) (x:V) (H:Hp) (Q:V->Prop):Prop
 | mk:∀ a dx fs v,x=.ref a->H a=some (.ins C dx fs)->fs.lookup f=some v->Q v->FI C f x H Q
inductive SI (C:Addr) (f:Str) (x y:V) (H:Hp) (R:Hp->Prop):Prop
 | mk:∀ a dx fs,x=.ref a->H a=some (.ins C dx fs)->fs.length < 1000->R (upd H a (.ins C dx (ay f y fs)))->SI C f x y H R
inductive AI (C:Addr) (f:Str) (x:V) (H:Hp) (Q:Addr->V->Prop):Prop
 | mk:∀ a dx fs v,x=.ref a->H a=some (.ins C dx fs)->fs.lookup f=some v->Q a v->AI C f x H Q
inductive BI (C:Addr) (f:Str) (a:Addr) (z:V) (H:Hp) (R:Hp->Prop):Prop
 | mk:∀ dx fs,H a=some (.ins C dx fs)->fs.length < 1000->R (upd H a (.ins C dx (ay f z fs)))->BI C f a z H R
def vE (C:Addr) (f:Str) (ta:TE):TE:=fun σ H Q=>ta σ H fun x H1=>FI C f x H1 fun v=>Q v H1
def qT (C:Addr) (f:Str) (ta tv:TE):TS:=fun D σ H=>tv σ H fun y H1=>ta σ H1 fun x H2=>SI C f x y H2 fun H3=>D.nx σ H3
def zf (C:Addr) (f:Str) (ta tv:TE) (rd:R2):TS:=fun D σ H=>ta σ H fun x H1=>AI C f x H1 fun a v=>tv σ H1 fun y H2=>rd v y H2 fun z H3=>BI C f a z H3 fun H4=>D.nx σ H4
def xo (C:Addr) (m:Str) (sp:Sp) (bj:List V) (R:St->XK) (ta:TE) (t:TA):TE:=fun σ H Q=>ta σ H fun x H1=>MI C m x H1 (t σ H1 fun vs H2=>sp (x::(vs++bj)) H2 Q (R σ))
section
variable {X:Cx} {k:Nat} {f C:Addr} {fd:FuncData} {ps:List Str} {sp:Sp} {bj:List V} {ds:List Value} {R:St->XK} {x m:Str} {p pos apos:Pos} {e o:Expr} {es:List Expr} {ta:TE} {t:TA}
def Yg {pl:Sem Bool} (he:PE X o ta) (c:cJ X.K C) (hm:Meth X.K C m f) (F:aC X.prog X.w X.K X.mg X.base (cI X.prog X.w) k f fd ps sp) (hr:bx k X.A) (hb:Binds X.K fd ps ds) (hd:Vals bj ds) (hx:iD X R) (ha:PA X (e::es) t) (hs:(e::es).all noStar=true:=by rfl)
  (ht:eval (.Call (.Attribute o m apos) (e::es) [] pos) X.env=(do
   let ov <- eval o X.env
   standAt apos.atName
   let (f,first) <- holding [ov] (getMethod ov m pl)
   callWith pos f first (backTo pos (starEach (e::es) X.env)) (backToKw pos (keywordEach [] X.env))):=by rfl):PE X (.Call (.Attribute o m apos) (e::es) [] pos) (xo C m sp bj R ta t):=by
 have hs':=hs;rw [NE,Do] at hs';intro pins s σ H Q I h;refine _l (pl:=pl) (aF (he pins s σ H _ I h) fun u s1 ⟨x,H1,I1,rx,a,dx,fs,ex,ea,l,q⟩=>?_) ht;subst ex;obtain rfl:u=Value.ref a:=rx;refine z8 I1 ea c hm l (Zq (first:=[.ref a]) (h₀:=X.base) I.ok.mod.ir hm.kp (aF (ha pos pins s1 σ H1 _ I1 q) fun us s2 ⟨vs,H2,I2,r,q2⟩=>⟨I2.bW,?_⟩) (eZ hs'.1) (gI hs'.2));exact Ib (us:=.ref a::us) (vs:=.ref a::vs) F hr hb hd hx I2 (.cons rfl r) q2
end
section
variable {X:Cx} {C:Addr} {f:Str} {e o value:Expr} {ta tv:TE} {pos pos' jv:Pos}
def Oy (c:cJ X.K C) (n:bE X.K C f) (he:PE X e ta) (hb:attributeBase e f X.env (eval e X.env)=eval e X.env):PE X (.Attribute e f pos) (vE C f ta):=by
 intro pins s σ H Q I h;refine QK hb (aF (he pins s σ H _ I h) fun u s1 ⟨x,H1,I1,rx,a,dx,fs,v,ex,ea,l,q⟩=>?_);subst ex;obtain rfl:u=Value.ref a:=rx;exact Jc I1 ea c n l fun u' s2 I2 ru=>⟨v,H1,I2,ru,q⟩
def XB (c:cJ X.K C) (n:bE X.K C f) (ha:PE X o ta) (hv:PE X value tv) (hs:swapsWith value (some (.Attribute o f pos')) pos.line X.env=pure false):PS X (.Assign [.Attribute o f pos'] value pos) (qT C f ta tv):=by
 intro pins s σ H D I h;refine plainObj_wpAny_Assign_Attribute (aF (hv pins s σ H _ I h) fun u s1 ⟨y,H1,I1,ry,q⟩=>aF (ha pins s1 σ H1 _ I1 q) fun ov s2 ⟨x,H2,I2,rx,a,dx,fs,ex,ea,l,q2⟩=>?_) hs;subst ex;obtain rfl:ov=Value.ref a:=rx;exact DZ I2 ea c n l ry fun s3 I3=>⟨σ,_,I3,q2⟩
def Vm {op:Operator} {rd:R2} (c:cJ X.K C) (n:bE X.K C f) (ha:PE X o ta) (hv:PE X value tv) (CI:zM X op rd):PS X (.AugAssign (.Attribute o f jv) op value pos) (zf C f ta tv rd):=by
 intro pins s σ H D I h;refine wpAny_AugAssign_AttributeAny (aF (ha pins s σ H _ I h) fun ov s1 ⟨x,H1,I1,rx,a,dx,fs,v,ex,ea,l,q⟩=>?_);subst ex;obtain rfl:ov=Value.ref a:=rx;refine Jc I1 ea c n l fun u s2 I2 ru=>aF (hv pins s2 σ H1 _ I2 q) fun w3 s3 ⟨y,H2,I3,ry,q3⟩=>aF (CI pins s3 σ H2 v y u w3 _ I3 ru ry q3) fun w4 s4 ⟨z,H3,I4,rz,dx',fs',ea',l',q4⟩=>?_;exact DZ I4 ea' c n l' rz fun s5 I5=>⟨σ,_,I5,q4⟩
end
def El {X:Cx} {op:CmpOp} {a b:Expr} {t:TE} {pos:Pos} (h:PC X op a b t) (hm:behindInMarks op b=false:=by first | exact uv _ (by decide) (by decide) | rfl):PT X (.Compare a [op] [b] pos) (ka t):=by
 intro pins s σ H Q I hw;refine wpAny_isTrue_Compare1 (aF (h pins s σ H _ I hw) fun v s1 h1=>aF h1 fun u s2 h2=>aF h2 fun c s3 ⟨x,H1,I1,r1,q1⟩=>?_) hm;obtain ⟨k,rfl,q⟩:=zG q1;cases r1;exact Sc ⟨H1,I1,q⟩
namespace Dv
section
variable {X:Cx} {a b o e i value:Expr} {ta tb td ty tv:TE} {es:List Expr} {t:TA} {pos pos' apos bo p jv:Pos} {f C:Addr} {fn m x:Str} {k:Nat} {fd:FuncData} {ps:List Str} {sp:Sp} {bj:List V} {ds:List Value} {R:St->XK} {CX:dD} {E:XK} {tA:TT} {body:List Stmt} {tB:TS}
def fld (c:cJ X.K C) (n:bE X.K C fn) (he:QE X e ta) (hb:attributeBase e fn X.env (eval e X.env)=eval e X.env:=by rfl):QE X (.Attribute e fn pos) (vE C fn ta):=⟨Oy c n he.h hb⟩
def bD (c:cJ X.K C) (n:bE X.K C fn) (ha:QE X o ta) (hv:QE X value tv) (hs:swapsWith value (some (.Attribute o fn pos')) pos.line X.env=pure false:=by rfl):QS X (.Assign [.Attribute o fn pos'] value pos) (qT C fn ta tv):=⟨XB c n ha.h hv.h hs⟩
def kq {op:Operator} {rd:R2} (c:cJ X.K C) (n:bE X.K C fn) (CI:zM X op rd) (ha:QE X o ta) (hv:QE X value tv):QS X (.AugAssign (.Attribute o fn jv) op value pos) (zf C fn ta tv rd):=⟨Vm c n ha.h hv.h CI⟩
def Il (Z:iU X.K C f fn) (ha:QE X o ta) (hv:QE X value tv) (hs:swapsWith value (some (.Attribute o fn pos')) pos.line X.env=pure false:=by rfl):QS X (.Assign [.Attribute o fn pos'] value pos) (z6 C fn ta tv):=⟨RI Z ha.h hv.h hs⟩
def bg {pl:Sem Bool} (c:cJ X.K C) (hm:Meth X.K C m f) (F:aC X.prog X.w X.K X.mg X.base CX k f fd ps sp) (hr:bx k X.A) (hb:Binds X.K fd ps ds) (hd:Vals bj ds) (hx:Passes CX X E) (ho:QE X o ta) (ha:QA X (e::es) t) (hs:(e::es).all noStar=true:=by rfl)
  (ht:eval (.Call (.Attribute o m apos) (e::es) [] pos) X.env=(do
   let ov <- eval o X.env
   standAt apos.atName
   let (f,first) <- holding [ov] (getMethod ov m pl)
   callWith pos f first (backTo pos (starEach (e::es) X.env)) (backToKw pos (keywordEach [] X.env))):=by rfl):QE X (.Call (.Attribute o m apos) (e::es) [] pos) (rm C m sp bj E ta t):=by
 have hs':=hs;rw [NE,Do] at hs';exact ⟨Rp ho.h c hm F hr hb hd hx ha.h (eZ hs'.1) (gI hs'.2) ht⟩
def rJ {pl:Sem Bool} (c:cJ X.K C) (hm:Meth X.K C m f) (F:aC X.prog X.w X.K X.mg X.base CX k f fd ps sp) (hr:bx k X.A) (hb:Binds X.K fd ps ds) (hd:Vals bj ds) (hx:Passes CX X E) (ho:QE X o ta)
  (ht:eval (.Call (.Attribute o m apos) [] [] pos) X.env=(do
   let ov <- eval o X.env
   standAt apos.atName
   let (f,first) <- holding [ov] (getMethod ov m pl)
   callWith pos f first (backTo pos (starEach [] X.env)) (backToKw pos (keywordEach [] X.env))):=by rfl):QE X (.Call (.Attribute o m apos) [] [] pos) (rm C m sp bj E ta iC):=⟨Xk ho.h c hm F hr hb hd hx ht⟩
def dS {pl:Sem Bool} (c:cJ X.K C) (hm:Meth X.K C m f) (F:aC X.prog X.w X.K X.mg X.base (cI X.prog X.w) k f fd ps sp) (hr:bx k X.A) (hb:Binds X.K fd ps ds) (hd:Vals bj ds) (hx:iD X R) (ho:QE X o ta) (ha:QA X (e::es) t) (hs:(e::es).all noStar=true:=by rfl)
  (ht:eval (.Call (.Attribute o m apos) (e::es) [] pos) X.env=(do
   let ov <- eval o X.env
   standAt apos.atName
   let (f,first) <- holding [ov] (getMethod ov m pl)
   callWith pos f first (backTo pos (starEach (e::es) X.env)) (backToKw pos (keywordEach [] X.env))):=by rfl):QE X (.Call (.Attribute o m apos) (e::es) [] pos) (xo C m sp bj R ta t):=⟨Yg ho.h c hm F hr hb hd hx ha.h hs ht⟩
def make (M:Mk X.K C f) (F:aC X.prog X.w X.K X.mg X.base CX k f fd ps sp) (hr:bx (k+1) X.A) (hm:X.mg x=some (.ref C)) (hb:Binds X.K fd ps ds) (hd:Vals bj ds) (hx:Passes CX X E) (ha:QA X (e::es) t) (hg:Gl X x:=by rfl) (hs:(e::es).all noStar=true:=by rfl) (bP:(x == ("__debug__" : Str))=false:=by decide) :
  QE X (.Call (.Name x p) (e::es) [] pos) (pS C sp bj E t):=by
 have hs':=hs;rw [NE,Do] at hs';exact ⟨Td M F hr hg hm hb hd hx ha.h bP (eZ hs'.1) (gI hs'.2)⟩
def M7 (M:Mk X.K C f) (F:aC X.prog X.w X.K X.mg X.base CX k f fd ps sp) (hr:bx (k+1) X.A) (hm:X.mg x=some (.ref C)) (hb:Binds X.K fd ps ds) (hd:Vals bj ds) (hx:Passes CX X E) (hg:Gl X x:=by rfl) (bP:(x == ("__debug__" : Str))=false:=by decide) :
  QE X (.Call (.Name x p) [] [] pos) (pS C sp bj E iC):=⟨Qg M F hr hg hm hb hd hx bP⟩
def u7 (hx:xT X R) (hex:X.ex=[]) (hc:X.calm=true) (hm:X.mg x=some (.ref C)) (Z:iU X.K C f fn) (cF:PySem.W.typeIn X.K (.ref C)=some (.type "type")) (F:aC X.prog X.w X.K X.mg X.base aM k f fd ps (kc C fn)) (hr:bx (k+1) X.A) (hb:Binds X.K fd ps []) (ha:QA X (e::es) t)
  (hg:Gl X x:=by rfl) (hs:(e::es).all noStar=true:=by rfl) (bP:(x == ("__debug__" : Str))=false:=by decide):QS X (.Raise (some (.Call (.Name x p) (e::es) [] bo)) none pos) (z0 C fn R t):=⟨To hx hex hc hm Z cF F hr hb ha.h hg hs bP⟩
def rT (hu:X.A.units+1 < cLine) (ho:QE X o td) (hi:QE X i ty) (hs:yV i:=by intro _ _; rfl):QE X (.Subscript o i pos) (wY td ty):=⟨Se hu ho.h hi.h hs⟩
def yQ (hu:X.A.units+1 < cLine) (hi:QE X i ty) (ho:QE X o td) (hm:behindInMarks .In o=false:=by rfl):QT X (.Compare i [.In] [o] pos) (ka (Ak ty td)):=⟨El (N6 hu hi.h ho.h) hm⟩
def Bq (hu:X.A.units+1 < cLine) (hi:QE X i ty) (ho:QE X o td) (hm:behindInMarks .NotIn o=false:=by rfl):QT X (.Compare i [.NotIn] [o] pos) (ka (wV ty td)):=⟨El (VN hu hi.h ho.h) hm⟩
def ng (hu:X.A.units+1 < cLine) (ho:QE X o td) (hi:QE X i ty) (hv:QE X value tv) (hs:swapsWith value (some (.Subscript o i pos')) pos.line X.env=pure false:=by rfl):QS X (.Assign [.Subscript o i pos'] value pos) (zk td ty tv):=⟨NZ hu ho.h hi.h hv.h hs⟩
def OM:QE X (.Dict [] [] pos) AY:=⟨QQ⟩
def WZ (hu:X.A.units+1 < cLine) (ho:QE X o td) (he:QE X e ty) (m1:M1 X o "get" apos e bo:=by exact ⟨rfl,rfl,rfl,rfl⟩):QE X (.Call (.Attribute o "get" apos) [e] [] bo) (zX td ty):=⟨Wh hu ho.h he.h m1⟩
def l8 (hp:PassesOwn (model X.prog X.w) X.A X.env X.xe) (hc:QT X a tA) (hb:QB X body tB):QS X (.While a body [] pos) (G6 tA tB):=⟨TJ hp hc.h hb.h⟩
def Fs (hc:QT X o tA) (ha:QE X a ta) (hb:QE X b tb):QE X (.IfExp o a b pos) (zh tA ta tb):=⟨Qq hc.h ha.h hb.h⟩
end
end Dv
def QD {P:Program} {w:World} {K:PySem.W.Frag} {mg:Str->Option Value} {base:Heap} {N:List Str} {qual:Str} {scope:Scope} {f:Addr} {cd:Value} {A:Around} {outer:List Env} {s₀:Shared} {H₀:Hp} {E:XK} {CX:dD} :
  PassesOwn (model P w) (fh CX P w K mg base N qual scope f cd A outer s₀ H₀ E).A (fh CX P w K mg base N qual scope f cd A outer s₀ H₀ E).env (fh CX P w K mg base N qual scope f cd A outer s₀ H₀ E).xe:=PassesOwn.leaving
structure Np (X:Cx) (pins:List (Addr×Obj)) (σ:St) (H:Hp) (ea C:Addr) (od:Option Addr) (s:Shared):Prop where
 fl:∃ B a0,Heap.FlyingW B (X.env::X.outer) ea (.ref C) a0 s.heap/\∀ h4:Heap,B.StaysIn h4->s.heap.UpToSlots h4->Inv X pins σ H { s with heap:=h4 }
 hd:dE ea (.ref C) od s.heap
 free:H ea=none
 n0:X.s₀.heap.get? ea=none
 nL:ea≠X.env.locals
 nC:∀ x c,X.env.cells.lookup x=some c->c≠ea
 nP:∀ p∈X.pn++pins,p.1≠ea
abbrev vg:=Ends->St->Addr->Option Addr->Hp->Prop
def PH (X:Cx) (hs:List ExceptHandler) (t:vg):Prop:=∀ (pins:List (Addr×Obj)) (s:Shared) (σ:St) (H:Hp) (D:Ends) (ea C:Addr) (od:Option Addr),Np X pins σ H ea C od s->t D σ C od H->wpAny (model X.prog X.w) X.A (handleBy (.ref ea) X.env hs) (SP X pins D) X.xe s
section
variable {X:Cx} {K:PySem.W.Frag} {Cc:Addr} {n x:Str} {suite:List Stmt} {b₀:Stmt} {np hpos pos:Pos} {th:TS} {tr:vg} {rest:List ExceptHandler}
end
structure QH (X:Cx) (hs:List ExceptHandler) (t:vg):Prop where
 h:PH X hs t
namespace Dv
section
variable {X:Cx} {K:PySem.W.Frag} {Cc:Addr} {n x:Str} {suite:List Stmt} {b₀:Stmt} {np hpos pos:Pos} {th:TS} {tr:vg} {rest:List ExceptHandler}
end
end Dv
def ef (a b:Str):Bool:=!ltCps b.cps.toList a.cps.toList
def cu (ts:List Str):List Str:=ts.mergeSort ef
def uC {a b:Str}:ef a b=true ↔ ¬ b.cps.toList < a.cps.toList:=by
 unfold ef; rw [ltCps_eq]; simp
def Gk (a b c:Str) (h1:ef a b=true) (h2:ef b c=true):ef a c=true:=by
 rw [uC] at *;exact _q.mpr (List.le_trans (_q.mp h1) (_q.mp h2))
def YD (a b:Str):(ef a b || ef b a)=true:=by
 cases h:ef a b with
 | true=>rfl
 | false =>
  have:¬ ef a b=true:=by rw [h]; simp
  rw [uC,Classical.not_not] at this;simp only [Bool.false_or,uC];exact _q.mpr (List.le_of_lt this)
def M4 {a b:Str} (h1:ef a b=true) (h2:ef b a=true):a=b:=by
 rw [uC] at *;have:=List.le_antisymm (_q.mp h1) (_q.mp h2);obtain ⟨x⟩:=a; obtain ⟨y⟩:=b;exact Tm Str.mk (Array.ext' this)
def E9 (ts:List Str):(cu ts).Perm ts:=List.mergeSort_perm ts ef
def XN (ts:List Str):(cu ts).Pairwise (fun a b=>ef a b=true):=List.pairwise_mergeSort Gk YD ts
def qV (ts:List Str):(cu ts).length=ts.length:=(E9 ts).length_eq
def Gp:∀ (p:Str) (l:List Str),risingS p l=true->(p::l).Pairwise (fun a b=>ef a b=true)
 | p,[],_=>List.pairwise_singleton _ _
 | p,x::r,h=>by
  have h':ef p x=true/\risingS x r=true:=by simpa [risingS,ef] using h
  have ih:=Gp x r h'.2;refine List.pairwise_cons.mpr ⟨fun y hy=>?_,ih⟩;rcases ss.mp hy with e | hy
  ·exact e ▸ h'.1
  ·exact Gk p x y h'.1 (List.rel_of_pairwise_cons ih hy)
def BL:∀ (l:List Str),sortedS l=true->l.Pairwise (fun a b=>ef a b=true)
 | [],_=>.nil
 | x::r,h=>Gp x r h
def Au {us ts:List Str} (hp:us.Perm ts) (hs:us.Pairwise (fun a b=>ef a b=true)):us=cu ts :=
 List.Perm.eq_of_pairwise (fun a b _ _ h1 h2=>M4 h1 h2) hs (XN ts) (hp.trans (E9 ts).symm)
def EY:∀ {ts:List Str} {us:List Value},Vals (ts.map V.str) us->StrsAre us ts
 | [],_,.nil=>.nil
 | x::r,_,.cons h t=>by obtain ⟨t',rfl⟩:=h; exact .cons x t' (EY t)
def vX:∀ {us:List Value} {ts:List Str},StrsAre us ts->Vals (ts.map V.str) us
 | _,_,.nil=>.nil
 | _,_,.cons y t h=>.cons ⟨t,rfl⟩ (vX h)
section
variable {X:Cx}
def HS (K:PySem.W.Frag):List V->Hp->VK->Prop:=fun xs H Q=>∃ p ts,xs=[.ref p]/\aE K H p (ts.map V.str)/\ts.length < 64/\∀ l,H l=none->Q (.ref l) (upd H l (.lst ((cu ts).map V.str)))
def IX:cq X (.builtin "sorted") (HS X.K):=by
 intro pins s σ H xs us Q I r h;obtain ⟨p,ts,rfl,hq,tP,q⟩:=h;obtain ⟨u,rfl,rx⟩:=vals1 r;cases rx;obtain ⟨aj,r',pl,hz⟩:=I.list hq;have hlen:=r'.length;refine sorted_strs pl.isList (EY r') (by rw [<- hlen]; simpa using tP) fun out ss' a1 a2 a3=>?_;obtain ⟨e,he⟩:=sortedAll_at s.heap aj out;have e1:ss'=cu ts:=Au a2 (BL _ a3);subst e1;refine ⟨.ref (s.heap.objs.size+1),_,I.laid (t':=s.toks) (fun _ _=>sortedAll_old) (ZW _) (show bN X.prog X.w _ _ _ (.lst ((cu ts).map V.str)) from ⟨?_,out.toList,e,vX a1,?_⟩),rfl,q _ (I.aB.fresh (ZW _))⟩
 ·rw [mo,qV]; simpa using hz
 ·simpa [seqObj] using he
def E2:List V->Hp->VK->Prop:=fun xs H Q=>∃ p kvs,∃ ts:List Str,xs=[.ref p]/\H p=some (.dK kvs)/\kvs.map (·.1)=ts.map Sum.inr/\ts.length < 64/\∀ l,H l=none->Q (.ref l) (upd H l (.lst ((cu ts).map V.str)))
def An {x:Str} {v:Value} (h:jT (.inr x) v=true):∃ t,v=Value.str x t:=Value.isStrOf_shape h
def S8 (hc:X.calm=true):cq X (.builtin "sorted") E2:=by
 intro pins s σ H xs us Q I r h;obtain ⟨p,kvs,ts,rfl,hq,hk,tP,q⟩:=h;obtain ⟨u,rfl,rx⟩:=vals1 r;cases rx;obtain ⟨hz,hS,vs,rv,m⟩:kvs.length<=sizeLine/\(p == sysModules)=false/\∃ vs,KV kvs vs/\s.heap.DictOf (cS X.prog X.w) p vs:=I.aB p _ hq;obtain ⟨ep,cN⟩:=m.dictAt;have gB:kvs.length=ts.length:=by simpa using Tm List.length hk
 have tH:vs.length=ts.length:=by rw [<- gB]; simpa using (Tm List.length rv.keys).symm
 refine Tk _P _B _C (_D _) ?_;unfold Builtin.«sorted»;refine kt (m:=checkCount "sorted" 1 1 _) (sK ?_);refine kt (Z6 (A:=X.A.in1) (PySem.W.kdl_dict (knd:=cS X.prog X.w) (kvs:=vs) (ep:=ep) hS) (I.ok.hd hc) cN (by rw [tH,<- gB]; exact hz) fun h' tk acc hk' dY=>?_);have hl:acc.toList.length=ts.length:=by rw [Pi,<- tH]; exact dY.1
 have hS':StrsAre acc.toList ts:=by
  have key:∀ (l:List Value) (us:List Str),l.length=us.length->(∀ (j:Nat) (v:Value) (x:Str),l[j]?=some v->us[j]?=some x->∃ t,v=Value.str x t)->StrsAre l us:=by
   intro l
   induction l with
   | nil=>intro us e _; cases us with | nil=>exact .nil | cons=>cases e
   | cons v l ih =>
    intro us e hh;cases us with
    | nil=>cases e
    | cons x us =>
     obtain ⟨t,rfl⟩:=hh 0 v x rfl rfl;exact .cons x t (ih us (by simpa using e) fun j v x h1 h2=>hh (j+1) v x h1 h2)
  refine key _ _ hl fun j v x h1 h2=>?_;obtain ⟨k,y,hx,DA⟩:=dY.2 j v (by rw [<- Ps]; exact h1);have e1:(vs.map (·.1))[j]?=some k:=by rw [FS,hx]; rfl
  rw [<- rv.keys,hk,FS,h2] at e1;cases e1;exact An DA
 refine kt (Z7 ?_ (by rw [hl,<- gB]; exact hz));have ed:(h'.push (seqObj "list" acc.toList.toArray 0)).get? h'.objs.size=some (seqObj "list" acc.toList.toArray 0):=wn _ rfl;refine kt (Id (XV _i ⟨_,ed,rfl⟩ Z9 (list_sort_treeK strKind_oneLt ed hS'.keysOf (fun v₁ v₂ rest e=>keyKind_strs (by rw [<- e]; exact hS')) (by rw [hl]; exact tP) fun st' a1 a2=>⟨_,rfl,?_⟩) (_j _)));refine sK ⟨_,rfl,?_⟩;obtain ⟨ss',b1,b2,b3⟩:=sorted_out_str hS' a1 a2;have e1:ss'=cu ts:=Au b2 (BL _ b3);subst e1;obtain ⟨e,he⟩:=_R (out:=(arrOf st').map (·.2)) ed;have I1:Inv X pins σ H { s with heap:=h',toks:=tk }:=I.kept (t':=tk) hk';refine ⟨.ref h'.objs.size,_,I1.laid (t':=tk) (fun b o z=>?_) (sB _) (show bN X.prog X.w _ _ _ (.lst ((cu ts).map V.str)) from ⟨?_,_,e,vX b1,?_⟩),rfl,q _ (I1.aB.fresh (sB _))⟩
 ·have hb:b < h'.objs.size:=wf z;rw [_N (xL hb) (by have:=TW h' (seqObj "list" acc.toList.toArray 0); rw [this]; exact ZR hb)];exact li _ z
 ·rw [mo,qV,<- gB]; exact hz
 ·rw [Z2]; exact he
end
def zO (c:Addr) (q:Str):HO:=.ext fun h=>h.CodeRec (.ref c) q
structure YW (N:List Str) (scope:Scope) (cl:List (Str×Addr)):Prop where
 kind:scope.kind=.function
 co:scope.isCoroutine=false
 gen:scope.isGenerator=false
 Zj:∀ x∈scope.names,x.2≠.cell
 free:∀ x∈N,scope.names.lookup x=some .free
 has:∀ x,scope.names.lookup x=some .free->∃ c,cl.lookup x=some c
 inj:∀ x y c,cl.lookup x=some c->cl.lookup y=some c->x=y
def Ng (i:Nat) (f:Addr) (gJ:Hp->VK->XK->Prop) (R:St->XK):TE:=fun σ H Q=>σ[i]?=some (some (.ref f))/\gJ H Q (R σ)
abbrev Yt:=List Env->Shared->Sp
structure Y3 (P:Program) (w:World) (K:PySem.W.Frag) (mg:Str->Option Value) (base:Heap) (CX:dD) (k:Nat) (f:Addr) (fd:FuncData) (ps:List Str) (sp:Yt):Prop where
 len:∀ outer s vs H Q E,sp outer s vs H Q E->vs.length=ps.length
 run:∀ (A:Around) (outer:List Env) (s:Shared) (H:Hp) (args:Args) (us:List Value) (vs:List V) (Q:VK) (E:XK),bx k A->kz P w K mg base A outer s H->BindsTo s fd args (ps.zip us)->Vals vs us->sp outer s vs H Q E ->
  codeAny (model P w) A (.call (.ref f) args) (CR CX outer P w H s Q E) s
abbrev Ent:=Int×Int×Addr
def IY:List Ent->List Value
 | []=>[]
 | e::r=>rawInt e.1::rawInt e.2.1::.ref e.2.2::IY r
def FV (P:Addr) (es:List Ent):HO:=.ext fun h=>h.get? P=some (PySem.W.tabObj (IY es).toArray)
structure Eh (H:Hp) (P:Addr) (q:Str) (es:List Ent):Prop where
 tab:H P=some (FV P es)
 code:∀ e∈es,H e.2.2=some (zO e.2.2 q)
structure YZ (X:Cx) (P:Addr) (params:Arguments) (scope:Scope) (tq:List (Str×Addr)) (q:Str):Prop where
 dflt:defaultsOf params X.env=([],[])
 lH:closureFor scope X.env=pure tq
 code:∃ c,X.env.code=.ref c/\PySem.W.CodeHd X.base c P
 blt:X.base.BuiltinsAt X.mg P
 qual:X.env.qual ++ "<lambda>" = q
structure U6 (P:Addr) (q:Str) (c:Addr) (H H1:Hp):Prop where
 rest:∀ b,b≠P->b≠c->H1 b=H b
 code:H1 c=some (zO c q)
 old:H c=none\/H1=H
 tab:∃ es,Eh H1 P q es
abbrev qf:=Hp->VK->XK->Prop
def NL (c:Addr) (q:Str) (W:qf):qf:=fun H Q E=>H c=some (zO c q)/\W H Q E
def lX (ix:List Nat) (σ:St) (vs:List V):Prop:=vs.length=ix.length/\∀ (i j:Nat) (v:V),ix[i]?=some j->vs[i]?=some v->σ[j]?=some (some v)
def T7 (P:Addr) (q:Str) (ix:List Nat) (W:List V->qf) (spD:qf->qf) (R:St->XK):TE:=fun σ H Q =>
 ∃ es vs,Eh H P q es/\lX ix σ vs/\∀ c H1,U6 P q c H H1->spD (NL c q (W vs)) H1 Q (R σ)
structure Zk (X:Cx) (N':List Str) (ix:List Nat) (tq:List (Str×Addr)):Prop where
 len:ix.length=N'.length
 at':∀ (i j:Nat),ix[i]?=some j->∃ x,N'[i]?=some x/\X.N[j]?=some x/\X.env.scope.names.lookup x=some .cell
 lH:∀ x c,tq.lookup x=some c->X.env.cells.lookup x=some c
 Y6:∀ x∈N',tq.lookup x=X.env.cells.lookup x
 own:∀ x c,tq.lookup x=some c->X.fn x=true
abbrev T2:=List (Addr×Addr)
structure Zc (tabs:T2) (H:Hp):Prop where
 all:∀ b,H b=none\/(∃ o xs,H b=some (.bG o (.lst xs)))\/∃ q∈tabs,b=q.2
 tab:∀ q∈tabs,H q.2=some (FV q.2 [])
section
variable {prog:Program} {w:World} {A:Around} {R:Result->Shared->Prop} {I:Addr} {fp wr:List Addr} {P:Nat->Value->Prop} {St:Nat->Heap->Prop}
def TQ (a d:Value):argsOk "min" ⟨[a],[("default",d)]⟩:=by unfold argsOk; kernel_rfl
def Xx (W:Walks prog w A.in1 I fp wr 0 P St) {S:Addr} {s:Shared} {c:Nat} {d:Value} (aO:St 0 s.heap)
  (hS:s.heap.get? S=some { cls:=.type "list",dict:=none,data:=.seq #[] c,slots:=#[] })
  (hR:∀ h' tk,(∀ b o,b ∉ wr->s.heap.get? b=some o->h'.get? b=some o)->R (.ok (.ret d)) { s with heap:=h',toks:=tk }) :
  codeAny (model prog w) A (.builtin "min.loop" ⟨[.ref I,.none,.ref S],[("default",d)]⟩) R s:=by
 refine _u F.entry_min_loop ?_;rw [_r Z4 _];show wpAny _ A.in1 (seqItems? (.ref S) >>= _) _ _ s;refine kt (_O hS rfl ?_);show wpAny _ A.in1 (tryCatch (pyNext (.ref I)) _ >>= _) _ _ s;refine kt (wpAny_tryCatch (W.done s _ _ aO fun h' tk hk'=>?_));exact kt (wpAny_rule (sK (hR h' tk hk')))
def RX (W:Walks prog w A.in1 I fp wr 1 P St) {S:Addr} {s:Shared} {c:Nat} {d:Value} (pG:S ∉ fp) (aO:St 0 s.heap)
  (hS:s.heap.get? S=some { cls:=.type "list",dict:=none,data:=.seq #[] c,slots:=#[] })
  (hR:∀ v h' tk,P 0 v->(∀ b o,b ∉ wr->b≠S->s.heap.get? b=some o->h'.get? b=some o)->R (.ok (.ret v)) { s with heap:=h',toks:=tk }) :
  codeAny (model prog w) A (.builtin "min.loop" ⟨[.ref I,.none,.ref S],[("default",d)]⟩) R s:=by
 have LP:S ∉ wr:=fun h=>pG (W.sub _ h);have De:(toString "min" ++ toString ".loop" : String) = "min.loop" := by decide
 refine _u F.entry_min_loop ?_;rw [_r Z4 _];show wpAny _ A.in1 (seqItems? (.ref S) >>= _) _ _ s;refine kt (_O hS rfl ?_);show wpAny _ A.in1 (tryCatch (pyNext (.ref I)) _ >>= _) _ _ s;refine kt (wpAny_tryCatch (W.item 0 s _ _ (by decide) aO fun v h' tk hP hst' hk'=>?_));have hS':=hk' S _ LP hS;show wpAny _ A.in1 (updateSeq S (fun _=>#[v,v]) >>= _) _ _ _;refine kt ?_;refine wpAny_updateSeq hS' rfl ?_;rw [De];refine sK ⟨plainId_quiet Z4 _,?_⟩;have key:∀ (s2:Shared) (c2:Nat),St 1 s2.heap->s2.heap.get? S=some { cls:=.type "list",dict:=none,data:=.seq #[v,v] c2,slots:=#[] }->(∀ h'' tk'',(∀ b o,b ∉ wr->b≠S->s2.heap.get? b=some o->h''.get? b=some o)->R (.ok (.ret v)) { s2 with heap:=h'',toks:=tk'' }) ->
   codeAny (model prog w) A (.builtin "min.loop" ⟨[.ref I,.none,.ref S],[("default",d)]⟩) R s2:=fun s2 c2 jm hS2 hR2=>by
  refine _u F.entry_min_loop ?_;rw [_r Z4 _];show wpAny _ A.in1 (seqItems? (.ref S) >>= _) _ _ s2;refine kt (_O hS2 rfl ?_);show wpAny _ A.in1 (tryCatch (pyNext (.ref I)) _ >>= _) _ _ s2;refine kt (wpAny_tryCatch (W.done s2 _ _ jm fun h3 tk3 Lw=>?_));have hS3:=Lw S _ LP hS2;show wpAny _ A.in1 (updateSeq S (fun _=>#[]) >>= _) _ _ _;refine kt ?_;refine wpAny_updateSeq hS3 rfl (kt (wpAny_letGo (sK ?_)));exact hR2 _ tk3 fun b o hbw hbS e=>(IR _ _ (sw hbS)).trans (Lw b o hbw e)
 refine key _ _ (W.frame _ _ _ hst' fun b mB o e=>(IR _ _ (fun h:S=b=>pG (by rw [h]; exact mB))).trans e) (Ty _ hS' rfl) fun h'' tk'' hk''=>?_;exact hR v h'' tk'' hP fun b o hbw hbS e=>hk'' b o hbw hbS ((IR _ _ (sw hbS)).trans (hk' b o hbw e))
def Mn {E:Value->Shared->Prop} {s:Shared} {x d:Value} {Q:Value->Shared->Prop}
  (h:wpAny (model prog w) A.in1 (pyIter x) (fun it s₂=>∃ I fp wr n P St,it=.ref I/\Walks prog w A.in1 I fp wr n P St/\St 0 s₂.heap/\(∀ b∈fp,b < s₂.heap.objs.size)/\n<=1 /\
   ∀ v h' tk,(n=0/\v=d\/n=1/\P 0 v)->(∀ b o,b ∉ wr->s₂.heap.get? b=some o->h'.get? b=some o)->Q v { s₂ with heap:=h',toks:=tk }) E s) :
  wpAny (model prog w) A (call (.builtin "min") [x] [("default",d)]) Q E s:=by
 have De:(toString "min" ++ toString ".loop" : String) = "min.loop" := by decide
 refine ZF (Z1 F.plain_min F.entry_min ?_);have JW:wpAny (model prog w) A.in1 (Builtin.«min» ⟨[x],[("default",d)]⟩) (fun fin s'=>match fin with
   | .done f=>(match (Except.ok f:Result) with | .ok (.ret v)=>Q v s' | .ok _=>False | .error e=>E e s')
   | .again c'=>c'.quiet=true/\codeAny (model prog w) A c' (fun r s'=>match r with | .ok (.ret v)=>Q v s' | .ok _=>False | .error e=>E e s') s') E s:=by
  show wpAny _ A.in1 (Builtin.Builtins.bindParams "min" ["key","default"] 0 ⟨[],[("default",d)]⟩ >>= _) _ _ s;refine kt (wpAny_of_eq (show Builtin.Builtins.bindParams "min" ["key","default"] 0 ⟨[],[("default",d)]⟩=pure [none,some d] from rfl) ?_);refine kt (sK ?_);refine kt (Re h (fun it s₂ h₂=>?_) fun _ _ e=>e);obtain ⟨I,fp,wr,n,P,St,rfl,W,aO,Cr,hn,hQ⟩:=h₂;refine kt (ZS ?_);have pG:s₂.heap.objs.size ∉ fp:=fun hm=>No _ (Cr _ hm);rw [De];refine sK ⟨plainId_quiet Z4 _,?_⟩;have jm:=W.frame _ _ _ aO (fun b _ o e=>li { cls:=.type "list",data:=.seq ([]:List Value).toArray } e)
  match n,hn,W,hQ with
  | 0,_,W,hQ =>
   refine Xx W jm (wn _ rfl) fun h' tk hk=>?_;exact hQ d h' tk (.inl ⟨rfl,rfl⟩) fun b o hbw e=>hk b o hbw (li _ e)
  | 1,_,W,hQ =>
   refine RX W pG jm (wn _ rfl) fun v h' tk hP hk=>?_;exact hQ v h' tk (.inr ⟨rfl,hP⟩) fun b o hbw e=>hk b o hbw (xL (wf e)) (li _ e)
 have ha:=TQ x d;simp only [checkBuiltinCall,F.kind_min];cases hsig:Manifest.signature? "min" with
 | none=>exact sK JW
 | some sig =>
  have ha':Bind.checkArgs "min" sig ⟨[x],[("default",d)]⟩=pure ():=by simpa only [argsOk,hsig] using ha
  simp only [ha'];exact sK JW
end
def gK (h:Heap) (d:Addr) (es:Array DictEntry) (ep:Nat):Prop:=∃ o,h.get? d=some o/\o.ExactDict/\o.data=.dict es ep
def gK.at' {h h':Heap} {d:Addr} {es:Array DictEntry} {ep:Nat} (x:gK h d es ep) (k:∀ o,h.get? d=some o->h'.get? d=some o):gK h' d es ep:=let ⟨o,e,r⟩:=x; ⟨o,k o e,r⟩
section
variable {prog:Program} {w:World} {A:Around} {E:Value->Shared->Prop} {s:Shared} {es:Array DictEntry}
def gK.typeIs {d:Addr} {ep:Nat} (x:gK s.heap d es ep):s.TypeIs (.ref d) "dict" := let ⟨o,e,c,_⟩:=x; ⟨o,e,c.1⟩
def vK {d:Addr} {ep:Nat} {Q:Value->Shared->Prop} (hd:(d == sysModules)=false) (hm:gK s.heap d es ep)
  (hQ:Q (.ref s.heap.objs.size) { s with heap:=s.heap.push { cls:=.type "dict_keyiterator",data:=.fields #[.ref d,.int 0 0,.int es.size 0,.int ep 0] } }) :
  wpAny (model prog w) A (pyIter (.ref d)) Q E s:=by
 obtain ⟨o,ho,hc,dH⟩:=id hm;have hT:=hm.typeIs;refine wpAny_pyIter_slot hT F.slot_dict_iter (XV F.slot_dict_iter hT F.entry_dict_iter ?_ (F.args_dict_iter_1 _));unfold Builtin.«dict.__iter__» Builtin.Dict.dictSlotNone;refine kt (kt (wpAny_notOrdered_dict hT ?_));show wpAny _ _ (pure (Value.ref d)) _ _ s;refine sK ?_;show wpAny _ _ (Builtin.Dict.showsAll d >>= _) _ _ s;unfold Builtin.Dict.showsAll;rw [Ch (by rw [hd]; exact wT)];refine kt (sK (kt (wpAny_dictEntries ho dH (kt (wpAny_dictEpoch ho dH ?_)))));refine kt (ZS (sK ⟨_,rfl,"dict_keyiterator",_,⟨_,wn _ rfl,rfl⟩,ZL.lookup,?_⟩))
 simpa [rawInt] using hQ
def uB {it d:Addr} {i ep:Nat} {Q:Option Value->Shared->Prop} (hit:s.heap.IsKeyIter it d i es.size ep) (hm:gK s.heap d es ep)
  (h1:∀ bH:i < es.size,∀ h',h'.IsKeyIter it d (i+1) es.size ep->Heap.SameBut it s.heap h'->Q (some es[i].key) { s with heap:=h' })
  (h2:es.size<=i->A.handled=none/\∀ h',Heap.ExtBut it s.heap h'->Q none { s with heap:=h' }) :
  wpAny (model prog w) A (pyNext (.ref it)) Q E s:=by
 obtain ⟨o,ho,hc,hd⟩:=id hit;obtain ⟨od,LX,cT,wD⟩:=id hm;unfold pyNext;refine kt (wpAny_attempt (wpAny_callSpecial?_slot (name:=Str.ofString "__next__") hit.typeIs ZL
  (XV ZL hit.typeIs F.entry_dict_keyiterator_next ?_ (F.args_dict_keyiterator_next_1 _))))
 refine kt (sK (kt (kt ?_)));refine kt (ZC hit.typeIs (sK ?_));refine kt (wpAny_fieldsOf ho hd ?_);simp only [show Builtin.Dict_items.ownsTuple "dict_keyiterator" = false by decide,On,ZB];show wpAny _ _ (if (Value.ref d == Value.none)=true then _ else _) _ _ s;rw [Ch (show ¬ ((Value.ref d == Value.none)=true) from wT)];refine kt (sK (kt (wpAny_dictEntries LX wD ?_)));rw [Ch (by simp)];refine kt (sK (kt (wpAny_dictEpoch LX wD ?_)));rw [Ch (by simp)];refine sK ?_;rcases _E i es.size with bH | pH
 ·simp only [show ¬ ((i:Int) < 0) from by omega,ZB,Int.toNat_natCast,Array.getElem?_eq_getElem bH];refine kt (kt (ZC hit.typeIs (sK ?_)));refine kt (wpAny_isOneOf_keyiter hit.typeIs ?_);show wpAny _ _ (setField (.ref it) 1 (rawInt ((i:Int)+1)) >>= _) _ _ s;refine kt (wpAny_setField ho hd (by simp) ?_);have hit':(s.heap.update it (Obj.mapFields (·.setIfInBounds 1 (rawInt ((i:Int)+1))))).IsKeyIter it d (i+1) es.size ep :=
   ⟨_,Ty _ ho (Obj.isFreed_of_fields (_L hd _)),(Obj.cls_mapFields ..).trans hc,by rw [_L hd]; simp [rawInt]⟩
  refine kt (Id (kt (wpAny_isOneOf_keyiter (s:={ s with heap:=s.heap.update it (Obj.mapFields (·.setIfInBounds 1 (rawInt ((i:Int)+1)))) }) hit'.typeIs ?_)));show wpAny _ _ (pure es[i].key) _ _ _;exact sK (sK ⟨_,rfl,sK (h1 bH _ hit' (Heap.SameBut.update ..))⟩)
 ·obtain ⟨hh,hQ⟩:=h2 pH;simp only [show ¬ ((i:Int) < 0) from by omega,ZB,Int.toNat_natCast,Array.getElem?_eq_none pH];refine kt (kt (ZC hit.typeIs (sK ?_)));show wpAny _ _ (setField (.ref it) 0 .none >>= _) _ _ s;refine kt (wpAny_setField ho hd (by simp) ?_);show wpAny _ _ (newExc (.type "StopIteration") [] >>= _) _ _ _;refine kt ?_;simp only [newExc,newTuple];refine kt (ZS ?_ (by size_fits));refine kt (m:=firstArgMember _ _) (wpAny_of_eq (a:=Value.none) (by first | rfl | (simp only [firstArgMember]; rfl)) ?_);refine ZS ?_ (by size_fits);simp only [raiseNew];refine kt (wpAny_handled ?_);rw [show A.in1.handled=none from hh];refine kt (sK (wpAny_throw ?_));refine kt (wpAny_isInstance (T := "StopIteration") (b:=true) ⟨_,wn _ rfl,rfl⟩ isSubtype_stop ?_);exact sK (hQ _ (((Heap.SameBut.update ..).extBut.push _).push _))
def xj (hh:A.handled=none) (I d:Addr) (df:d≠I) (es:Array DictEntry) (ep:Nat) :
  Walks prog w A I [I,d] [I] es.size (fun i v=>∃ e,es[i]?=some e/\v=e.key) (fun i h=>h.IsKeyIter I d i es.size ep/\gK h d es ep) where
 sub:=fun b hb=>by simp at hb; simp [hb]
 frame:=fun _ _ _ st hk=>⟨st.1.at fun o e=>hk I (by simp) o e,st.2.at' fun o e=>hk d (by simp) o e⟩
 item:=fun i s Q E hi st hQ=>uB st.1 st.2 (fun bH h' hit' hs'=>hQ _ h' s.toks ⟨es[i],by simp [bH],rfl⟩ ⟨hit',st.2.at' fun o e=>hs'.extBut d o df e⟩ fun b o hb e=>hs'.extBut b o (fun h=>hb (by simp [h])) e) fun pH=>absurd hi (Nat.not_lt.mpr pH)
 done:=fun s Q E st hQ=>uB st.1 st.2 (fun bH=>absurd bH (No _)) fun _=>⟨hh,fun h' he'=>hQ h' s.toks fun b o hb e=>he' b o (fun h=>hb (by simp [h])) e⟩
 self:=fun _ _ _ _ st hQ=>wpAny_pyIter_keyiter st.1 hQ
end
section
variable {X:Cx}
def AZ (te:TE):TE:=fun σ H Q=>te σ H fun x H1=>∃ a kvs,x=.ref a/\H1 a=some (.dT kvs)/\((kvs=[]/\Q .aq H1)\/∃ k v,kvs=[(k,v)]/\∀ p,H1 p=some (.tup (k.map kV))->Q (.ref p) H1)
def VW {e:Expr} {te:TE} {p p2 p3 pos:Pos} {j:Nat} (hc:X.calm=true) (hg:Gl X "min") (hm:X.mg "min" = none) (he:PE X e te) (hs:starEach [e] X.env=[(false,eval e X.env)]:=by rfl) :
  PE X (.Call (.Name "min" p) [e] [⟨some "default",.Constant .none j p2,p3⟩] pos) (AZ te):=by
 intro pins s σ H Q I h;refine KB (my (u:=.builtin "min") I hg hm (by kernel_rfl) ?_);refine callWith_kw ?_ (by rw [hs]; rfl) (by rw [hs]; rfl);rw [hs];show wpAny _ _ (spliced ((false,eval e X.env)::backTo pos [])) _ _ s;refine ZE (aF (he pins s σ H _ I h) fun u s1 ⟨x,H1,I1,rx,a,kvs,ex,hd,q⟩=>ZQ ?_);subst ex;cases (show u=Value.ref a from rx);refine kws_cons (Constant_none (kws_nil ?_));show wpAny _ _ (call (.builtin "min") [.ref a] [("default",.none)]) _ _ s1;obtain ⟨hz,hS,xs,hp,o,es,ep,ho,hex,dH,jl,pB⟩:=id (I1.aB a _ hd);refine Mn (vK hS ⟨o,ho,hex,dH⟩ ?_);have bH:a < s1.heap.objs.size:=wf ho;have hW:=xj (prog:=X.prog) (w:=X.w) (A:=X.A.in1) (I1.ok.hd hc) s1.heap.objs.size a (xL bH) es ep;have wH:(s1.heap.push { cls:=.type "dict_keyiterator",data:=.fields #[.ref a,.int 0 0,.int es.size 0,.int ep 0] }).IsKeyIter s1.heap.objs.size a 0 es.size ep/\gK (s1.heap.push { cls:=.type "dict_keyiterator",data:=.fields #[.ref a,.int 0 0,.int es.size 0,.int ep 0] }) a es ep :=
  ⟨⟨_,wn _ rfl,rfl,rfl⟩,⟨o,li _ ho,hex,dH⟩⟩
 have Cr:∀ b∈[s1.heap.objs.size,a],b < (s1.heap.push { cls:=.type "dict_keyiterator",data:=.fields #[.ref a,.int 0 0,.int es.size 0,.int ep 0] }).objs.size:=fun b hb=>by
  rw [TW];rcases ss.mp hb with e | hb
  ·rw [e]; exact Os _
  ·rw [AC.mp hb]; exact ZR bH
 have kp:∀ h':Heap,(∀ b o,b ∉ [s1.heap.objs.size]->(s1.heap.push { cls:=.type "dict_keyiterator",data:=.fields #[.ref a,.int 0 0,.int es.size 0,.int ep 0] }).get? b=some o->h'.get? b=some o)->∀ b o,s1.heap.get? b=some o->h'.get? b=some o:=fun h' k b o e =>
  k b o (fun z=>by have z':=AC.mp z; have:=wf e; rw [z'] at this; exact No _ this) (li _ e)
 have hsz:es.size=xs.length:=by rw [<- Pi,jl,mo]
 refine ⟨_,_,_,_,_,_,rfl,hW,wH,Cr,?_,fun v h' tk hv hk=>?_⟩
 ·rcases q with ⟨rfl,_⟩ | ⟨k,v,rfl,_⟩
  ·cases hp; rw [hsz]; exact At _
  ·cases hp with | cons _ t=>cases t; rw [hsz]; exact sB _
 ·have I2:Inv X pins σ H1 { s1 with heap:=h',toks:=tk }:=I1.kept (t':=tk) (kp h' hk);rcases q with ⟨rfl,q⟩ | ⟨k,v',rfl,q⟩
  ·cases hp;rcases hv with ⟨_,rfl⟩ | ⟨h1,_⟩
   ·exact ⟨.aq,H1,I2,rfl,q⟩
   ·rw [hsz] at h1; cases h1
  ·cases hp with
   | @cons _ y _ _ hh t =>
    cases t;rcases hv with ⟨h1,_⟩ | ⟨_,e,he,rfl⟩
    ·rw [hsz] at h1; cases h1
    ·rw [<- Ps,jl] at he;cases he;exact ⟨.ref y.2.1,H1,I2,rfl,q _ hh.2.1⟩
end
def bT {f:Str} {v:V} {fs:List (Str×V)} {m:Nat} (h:fs.length<=m):(ay f v fs).length<=m+1:=wE (zg f v fs) (_n h)
def cZ (fs gs:List (Str×V)):Prop:=∀ f,fs.lookup f=gs.lookup f
def cZ.refl (fs:List (Str×V)):cZ fs fs:=fun _=>rfl
def cZ.put {fs gs:List (Str×V)} (h:cZ fs gs) (f:Str) (v:V):cZ (ay f v fs) (ay f v gs):=fun g=>by rw [ee,ee,h g]
section
variable {X:Cx}
def EO {pins:List (Addr×Obj)} {σ:St} {H:Hp} {s:Shared} {Q:VK} {p:Addr} (hc:X.calm=true) (I:Inv X pins σ H s) (hd:H p=some (.dT [])) (q:∀ l,H l=none->Q (.ref l) (upd H l (.lst []))) :
  wpAny (model X.prog X.w) X.A (call (.builtin "sorted") [.ref p]) (EP X pins σ Q) X.xe s:=by
 obtain ⟨hz,hS,xs,hp,o,es,ep,ho,hex,dH,jl,pB⟩:=id (I.aB p _ hd);cases hp;have he:es=#[]:=by
  have:es.toList=[]:=jl;exact Array.toList_eq_nil_iff.mp this
 subst he;have cN:s.heap.DictAt (cS X.prog X.w) p [] ep:=⟨o,#[],ho,hex,dH,fun e z=>absurd z (by simp),.nil,.nil⟩;refine Tk _P _B _C (_D _) ?_;unfold Builtin.«sorted»;refine kt (m:=checkCount "sorted" 1 1 _) (sK ?_);refine kt (Z6 (A:=X.A.in1) (PySem.W.kdl_dict (knd:=cS X.prog X.w) (kvs:=[]) (ep:=ep) hS) (I.ok.hd hc) cN (At _) fun h' tk acc hk' dY=>?_);have ha:acc=#[]:=Array.eq_empty_of_size_eq_zero dY.1;subst ha;refine kt (Z7 ?_ (At _));have ed:(h'.push (seqObj "list" ([]:List Value).toArray 0)).get? h'.objs.size=some (seqObj "list" ([]:List Value).toArray 0):=wn _ rfl;refine kt (Id (XV _i ⟨_,ed,rfl⟩ Z9 (list_sort_treeK strKind_oneLt (vs:=[]) ed (StrsAre.nil).keysOf (fun v₁ v₂ rest e=>nomatch e) (by decide) fun st' a1 a2=>⟨_,rfl,?_⟩) (_j _)));refine sK ⟨_,rfl,?_⟩;obtain ⟨e,he⟩:=_R (out:=(arrOf st').map (·.2)) ed;have aO:arrOf st'=#[]:=Array.eq_empty_of_size_eq_zero (a1.size_eq.trans (pairsOf_size []));rw [aO,Array.map_empty] at he;have I1:Inv X pins σ H { s with heap:=h',toks:=tk }:=I.kept (t':=tk) hk';rw [aO,Array.map_empty];refine ⟨.ref h'.objs.size,_,I1.laid (t':=tk) (fun b o z=>?_) (sB _) (show bN X.prog X.w _ _ _ (.lst []) from ⟨At _,[],e,.nil,he⟩),rfl,q _ (I1.aB.fresh (sB _))⟩;have hb:b < h'.objs.size:=wf z;rw [_N (xL hb) (by have:=TW h' (seqObj "list" ([]:List Value).toArray 0); rw [this]; exact ZR hb)];exact li _ z
def Px (K:PySem.W.Frag):List V->Hp->VK->Prop:=fun xs H Q=>HS K xs H Q\/E2 xs H Q\/∃ p,xs=[.ref p]/\H p=some (.dT [])/\∀ l,H l=none->Q (.ref l) (upd H l (.lst []))
def Qn {K:PySem.W.Frag} (h:X.K=K) (hc:X.calm=true):cq X (.builtin "sorted") (Px K):=by
 subst h;intro pins s σ H xs us Q I r h;rcases h with h | h | ⟨p,rfl,hd,q⟩
 ·exact IX pins s σ H xs us Q I r h
 ·exact S8 hc pins s σ H xs us Q I r h
 ·obtain ⟨u,rfl,rx⟩:=vals1 r;cases rx;exact EO hc I hd q
def pU:bootBuiltins "sorted" = some (.builtin "sorted"):=by kernel_rfl
def Dv.minD {e:Expr} {te:TE} {p p2 p3 pos:Pos} {j:Nat} (hc:X.calm=true) (hm:X.mg "min" = none) (he:QE X e te) (hg:Gl X "min" := by rfl) (hs:starEach [e] X.env=[(false,eval e X.env)]:=by rfl) :
  QE X (.Call (.Name "min" p) [e] [⟨some "default",.Constant .none j p2,p3⟩] pos) (AZ te):=⟨VW hc hg hm he.h hs⟩
end
structure lL (K:PySem.W.Frag) (x qual:Str) (st:Stmt) (f:Addr) (fd:FuncData) (ds:List Value):Prop where
 ex:∃ (oc:Value) (od:Option Addr) (dt:Addr) (kV doc pm:Value) (an:Option Addr) (ax ct:Value) (dA:Array (Option Value)) (o:Obj) (n:Nat),
  fd=PySem.W.fnOf x qual (en st) (aZ st) (aD st) (.ref dt) kV doc pm an ax ct/\K.lookup f=some ⟨oc,od,.func fd,dA⟩/\PySem.W.codeIn K ax qual=true/\K.lookup dt=some o/\o.data=.seq ds.toArray n
 kp:PySem.W.keepIn K (.ref f)=true
section
variable {P:Program} {w:World} {K:PySem.W.Frag} {mg:Str->Option Value} {base:Heap} {CX:dD} {x qual:Str} {st:Stmt} {f:Addr} {fd:FuncData} {N ps:List Str} {k:Nat} {ds:List Value}
def lL.eK {sp:Sp} (F:lL K x qual st f fd ds) (S:aG N ps (aD st)) (len:∀ vs H Q E,sp vs H Q E->vs.length=ps.length)
  (hb:∀ (ax:Value) (A:Around) (outer:List Env) (s:Shared) (H:Hp) (vs:List V) (Q:VK) (E:XK),bx k (A.deeper (envOfC qual (aD st) s.heap.objs.size f ax))->sp vs H Q E ->
   ∃ t,dQ (fh CX P w K mg base N qual (aD st) f ax A outer s H E) (aZ st) t/\t { nx:=fun _ H'=>Q .aq H',rt:=Q } (start N vs) H):aC P w K mg base CX (k+1) f fd ps sp:=by
 obtain ⟨oc,od,dt,kV,doc,pm,an,ax,ct,dA,o,n,rfl,lk,cT,_⟩:=F.ex;exact zT lk cT S len fun A outer s H vs Q E hr gY=>hb ax A outer s H vs Q E hr gY
def Od {oc:Value} {od an:Option Addr} {dA:Array (Option Value)} {kV doc pm ax ct:Value} {dt:Addr} {o:Obj} {n:Nat} (l:K.lookup f=some ⟨oc,od,.func (PySem.W.fnOf x qual (en st) (aZ st) (aD st) (.ref dt) kV doc pm an ax ct),dA⟩)
  (c:PySem.W.codeIn K ax qual=true) (k:PySem.W.keepIn K (.ref f)=true) (ld:K.lookup dt=some o) (hd:o.data=.seq ds.toArray n):lL K x qual st f (PySem.W.fnOf x qual (en st) (aZ st) (aD st) (.ref dt) kV doc pm an ax ct) ds :=
 ⟨⟨oc,od,dt,kV,doc,pm,an,ax,ct,dA,o,n,rfl,l,c,ld,hd⟩,k⟩
end
section
variable {X:Cx}
end
def fG {X:Cx}:iD X (fun _=>E0) where
 pass:=fun pins σ H s e s' I hc=>by
  obtain ⟨ea,C,od,H',rfl,F,hE⟩:=hc;exact hE.elim
section
variable {X:Cx}
end
def iE {α:Type} (p:α->Prop):List α->Prop
 | []=>True
 | a::r=>p a/\iE p r
def iE.mem {α:Type} {p:α->Prop}:∀ {l:List α},iE p l->∀ a∈l,p a
 | _::_,h,a,ha=>by
  rcases ss.mp ha with rfl | ha
  ·exact h.1
  ·exact iE.mem h.2 a ha
section
variable {X:Cx}
def vz {pins:List (Addr×Obj)} {σ:St} {H:Hp} {s:Shared} {A:Around} {a b:Addr} {xs ys:List V} (I:Inv X pins σ H s) (ha:aE X.K H a xs) (hb:aE X.K H b ys) (h0:xs=[]\/ys=[]) (hu:A.units < cLine) :
  SeqAt.RcAt A s (.ref a) (.ref b) (decide (xs=ys))/\SeqAt.RcNeAt A s (.ref a) (.ref b) (!decide (xs=ys)):=by
 obtain ⟨i1,r1,p1,_⟩:=I.list ha;obtain ⟨i2,r2,p2,_⟩:=I.list hb;have n1:i1.toArray.size=xs.length:=by rw [tz,<- r1.length]
 have n2:i2.toArray.size=ys.length:=by rw [tz,<- r2.length]
 by_cases h:xs.length=ys.length
 ·have e1:xs=[]:=by
   rcases h0 with e | e
   ·exact e
   ·rw [e] at h; exact ST.mp h
  have e2:ys=[]:=by rw [e1] at h; exact ST.mp h.symm
  subst e1 e2;have hsz:i1.toArray.size=i2.toArray.size:=by rw [n1,n2]
  have hz:i1.toArray.size=0:=n1;have k1:=SeqAt.RcAt.lists (A:=A) (s:=s) (e:=fun _=>true) p1.isList p2.isList hsz hu (fun j g1 g2=>absurd g1 (by rw [hz]; exact _v _));have k2:=_K (A:=A) (s:=s) (e:=fun _=>true) p1.isList p2.isList hsz hu (fun j g1 g2=>absurd g1 (by rw [hz]; exact _v _));rw [hz] at k1 k2;exact ⟨k1,k2⟩
 ·have hsz:(i1.toArray.size != i2.toArray.size)=true:=by rw [n1,n2]; simpa using h
  have e:decide (xs=ys)=false:=ut fun z=>h (by rw [z]);rw [e];exact ⟨SeqAt.RcAt.lists_lengths p1.isList p2.isList hsz hu,SeqAt.RcNeAt.lists_lengths p1.isList p2.isList hsz hu⟩
def nZ (K:PySem.W.Frag) (neg:Bool):R2:=fun x y H Q=>match x,y with
 | .ref a,.ref b=>∃ xs ys:List V,aE K H a xs/\aE K H b ys/\((ys=[]/\Q (.bl (neg ^^ xs.isEmpty)) H)\/(xs=[]/\Q (.bl (neg ^^ ys.isEmpty)) H))
 | _,_=>False
def Hf {xs ys:List V} (h:ys=[]):decide (xs=ys)=xs.isEmpty:=by subst h; cases xs <;> simp
def Ij {xs ys:List V} (h:xs=[]):decide (xs=ys)=ys.isEmpty:=by subst h; cases ys <;> simp
def Qj {K:PySem.W.Frag} (hK:X.K=K) (hu:X.A.units < cLine):aW X (compareOp .Eq) (nZ K false):=by
 subst hK;intro pins s σ H x y v u Q I rx ry h;unfold nZ at h;split at h
 ·obtain ⟨xs,ys,ha,hb,q⟩:=h;cases rx; cases ry;simp only [Bool.false_bne] at q;rcases q with ⟨e,q⟩ | ⟨e,q⟩
  ·exact (vz I ha hb (.inr e) hu).1 _ _ _ _ ⟨.bl _,H,I,rfl,by rw [Hf e]; exact q⟩
  ·exact (vz I ha hb (.inl e) hu).1 _ _ _ _ ⟨.bl _,H,I,rfl,by rw [Ij e]; exact q⟩
 ·exact h.elim
def Pw {K:PySem.W.Frag} (hK:X.K=K) (hu:X.A.units < cLine):aW X (compareOp .NotEq) (nZ K true):=by
 subst hK;intro pins s σ H x y v u Q I rx ry h;unfold nZ at h;split at h
 ·obtain ⟨xs,ys,ha,hb,q⟩:=h;cases rx; cases ry;simp only [Bool.true_bne] at q;rcases q with ⟨e,q⟩ | ⟨e,q⟩
  ·exact (vz I ha hb (.inr e) hu).2 _ _ _ _ ⟨.bl _,H,I,rfl,by rw [Hf e]; exact q⟩
  ·exact (vz I ha hb (.inl e) hu).2 _ _ _ _ ⟨.bl _,H,I,rfl,by rw [Ij e]; exact q⟩
 ·exact h.elim
def BM:V->List V->Hp->VK->Prop:=fun x vs H Q=>match x,vs with
 | .ref l,[]=>∃ xs y,H l=some (.lst (xs++[y]))/\Q y (upd H l (.lst xs))
 | _,_=>False
def Ik:dB X "list.pop" BM:=dB.imp (r:=Ia) XM fun x vs H Q h=>by
 unfold BM at h;split at h
 ·obtain ⟨xs,y,hl,q⟩:=h;refine ⟨_,xs++[y],y,rfl,rfl,hl,?_,?_⟩
  ·simp
  ·rw [List.dropLast_concat]; exact q
 ·exact h.elim
def Oi:V->List V->Hp->VK->Prop:=fun x vs H Q=>match x,vs with
 | .ref l,[]=>∃ xs,H l=some (.lst xs)/\Q .aq (upd H l (.lst []))
 | _,_=>False
def Su:List V->Hp->VK->Prop:=fun xs H Q=>∃ p kvs,xs=[.ref p]/\H p=some (.dT kvs)/\∀ l (ks:List Addr),ks.length=kvs.length->(∀ (i:Nat) (a:Addr) (k:List Key) (v:V),ks[i]?=some a->kvs[i]?=some (k,v)->H a=some (.tup (k.map kV)))->H l=none ->
 Q (.ref l) (upd H l (.lst (ks.map V.ref)))
end
def UD {prog:Program} {w:World} {d:Addr} {es:Array DictEntry} {ep:Nat} (lo:(d == sysModules)=false):PySem.W.KdlSrc prog w "dict" d d es.size (fun i v=>∃ e,es[i]?=some e/\v=e.key) (fun h=>gK h d es ep) where
 type:=fun _ hm=>hm.typeIs
 there:=fun _ hm=>let ⟨_,e,_⟩:=hm; ⟨wf e,wf e⟩
 keep:=fun _ _ hm hk=>hm.at' fun o e=>hk d (.inl rfl) o e
 notList:=by decide
 notTuple:=by decide
 hint:=fun _ _ _ _ hm hq=>PySem.W.kdl_hint_dict hm.typeIs hq
 iter:=fun _ _ hh hm=>⟨_,_,(fun _ _ hq=>vK lo hm hq),xj hh _ d (let ⟨_,e,_⟩:=hm; xL (wf e)) es ep,⟨⟨_,wn _ rfl,rfl,rfl⟩,hm.at' fun o e=>li _ e⟩⟩
def AR {α β:Type} {F:α->β->Prop}:∀ {l₁:List α} {l₂:List β},Paired F l₁ l₂->∀ {i:Nat} {a:α} {b:β},l₁[i]?=some a->l₂[i]?=some b->F a b
 | _,_,.cons h _,0,_,_,e1,e2=>by cases e1; cases e2; exact h
 | _,_,.cons _ t,i+1,_,_,e1,e2=>AR t e1 e2
section
variable {X:Cx}
def Bz:∀ {vs:List V} {us:List Value},vs.length=us.length->(∀ (i:Nat) (v:V) (u:Value),vs[i]?=some v->us[i]?=some u->RelV v u)->Vals vs us
 | [],[],_,_=>.nil
 | v::vs,u::us,e,h=>.cons (h 0 v u rfl rfl) (Bz (by simpa using e) fun i v u h1 h2=>h (i+1) v u h1 h2)
def Pa (hc:X.calm=true):cq X (.type "list") Su:=by
 intro pins s σ H xs us Q I r h;obtain ⟨p,kvs,rfl,hd,q⟩:=h;obtain ⟨u,rfl,rx⟩:=vals1 r;cases rx;obtain ⟨hz,hS,ys,hp,o,es,ep,ho,hex,dH,jl,pB⟩:=id (I.aB p _ hd);have hsz:es.size=ys.length:=by rw [<- Pi,jl,mo]
 have j0:kvs.length=ys.length:=hp.length;refine PySem.W.kdl_call (UD (prog:=X.prog) (w:=X.w) (ep:=ep) (es:=es) hS) (I.ok.hd hc) ⟨o,ho,hex,dH⟩ (by rw [hsz,<- j0]; exact hz) fun h' tk acc c hk hD dY=>?_;have hal:acc.toList.length=ys.length:=by rw [Pi,dY.1,hsz]
 have hv:Vals ((ys.map (·.2.1)).map V.ref) acc.toList:=by
  refine Bz (by simp [hal]) fun i v u h1 h2=>?_;obtain ⟨e,he,rfl⟩:=dY.2 i u (by rw [<- Ps]; exact h2);rw [<- Ps,jl,FS] at he;rw [SZ,FS] at h1;cases hy:ys[i]? with
  | none=>rw [hy] at h1; cases h1
  | some y =>
   rw [hy] at h1 he;cases h1; cases he;exact rfl
 refine ⟨.ref s.heap.objs.size,_,I.laid (t':=tk) hk (sB _) (show bN X.prog X.w _ _ _ (.lst ((ys.map (·.2.1)).map V.ref)) from ⟨?_,_,c,hv,?_⟩),rfl,q _ (ys.map (·.2.1)) ?_ (fun i a k v h1 h2=>?_) (I.aB.fresh (sB _))⟩
 ·simp only [mo]; rw [<- j0]; exact hz
 ·rw [Z2]; exact hD
 ·rw [mo,j0]
 ·rw [FS] at h1;cases hy:ys[i]? with
  | none=>rw [hy] at h1; cases h1
  | some y =>
   rw [hy] at h1;cases h1;have z:=AR hp h2 hy;exact z.2.1
end
def Nf:typeLookup (.type "list_reverseiterator") "__len__" = pure none:=by rw [typeLookup_type,builtinLookup_eq_fast]; kernel_rfl
def OC:typeLookup (.type "list_reverseiterator") "__length_hint__" = pure (some (.builtin "list_reverseiterator.__length_hint__")):=by rw [typeLookup_type,builtinLookup_eq_fast]; kernel_rfl
section
variable {prog:Program} {w:World} {A:Around} {E:Value->Shared->Prop} {s:Shared} {I:Addr}
def SA {Q:Bool->Shared->Prop} (hT:s.TypeIs (.ref I) "list_reverseiterator") (h:Q false s):wpAny (model prog w) A (Builtin.List.listLengthHint (.ref I)) Q E s:=by
 unfold Builtin.List.listLengthHint;refine kt (wpAny_specialOf hT Nf ?_);show wpAny _ A (specialOf (Value.ref I) (Str.ofString "__length_hint__") >>= _) _ _ _;refine kt (wpAny_specialOf hT OC ?_);generalize hid:("list_reverseiterator.__length_hint__" : String)=id0
 wp_delta
 rw [show splitId id0=some ("list_reverseiterator","__length_hint__") from by subst hid; decide +kernel];subst hid;refine kt (wpAny_isInstance (T := "list_reverseiterator") (b:=true) hT (by rw [isSubtype_type]; kernel_rfl) ?_);refine _w (fun dG=>absurd dG (by decide)) (fun _=>?_);refine _w (fun _=>?_) (fun dG=>absurd (by decide +kernel) dG);refine _w (fun dG=>absurd dG (by decide +kernel)) (fun _=>?_);exact sK h
def Ro {R:Result->Shared->Prop} {l S:Addr} {items:Array Value} {res:Value} {c₀:Nat} (hh:A.handled=none) (hit:s.heap.IsRevIter I l ((items.size:Int) - 1)) (hl:s.heap.IsList l items) (df:l≠I) (Mg:S≠I) (hSl:S≠l) (hn:items.size<=sizeLine)
  (hS:s.heap.get? S=some { cls:=.type "list",data:=.seq #[] c₀ })
  (hR:∀ h' tk acc' c',(∀ b o,b≠S->b≠I->s.heap.get? b=some o->h'.get? b=some o)->h'.get? S=some { cls:=.type "list",dict:=none,data:=.seq acc' c',slots:=#[] }->ItemsOf (fun i v=>items[items.size - 1 - i]?=some v) acc' items.size->R (.ok (.ret res)) { s with heap:=h',toks:=tk }) :
  wpAny (model prog w) A.in1 (Builtin.List.listExtendWith (.ref S) (.ref I) res)
   (fun fin s'=>match fin with | .done f=>R (.ok f) s' | .again c'=>c'.quiet=true/\codeAny (model prog w) A c' R s') (fun e s'=>R (.error e) s') s:=by
 have W:=Walks.listRev (prog:=prog) (w:=w) (A:=A.in1) hh I l df items;have pG:S ∉ [I,l]:=by simp only [ss,u8,EQ,ZP]; exact ⟨Mg,hSl⟩
 have wH:0<=items.size/\s.heap.IsRevIter I l ((items.size:Int) - 1 - ((0:Nat):Int))/\s.heap.IsList l items:=⟨At _,by simpa using hit,hl⟩;unfold Builtin.List.listExtendWith;refine kt (wpAny_typeOf hit.typeIs ?_);have h1:Builtin.List.listSameRef (.ref S) (.ref I)=false:=by simp [Builtin.List.listSameRef,Mg]
 simp only [h1,show (Value.type "list_reverseiterator" == Value.type "list")=false by decide,show (Value.type "list_reverseiterator" == Value.type "tuple")=false by decide,_Q,On,ZB];refine kt (W.self 0 _ _ _ wH ?_);refine kt (Id (SA hit.typeIs ?_));refine _w (fun h=>absurd h (by decide)) (fun _=>sK ⟨plainId_quiet PySem.F.plain_extend_loop _,?_⟩);refine codeAny_extend_loopS W.toS hn S pG res items.size 0 _ #[] c₀ rfl (At _) wH hS (ItemsOf.nil _) fun s' acc' c' hm hS' dY=>?_;rw [Moved.eq_with hm];refine hR s'.heap s'.toks acc' c' (fun b o hb hb' e=>hm.heap b o (fun hmem=>?_) e) hS' dY;rcases ss.mp hmem with e' | hmem
 ·exact hb e'
 ·exact hb' (AC.mp hmem)
def WW {Q:Value->Shared->Prop} {l:Addr} {items:Array Value} (hh:A.handled=none) (hit:s.heap.IsRevIter I l ((items.size:Int) - 1)) (hl:s.heap.IsList l items) (df:l≠I) (hn:items.size<=sizeLine)
  (hQ:∀ h' tk acc' c',(∀ b o,b≠I->s.heap.get? b=some o->h'.get? b=some o)->h'.get? s.heap.objs.size=some { cls:=.type "list",dict:=none,data:=.seq acc' c',slots:=#[] }->ItemsOf (fun i v=>items[items.size - 1 - i]?=some v) acc' items.size ->
   Q (.ref s.heap.objs.size) { s with heap:=h',toks:=tk }):wpAny (model prog w) A (call (.type "list") [.ref I]) Q E s:=by
 have hIlt:I < s.heap.objs.size:=let ⟨_,e,_⟩:=hit; wf e
 have hllt:l < s.heap.objs.size:=let ⟨_,e,_⟩:=hl; wf e
 refine callType_codes (Q₁:=fun obj s₁=>obj=.ref s.heap.objs.size/\s₁={ s with heap:=s.heap.push { cls:=.type "list",data:=.seq #[] } }) PySem.F.called_list (PySem.F.typeCall_list_1 _) PySem.F.entry_list_init
  (code_list_new _ ⟨rfl,rfl⟩) fun obj s₁ h₁=>?_
 obtain ⟨rfl,rfl⟩:=h₁;have hS:(s.heap.push { cls:=.type "list",data:=.seq #[] }).get? s.heap.objs.size=some { cls:=.type "list",data:=.seq #[] }:=wn _ rfl;refine ⟨⟨_,hS,rfl⟩,PySem.F.args_list_init_2 _ _,?_⟩;show wpAny _ _ (do let old <- Builtin.List.listItems (.ref s.heap.objs.size); Builtin.List.listUpdate (.ref s.heap.objs.size) (fun _=>#[]); letGo old.toList.reverse; Builtin.List.listExtendWith (.ref s.heap.objs.size) (.ref I) .none) _ _ _;refine kt ?_;unfold Builtin.List.listItems;refine kt (_O hS rfl (sK ?_));show wpAny _ _ (updateSeq s.heap.objs.size (fun _=>#[]) >>= fun _=>letGo (#[]:Array Value).toList.reverse >>= fun _=>Builtin.List.listExtendWith (.ref s.heap.objs.size) (.ref I) .none) _ _ _;refine kt (wpAny_updateSeq hS rfl ?_);have hS₂:=Ty (Obj.mapSeq (fun _=>(#[]:Array Value))) hS rfl;have kU:∀ b o,s.heap.get? b=some o->((s.heap.push { cls:=.type "list",data:=.seq #[] }).update s.heap.objs.size (Obj.mapSeq (fun _=>(#[]:Array Value)))).get? b=some o :=
  fun b o e=>(IR _ _ (_d (wf e))).trans (li _ e)
 refine kt (wpAny_letGo ?_);refine Ro (A:=A.in1) hh (hit.at fun o e=>kU _ o e) (hl.at fun o e=>kU _ o e) df (_d hIlt) (_d hllt) hn hS₂ fun h' tk acc' c' hk hS' dY=>?_;exact ⟨rfl,hQ h' tk acc' c' (fun b o hb e=>hk b o (xL (wf e)) hb (kU b o e)) hS' dY⟩
end
section
variable {X:Cx}
def yu (K:PySem.W.Frag) (te:TE):TE:=fun σ H Q=>te σ H fun x H1=>∃ p ys,x=.ref p/\aE K H1 p ys/\∀ l,H1 l=none->Q (.ref l) (upd H1 l (.lst ys.reverse))
def UC {e:Expr} {te:TE} {p q pos qos:Pos} (hc:X.calm=true) (hg:Gl X "list") (hm:X.mg "list" = none) (C4:Gl X "reversed") (DK:X.mg "reversed" = none) (he:PE X e te) (hs:starEach [e] X.env=[(false,eval e X.env)]:=by rfl) :
  PE X (.Call (.Name "list" p) [.Call (.Name "reversed" q) [e] [] qos] [] pos) (yu X.K te):=by
 intro pins s σ H Q I h;refine KB (my (u:=.type "list") I hg hm (by kernel_rfl) ?_);refine WF ?_;show wpAny _ _ (spliced ((false,eval (.Call (.Name "reversed" q) [e] [] qos) X.env)::backTo pos (starEach [] X.env))) _ _ s;refine ZE ?_;refine KB (my (u:=.type "reversed") I C4 DK (by kernel_rfl) ?_);refine WF ?_ (by rw [hs]; rfl) (by rfl);rw [hs];show wpAny _ _ (spliced ((false,eval e X.env)::backTo qos [])) _ _ s;refine ZE (aF (he pins s σ H _ I h) fun u s1 ⟨x,H1,I1,rx,a,ys,ex,hl,q⟩=>ZQ ?_);subst ex;cases (show u=Value.ref a from rx);obtain ⟨aj,r',pl,hz⟩:=I1.list hl;have hlen:=r'.length;obtain ⟨oa,hoa,_⟩:=pl.isList;have halt:a < s1.heap.objs.size:=wf hoa;refine call_reversed_list pl.isList ?_;refine ZQ ?_;refine WW (I1.ok.hd hc) (l:=a) (items:=aj.toArray) ⟨_,wn _ rfl,rfl,rfl⟩ (pl.isList.at fun o e=>li _ e) (xL halt) (by rw [tz,<- hlen]; exact hz) fun h' tk acc c hk hD dY=>?_;have kp:∀ b o,s1.heap.get? b=some o->h'.get? b=some o:=fun b o e=>hk b o (xL (wf e)) (li _ e);have hsz:s1.heap.objs.size<=(s1.heap.push (revObj a ((aj.toArray.size:Int) - 1))).objs.size:=by rw [TW]; exact ZW _
 have hv:Vals ys.reverse acc.toList:=by
  have ha:acc.size=aj.length:=by rw [dY.1,tz]
  refine Bz (by rw [Wp,hlen,<- ha]; exact Pi.symm) fun i v u h1 h2=>?_;have hu:=dY.2 i u (by rw [<- Ps]; exact h2);have hi:i < ys.length:=by have:=(lv.mp h1).1; rwa [Wp] at this
  rw [List.getElem?_reverse hi] at h1;obtain ⟨w,hw,rw'⟩:=r'.get h1;rw [List.getElem?_toArray,tz,<- hlen,hw] at hu;cases hu;exact rw'
 refine ⟨.ref _,_,I1.laid (t':=tk) kp hsz (show bN X.prog X.w _ _ _ (.lst ys.reverse) from ⟨by rw [Wp]; exact hz,_,c,hv,by rw [Z2]; exact hD⟩),rfl,q _ (I1.aB.fresh hsz)⟩
def Dv.listRev {e:Expr} {te:TE} {p q pos qos:Pos} {K:PySem.W.Frag} (hK:X.K=K) (hc:X.calm=true) (hm:X.mg "list" = none) (DK:X.mg "reversed" = none) (he:QE X e te) (hg:Gl X "list" := by rfl) (C4:Gl X "reversed" := by rfl) (hs:starEach [e] X.env=[(false,eval e X.env)]:=by rfl) :
  QE X (.Call (.Name "list" p) [.Call (.Name "reversed" q) [e] [] qos] [] pos) (yu K te):=hK ▸ ⟨UC hc hg hm C4 DK he.h hs⟩
end
def Zl {K:PySem.W.Frag} {x:Str} {f c P:Addr} {oc occ:Value} {od odc:Option Addr} {fd:FuncData} {sl slc:Array (Option Value)} {vs:Array Value} (n:PySem.W.nsIn K mainGlobals x=some (some (.ref f))) (l:K.lookup f=some ⟨oc,od,.func fd,sl⟩) (hc:fd.code=.ref c)
  (lc:K.lookup c=some ⟨occ,odc,.fields vs,slc⟩) (hv:vs[11]?=some (.ref P)):PySem.W.tabIn K x=some (c,P):=by
 unfold PySem.W.tabIn;simp only [n,l,hc,lc,hv]
def cA (X:Cx) (scope:Scope) (cl:List (Str×Addr)) (N:List Str) (s:Shared) (H:Hp) (ex:List Addr) (C:Addr):Cx :=
 { X with N:=N,s₀:=s,H₀:=H,env:=compEnvC scope cl C X.env,outer:=X.stack,stack:=X.stack,ex:=ex,fn:=fun _=>false,pn:=[],xe:=fun _ _=>False }
structure jb (X:Cx) (scope:Scope) (cl:List (Str×Addr)) (caps:List Str) (ix:List Nat):Prop where
 lH:closureFor scope X.env=pure cl
 sub:∀ x c,cl.lookup x=some c->X.env.cells.lookup x=some c
 has:∀ y,((relabel scope X.env).names.lookup y=some .cell\/(relabel scope X.env).names.lookup y=some .free)->∃ c,cl.lookup y=some c
 len:ix.length=caps.length
 at':∀ (i j:Nat),ix[i]?=some j->∃ x,caps[i]?=some x/\X.N[j]?=some x/\X.env.scope.names.lookup x=some .cell/\(relabel scope X.env).names.lookup x=some .cell/\cl.lookup x=X.env.cells.lookup x
def jb.of {X:Cx} {scope:Scope} {cl:List (Str×Addr)} {caps:List Str} {ix:List Nat} (lH:closureFor scope X.env=pure cl) (sub:iE (fun e:Str×Addr=>X.env.cells.lookup e.1=some e.2) cl)
  (has:iE (fun e:Str×NameKind=>(e.2=.cell\/e.2=.free)->∃ c,cl.lookup e.1=some c) (relabel scope X.env).names) (len:ix.length=caps.length)
  (at':iE (fun e:Nat×Str=>X.N[e.1]?=some e.2/\X.env.scope.names.lookup e.2=some .cell/\(relabel scope X.env).names.lookup e.2=some .cell/\cl.lookup e.2=X.env.cells.lookup e.2) (ix.zip caps)):jb X scope cl caps ix where
 lH:=lH
 sub:=fun x c h=>iE.mem sub _ (Rs h)
 has:=fun y hy=>by
  rcases hy with h | h
  ·exact iE.mem has _ (Rs h) (.inl rfl)
  ·exact iE.mem has _ (Rs h) (.inr rfl)
 len:=len
 at':=fun i j h=>by
  have hi:=(lv.mp h).1;have hi':i < caps.length:=len ▸ hi;have hm:(j,caps[i])∈ix.zip caps:=by
   refine List.mem_iff_getElem?.mpr ⟨i,?_⟩;rw [List.getElem?_zip_eq_some];exact ⟨h,ul hi'⟩
  have z:=iE.mem at' _ hm;exact ⟨caps[i],ul hi',z⟩
def lZ (n:Nat) (ix:List Nat) (wi:TI) (g:TG) (tt:TT) (te:TE):TE:=fun σ H Q=>∃ vs,lX ix σ vs/\wi σ H fun J H1=>∃ W:Nat->List V->Nat->Hp->Prop,(∃ m,W 0 [] m H1)/\∀ i ys m H,W i ys m H ->
 ys.length<=sizeLine/\((J.stop i H/\∀ l,H l=none->Q (.ref l) (upd H l (.lst ys))) \/
  (J.go i H/\ys.length < sizeLine/\∀ y H',J.jz i H y H'->∀ σ0:St,σ0.length=n->g y (σ0++vs.map some) H' fun σ1 H1=>(∃ σ2:St,σ1=σ2++vs.map some/\σ2.length=n) /\
   tt σ1 H1 fun c H2=>if c=true then te σ1 H2 fun z H3=>∃ m',m' < m/\W (i+1) (ys++[z]) m' H3 else ∃ m',m' < m/\W (i+1) ys m' H2))
section
variable {X:Cx}
def Ri {pins:List (Addr×Obj)} {σ:St} {H:Hp} {s s4:Shared} {scope:Scope} {cl:List (Str×Addr)} {TN caps:List Str} {ix:List Nat} {vs:List V} {fp:List Addr} {C:Addr} {m:Str->Option Value} (I:Inv X pins σ H s) (CC:jb X scope cl caps ix) (hv:lX ix σ vs) (hf:∀ b∈fp,jQ X pins H b) (bH:∀ b∈fp,b < s.heap.objs.size)
  (hk:scope.kind=.function) (hC:s.heap.objs.size<=C)
  (hos:s4.os=s.os) (hgen:s4.gens=s.gens) (old:∀ b o,s.heap.get? b=some o->s4.heap.get? b=some o) (fX:s4.heap.Ns C m):Inv (cA X scope cl (TN++caps) s H fp C) [] ((TN.map fun _=>none)++vs.map some) H s4:=by
 refine ⟨⟨I.ok.mod,hk,I.ok.glob,I.ok.blt,hC,fun x y c e1 e2=>I.ok.inj x y c (CC.sub x c e1) (CC.sub y c e2),fun y hy=>CC.has y hy,fun _ _ e=>(by cases e),I.ok.hd,I.ok.frames,.inl rfl,fun b hb=>⟨xL (xz (bH b hb) hC),fun x c e=>(hf b hb).2.2.2.2.1 x c (CC.sub x c e)⟩,
  fun b o e=>I.bs b o e,wE I.ok.jI I.sz,fun b o e hb=>?_,fun b hb hm=>?_,I.stack,I.u4⟩,
  hos,by rw [hgen]; exact I.bare,Un.kept old,⟨m,fX,fun i y v e1 e2 _=>?_⟩,fun x c e=>?_,I.aB.fresh hC,fun x c e=>I.ie x c (CC.sub x c e),fun p hp=>absurd (show p∈([]:List (Addr×Obj)) from hp) (by simp),I.aB.kept old,?_⟩
 ·rcases (hf b hb).2.2.2.1 with z | z
  ·exact I.ok.sr b o e z
  ·exact absurd (xz (xz (wf e) I.ok.jI) z) (No _)
 ·rcases ss.mp (I.wa b hm) with z | z
  ·exact (hf b hb).2.1 z
  ·exact (hf b hb).2.2.1 z
 ·have e1':(TN++caps)[i]?=some y:=e1;have e2':((TN.map fun _=>(none:Option V))++vs.map some)[i]?=some (some v):=e2;by_cases hi:i < TN.length
  ·rw [zn (by simpa using hi),FS] at e2';cases h:TN[i]? <;> rw [h] at e2' <;> simp at e2'
  ·rw [Fk (by omega)] at e1';rw [Fk (by simpa using Nat.not_lt.mp hi),mo,FS] at e2';have ev:vs[i - TN.length]?=some v:=by
    cases h:vs[i - TN.length]? with
    | none=>rw [h] at e2'; cases e2'
    | some a=>rw [h] at e2'; cases e2'; rfl
   have hlt':i - TN.length < ix.length:=by
    rw [<- hv.1]; exact (lv.mp ev).1
   obtain ⟨x,c1,c2,c3,c4,c5⟩:=CC.at' _ _ (ul hlt');rw [e1'] at c1; cases c1;have hσ:=hv.2 _ _ v (ul hlt') ev;obtain ⟨m0,_,hl⟩:=I.loc;obtain ⟨u,ru,lk⟩:=hl _ y v c2 hσ (.inr (.inl c3));rcases lk with ⟨k1,_⟩ | ⟨_,c,k2,o,k3,k4⟩
   ·have:X.env.scope.names.lookup y=some .local:=k1;rw [c3] at this; cases this
   ·exact ⟨u,ru,.inr ⟨.inl c4,c,by show cl.lookup y=some c; rw [c5]; exact k2,o,old _ _ k3,k4⟩⟩
 ·obtain ⟨v,o,e1,e2⟩:=I.cell x c (CC.sub x c e);exact ⟨v,o,old _ _ e1,e2⟩
 ·show ((TN.map fun _=>(none:Option V))++vs.map some).length=(TN++caps).length;rw [ww,ww,mo,mo,hv.1,CC.len]
def G4 {elt iter:Expr} {ifs:List Expr} {tg:Expr} {g:TG} {TN caps:List Str} {ix:List Nat} {cl:List (Str×Addr)} {pos:Pos} {scope:Scope} {wi:TI} {tt:TT} {te:TE} (hc:X.calm=true) (hi:PI X tg iter wi)
  (ht:∀ s H ex C,oi (cA X scope cl (TN++caps) s H ex C) ifs tt) (gA:∀ s H ex C,PG (cA X scope cl (TN++caps) s H ex C) tg g) (he:∀ s H ex C,PE (cA X scope cl (TN++caps) s H ex C) elt te) (CC:jb X scope cl caps ix)
  (hk:scope.kind=.function) (gx:∀ y∈scope.names,y.2≠.cell)
  {pins:List (Addr×Obj)} {s:Shared} {σ:St} {H:Hp} {Q:VK} {RR:Value->Addr->Result->Shared->Prop} (I:Inv X pins σ H s) (h:lZ TN.length ix wi g tt te σ H Q)
  (hRR:∀ (a C:Addr) (s6:Shared) (H6:Hp),Inv X pins σ H6 s6->(∃ m,s6.heap.Ns C m)->xy X pins H6 C->Q (.ref a) H6->RR (.ref a) C (.ok .next) s6) :
  wpAny (model X.prog X.w) X.A (eval iter X.env) (fun v s1=>wpAny (model X.prog X.w) X.A (pyIter v) (fun it s2=>wpAny (model X.prog X.w) X.A (newList []) (fun acc s3 =>
   wpAny (model X.prog X.w) X.A (newFunctionEnv scope X.env.globals cl [] X.env.qual none .none (some X.env)) (fun KI s4 =>
    codeAny (model X.prog X.w) X.A (.compStart (.ListComp elt [⟨tg,iter,ifs,0⟩] scope pos) 0 it acc { KI with scope:=relabel scope X.env }) (RR acc KI.locals) s4) X.xe s3) X.xe s2) X.xe s1) X.xe s:=by
 obtain ⟨vs,hvs,h⟩:=h;refine aF (hi pins s σ H _ I h) fun v s1 h1=>aF h1 fun Cp s2 h2=>?_;obtain ⟨it,fp,tn,J,H2,rfl,I2,T,jm,f2,W,⟨m0,w0⟩,turn⟩:=h2;have bH:∀ b∈fp,b < s2.heap.objs.size:=fun b hb=>let ⟨o,e,_⟩:=T.obj _ _ jm b hb; wf e
 refine ZS (wpAny_newFunctionEnv gx (by intro y hy; simp at hy) (fun h1 hns1 hsb1=>?_) hk);dsimp only at hns1 hsb1 ⊢;generalize CQ:s2.heap.push { cls:=.type "list",dict:=none,data:=.seq ([]:List Value).toArray }=G at hns1 hsb1 ⊢;have hG:G.objs.size=s2.heap.objs.size+1:=by rw [<- CQ,TW]
 have we:s2.heap.objs.size≠G.objs.size:=by rw [hG]; exact xL (Os _)
 have mF:s2.heap.objs.size<=G.objs.size:=by rw [hG]; exact ZW _
 have old:∀ b o,s2.heap.get? b=some o->h1.get? b=some o:=fun b o e=>by
  exact hsb1.extBut b o (xL (xz (wf e) mF)) (li _ (CQ ▸ li _ e))
 have accO:h1.get? s2.heap.objs.size=some { cls:=.type "list",dict:=none,data:=.seq ([]:List Value).toArray } :=
  hsb1.extBut _ _ we (li _ (CQ ▸ wn _ rfl))
 -- gF state at gF block's entry
 have main:∀ s4:Shared,s4={ s2 with heap:=h1,toks:=s2.toks+([]:List (Str×Value)).length } ->
   codeAny (model X.prog X.w) X.A (.compLoop (.ListComp elt [⟨tg,iter,ifs,0⟩] scope pos) 0 (.ref it) (.ref s2.heap.objs.size) (compEnvC scope cl G.objs.size X.env))
    (RR (.ref s2.heap.objs.size) G.objs.size) s4:=by
  rintro s4 rfl;have I4:Inv (cA X scope cl (TN++caps) s2 H2 fp G.objs.size) [] ((TN.map fun _=>none)++vs.map some) H2 { s2 with heap:=h1,toks:=s2.toks+([]:List (Str×Value)).length } :=
   Ri I2 CC hvs f2 bH hk mF rfl rfl old hns1
  have Co:∀ {H':Hp} {pl:List (Addr×Obj)},(∀ b∈fp,H' b=none)->(∀ p∈pl,p.1 ∉ fp)->∀ b∈fp,jQ (cA X scope cl (TN++caps) s2 H2 fp G.objs.size) pl H' b:=fun hn hp b hb =>
   ⟨hn b hb,xL (xz (bH b hb) mF),I4.ok.sy b hb,.inl hb,fun x c e=>(f2 b hb).2.2.2.2.1 x c (CC.sub x c e),fun p hp' e=>hp p (by simpa [cA] using hp') (e ▸ hb)⟩
  have KJ:s2.heap.objs.size ∉ fp:=fun z=>No _ (bH _ z);refine Xp (fun n s'=>∃ (i:Nat) (ys:List V) (aj:List Value) (k:Nat) (σ':St) (H':Hp),(∃ σ0:St,σ'=σ0++vs.map some/\σ0.length=TN.length)/\Inv (cA X scope cl (TN++caps) s2 H2 fp G.objs.size) [] σ' H' s'/\tn i s'.heap/\(∀ b∈fp,H' b=none)/\H' s2.heap.objs.size=none/\Vals ys aj /\
   s'.heap.get? s2.heap.objs.size=some { cls:=.type "list",dict:=none,data:=.seq aj.toArray k }/\W i ys n H') (fun _ _ _=>trivial) ?_ m0
   ⟨0,[],[],0,_,H2,⟨_,rfl,by simp⟩,I4,T.keep _ _ _ jm (fun b _ o e=>old b o e),fun b hb=>(f2 b hb).1,I2.aB.fresh (sB _),.nil,accO,w0⟩
  rintro n s5 ⟨i,ys,aj,k,σ5,H5,⟨σ0,hq5,hσ⟩,I5,px,wQ,wK,rv,ea,w5⟩;subst hq5;have Ip:Inv (cA X scope cl (TN++caps) s2 H2 fp G.objs.size) [(s2.heap.objs.size,{ cls:=.type "list",dict:=none,data:=.seq aj.toArray k })] (σ0++vs.map some) H5 s5:=I5.rQ fun p hp=>by
   have e:p=(s2.heap.objs.size,{ cls:=.type "list",dict:=none,data:=.seq aj.toArray k }):=by simpa using hp
   subst e;refine ⟨ea,wK,we,fun z=>?_,fun v z=>by cases z⟩;exact I2.JU (sB _) (by
    have hz:s2.heap.objs.size∈bM X.stack:=z;rcases ss.mp (I2.wa _ hz) with q | q
    ·exact absurd I2.lt (by rw [<- q]; exact No _)
    ·exact q)
  have DN:∀ p∈[((s2.heap.objs.size,{ cls:=.type "list",dict:=none,data:=.seq aj.toArray k }):Addr×Obj)],p.1 ∉ fp:=fun p hp=>by
   have e:p=(s2.heap.objs.size,{ cls:=.type "list",dict:=none,data:=.seq aj.toArray k }):=by simpa using hp
   subst e; exact KJ
  obtain ⟨KN,alt⟩:=turn i ys n H5 w5;rcases alt with ⟨stop,qn⟩ | ⟨go,Lf,step⟩
  ·refine aF (T.done (cA X scope cl (TN++caps) s2 H2 fp G.objs.size) rfl rfl rfl hc i _ s5 (σ0++vs.map some) H5 (fun _ _=>False) Ip (Co wQ DN) px stop) fun r s6 ⟨hr,I6⟩=>?_;subst hr;have ea6:=(I6.pin (s2.heap.objs.size,{ cls:=.type "list",dict:=none,data:=.seq aj.toArray k }) (Da _ (AC.mpr rfl))).1;obtain ⟨m,hn6,_⟩:=I6.loc;have hC6:H5 G.objs.size=none:=I6.free;have lt2:∀ b o,s2.heap.get? b=some o->b≠s2.heap.objs.size:=fun b o e=>xL (wf e);have Iout:Inv X pins σ (upd H5 s2.heap.objs.size (.lst ys)) s6:=by
    refine I2.HX (s':=s6) (ch:=fp) I6.os ⟨fun b o e n hb hx=>?_,fun b o e n hb hx=>?_,fun b o e n hx=>?_,fun b o e hx=>?_,fun b xs e=>?_,fun b o u e=>?_,fun b ps e=>?_⟩ ?_ I6.bare fun b hb=>?_
    ·exact I6.base.keep b o e n hb hx
    ·exact I6.base.slot b o e n hb hx
    ·rw [ah (lt2 b o e)]; exact I6.base.free b o e n hx
    ·exact I6.base.there b o e hx
    ·rw [ah (dP e (I2.aB.fresh (sB _)))]; exact I6.base.fK b xs e
    ·rw [ah (dP e (I2.aB.fresh (sB _)))]; exact I6.base.fk b o u e
    ·obtain ⟨more,e1⟩:=I6.base.fO b ps e;exact ⟨more,by rw [ah (dP e (I2.aB.fresh (sB _)))]; exact e1⟩
    ·intro b u e;by_cases hb:b=s2.heap.objs.size
     ·subst hb;rw [au] at e;cases e;exact ⟨KN,aj,k,rv,ea6⟩
     ·rw [ah hb] at e;exact (I6.aB b u e).eL (fun c v _ q=>q) (fun c q=>by rw [ah (dP q wK)]; exact q) fun c xs q=>by rw [ah (dP q wK)]; exact q
    ·obtain ⟨g1,g2,g3,g4,g5,g6⟩:=f2 b hb;exact ⟨g4,g2,g5,g6⟩
   refine hRR _ _ s6 _ Iout ⟨m,hn6⟩ ⟨by rw [ah (sw we)]; exact hC6,?_,?_,fun y c e z=>?_,fun p hp z=>?_⟩ (qn _ wK)
   ·exact _d (xz I2.lt mF)
   ·exact wE I2.sz mF
   ·obtain ⟨v',q⟩:=I2.cell y c e;exact absurd (xz q.lt mF) (by rw [z]; exact No _)
   ·exact absurd (xz (wf (I2.pin p hp).1) mF) (by rw [z]; exact No _)
  ·refine aF (T.item (cA X scope cl (TN++caps) s2 H2 fp G.objs.size) rfl rfl rfl hc i _ s5 (σ0++vs.map some) H5 (fun _ _=>False) Ip (Co wQ DN) px go) fun r s6 ⟨u,hr,h6⟩=>?_;subst hr;refine aF h6 fun _ s7 ⟨y,H7,I7,ry,y7,C5,fr7⟩=>?_;have I7':=I7.pinned (Co fr7 DN) (T.obj _ _ C5);refine aF (gA _ _ _ _ _ s7 (σ0++vs.map some) H7 y u _ I7' ry (step y H7 y7 σ0 hσ)) fun _ s8 ⟨σ8,H8,I8,Lg,q8⟩=>?_;refine aF (ht _ _ _ _ _ s8 σ8 H8 _ I8 q8) fun ok s9 ⟨H9,I9,q9⟩=>?_
   -- what is pinned stays
   have J5:∀ {s':Shared} {H':Hp},Inv (cA X scope cl (TN++caps) s2 H2 fp G.objs.size) ([(s2.heap.objs.size,{ cls:=.type "list",dict:=none,data:=.seq aj.toArray k })]++qj fp s7.heap) σ8 H' s' ->
     tn (i+1) s'.heap/\(∀ b∈fp,H' b=none)/\H' s2.heap.objs.size=none/\s'.heap.get? s2.heap.objs.size=some { cls:=.type "list",dict:=none,data:=.seq aj.toArray k }:=fun {s' H'} J'=>by
    refine ⟨T.keep _ _ _ C5 fun b hb o e=>(J'.pin (b,o) (Da _ (Da _ (ub hb e)))).1,fun b hb=>?_,(J'.pin (s2.heap.objs.size,{ cls:=.type "list",dict:=none,data:=.seq aj.toArray k }) (Da _ (ZU _ (AC.mpr rfl)))).2.1,(J'.pin (s2.heap.objs.size,{ cls:=.type "list",dict:=none,data:=.seq aj.toArray k }) (Da _ (ZU _ (AC.mpr rfl)))).1⟩;obtain ⟨o,e,_⟩:=T.obj _ _ C5 b hb;exact (J'.pin (b,o) (Da _ (Da _ (ub hb e)))).2.1
   cases ok with
   | false =>
    obtain ⟨m',hm,w'⟩:=q9;obtain ⟨k1,k2,k3,k4⟩:=J5 I9;exact ⟨m',hm,i+1,ys,aj,k,σ8,H9,Lg,I9.rQ (pins':=[]) (fun _ hp=>nomatch hp),k1,k2,k3,rv,k4,w'⟩
   | true =>
    refine aF (he _ _ _ _ _ s9 σ8 H9 _ I9 q9) fun zv iF ⟨z,mM,Lk,rz,oE⟩=>?_;obtain ⟨m',hm,w'⟩:=oE;obtain ⟨k1,k2,k3,k4⟩:=J5 Lk;have hl:=rv.length;refine UF F.slot_list_append ⟨_,k4,rfl⟩ F.entry_list_append (F.args_list_append_2 _ _) (PySem.list_append s2.heap.objs.size aj.toArray k zv (by rw [tz]; omega)) ⟨k4,?_⟩;have q:=PySem.IsL.update k4 (·.push zv);have ip:aj.toArray.push zv=(aj++[zv]).toArray:=by simp
    rw [ip] at q;have I11:Inv (cA X scope cl (TN++caps) s2 H2 fp G.objs.size) [] σ8 mM iF:=Lk.rQ (pins':=[]) (fun _ hp=>nomatch hp);refine ⟨m',hm,i+1,ys++[z],aj++[zv],_,σ8,mM,Lg,I11.turned (t':=iF.toks) (it:=s2.heap.objs.size) (fun b o hb e=>(IR iF.heap _ (sw hb)).trans e) k3 we (.inr (sB _)) (fun x c e z=>by obtain ⟨v',q⟩:=I2.cell x c (CC.sub x c e); exact absurd q.lt (by rw [z]; exact No _)) (fun p hp=>absurd (show p∈([]:List (Addr×Obj)) from hp) (by simp)),
     T.keep _ _ _ k1 fun b hb o e=>(IR iF.heap _ (fun z=>KJ (by rw [z]; exact hb))).trans e,k2,k3,rv.append (.cons rz .nil),q,w'⟩
 exact codeAny_compStart_list (main _ rfl) (T.self _ 0 _ _ _ (T.keep _ _ _ jm fun b _ o e=>old b o e) (main _ rfl))
def RQ {elt iter:Expr} {ifs:List Expr} {tg:Expr} {g:TG} {TN caps:List Str} {ix:List Nat} {cl:List (Str×Addr)} {pos:Pos} {scope:Scope} {wi:TI} {tt:TT} {te:TE} (hc:X.calm=true) (hi:PI X tg iter wi)
  (ht:∀ s H ex C,oi (cA X scope cl (TN++caps) s H ex C) ifs tt) (gA:∀ s H ex C,PG (cA X scope cl (TN++caps) s H ex C) tg g) (he:∀ s H ex C,PE (cA X scope cl (TN++caps) s H ex C) elt te) (CC:jb X scope cl caps ix)
  (hk:scope.kind=.function:=by rfl) (cx:∀ y∈scope.names,y.2=.local->scope.names.lookup y.1=some .local:=by decide +kernel) (gx:∀ y∈scope.names,y.2≠.cell:=by decide +kernel)
  (hs:∀ x,foldedSetIterable iter X.env x=pure x:=by intro _; rfl):PE X (.ListComp elt [⟨tg,iter,ifs,0⟩] scope pos) (lZ TN.length ix wi g tt te):=by
 intro pins s σ H Q I h;rw [eval_ListComp];refine wpAny_comprehension_free (use:=none) (cl:=cl) rfl hs CC.lH hk cx ?_;refine G4 (RR:=fun acc C=>compPost (model X.prog X.w) X.A X.xe none (EP X pins σ Q) acc C) hc hi ht gA he CC hk gx I h ?_;intro a C s6 H6 I6 hm o q;obtain ⟨m,hn⟩:=hm;exact ⟨m,hn,fun h' tI=>⟨.ref a,H6,o.go I6 tI,rfl,q⟩⟩
def Q6 {elt iter:Expr} {ifs:List Expr} {tg:Expr} {g:TG} {TN caps:List Str} {ix:List Nat} {cl:List (Str×Addr)} {y:Str} {i:Nat} {py pos spos:Pos} {scope:Scope} {wi:TI} {tt:TT} {te:TE} (hc:X.calm=true) (hN:X.N.Nodup) (tO:X.N[i]?=some y) (pJ:X.env.scope.names.lookup y=some .local) (hi:PI X tg iter wi)
  (ht:∀ s H ex C,oi (cA X scope cl (TN++caps) s H ex C) ifs tt) (gA:∀ s H ex C,PG (cA X scope cl (TN++caps) s H ex C) tg g) (he:∀ s H ex C,PE (cA X scope cl (TN++caps) s H ex C) elt te) (CC:jb X scope cl caps ix)
  (sO:swapsWith (.ListComp elt [⟨tg,iter,ifs,0⟩] scope pos) (some (.Name y py)) spos.line X.env=pure true:=by rfl)
  (hk:scope.kind=.function:=by rfl) (cx:∀ y∈scope.names,y.2=.local->scope.names.lookup y.1=some .local:=by decide +kernel) (gx:∀ y∈scope.names,y.2≠.cell:=by decide +kernel)
  (hs:∀ x,foldedSetIterable iter X.env x=pure x:=by intro _; rfl):PS X (.Assign [.Name y py] (.ListComp elt [⟨tg,iter,ifs,0⟩] scope pos) spos) (kf (lZ TN.length ix wi g tt te) (fm i)):=by
 intro pins s σ H D I h;rw [exec_Assign_Name_used _ _ _ _ sO];refine kt (ZN (kt ?_));refine kt (Re (wpAny_comprehension_free (e:=.ListComp elt [⟨tg,iter,ifs,0⟩] scope pos) (use:=some (assign (.Name y py) X.env)) (cl:=cl) (Q:=fun _ s'=>SP X pins D .next s') rfl hs CC.lH hk cx
  (G4 (RR:=fun acc C=>compPost (model X.prog X.w) X.A X.xe (some (assign (.Name y py) X.env)) (fun _ s'=>SP X pins D .next s') acc C) hc hi ht gA he CC hk gx I h ?_)) (fun _ s' hq=>sK (sK hq)) fun _ _ e=>e)
 intro a C s6 H6 I6 hm o q;obtain ⟨m,hn⟩:=hm;refine (show wpAny (model X.prog X.w) X.A (assign (.Name y py) X.env (.ref a)) _ X.xe s6 from ?_);refine wpAny_assign_Name (DY I6 hN tO (.inl pJ) (v:=.ref a) rfl (fun s' I' tI=>?_) (.inr pJ));obtain ⟨b,tI,hb⟩:=tI;have nb:C≠b:=by
  rcases hb with z | z
  ·rw [z]; exact o.nl
  ·exact fun e=>o.nc y b z e.symm
 exact ⟨m,hn.sameBut tI nb,fun h' hs'=>⟨_,H6,o.go I' hs',q⟩⟩
end
namespace Dv
section
variable {X:Cx}
def nI {elt iter tg:Expr} {g:TG} {ifs:List Expr} {TN caps:List Str} {ix:List Nat} {cl:List (Str×Addr)} {pos:Pos} {scope:Scope} {wi:TI} {tt:TT} {te:TE} (hc:X.calm=true) (hi:QI X tg iter wi)
  (ht:∀ s H ex C,nv (cA X scope cl (TN++caps) s H ex C) ifs tt) (gA:∀ s H ex C,QG (cA X scope cl (TN++caps) s H ex C) tg g) (he:∀ s H ex C,QE (cA X scope cl (TN++caps) s H ex C) elt te) (CC:jb X scope cl caps ix)
  (hk:scope.kind=.function:=by rfl) (cx:∀ y∈scope.names,y.2=.local->scope.names.lookup y.1=some .local:=by decide +kernel) (gx:∀ y∈scope.names,y.2≠.cell:=by decide +kernel)
  (hs:∀ x,foldedSetIterable iter X.env x=pure x:=by intro _; rfl):QE X (.ListComp elt [⟨tg,iter,ifs,0⟩] scope pos) (lZ TN.length ix wi g tt te):=⟨RQ hc hi.h (fun s H ex C=>(ht s H ex C).h) (fun s H ex C=>(gA s H ex C).h) (fun s H ex C=>(he s H ex C).h) CC hk cx gx hs⟩
def Yv (i:Nat) {elt iter tg:Expr} {g:TG} {ifs:List Expr} {TN caps:List Str} {ix:List Nat} {cl:List (Str×Addr)} {y:Str} {py pos spos:Pos} {scope:Scope} {wi:TI} {tt:TT} {te:TE} (hc:X.calm=true) (hN:X.N.Nodup) (hi:QI X tg iter wi)
  (ht:∀ s H ex C,nv (cA X scope cl (TN++caps) s H ex C) ifs tt) (gA:∀ s H ex C,QG (cA X scope cl (TN++caps) s H ex C) tg g) (he:∀ s H ex C,QE (cA X scope cl (TN++caps) s H ex C) elt te) (CC:jb X scope cl caps ix) (tO:X.N[i]?=some y:=by rfl) (pJ:X.env.scope.names.lookup y=some .local:=by rfl)
  (sO:swapsWith (.ListComp elt [⟨tg,iter,ifs,0⟩] scope pos) (some (.Name y py)) spos.line X.env=pure true:=by rfl)
  (hk:scope.kind=.function:=by rfl) (cx:∀ y∈scope.names,y.2=.local->scope.names.lookup y.1=some .local:=by decide +kernel) (gx:∀ y∈scope.names,y.2≠.cell:=by decide +kernel)
  (hs:∀ x,foldedSetIterable iter X.env x=pure x:=by intro _; rfl):QS X (.Assign [.Name y py] (.ListComp elt [⟨tg,iter,ifs,0⟩] scope pos) spos) (kf (lZ TN.length ix wi g tt te) (fm i)):=⟨Q6 hc hN tO pJ hi.h (fun s H ex C=>(ht s H ex C).h) (fun s H ex C=>(gA s H ex C).h) (fun s H ex C=>(he s H ex C).h) CC sO hk cx gx hs⟩
end
end Dv
section
variable {X:Cx}
end
def zq {σ:St} (h:σ.length=1):∃ a,σ=[a]:=by
 match σ,h with
 | [a],_=>exact ⟨a,rfl⟩
def jg {f:Str} {v u:V}:∀ {fs:List (Str×V)},fs.lookup f=some u->(ay f v fs).length=fs.length
 | (g,x)::r,h=>by
  rw [show ay f v ((g,x)::r)=(if g=f then (g,v)::r else (g,x)::ay f v r) from rfl];by_cases e:g=f
  ·rw [Db e]; rfl
  ·rw [Ch e];have hb:(f == g)=false:=GM.mpr (sw e);have h':r.lookup f=some u:=by simpa [List.lookup,hb] using h
   rw [GE,jg h']; rfl
def yN (r:V->List V->Hp->VK->Prop) (to:TE):TE:=fun σ H Q=>to σ H fun x H1=>match x with
 | .ref l=>(match H1 l with
  | some (.lst _)=>r (.ref l) [] H1 Q
  | _=>False)
 | _=>False
section
variable {X:Cx} {name:Str} {id:String} {r:V->List V->Hp->VK->Prop} {o:Expr} {to:TE} {apos bo:Pos}
def NS (slot:Slot "list" name id) (cF:typeOf (.builtin id)=pure (.type "method_descriptor")) (hm:dB X id r) (ho:PE X o to)
  (fF:attributeBase o name X.env (eval o X.env)=eval o X.env:=by rfl) (fD:(apos.endLine == bo.line)=true:=by rfl):PE X (.Call (.Attribute o name apos) [] [] bo) (yN r to):=by
 intro pins s σ H Q I h;refine wpAny_Call_method0_late fF fD (aF (ho pins s σ H _ I h) fun v s1 ⟨x,H1,I1,r1,q1⟩=>?_);dsimp only at q1;split at q1
 ·rename_i l;split at q1
  ·rename_i zs el;obtain ⟨h1,h2⟩:=zb (T := "list") I1 r1 (.inl ⟨rfl,zs,aE.of el⟩);exact ⟨"list",id,PySem.F.plainAttrs_list,slot,cF,h1,h2,WP rfl (PySem.evalArgs_none (hm pins s1 σ H1 (.ref l) [] v [] Q I1 r1 .nil q1))⟩
  ·exact q1.elim
 ·exact q1.elim
def Dv.D9 (slot:Slot "list" name id) (cF:typeOf (.builtin id)=pure (.type "method_descriptor")) (hm:dB X id r) (ho:QE X o to)
  (fF:attributeBase o name X.env (eval o X.env)=eval o X.env:=by rfl) (fD:(apos.endLine == bo.line)=true:=by rfl):QE X (.Call (.Attribute o name apos) [] [] bo) (yN r to):=⟨NS slot cF hm ho.h fF fD⟩
end
def ag.fi {H H1:Hp} {l:Addr} {o:HO} (s:ag H H1) (hl:H l=none):ag H (L2.upd H1 l o):=fun b u e=>by
 rw [ah (fun z=>by rw [z,hl] at e; cases e)]; exact s b u e
section
variable {X:Cx}
def Ar (K:PySem.W.Frag) (n:Nat) (t:gf):TG:=fun v σ H Q=>∃ a xs,v=.ref a/\aE K H a xs/\xs.length=n/\t xs σ H Q
def W3 {pos:Pos} {es:List Expr} {k:Nat} {t:gf} {n:Nat} (hc:X.calm=true) (h:nQ X es t)
  (hn:(assignEach es X.env).length=n:=by rfl) (aO:(assignEach es X.env).findIdx? (·.1)=none:=by rfl):PG X (.Tuple es k pos) (Ar X.K n t):=by
 intro pins s σ H v u Q I r hw;obtain ⟨a,xs,e1,hq,hl,hw⟩:=hw;subst e1;cases r;obtain ⟨aj,rv,ht,hz⟩:=I.list hq;rw [assign_Tuple];refine kt (ZN ?_);unfold unpack;have hsz:(assignEach es X.env).length=aj.toArray.size:=by rw [hn,tz,<- hl,rv.length]
 rw [hsz,aO];refine kt (Id (PySem.W.kun_itemsOf (I.ok.hd hc) ht.isList fun h' hx=>?_));have I1:Inv X pins σ H { s with heap:=h' }:=I.kept (t':=s.toks) fun b o e=>hx b o (xL (wf e)) e;exact h pins _ σ H xs _ Q I1 (by simpa using rv) hw
def Dv.Uq {pos:Pos} {K:PySem.W.Frag} {es:List Expr} {k:Nat} {t:gf} {n:Nat} (hK:X.K=K) (hc:X.calm=true) (h:pV X es t) (hn:(assignEach es X.env).length=n:=by rfl) (aO:(assignEach es X.env).findIdx? (·.1)=none:=by rfl):QG X (.Tuple es k pos) (Ar K n t):=hK ▸ ⟨W3 hc h.h hn aO⟩
def xX:List V->Hp->VK->Prop:=fun xs H Q=>match xs with
 | [.bl b]=>Q (.int (if b then 1 else 0)) H
 | _=>False
def RP:cq X (.type "int") xX:=by
 intro pins s σ H xs us Q I r h;unfold xX at h;split at h
 ·rename_i b;obtain ⟨u,rfl,rx⟩:=vals1 r;cases rx;exact call_int_bool ⟨.int (if b then 1 else 0),H,I.tok _,⟨_,rfl⟩,h⟩
 ·exact h.elim
def RU:aW X (binaryOp .Pow) (oF HV fun i j=>i ^ j.toNat):=PY.imp fun _ _ _ _ h=>w9 h
end
def yU (K:PySem.W.Frag):R2:=fun x y H Q=>match y with
 | .ref p=>∃ xs,(aE K H p xs\/bI K H p xs)/\cM x=true/\xs.all cM=true/\Q (.bl (!f6 x xs)) H
 | _=>False
def zQ {X:Cx} {K:PySem.W.Frag} (h:X.K=K):aW X (compareOp .NotIn) (yU K):=h ▸ Ud.imp fun x y H Q z=>by
 unfold yU at z;split at z
 ·obtain ⟨xs,z1,z2,z3,z4⟩:=z;exact ⟨_,xs,rfl,z1,z2,z3,z4⟩
 ·exact z.elim
structure FT (K:PySem.W.Frag) (mg:Str->Option Value) (x y:Str) (st:Stmt) (ps:List Str) where
 f:Addr
 d:FuncData
 F:iT K x y st f d
 m:mg x=some (.ref f)
 b:Binds K d ps []
structure MT (K:PySem.W.Frag) (C:Addr) (x y:Str) (st:Stmt) (ps:List Str) where
 f:Addr
 d:FuncData
 F:iT K x y st f d
 h:Meth K C x f
 b:Binds K d ps []
def FA (K:PySem.W.Frag) (x y:Str) (st:Stmt):Prop:=∃ (f:Addr) (oc:Value) (od:Option Addr) (kV dc pm:Value) (an:Option Addr) (cd ct:Value) (sl:Array (Option Value)),
 PySem.W.nsIn K mainGlobals x=some (some (.ref f))/\K.lookup f=some ⟨oc,od,.func (PySem.W.fnOf x y (en st) (aZ st) (aD st) .none kV dc pm an cd ct),sl⟩/\PySem.W.codeIn K cd y=true/\PySem.W.keepIn K (.ref f)=true
def MA (K:PySem.W.Frag) (C:Addr) (x y:Str) (st:Stmt):Prop:=∃ (f:Addr) (oc:Value) (od:Option Addr) (kV dc pm:Value) (an:Option Addr) (cd ct:Value) (sl:Array (Option Value)),
 PySem.W.findIn K (.ref C) x=some (some (.ref f))/\K.lookup f=some ⟨oc,od,.func (PySem.W.fnOf x y (en st) (aZ st) (aD st) .none kV dc pm an cd ct),sl⟩/\PySem.W.codeIn K cd y=true/\PySem.W.keepIn K (.ref f)=true/\PySem.W.isFn K (.ref f)=true
section
variable {K:PySem.W.Frag} {mg:Str->Option Value} {h:Heap} {C:Addr} {x y:Str} {st:Stmt} {ps:List Str}
def FA.ft (X:K.In h) (G:h.Ns mainGlobals mg) (ps:List Str) (hb:∀ (kV dc pm:Value) (an:Option Addr) (cd ct:Value) (us:List Value),us.length=ps.length->bindArgs (PySem.W.fnOf x y (en st) (aZ st) (aD st) .none kV dc pm an cd ct) ⟨us,[]⟩=pure (ps.zip us)) (a:FA K x y st):Nonempty (FT K mg x y st ps):=by
 obtain ⟨f,oc,od,kV,dc,pm,an,cd,ct,sl,n,l,c,k⟩:=a;have F:=Bg (st:=st) l c k;exact ⟨⟨f,_,F,PySem.W.mg_of X G n,F.binds hb⟩⟩
def MA.ft (ps:List Str) (hb:∀ (kV dc pm:Value) (an:Option Addr) (cd ct:Value) (us:List Value),us.length=ps.length->bindArgs (PySem.W.fnOf x y (en st) (aZ st) (aD st) .none kV dc pm an cd ct) ⟨us,[]⟩=pure (ps.zip us)) (a:MA K C x y st):Nonempty (MT K C x y st ps):=by
 obtain ⟨f,oc,od,kV,dc,pm,an,cd,ct,sl,n,l,c,k,t⟩:=a;have F:=Bg (st:=st) l c k;exact ⟨⟨f,_,F,⟨n,t,k⟩,F.binds hb⟩⟩
end
section
variable {K:PySem.W.Frag} {mg:Str->Option Value} {h:Heap} {C:Addr} {x y:Str} {st:Stmt} {ps:List Str}
def FA.mk {f:Addr} {oc:Value} {od:Option Addr} {kV dc pm:Value} {an:Option Addr} {cd ct:Value} {sl:Array (Option Value)} (n:PySem.W.nsIn K mainGlobals x=some (some (.ref f))) (l:K.lookup f=some ⟨oc,od,.func (PySem.W.fnOf x y (en st) (aZ st) (aD st) .none kV dc pm an cd ct),sl⟩) (c:PySem.W.codeIn K cd y=true) (k:PySem.W.keepIn K (.ref f)=true):FA K x y st:=⟨_,_,_,_,_,_,_,_,_,_,n,l,c,k⟩
def MA.mk {f:Addr} {oc:Value} {od:Option Addr} {kV dc pm:Value} {an:Option Addr} {cd ct:Value} {sl:Array (Option Value)} (n:PySem.W.findIn K (.ref C) x=some (some (.ref f))) (l:K.lookup f=some ⟨oc,od,.func (PySem.W.fnOf x y (en st) (aZ st) (aD st) .none kV dc pm an cd ct),sl⟩) (c:PySem.W.codeIn K cd y=true) (k:PySem.W.keepIn K (.ref f)=true) (t:PySem.W.isFn K (.ref f)=true):MA K C x y st:=⟨_,_,_,_,_,_,_,_,_,_,n,l,c,k,t⟩
def FA.gt (X:K.In h) (G:h.Ns mainGlobals mg) (hb:∀ (kV dc pm:Value) (an:Option Addr) (cd ct:Value) (us:List Value),us.length=ps.length->bindArgs (PySem.W.fnOf x y (en st) (aZ st) (aD st) .none kV dc pm an cd ct) ⟨us,[]⟩=pure (ps.zip us)) (a:FA K x y st):Nonempty (FT K mg x y st ps):=FA.ft X G ps hb a
def MA.gt (hb:∀ (kV dc pm:Value) (an:Option Addr) (cd ct:Value) (us:List Value),us.length=ps.length->bindArgs (PySem.W.fnOf x y (en st) (aZ st) (aD st) .none kV dc pm an cd ct) ⟨us,[]⟩=pure (ps.zip us)) (a:MA K C x y st):Nonempty (MT K C x y st ps):=MA.ft ps hb a
def U4 {M:MT K C "__init__" y st ps} (a:PySem.W.makesIn K C=true) (b:PySem.W.keepIn K (.ref C)=true):Mk K C M.f:=⟨a,M.h.at_,M.h.fn,b⟩
def nq {dt:Addr} {kV doc pm ax ct:Value} {an:Option Addr} {o:Obj} {n:Nat} {ds:List Value} (j:Nat) (ld:K.lookup dt=some o) (hd:o.data=.seq ds.toArray n)
  (h:∀ (dt:Addr) (kV doc pm:Value) (an:Option Addr) (ax ct:Value) (us:List Value),(us++ds.drop j).length=ps.length ->
   ∃ k,bindArgs (PySem.W.fnOf x y (en st) (aZ st) (aD st) (.ref dt) kV doc pm an ax ct) ⟨us,[]⟩=seqItems? (.ref dt) >>= k/\k (some ds.toArray)=pure (ps.zip (us++ds.drop j))) :
  Binds K (PySem.W.fnOf x y (en st) (aZ st) (aD st) (.ref dt) kV doc pm an ax ct) ps (ds.drop j):=by
 intro s us X hl;obtain ⟨k,h1,h2⟩:=h dt kV doc pm an ax ct us hl;exact _A rfl (X _ _ ld) hd h1 h2
end
section
variable {X:Cx} {tg:Expr}
end
section
variable {X:Cx}
def QR:List V->Hp->VK->Prop:=fun xs H Q=>match xs with
 | [.int a]=>a.natAbs.log2 < 1920/\Q (.str (Str.ofString (toString a))) H
 | _=>False
end
section
variable {X:Cx}
def W2:V->List V->Hp->VK->Prop:=fun x vs H Q=>match x,vs with
 | .ref l,[.int 0]=>∃ y xs,H l=some (.lst (y::xs))/\Q y (upd H l (.lst xs))
 | _,_=>False
end
section
variable {X:Cx}
def all_true (n:Nat):(List.range n).all (fun _=>true)=true:=by rw [Go]; exact fun _ _=>rfl
def XY (K:PySem.W.Frag) (neg:Bool):R2:=fun x y H Q=>match x,y with
 | .ref a,.ref b=>∃ xs ys:List V,(aE K H a xs/\aE K H b ys\/bI K H a xs/\bI K H b ys)/\xs.length=ys.length/\xs.all cM=true/\ys.all cM=true/\(∀ i (h1:i < xs.length) (h2:i < ys.length),eT xs[i] ys[i]=true)/\Q (.bl (!neg)) H
 | _,_=>False
end
def MX {α:Type} (us ws:List α):List α:=if ws.length=1 then us++ws else []
section
variable {K:PySem.W.Frag} {x qual nm:Str} {st:Stmt} {f:Addr} {fd:FuncData} {ps:List Str} {ds:List Value}
def MY {α:Type} {a b c d:α}:MX [a,b,c] [d]=[a,b,c,d]:=rfl
end
section
variable {X:Cx}
def Dv.Ru {CX:dD} {k:Nat} {f:Addr} {fd:FuncData} {ps:List Str} {sp:Sp} {E:XK} {x nm:Str} {p pos mQ:Pos} {e e2:Expr} {es:List Expr} {t:TA} {te:TE} {g:List Value->List Value->List Value} {gV:List V->List V->List V}
  (F:aC X.prog X.w X.K X.mg X.base CX k f fd ps sp) (hr:bx k X.A) (hm:X.mg x=some (.ref f)) (hk:PySem.W.keepIn X.K (.ref f)=true) (hb:nO X.K fd ps [nm] g gV) (hx:Passes CX X E)
  (ha:QA X (e::es) t) (tE:QE X e2 te) (hg:Gl X x:=by rfl) (bP:(x == ("__debug__" : Str))=false:=by decide) (he:starEach (e::es) X.env=(false,eval e X.env)::starEach es X.env:=by rfl)
  (bw:((backTo pos (starEach (e::es) X.env)).any (·.1) || (backToKw pos (keywordEach [⟨some nm,e2,mQ⟩] X.env)).any (·.1.isNone))=false:=by rfl) :
  QE X (.Call (.Name x p) (e::es) [⟨some nm,e2,mQ⟩] pos) (vY sp gV E t (i9 te iC)) :=
 ⟨Gr F hr hg hm hk hb hx ha.h (B7 tE.h Fz) rfl rfl bP he bw⟩
end
def rH (J:It) (n:Nat) (vs:List V) (g:TG) (tt:TT) (te:TE) (Q:VK) (H1:Hp):Prop:=∃ W:Nat->List V->Nat->Hp->Prop,(∃ m,W 0 [] m H1)/\∀ i ys m H,W i ys m H ->
 ys.length<=sizeLine/\((J.stop i H/\∀ l,H l=none->Q (.ref l) (upd H l (.lst ys))) \/
  (J.go i H/\ys.length < sizeLine/\∀ y H',J.jz i H y H'->∀ σ0:St,σ0.length=n->g y (σ0++vs.map some) H' fun σ1 H1=>(∃ σ2:St,σ1=σ2++vs.map some/\σ2.length=n) /\
   tt σ1 H1 fun c H2=>if c=true then te σ1 H2 fun z H3=>∃ m',m' < m/\W (i+1) (ys++[z]) m' H3 else ∃ m',m' < m/\W (i+1) ys m' H2))
def Ec {n:Nat} {ix:List Nat} {wi:TI} {g:TG} {tt:TT} {te:TE} {σ:St} {H:Hp} {Q:VK}:lZ n ix wi g tt te σ H Q=∃ vs,lX ix σ vs/\wi σ H fun J H1=>rH J n vs g tt te Q H1:=rfl
def Qm {K:PySem.W.Frag} {C:Addr} {y:Str} {st:Stmt} {ps:List Str} {fld:Str} {M:MT K C "__init__" y st ps} (q:va K C=true) (sa:PySem.W.findIn K (.ref C) "__setattr__" = some (some (.builtin "object.__setattr__"))) (na:PySem.W.findIn K (.ref C) fld=some none) (ob:PySem.W.mroIn K C (.type "object")=some true)
  (be:PySem.W.mroIn K C (.type "BaseException")=some true) (self:PySem.W.mroIn K C (.ref C)=some true) (kp:PySem.W.keepIn K (.ref C)=true):iU K C M.f fld:=⟨q,M.h.at_,eq_of_beq M.h.fn,sa,na,ob,be,self,kp⟩
end L2
open PySem PySem.Spec PyProof.Rows
namespace L2
section
variable {X:Cx}
def xr (n b:Bool):Bool:=match n with | false=>b | true=>!b
def B1 (n b:Bool):(n ^^ b)=xr n b:=by cases n <;> cases b <;> rfl
def qK (neg:Bool):R2:=fun x y H Q=>match x,y with
 | .int i,.int j=>Q (.bl (xr neg (decide (i=j)))) H
 | .str i,.str j=>Q (.bl (xr neg (decide (i=j)))) H
 | .bl i,.bl j=>Q (.bl (xr neg (decide (i=j)))) H
 | _,_=>vO x y=true/\Q (.bl (xr neg (decide (x=y)))) H
def IB (neg:Bool):n6 neg=qK neg:=by
 funext x y H Q; unfold n6 qK; simp only [B1] <;> rfl
def eA:aW X (compareOp .Eq) (qK false):=IB false ▸ NA
def eX:aW X (compareOp .NotEq) (qK true):=IB true ▸ Qt
def sN (neg:Bool):R2:=fun x y H Q=>match x,y with
 | .ref a,.ref b=>∃ ts us:List Str,H a=some (.lst (ts.map V.str))/\H b=some (.lst (us.map V.str))/\Q (.bl (xr neg (decide (ts=us)))) H
 | _,_=>False
def FN (neg:Bool):oj neg=sN neg:=by
 funext x y H Q; unfold oj sN; simp only [B1] <;> rfl
def VM (hu:X.A.units < cLine):aW X (compareOp .Eq) (sN false):=FN false ▸ Rx hu
def Xs (hu:X.A.units < cLine):aW X (compareOp .NotEq) (sN true):=FN true ▸ N3 hu
def qk (K:PySem.W.Frag) (neg:Bool):R2:=fun x y H Q=>match x,y with
 | .ref a,.ref b=>∃ xs ys:List V,aE K H a xs/\aE K H b ys/\((ys=[]/\Q (.bl (xr neg xs.isEmpty)) H)\/(xs=[]/\Q (.bl (xr neg ys.isEmpty)) H))
 | _,_=>False
def Ef {K:PySem.W.Frag} (neg:Bool):nZ K neg=qk K neg:=by
 funext x y H Q; unfold nZ qk; simp only [B1] <;> rfl
def yF {K:PySem.W.Frag} (hK:X.K=K) (hu:X.A.units < cLine):aW X (compareOp .Eq) (qk K false):=Ef (K:=K) false ▸ Qj hK hu
def NU {K:PySem.W.Frag} (hK:X.K=K) (hu:X.A.units < cLine):aW X (compareOp .NotEq) (qk K true):=Ef (K:=K) true ▸ Pw hK hu
end
end L2
namespace L2
open PySem PySem.Spec PyProof.Rows
def PU {J:It} {tt:TT} {te:TE} {Q:VK} {H:Hp}:qp J tt te Q H ↔ rH J 1 [] (fm 0) tt te Q H:=by
 constructor
 ·rintro ⟨W,w0,h⟩;refine ⟨W,w0,fun i ys m H hw=>⟨(h i ys m H hw).1,(h i ys m H hw).2.imp_right fun z=>⟨z.1,z.2.1,fun y H' hy σ0 hσ=>?_⟩⟩⟩;obtain ⟨a,rfl⟩:=zq hσ;exact ⟨⟨[some y],rfl,rfl⟩,z.2.2 y H' hy⟩
 ·rintro ⟨W,w0,h⟩;exact ⟨W,w0,fun i ys m H hw=>⟨(h i ys m H hw).1,(h i ys m H hw).2.imp_right fun z=>⟨z.1,z.2.1,fun y H' hy=>(z.2.2 y H' hy [none] rfl).2⟩⟩⟩
def F8 {wi:TI} {tt:TT} {te:TE} {σ:St} {H:Hp} {Q:VK} (h:vb wi tt te σ H Q):lZ 1 [] wi (fm 0) tt te σ H Q:=by
 rw [FE] at h;rw [Ec];have e:(fun (J:It) H1=>qp J tt te Q H1)=fun J H1=>rH J 1 [] (fm 0) tt te Q H1:=by funext J H1; exact propext PU
 rw [e] at h;exact ⟨[],⟨rfl,by simp⟩,h⟩
section
variable {X:Cx}
def Dv.FZ {elt iter tg:Expr} {ifs:List Expr} {x:Str} {cl:List (Str×Addr)} {pos:Pos} {scope:Scope} {wi:TI} {tt:TT} {te:TE} (hc:X.calm=true) (hi:QI X tg iter wi)
  (ht:∀ s H ex C,nv (cA X scope cl ([x]++[]) s H ex C) ifs tt) (gA:∀ s H ex C,QG (cA X scope cl ([x]++[]) s H ex C) tg (fm 0)) (he:∀ s H ex C,QE (cA X scope cl ([x]++[]) s H ex C) elt te) (CC:jb X scope cl [] [])
  (hk:scope.kind=.function:=by rfl) (cx:∀ y∈scope.names,y.2=.local->scope.names.lookup y.1=some .local:=by decide +kernel) (gx:∀ y∈scope.names,y.2≠.cell:=by decide +kernel)
  (hs:∀ x,foldedSetIterable iter X.env x=pure x:=by intro _; rfl):QE X (.ListComp elt [⟨tg,iter,ifs,0⟩] scope pos) (vb wi tt te) :=
 ⟨fun pins s σ H Q I h=>(Dv.nI hc hi ht gA he CC hk cx gx hs).h pins s σ H Q I (F8 h)⟩
def Dv.Fn (i:Nat) {elt iter tg:Expr} {ifs:List Expr} {x:Str} {cl:List (Str×Addr)} {y:Str} {py pos spos:Pos} {scope:Scope} {wi:TI} {tt:TT} {te:TE} (hc:X.calm=true) (hN:X.N.Nodup) (hi:QI X tg iter wi)
  (ht:∀ s H ex C,nv (cA X scope cl ([x]++[]) s H ex C) ifs tt) (gA:∀ s H ex C,QG (cA X scope cl ([x]++[]) s H ex C) tg (fm 0)) (he:∀ s H ex C,QE (cA X scope cl ([x]++[]) s H ex C) elt te) (CC:jb X scope cl [] []) (tO:X.N[i]?=some y:=by rfl) (pJ:X.env.scope.names.lookup y=some .local:=by rfl)
  (sO:swapsWith (.ListComp elt [⟨tg,iter,ifs,0⟩] scope pos) (some (.Name y py)) spos.line X.env=pure true:=by rfl)
  (hk:scope.kind=.function:=by rfl) (cx:∀ y∈scope.names,y.2=.local->scope.names.lookup y.1=some .local:=by decide +kernel) (gx:∀ y∈scope.names,y.2≠.cell:=by decide +kernel)
  (hs:∀ x,foldedSetIterable iter X.env x=pure x:=by intro _; rfl):QS X (.Assign [.Name y py] (.ListComp elt [⟨tg,iter,ifs,0⟩] scope pos) spos) (kf (vb wi tt te) (fm i)) :=
 ⟨fun pins s σ H D I h=>(Dv.Yv i hc hN hi ht gA he CC tO pJ sO hk cx gx hs).h pins s σ H D I (F8 h)⟩
end
end L2
namespace L2
def JE {α:Type} {C:List α->Prop} (h:C []):∀ us:List α,us.length=0->C us
 | [],_=>h
def me {α:Type} {C:List α->Prop} {n:Nat} (h:∀ a us,us.length=n->C (a::us)):∀ us:List α,us.length=n+1->C us
 | a::us,e=>h a us (Nat.succ.inj e)
def GY {α:Type} {C:List α->Prop} (h:∀ a,C [a]):∀ us:List α,us.length=1->C us:=me fun a=>JE (C:=fun us=>C (a::us)) (h a)
def Ed {α:Type} {C:List α->Prop} (h:∀ a b,C [a,b]):∀ us:List α,us.length=2->C us:=me fun a=>GY (C:=fun us=>C (a::us)) (h a)
def Bb {α:Type} {C:List α->Prop} (h:∀ a b c,C [a,b,c]):∀ us:List α,us.length=3->C us:=me fun a=>Ed (C:=fun us=>C (a::us)) (h a)
def vA {α:Type} {C:List α->Prop} (h:∀ a b c d,C [a,b,c,d]):∀ us:List α,us.length=4->C us:=me fun a=>Bb (C:=fun us=>C (a::us)) (h a)
def uM {α:Type} {C:List α->Prop} (h:∀ a b c d e,C [a,b,c,d,e]):∀ us:List α,us.length=5->C us:=me fun a=>vA (C:=fun us=>C (a::us)) (h a)
def Av {α:Type} {C:List α->Prop} (h:∀ a b c d e f,C [a,b,c,d,e,f]):∀ us:List α,us.length=6->C us:=me fun a=>uM (C:=fun us=>C (a::us)) (h a)
def WS {α:Type} {C:List α->Prop} (h:∀ a b c d e f g,C [a,b,c,d,e,f,g]):∀ us:List α,us.length=7->C us:=me fun a=>Av (C:=fun us=>C (a::us)) (h a)
end L2
namespace L2
open PySem PySem.Spec PyProof.Rows
section
open PySem.AutoSeq1 (wpAny_loadPart')
open PySem.MeetsSeq PySem.SeqAt
def BY:∀ {ns:List Int} {us:List Value},Vals (ns.map V.int) us->IntsAre us ns
 | [],_,.nil=>.nil
 | _::_,_,.cons r t=>by
  obtain ⟨k,rfl⟩:=r;exact .cons _ _ (BY t)
def Et:∀ {ns:List Int} {us:List Value},IntsAre us ns->∃ xs:List (Int×Tok),us=xs.map (fun p=>Value.int p.1 p.2)/\ns=xs.map (·.1)
 | _,_,.nil=>⟨[],rfl,rfl⟩
 | _,_,.cons n t h=>by
  obtain ⟨xs,e1,e2⟩:=Et h;exact ⟨(n,t)::xs,by rw [e1]; rfl,by rw [e2]; rfl⟩
end
section
variable {X:Cx}
def AB (K:PySem.W.Frag):V->List V->Hp->VK->Prop:=fun x vs H Q=>match x,vs with
 | .ref l,[.int k]=>∃ ns:List Int,aE K H l (ns.map V.int)/\k∈ns/\Q (.int (ns.idxOf k:Nat)) H
 | _,_=>False
def RA (K:PySem.W.Frag):V->List V->Hp->VK->Prop:=fun x vs H Q=>match x,vs with
 | .ref l,[.int k]=>∃ ns:List Int,bI K H l (ns.map V.int)/\k∈ns/\Q (.int (ns.idxOf k:Nat)) H
 | _,_=>False
def Hx {K:PySem.W.Frag} (hK:X.K=K):dB X "list.index" (AB K):=by
 subst hK;intro pins s σ H x vs v us Q I rx rv h;unfold AB at h;split at h
 ·rename_i l k;obtain ⟨ns,hl,hk,q⟩:=h;cases rx;obtain ⟨u,rfl,ru⟩:=vals1 rv;obtain ⟨t,rfl⟩:=ru;obtain ⟨aj,r',⟨⟨cls,dd,data,sl⟩,n,ho,hc,hd,hs⟩,hz⟩:=I.list hl;simp only at hc hd hs;subst hc hd hs;have hi:=BY r';have hlen:=hi.length;have hj:ns.idxOf k < ns.length:=List.idxOf_lt_length_iff.mpr hk;rw [mo] at hz;have hsl:sizeLine < 2 ^ 62:=by decide
  refine UF _c ⟨_,ho,rfl⟩ PySem.F.entry_list_index (PySem.F.args_list_index_2 _ _)
   (PySem.SeqAt.list_indexAt l aj.toArray n none sl (.int k t) (isInt k) (ns.idxOf k) (by simpa [hlen] using hj) (by omega) ?_ ?_) ⟨ho,fun y hy=>(eq_isInt k t hi y (by simpa using hy)).at _ _,⟨.int _,H,I.kept (t':=s.toks+1) fun _ _ e=>e,⟨_,rfl⟩,q⟩⟩
  ·show isInt k aj[ns.idxOf k]=true;rw [isInt_at k hi _ (by omega) hj]
   simpa using List.getElem_idxOf hj
  ·intro j hjs bH;show isInt k aj[j]=false;rw [isInt_at k hi j (by simpa using hjs) (by omega)];exact ne_of_lt_idxOf bH _
 ·exact h.elim
def za (K:PySem.W.Frag):List V->Hp->VK->Prop:=fun xs H Q=>match xs with
 | [.ref p]=>∃ (ns:List Int) (m:Int),aE K H p (ns.map V.int)/\m∈ns/\(∀ k∈ns,m<=k)/\Q (.int m) H
 | _=>False
def Tc {K:PySem.W.Frag} (hK:X.K=K) (hc:X.calm=true):cq X (.builtin "min") (za K):=by
 subst hK;intro pins s σ H xs us Q I r h;unfold za at h;split at h
 ·obtain ⟨ns,m,hl,hm,hle,q⟩:=h;obtain ⟨u,rfl,rx⟩:=vals1 r;cases rx;obtain ⟨aj,r',pl,hz⟩:=I.list hl;obtain ⟨xs,e1,e2⟩:=Et (BY r');have he:aj.toArray=intItems xs.toArray:=by rw [e1]; simp [intItems]
  rw [he] at pl;have hx:0 < xs.length:=by
   rw [e2] at hm;cases xs with
   | nil=>cases hm
   | cons _ _=>exact Nat.succ_pos _
  refine min_intList (I.ok.hd hc) pl.isList (by simpa using hx) fun v h' tk hv hk=>?_;obtain ⟨t,rfl⟩:=intItems_at hv;obtain ⟨pK,wM⟩:=PySem.argBest_lt (numAt xs.toArray) (xs.toArray.size - 1);refine ⟨.int m,H,I.kept (t':=tk) hk,⟨t,?_⟩,q⟩;have hn:∀ i (h:i < xs.length),numAt xs.toArray i=xs[i].1:=fun i h=>by simp [numAt,h]
  have hsz:xs.toArray.size=xs.length:=by simp
  rw [hsz] at pK wM ⊢;generalize argBest _ (xs.length - 1)=a at pK wM ⊢;have ha:a < xs.length:=by omega
  have h1:m<=numAt xs.toArray a:=hle _ (by rw [e2,hn a ha]; exact List.mem_map_of_mem (Z3 ha));rw [e2] at hm;obtain ⟨p,hp,hpm⟩:=Cl.mp hm;obtain ⟨i,hi,rfl⟩:=List.getElem_of_mem hp;have h2:=wM i (by omega);rw [hn i hi,hpm] at h2;rw [show numAt xs.toArray a=m by omega]
 ·exact h.elim
end
end L2
namespace HT
open PySem PySem.Spec PyProof.Rows
section
variable {prog:Program} {w:World} {A:Around} {E:Value->Shared->Prop} {s:Shared}
end
end HT
namespace L2
open PySem PySem.Spec PyProof.Rows
section
variable {X:Cx}
def Va (K:PySem.W.Frag):R2:=fun x y H Q=>match x,y with
 | .ref a,.ref b=>∃ xs ys,bI K H a xs/\bI K H b ys/\xs.length+ys.length<=sizeLine/\((xs=[]/\Q (.ref b) H)\/(xs≠[]/\ys≠[]/\∀ p,H p=none->Q (.ref p) (upd H p (.tup (xs++ys)))))
 | _,_=>False
def OV (K:PySem.W.Frag):R2:=fun x y H Q=>match x,y with
 | .ref a,.ref b=>∃ xs,bI K H a xs/\bI K H b []/\Q (.bl xs.isEmpty) H
 | _,_=>False
def Vz (K:PySem.W.Frag):V->Option Int->Option Int->Hp->VK->Prop:=fun x lo hi H Q=>match x with
 | .ref a=>∃ xs,bI K H a xs/\(HT.da xs.length 0 lo=0/\HT.da xs.length xs.length hi=xs.length->Q (.ref a) H)/\(∀ p,H p=none->Q (.ref p) (upd H p (.tup (eV xs lo hi))))
 | _=>False
def Vq (r:V->List V->Hp->VK->Prop) (to:TE) (t:TA):TE:=fun σ H Q=>to σ H fun x H1=>match x with
 | .ref l=>(match H1 l with
  | some (.tup _)=>t σ H1 fun xs H2=>r (.ref l) xs H2 Q
  | _=>False)
 | _=>False
section
variable {o e:Expr} {es:List Expr} {name:Str} {id:String} {r:V->List V->Hp->VK->Prop} {to:TE} {t:TA} {apos bo:Pos}
end
def IP:bootBuiltins "min" = some (.builtin "min"):=by kernel_rfl
end
def bx.m {j k:Nat} {A:Around} (r:bx k A) (h:j<=k:=by decide):bx j A:=r.mono h
def fI {C d x:Addr} {f:Str} {fs gs:List (Str×V)} {v:V} {H:Hp} {Q:V->Prop} (h:H x=some (.ins C d fs)) (s:cZ fs gs) (e:List.lookup f gs=some v) (q:Q v):FI C f (.ref x) H Q:=⟨x,_,_,_,rfl,h,(s f).trans e,q⟩
def mI {C d x:Addr} {f:Str} {fs gs:List (Str×V)} {H:Hp} {q:Prop} (h:H x=some (.ins C d fs)) (s:cZ fs gs) (r:q) (e:List.lookup f gs=none:=by rfl):MI C f (.ref x) H q:=⟨x,_,_,rfl,h,(s f).trans e,r⟩
@[elab_as_elim] theorem fM {H:Hp} {p:Addr} {o:HO} {C:Hp->Prop} (h:H p=none) (k:∀ H1,ag H H1->H1 p=some o->C H1):C (upd H p o):=k _ (ag.upd h) au
section
variable {prog:Program} {w:World} {A:Around} {E:Value->Shared->Prop} {s:Shared}
def Yc {d:Addr} {es:Array DictEntry} {ep:Nat} (lo:(d == sysModules)=false):PySem.W.KdlSrc prog w "dict" d d es.size (fun i v=>∃ e,es[i]?=some e/\v=e.key) (fun h=>gK h d es ep) where
 type:=fun _ x=>x.typeIs
 there:=fun _ x=>let ⟨_,e,_⟩:=x; ⟨wf e,wf e⟩
 keep:=fun _ _ x k=>x.at' (k d (.inl rfl))
 notList:=by decide
 notTuple:=by decide
 hint:=fun _ _ _ _ x q=>PySem.W.kdl_hint_dict x.typeIs q
 iter:=fun _ _ hh x=>⟨_,_,fun _ _ q=>vK lo x q,xj hh _ d (xL (let ⟨_,e,_⟩:=x; wf e)) es ep,⟨⟨_,wn _ rfl,rfl,rfl⟩,x.at' fun _ e=>li _ e⟩⟩
def sort_1 {a:Addr} {v:Value} {n:Nat} {P:Fin->Shared->Prop} (ho:s.heap.get? a=some (seqObj "list" [v].toArray n)) (h:P (.done (.ret .none)) { s with heap:=sortedHeap s.heap a [v] #[v] }) :
  wpAny (model prog w) A (Builtin.«list.sort» ⟨[.ref a],[]⟩) P E s:=by
 rw [list_sort_plain];have ha:=wf ho;refine kt (listItems_at ho rfl (kt (listUpdate_at ho rfl ?_)));obtain ⟨e1,h1⟩:∃ e1,(s.heap.update a (Obj.mapSeq fun _=>#[])).get? a=some (seqObj "list" #[] e1):=⟨_,get?_update_seq ho _⟩;refine kt (seqEpoch_at h1 rfl (kt (wpAny_newTuple (kt (Z7 (Id ?_))))));have h6:(((s.heap.update a (Obj.mapSeq fun _=>#[])).push (seqObj "tuple" [v].toArray 0)).push (seqObj "list" #[] 0)).get? a=some (seqObj "list" #[] e1) :=
  li _ (li _ h1)
 show wpAny (model prog w) A _ P E { s with heap:=((s.heap.update a (Obj.mapSeq fun _=>#[])).push (seqObj "tuple" [v].toArray 0)).push (seqObj "list" #[] 0) };dsimp only;have h2:([v]:List Value).toArray.size < 2:=by simp
 rw [Db h2,Db h2];refine kt (sK ?_);rw [StateT.run_pure];refine kt (sK ?_);dsimp only;refine kt (seqEpoch_at h6 rfl (kt (listUpdate_at h6 rfl ?_ (hsz2:=by rw [Array.size_map]; show (pairsOf [v]).size<=_; rw [pairsOf_size,ZV]; exact _n (At _)))));simp only [bne_self_eq_false,On,ZB];have hx:(arrOf (SortSt.mk' general' (#[v].zip #[v]) #[] 7 none)).map (·.2)=#[v]:=by
  show (#[v].zip #[v]).map (·.2)=#[v];simp
 rw [hx];exact sK h
end
section
variable {X:Cx}
def Nb {pins:List (Addr×Obj)} {σ:St} {H:Hp} {s:Shared} {Q:VK} {p:Addr} {k:List Key} {v:V} (hc:X.calm=true) (I:Inv X pins σ H s) (hd:H p=some (.dT [(k,v)])) (q:∀ y l,H y=some (.tup (k.map kV))->H l=none->Q (.ref l) (upd H l (.lst [.ref y]))) :
  wpAny (model X.prog X.w) X.A (call (.builtin "sorted") [.ref p]) (EP X pins σ Q) X.xe s:=by
 obtain ⟨hz,hS,xs,hp,o,es,ep,ho,hex,dH,jl,pB⟩:=id (I.aB p _ hd);cases hp with
 | @cons _ y _ _ hh t =>
 cases t;have hsz:es.size=1:=by rw [<- Pi,jl]; rfl
 have cN:gK s.heap p es ep:=⟨o,ho,hex,dH⟩;refine Tk _P _B _C (_D _) ?_;unfold Builtin.«sorted»;refine kt (m:=checkCount "sorted" 1 1 _) (sK ?_);refine kt (Z6 (A:=X.A.in1) (Yc hS) (I.ok.hd hc) cN (by rw [hsz,ZV]; decide) fun h' tk acc hk' dY=>?_);obtain ⟨u,hu⟩:∃ u,acc=#[u]:=by
  have e:=dY.1;rw [hsz] at e;obtain ⟨l⟩:=acc
  match l,e with
  | [u],_=>exact ⟨u,rfl⟩
 subst hu;obtain ⟨e,he,rfl⟩:=dY.2 0 u rfl;rw [<- Ps,jl] at he;cases he;refine kt (Z7 ?_ (by rw [ZV]; exact _n (At _)));have ed:(h'.push (seqObj "list" ([Value.ref y.2.1]:List Value).toArray 0)).get? h'.objs.size=some (seqObj "list" ([Value.ref y.2.1]:List Value).toArray 0):=wn _ rfl;refine kt (Id (XV _i ⟨_,ed,rfl⟩ Z9 (sort_1 ed ⟨_,rfl,?_⟩) (_j _)));refine sK ⟨_,rfl,?_⟩;obtain ⟨e,he⟩:=_R (out:=#[Value.ref y.2.1]) ed;have I1:Inv X pins σ H { s with heap:=h',toks:=tk }:=I.kept (t':=tk) hk';refine ⟨.ref h'.objs.size,_,I1.laid (t':=tk) (fun b o z=>?_) (sB _) (show bN X.prog X.w _ _ _ (.lst [.ref y.2.1]) from ⟨by rw [ZV]; exact _n (At _),[Value.ref y.2.1],e,.cons rfl .nil,he⟩),rfl,q _ _ hh.2.1 (I1.aB.fresh (sB _))⟩;have hb:b < h'.objs.size:=wf z;exact (_N (xL hb) (show b < (h'.push _).objs.size by rw [TW]; exact ZR hb)).trans (li _ z)
def MH:List V->Hp->VK->Prop:=fun xs H Q=>∃ p kvs,xs=[.ref p]/\H p=some (.dT kvs)/\((kvs=[]/\∀ l,H l=none->Q (.ref l) (upd H l (.lst [])))\/∃ k v,kvs=[(k,v)]/\∀ y l,H y=some (.tup (k.map kV))->H l=none->Q (.ref l) (upd H l (.lst [.ref y])))
def NJ (hc:X.calm=true):cq X (.builtin "sorted") MH:=by
 intro pins s σ H xs us Q I r h;obtain ⟨p,kvs,rfl,hd,h⟩:=h;obtain ⟨u,rfl,rx⟩:=vals1 r;cases rx;rcases h with ⟨rfl,q⟩ | ⟨k,v,rfl,q⟩
 ·exact EO hc I hd q
 ·exact Nb hc I hd q
def vV {te:TE} {H:Hp} {Q:VK} {vs:List V} (m:Nat) (W:Nat->List V->Hp->Prop) (hm:m<=1000) (w0:W 0 [] H) (wl:∀ i ys H1,W i ys H1->ys.length=i)
  (he:∀ k ys H1,k < m->W k ys H1->∀ R:VK,(∀ z H2,W (k+1) (ys++[z]) H2->R z H2)->te (some (.int (k:Int))::vs.map some) H1 R)
  (q:∀ ys H1 l,W m ys H1->H1 l=none->Q (.ref l) (upd H1 l (.lst ys))) :
  rH (jD 0 ((m:Int)).toNat) 1 vs (fm 0) md te Q H:=by
 have hsz:m<=sizeLine:=fits hm;refine ⟨fun i zs k H1=>W i zs H1/\i<=m/\k=m - i,⟨_,w0,At _,rfl⟩,?_⟩;rintro i zs k H1 ⟨hw,hi,rfl⟩;have hlen:=wl _ _ _ hw;refine ⟨by omega,?_⟩;by_cases h:i < m
 ·refine .inr ⟨show i < ((m:Int)).toNat by omega,by omega,?_⟩;rintro v H' ⟨rfl,rfl⟩ σ0 hσ0;obtain ⟨a,rfl⟩:=zq hσ0;refine ⟨⟨[some (.int (0+(i:Int)))],rfl,rfl⟩,?_⟩;have e0:(0+(i:Int))=(i:Int):=by omega
  show md _ _ _;unfold md;dsimp only;rw [Db rfl];have st:=he i zs _ h hw (fun z H3=>∃ m',m' < m - i/\W (i+1) (zs++[z]) H3/\i+1<=m/\m'=m - (i+1)) (fun v H2 x=>⟨m - (i+1),by omega,x,h,rfl⟩);rw [<- e0] at st;exact st
 ·have e:i=m:=by omega
  subst e;exact .inl ⟨show ((i:Int)).toNat<=i by omega,fun l hl=>q _ _ _ hw hl⟩
end
def DE (K:PySem.W.Frag) (H:Hp):Nat->V->V->Prop
 | 0,x,y=>cM x=true/\cM y=true/\eT x y=true
 | n+1,x,y=>(cM x=true/\cM y=true/\eT x y=true)\/∃ a b xs ys,x=.ref a/\y=.ref b/\(aE K H a xs/\aE K H b ys\/bI K H a xs/\bI K H b ys)/\xs.length=ys.length/\∀ i (h1:i < xs.length) (h2:i < ys.length),DE K H n xs[i] ys[i]
section
variable {X:Cx}
def n9 {xs:List V} {i1:List Value} (r1:Vals xs i1) (j:Nat) (g1:j < i1.toArray.size):∃ (j1:j < xs.length),RelV xs[j] i1.toArray[j]:=by
 have j1:j < xs.length:=by rw [r1.length]; simpa using g1
 obtain ⟨u1,e1,ru1⟩:=r1.get (ul j1);have w1:i1.toArray[j]=u1:=by
  have:=(lv.mp e1).2
  simpa using this
 exact ⟨j1,by rw [w1]; exact ru1⟩
def R9 {pins:List (Addr×Obj)} {σ:St} {H:Hp} {s:Shared} (I:Inv X pins σ H s) {n:Nat} (ih:∀ {A:Around} {x y:V} {v u:Value},DE X.K H n x y->RelV x v->RelV y u->A.units+n < cLine->SeqAt.EqAt A s v u true)
  {A:Around} {a b:Addr} {xs ys:List V} (dG:aE X.K H a xs/\aE X.K H b ys\/bI X.K H a xs/\bI X.K H b ys) (hl:xs.length=ys.length) (he:∀ i (h1:i < xs.length) (h2:i < ys.length),DE X.K H n xs[i] ys[i]) (hu:A.units+(n+1) < cLine):SeqAt.RcAt A s (.ref a) (.ref b) true:=by
 have el:∀ {i1 i2:List Value},Vals xs i1->Vals ys i2->∀ (j:Nat) (g1:j < i1.toArray.size) (g2:j < i2.toArray.size),SeqAt.EqAt A.in1 s i1.toArray[j] i2.toArray[j] true:=fun r1 r2 j g1 g2=>by
  obtain ⟨j1,u1⟩:=n9 r1 j g1;obtain ⟨j2,u2⟩:=n9 r2 j g2;exact ih (he j j1 j2) u1 u2 (show A.units+1+n < cLine by omega)
 rcases dG with ⟨ha,hb⟩ | ⟨ha,hb⟩
 ·obtain ⟨i1,r1,p1,_⟩:=I.list ha;obtain ⟨i2,r2,p2,_⟩:=I.list hb;have hsz:i1.toArray.size=i2.toArray.size:=by rw [tz,tz,<- r1.length,<- r2.length,hl]
  have k:=SeqAt.RcAt.lists (A:=A) (s:=s) (e:=fun _=>true) p1.isList p2.isList hsz (by omega) (el r1 r2);rw [all_true] at k;exact k
 ·obtain ⟨i1,r1,p1,_⟩:=I.tuple ha;obtain ⟨i2,r2,p2,_⟩:=I.tuple hb;have hsz:i1.toArray.size=i2.toArray.size:=by rw [tz,tz,<- r1.length,<- r2.length,hl]
  have k:=SeqAt.RcAt.tuples (A:=A) (s:=s) (e:=fun _=>true) p1 p2 (by omega) (el r1 r2);rw [all_true,hsz,_o,Bool.and_self] at k;exact k
def Ao {pins:List (Addr×Obj)} {σ:St} {H:Hp} {s:Shared} (I:Inv X pins σ H s):∀ (n:Nat) {A:Around} {x y:V} {v u:Value},DE X.K H n x y->RelV x v->RelV y u->A.units+n < cLine->SeqAt.EqAt A s v u true
 | 0,A,x,y,v,u,h,rx,ry,hu=>by
  have:=xl (A:=A) (s:=s) rx ry h.1 h.2.1;rw [h.2.2] at this;exact this
 | n+1,A,x,y,v,u,h,rx,ry,hu=>by
  rcases h with h | ⟨a,b,xs,ys,rfl,rfl,dG,hl,he⟩
  ·have:=xl (A:=A) (s:=s) rx ry h.1 h.2.1;rw [h.2.2] at this;exact this
  ·cases rx; cases ry;by_cases e:a=b
   ·subst e; exact SeqAt.EqAt.same _
   ·exact SeqAt.EqAt.of_refs e (R9 I (Ao I n) dG hl he hu)
end
def bx.oK {k:Nat} {A:Around} (r:bx k A):A.units+(4+1) < cLine:=by have:=r.un; omega
def zC:List V->Hp->VK->Prop:=fun xs H Q=>match xs with
 | [.int a,.int b]=>Q (.int (if b < a then b else a)) H
 | _=>False
def Wa {X:Cx} (hc:X.calm=true):cq X (.builtin "min") zC:=by
 intro pins s σ H xs us Q I r h;unfold zC at h;split at h
 ·obtain ⟨u,u2,rfl,rx,ry⟩:=vals2 r;obtain ⟨t,rfl⟩:=rx;obtain ⟨t2,rfl⟩:=ry;rename_i a b;refine min_two_ints (I.ok.hd hc) fun h' tk hk=>?_;refine ⟨_,H,I.kept (t':=tk) hk,?_,h⟩;by_cases dG:b < a
  ·rw [Db dG,Db dG]; exact ⟨_,rfl⟩
  ·rw [Ch dG,Ch dG]; exact ⟨_,rfl⟩
 ·exact h.elim
def Jx (K:PySem.W.Frag) (n:Nat):R2:=fun x y H Q=>match x,y with
 | .ref a,.ref b=>∃ xs ys:List V,bI K H a xs/\bI K H b ys/\xs.length=ys.length/\(∀ i (h1:i < xs.length) (h2:i < ys.length),DE K H n xs[i] ys[i])/\Q (.bl false) H
 | _,_=>False
def VO {X:Cx} {K:PySem.W.Frag} (n:Nat) (hK:X.K=K) (hu:X.A.units+(n+1) < cLine):aW X (compareOp .NotEq) (Jx K n):=by
 subst hK;intro pins s σ H x y v u Q I rx ry h;unfold Jx at h;split at h
 ·obtain ⟨xs,ys,ha,hb,hl,he,q⟩:=h;cases rx; cases ry;obtain ⟨i1,r1,p1,_⟩:=I.tuple ha;obtain ⟨i2,r2,p2,_⟩:=I.tuple hb;have hsz:i1.toArray.size=i2.toArray.size:=by rw [tz,tz,<- r1.length,<- r2.length,hl]
  have k:=SeqAt.RcNeAt.tuples (A:=X.A) (s:=s) (e:=fun _=>true) p1 p2 (by omega) (fun j g1 g2=>by
   obtain ⟨j1,u1⟩:=n9 r1 j g1;obtain ⟨j2,u2⟩:=n9 r2 j g2;exact Ao I n (he j j1 j2) u1 u2 (show X.A.units+1+n < cLine by omega))
  rw [all_true,hsz,_o,Bool.and_self] at k;exact k _ _ _ _ ⟨.bl _,H,I,rfl,q⟩
 ·exact h.elim
def iD.ps {X:Cx} {E:XK} (h:iD X (fun _=>E)):Passes (cI X.prog X.w) X E:=fun pins σ H s e s' I hc=>h.pass pins σ H s e s' I hc
def gD {α:Type} (d:α) (us ws:List α):List α:=if ws.length=1 then us++d::ws else []
def gS {α:Type} (us ws:List α):List α:=if ws.length=2 then us++ws.reverse else []
def NP {dV:V} {d:Value} (hd:RelV dV d) {vs:List V} {us:List Value} {zs:List V} {ws:List Value} (r:Vals vs us) (q:Vals zs ws):Vals (gD dV vs zs) (gD d us ws):=by
 unfold gD;rw [q.length];split
 ·exact r.append (.cons hd q)
 ·exact .nil
def SW {vs:List V} {us:List Value} {zs:List V} {ws:List Value} (r:Vals vs us) (q:Vals zs ws):Vals (gS vs zs) (gS us ws):=by
 unfold gS;rw [q.length];split
 ·rename_i h;refine r.append ?_
  match ws,h,zs,q with
  | [a,b],_,[c,d],.cons h1 (.cons h2 .nil)=>exact .cons h2 (.cons h1 .nil)
 ·exact .nil
section
variable {K:PySem.W.Frag} {x qual nm mO:Str} {st:Stmt} {f:Addr} {fd:FuncData} {ps:List Str} {ds:List Value}
def Pg {dV:V} {d:Value} (hd:RelV dV d) (F:lL K x qual st f fd ds) (hp:ps.length=5) (h:∀ (dt:Addr) (kV doc pm:Value) (an:Option Addr) (ax ct a b c e:Value),
   ∃ k,bindArgs (PySem.W.fnOf x qual (en st) (aZ st) (aD st) (.ref dt) kV doc pm an ax ct) ⟨[a,b,c],[(nm,e)]⟩=seqItems? (.ref dt) >>= k/\k (some ds.toArray)=pure (ps.zip [a,b,c,d,e])):nO K fd ps [nm] (gD d) (gD dV) where
 to:=by
  obtain ⟨oc,od,dt,kV,doc,pm,an,ax,ct,dA,o,n,rfl,lk,cT,C2,kX⟩:=F.ex;intro s us ws X hl;unfold gD at hl ⊢;split at hl
  ·rename_i h1;rw [Db h1];rw [ww,GE,h1,hp] at hl;obtain ⟨e,rfl⟩:=List.length_eq_one_iff.mp h1;have h3:us.length=3:=by omega
   obtain ⟨a,b,c,rfl⟩:∃ a b c,us=[a,b,c]:=by
    match us,h3 with
    | [a,b,c],_=>exact ⟨a,b,c,rfl⟩
   obtain ⟨k,h1,h2⟩:=h dt kV doc pm an ax ct a b c e;exact _A rfl (X _ _ C2) kX h1 h2
  ·rw [hp] at hl; cases hl
 rel:=NP hd
def Q8 (F:lL K x qual st f fd ds) (hp:ps.length=6) (h:∀ (dt:Addr) (kV doc pm:Value) (an:Option Addr) (ax ct a b c d e g:Value),
   ∃ k,bindArgs (PySem.W.fnOf x qual (en st) (aZ st) (aD st) (.ref dt) kV doc pm an ax ct) ⟨[a,b,c,d],[(nm,e),(mO,g)]⟩=seqItems? (.ref dt) >>= k/\k (some ds.toArray)=pure (ps.zip [a,b,c,d,g,e])):nO K fd ps [nm,mO] gS gS where
 to:=by
  obtain ⟨oc,od,dt,kV,doc,pm,an,ax,ct,dA,o,n,rfl,lk,cT,C2,kX⟩:=F.ex;intro s us ws X hl;unfold gS at hl ⊢;split at hl
  ·rename_i h1;rw [Db h1];rw [ww,Wp,h1,hp] at hl;obtain ⟨e,g,rfl⟩:∃ e g,ws=[e,g]:=by
    match ws,h1 with
    | [e,g],_=>exact ⟨e,g,rfl⟩
   have h4:us.length=4:=by omega
   obtain ⟨a,b,c,d,rfl⟩:∃ a b c d,us=[a,b,c,d]:=by
    match us,h4 with
    | [a,b,c,d],_=>exact ⟨a,b,c,d,rfl⟩
   obtain ⟨k,h1,h2⟩:=h dt kV doc pm an ax ct a b c d e g;exact _A rfl (X _ _ C2) kX h1 h2
  ·rw [hp] at hl; cases hl
 rel:=SW
end
section
variable {X:Cx}
def Dv.W7 {CX:dD} {k:Nat} {f:Addr} {fd:FuncData} {ps:List Str} {sp:Sp} {E:XK} {x nm mO:Str} {p pos mQ KL:Pos} {e e2 e3:Expr} {es:List Expr} {t:TA} {te te2:TE} {g:List Value->List Value->List Value} {gV:List V->List V->List V}
  (F:aC X.prog X.w X.K X.mg X.base CX k f fd ps sp) (hr:bx k X.A) (hm:X.mg x=some (.ref f)) (hk:PySem.W.keepIn X.K (.ref f)=true) (hb:nO X.K fd ps [nm,mO] g gV) (hx:Passes CX X E)
  (ha:QA X (e::es) t) (tE:QE X e2 te) (hkw2:QE X e3 te2) (hg:Gl X x:=by rfl) (bP:(x == ("__debug__" : Str))=false:=by decide) (he:starEach (e::es) X.env=(false,eval e X.env)::starEach es X.env:=by rfl)
  (bw:((backTo pos (starEach (e::es) X.env)).any (·.1) || (backToKw pos (keywordEach [⟨some nm,e2,mQ⟩,⟨some mO,e3,KL⟩] X.env)).any (·.1.isNone))=false:=by rfl) :
  QE X (.Call (.Name x p) (e::es) [⟨some nm,e2,mQ⟩,⟨some mO,e3,KL⟩] pos) (vY sp gV E t (i9 te (i9 te2 iC))) :=
 ⟨Gr F hr hg hm hk hb hx ha.h (B7 tE.h (B7 hkw2.h Fz)) rfl rfl bP he bw⟩
end
def yW (d:Addr) (o:Obj) (u:HO) (ts:List Str):It :=
 ⟨fun i H=>H d=some (.bG o u)/\i < ts.length,fun i H x H'=>H'=H/\∃ t,ts[i]?=some t/\x=.str t,fun i H=>H d=some (.bG o u)/\ts.length<=i⟩
def VJ {P:Program} {w:World} {K:PySem.W.Frag} {tg:Expr} {d it:Addr} {o:Obj} {u:HO} {ts:List Str} {es:Array DictEntry} {ep:Nat} (hx:o.ExactDict) (dH:o.data=.dict es ep) (hn:es.size=ts.length) (hk:∀ (i:Nat) (h:i < es.size),∃ t k,ts[i]?=some t/\es[i].key=.str t k) :
  Turn P w K tg (yW d o u ts) [it] it (fun i h=>h.IsKeyIter it d i es.size ep) where
 mem:=by simp
 obj:=fun i h st b hb=>by
  have e:b=it:=by simpa using hb
  subst e;obtain ⟨o,e,c,d⟩:=st;exact ⟨o,e,fun v z=>by rw [d] at z; cases z⟩
 keep:=fun i h h' st k=>st.at fun o e=>k it (by simp) o e
 item:=by
  intro X hP hw hK hc i pins s σ H E I hf st hg;subst hP hw hK;obtain ⟨eO,bH⟩:=hg;have ho:s.heap.get? d=some o:=(I.aB d _ eO).1;obtain ⟨f0,f1,f2,f3,f4,f5⟩:=hf it (by simp);refine uB st ⟨o,ho,hx,dH⟩ (fun hl h' st' sb=>?_) (fun pH=>absurd bH (by omega));obtain ⟨t,k,h1,h2⟩:=hk i hl;have I1:Inv X pins σ H { s with heap:=h' }:=I.turned (t':=s.toks) (fun b o hb e=>(sb.2 b hb).trans e) f0 f1 f3 f4 f5;obtain ⟨o',e,c,dd⟩:=id st';exact ⟨_,rfl,uH (s:={ s with heap:=h' }) e c dd (by decide) ⟨.str t,H,I1,⟨k,h2⟩,⟨rfl,t,h1,rfl⟩,st',fun b hb=>(hf b hb).1⟩⟩
 done:=by
  intro X hP hw hK hc i pins s σ H E I hf st hg;subst hP hw hK;obtain ⟨eO,bH⟩:=hg;have ho:s.heap.get? d=some o:=(I.aB d _ eO).1;obtain ⟨f0,f1,f2,f3,f4,f5⟩:=hf it (by simp);refine uB st ⟨o,ho,hx,dH⟩ (fun hl=>absurd bH (by omega)) (fun pH=>⟨I.ok.hd hc,fun h' eb=>⟨rfl,I.turned (t':=s.toks) (fun b o hb e=>eb b o hb e) f0 f1 f3 f4 f5⟩⟩)
 self:=fun _ _ _ _ _ st h=>wpAny_pyIter_keyiter st h
def Fd {P:Program} {w:World}:∀ {es:List DictEntry} {vs:List (Key×Value)} {ts:List Str},Pairs (cS P w) es vs->vs.map (·.1)=ts.map Sum.inr->es.length=ts.length/\∀ (i:Nat) (h:i < es.length),∃ t k,ts[i]?=some t/\es[i].key=.str t k
 | [],_,ts,.nil,e=>by
  cases ts with
  | nil=>exact ⟨rfl,fun i h=>absurd h (_v _)⟩
  | cons=>cases e
 | e::es,(kv::vs),ts,.cons h1 h2 r,h=>by
  cases ts with
  | nil=>cases h
  | cons t ts =>
   obtain ⟨hk,hr⟩:=List.cons.inj h;obtain ⟨a,b⟩:=Fd r hr;refine ⟨Tm (· + 1) a,fun i hi=>?_⟩;cases i with
   | zero =>
    have h1':jT kv.1 e.key=true:=h1;rw [show kv.1=Sum.inr t from hk] at h1';obtain ⟨k,DR⟩:=An h1';exact ⟨t,k,rfl,DR⟩
   | succ i=>exact b i (Nat.lt_of_succ_lt_succ hi)
section
variable {X:Cx} {tg:Expr} {pins:List (Addr×Obj)} {σ:St} {H:Hp} {s:Shared}
def Inv.freeze {d:Addr} {o:Obj} {kvs:List (Key×V)} (I:Inv X pins σ H s) (e:Rd H d (.dK kvs)) (ho:s.heap.get? d=some o):Inv X pins σ (upd H d (.bG o (.dK kvs))) s:=by
 rcases e with e | ⟨o',e⟩
 ·have mu:oS (H d):=by rw [e]; trivial
  exact I.un (t':=s.toks) (h':=s.heap) (Un.write mu (.inl rfl) (fun _ _ _ q=>q) ⟨o,ho⟩) (I.aB.write mu (.inl rfl) (fun _ _ _ q=>q) ⟨o,ho⟩ ⟨ho,I.aB d _ e⟩)
 ·obtain ⟨h1,_⟩:=I.aB d _ e;rw [ho] at h1;cases h1;rw [show upd H d (.bG o (.dK kvs))=H from funext fun b=>by
   by_cases z:b=d
   ·rw [z,au,e]
   ·rw [ah z]]
  exact I
def BW (tl:TE):TI:=fun σ H R=>tl σ H fun x H1=>∃ d kvs ts,x=.ref d/\Rd H1 d (.dK kvs)/\kvs.map (·.1)=ts.map Sum.inr/\∀ o,R (yW d o (.dK kvs) ts) (upd H1 d (.bG o (.dK kvs)))
def RY {l:Expr} {tl:TE} (hl:PE X l tl):PI X tg l (BW tl):=by
 intro pins s σ H R I h;refine aF (hl pins s σ H _ I h) fun v s1 ⟨x,H1,I1,r1,q1⟩=>?_;obtain ⟨d,kvs,ts,rfl,hr,hk,q⟩:=q1;cases r1;obtain ⟨hz,hS,vs,rv,o,es,ep,ho,hx,dH,K7,CL,pB⟩:=hr.ok I1.aB;have I2:=I1.freeze hr ho;obtain ⟨hn,hi⟩:=Fd CL (by rw [<- rv.keys]; exact hk);refine vK hS ⟨o,ho,hx,dH⟩ ?_;refine ⟨s1.heap.objs.size,[s1.heap.objs.size],_,_,upd H1 d (.bG o (.dK kvs)),rfl,I2.kept (t':=s1.toks) fun b o e=>li _ e,VJ hx dH (by simpa using hn) (fun i h=>by have:=hi i (by simpa using h); rwa [Array.getElem_toList] at this),⟨_,wn _ rfl,rfl,rfl⟩,fun b hb=>?_,q o⟩;have e:b=s1.heap.objs.size:=by simpa using hb
 subst e;exact I2.rA (sB _) (I2.aB.fresh (sB _))
def Dv.Qu {l:Expr} {tl:TE} (hl:QE X l tl):QI X tg l (BW tl):=⟨RY hl.h⟩
end
def yg (d:Addr) (o:Obj) (kvs:List (Key×V)):It :=
 ⟨fun i H=>H d=some (.bG o (.dK kvs))/\i < kvs.length,fun i H x H'=>∃ p k v,kvs[i]?=some (k,v)/\x=.ref p/\H p=none/\H'=upd H p (.tup [kV k,v]),fun i H=>H d=some (.bG o (.dK kvs))/\kvs.length<=i⟩
def T5 {k:Key} {v:Value} (h:jT k v=true):RelV (kV k) v:=by
 rcases ja h with ⟨i,t,rfl,rfl⟩ | ⟨x,t,rfl,rfl⟩
 ·exact ⟨t,rfl⟩
 ·exact ⟨t,rfl⟩
def SY {P:Program} {w:World} {K:PySem.W.Frag} {es:List Expr} {kk:Nat} {jv:Pos} {d it:Addr} {o:Obj} {kvs:List (Key×V)} {vs:List (Key×Value)} {ep:Nat} (rv:KV kvs vs) (cN:∀ h:Heap,h.get? d=some o->h.DictAt (cS P w) d vs ep) :
  Turn P w K (.Tuple es kk jv) (yg d o kvs) [it] it (fun i h=>∃ ok ov,IsItemIter h it d i vs.length ep ok ov) where
 mem:=by simp
 obj:=fun i h ⟨ok,ov,st⟩ b hb=>by
  have e:b=it:=by simpa using hb
  subst e;exact ⟨_,st,fun v z=>by simp at z⟩
 keep:=fun i h h' ⟨ok,ov,st⟩ k=>⟨ok,ov,k it (by simp) _ st⟩
 item:=by
  intro X hP hw hK hc i pins s σ H E I hf st hg;subst hP hw hK;obtain ⟨ok,ov,st⟩:=st;obtain ⟨eO,bH⟩:=hg;have ho:s.heap.get? d=some o:=(I.aB d _ eO).1;have hlen:=rv.length;obtain ⟨⟨k,v⟩,hx⟩:∃ p,kvs[i]?=some p:=⟨_,ul bH⟩;obtain ⟨⟨k',u⟩,hu⟩:∃ p,vs[i]?=some p:=⟨_,ul (by omega)⟩;have hp:k=k'/\RelV v u:=AR rv hx hu;obtain ⟨rfl,ru⟩:=hp;refine wpAny_pyNext_items_item st (cN _ ho) hu fun key h' Ca a1 a5 _ hk=>⟨_,rfl,?_⟩;refine wpAny_letOwnedTupleGo_items (s:={ s with heap:=h' }) a1 fun h2' Cq mP=>?_;have LW:s.heap.objs.size≠it:=_d (wf st);have t5:h2'.get? s.heap.objs.size=some { cls:=.type "tuple",data:=.seq #[key,u] }:=mP.extBut _ _ LW a5;have kp:∀ c o,c≠it->s.heap.get? c=some o->h2'.get? c=some o:=fun c o hc e=>mP.extBut _ _ hc (hk c o hc e);have nT:H s.heap.objs.size=none:=I.aB.fresh (sB _);have I1:Inv X pins σ (upd H s.heap.objs.size (.tup [kV k,v])) { s with heap:=h2' }:=by
   have sX:∀ b u,H b=some u->b≠it:=fun b u e z=>by rw [z,(hf it (by simp)).1] at e; cases e
   refine I.HX (s':={ s with heap:=h2' }) (ch:=[it]) rfl ⟨fun b o e n _ hx=>kp b o (by simpa using hx) e,fun b o e n _ hx=>⟨o.slots,kp b o (by simpa using hx) e⟩,fun b o e n _=>?_,fun b o e hx=>⟨o,kp b o (by simpa using hx) e⟩,fun b xs e=>?_,fun b o u e=>?_,fun b ps e=>⟨#[],?_⟩⟩ (fun b v' e=>?_) I.bare fun b hb=>?_
   ·rw [ah (xL (wf e))]; exact n
   ·rw [ah (dP e nT)]; exact e
   ·rw [ah (dP e nT)]; exact e
   ·rw [ah (dP e nT),e]; simp
   ·by_cases hb:b=s.heap.objs.size
    ·subst hb;rw [au] at e; cases e;exact ⟨fits (by simp),[key,u],.cons (T5 Ca) (.cons ru .nil),⟨_,t5,rfl,_,rfl,rfl⟩⟩
    ·rw [ah hb] at e;refine (I.aB b v' e).eL (fun c v'' hc q=>kp c v'' (fun z=>?_) q) (fun c q=>by rw [ah (dP q nT)]; exact q) fun c xs q=>by rw [ah (dP q nT)]; exact q
     rcases hc with rfl | hc
     ·exact sX _ _ e z
     ·exact sX _ _ hc z
   ·obtain ⟨g1,g2,g3,g4,g5,g6⟩:=hf b hb;exact ⟨g4,g2,g5,g6⟩
  refine ⟨.ref s.heap.objs.size,_,I1,rfl,⟨_,k,v,hx,rfl,nT,rfl⟩,⟨_,_,Cq⟩,fun b hb=>?_⟩;have e:b=it:=by simpa using hb
  subst e;rw [ah (sw LW)];exact (hf b hb).1
 done:=by
  intro X hP hw hK hc i pins s σ H E I hf st hg;subst hP hw hK;obtain ⟨ok,ov,st⟩:=st;obtain ⟨eO,bH⟩:=hg;have ho:s.heap.get? d=some o:=(I.aB d _ eO).1;have hlen:=rv.length;obtain ⟨f0,f1,f2,f3,f4,f5⟩:=hf it (by simp);exact wpAny_pyNext_items_end (I.ok.hd hc) st (cN _ ho) (ZO (by omega)) fun h' eb=>⟨rfl,I.turned (t':=s.toks) (fun b o hb e=>eb b o hb e) f0 f1 f3 f4 f5⟩
 self:=fun _ _ _ _ _ ⟨_,_,st⟩ h=>PySem.W.kcp_self st h
section
variable {X:Cx} {es:List Expr} {kk:Nat} {jv apos bo:Pos} {o:Expr} {to:TE}
def zR (to:TE):TI:=fun σ H R=>to σ H fun x H1=>∃ d kvs,x=.ref d/\Rd H1 d (.dK kvs)/\∀ o,R (yg d o kvs) (upd H1 d (.bG o (.dK kvs)))
def Nx (ho:PE X o to) (fF:attributeBase o "items" X.env (eval o X.env)=eval o X.env:=by rfl) (fD:(apos.endLine == bo.line)=true:=by rfl):PI X (.Tuple es kk jv) (.Call (.Attribute o "items" apos) [] [] bo) (zR to):=by
 intro pins s σ H R I h;refine wpAny_Call_method0_late fF fD (aF (ho pins s σ H _ I h) fun v s1 ⟨x,H1,I1,r1,d,kvs,ex,hr,q⟩=>?_);subst ex;cases r1;obtain ⟨hz,hS,vs,rv,dd⟩:=hr.ok I1.aB;obtain ⟨ob,eb,ep,Cz,hx,dH,K7,CL,pB⟩:=id dd;refine ⟨"dict","dict.items",PySem.F.plainAttrs_dict,PySem.F.slot_dict_items,PySem.F.type_dict_items,dd.typeIs,fun a e=>by cases e; exact ⟨ob,Cz,hx.2.1⟩,WP rfl (PySem.evalArgs_none ?_)⟩;refine call_meetsIn PySem.F.slot_dict_items dd.typeIs PySem.F.entry_dict_items (PySem.F.args_dict_items_1 _) (meets_dict_items (cS X.prog X.w) d hS) ⟨⟨vs,dd⟩,?_⟩;have cN:∀ h:Heap,h.get? d=some ob->h.DictAt (cS X.prog X.w) d vs ep:=fun h e=>⟨ob,eb,e,hx,dH,K7,CL,pB⟩;have I2:=I1.freeze hr Cz;have I3:Inv X pins σ (upd H1 d (.bG ob (.dK kvs))) { s1 with heap:=s1.heap.push { cls:=.type "dict_items",data:=.fields #[.ref d] } }:=I2.kept (t':=s1.toks) fun b o e=>li _ e;refine wpAny_pyIter_items (knd:=cS X.prog X.w) (kvs:=vs) (ep:=ep) ⟨_,wn _ rfl,rfl,rfl⟩ (cN _ (li _ Cz)) ?_;refine ⟨_,_,_,_,upd H1 d (.bG ob (.dK kvs)),rfl,I3.kept (t':=s1.toks) fun b o e=>li _ e,SY rv cN,⟨_,_,wn _ rfl⟩,fun b hb=>?_,q ob⟩;have e:=AC.mp hb;subst e;exact I3.rA (sB _) (I3.aB.fresh (sB _))
def Dv.Qh (ho:QE X o to) (fF:attributeBase o "items" X.env (eval o X.env)=eval o X.env:=by rfl) (fD:(apos.endLine == bo.line)=true:=by rfl):QI X (.Tuple es kk jv) (.Call (.Attribute o "items" apos) [] [] bo) (zR to):=⟨Nx ho.h fF fD⟩
end
def E3:∀ {xs:List V} {us:List Value},Vals xs us->Vals xs.reverse us.reverse
 | _,_,.nil=>.nil
 | _,_,.cons (l₁:=xs) (l₂:=us) h r=>by
  rw [List.reverse_cons,List.reverse_cons];exact (E3 r).append (.cons h .nil)
def zu (K:PySem.W.Frag) (te:TE) (tk:TO):TE:=fun σ H Q=>te σ H fun x H1=>tk σ H1 fun k H2=>k=some (-1)/\∃ a xs,x=.ref a/\aE K H2 a xs/\∀ p,H2 p=none->Q (.ref p) (upd H2 p (.lst xs.reverse))
section
variable {X:Cx} {e st:Expr} {te:TE} {tk:TO} {p2 pos:Pos}
def VY {K:PySem.W.Frag} (hK:X.K=K) (he:PE X e te) (hk:PO X (some st) tk):PE X (.Subscript e (.Slice none none (some st) p2) pos) (zu K te tk):=by
 subst hK;intro pins s σ H Q I h;refine Subscript_ (aF (he pins s σ H _ I h) fun v s1 ⟨x,H1,I1,r1,q1⟩=>?_);refine wpAny_Slice ?_;rw [evalPart_none];refine sK (sK ?_);refine aF (hk pins s1 σ H1 _ I1 q1) fun vk s3 ⟨l,H3,I3,pk,el,a,xs,ex,hx,q3⟩=>?_;subst el;subst ex;cases r1;have I4:Inv X pins σ H3 { s3 with heap:=s3.heap.push { cls:=.type "slice",data:=.fields #[.none,.none,vk] } }:=I3.kept (t':=s3.toks) fun b ob q=>li _ q;obtain ⟨aj,r,ht,hz⟩:=I4.list hx;have hlen:=r.length;show wpAny (model X.prog X.w) X.A (subscriptTail e (.Slice none none (some st) p2) (.ref a) (.ref s3.heap.objs.size)) (EP X pins σ Q) X.xe { s3 with heap:=s3.heap.push { cls:=.type "slice",data:=.fields #[.none,.none,vk] } };refine tail_any (ops:=[.ref a,.ref s3.heap.objs.size]) ht.isList.typeIs slot_list_getitem.lookup ?_ (by with_unfolding_all rfl);refine wpAny_getItem_list_slice ht.isList (Heap.IsSliceOf.new ..) .none .none pk (by decide) ?_ (by rw [tz] <;> omega);rw [PySem.W.krv_pick];refine ⟨.ref _,_,I4.laid (t':=s3.toks) (o:=.lst xs.reverse) (fun b ob q=>li _ q) (sB _) ?_,rfl,q3 _ (I4.aB.fresh (sB _))⟩;exact ⟨by rw [Wp]; exact hz,_,0,E3 r,wn _ rfl⟩
def Dv.rev {K:PySem.W.Frag} (hK:X.K=K) (he:QE X e te) (hk:QO X (some st) tk):QE X (.Subscript e (.Slice none none (some st) p2) pos) (zu K te tk):=⟨VY hK he.h hk.h⟩
end
section
variable {X:Cx}
def EI:List V->Hp->VK->Prop:=fun xs H Q=>∃ p kvs,∃ ts:List Str,xs=[.ref p]/\Rd H p (.dK kvs)/\kvs.map (·.1)=ts.map Sum.inr/\ts.length < 64/\∀ l,H l=none->Q (.ref l) (upd H l (.lst ((cu ts).map V.str)))
def P8 (hc:X.calm=true):cq X (.builtin "sorted") EI:=by
 intro pins s σ H xs us Q I r h;obtain ⟨p,kvs,ts,rfl,hq,hk,tP,q⟩:=h;obtain ⟨u,rfl,rx⟩:=vals1 r;cases rx;obtain ⟨hz,hS,vs,rv,m⟩:kvs.length<=sizeLine/\(p == sysModules)=false/\∃ vs,KV kvs vs/\s.heap.DictOf (cS X.prog X.w) p vs:=hq.ok I.aB;obtain ⟨ep,cN⟩:=m.dictAt;have gB:kvs.length=ts.length:=by simpa using Tm List.length hk
 have tH:vs.length=ts.length:=by rw [<- gB]; simpa using (Tm List.length rv.keys).symm
 refine Tk _P _B _C (_D _) ?_;unfold Builtin.«sorted»;refine kt (m:=checkCount "sorted" 1 1 _) (sK ?_);refine kt (Z6 (A:=X.A.in1) (PySem.W.kdl_dict (knd:=cS X.prog X.w) (kvs:=vs) (ep:=ep) hS) (I.ok.hd hc) cN (by rw [tH,<- gB]; exact hz) fun h' tk acc hk' dY=>?_);have hl:acc.toList.length=ts.length:=by rw [Pi,<- tH]; exact dY.1
 have hS':StrsAre acc.toList ts:=by
  have key:∀ (l:List Value) (us:List Str),l.length=us.length->(∀ (j:Nat) (v:Value) (x:Str),l[j]?=some v->us[j]?=some x->∃ t,v=Value.str x t)->StrsAre l us:=by
   intro l
   induction l with
   | nil=>intro us e _; cases us with | nil=>exact .nil | cons=>cases e
   | cons v l ih =>
    intro us e hh;cases us with
    | nil=>cases e
    | cons x us =>
     obtain ⟨t,rfl⟩:=hh 0 v x rfl rfl;exact .cons x t (ih us (by simpa using e) fun j v x h1 h2=>hh (j+1) v x h1 h2)
  refine key _ _ hl fun j v x h1 h2=>?_;obtain ⟨k,y,hx,DA⟩:=dY.2 j v (by rw [<- Ps]; exact h1);have e1:(vs.map (·.1))[j]?=some k:=by rw [FS,hx]; rfl
  rw [<- rv.keys,hk,FS,h2] at e1;cases e1;exact An DA
 refine kt (Z7 ?_ (by rw [hl,<- gB]; exact hz));have ed:(h'.push (seqObj "list" acc.toList.toArray 0)).get? h'.objs.size=some (seqObj "list" acc.toList.toArray 0):=wn _ rfl;refine kt (Id (XV _i ⟨_,ed,rfl⟩ Z9 (list_sort_treeK strKind_oneLt ed hS'.keysOf (fun v₁ v₂ rest e=>keyKind_strs (by rw [<- e]; exact hS')) (by rw [hl]; exact tP) fun st' a1 a2=>⟨_,rfl,?_⟩) (_j _)));refine sK ⟨_,rfl,?_⟩;obtain ⟨ss',b1,b2,b3⟩:=sorted_out_str hS' a1 a2;have e1:ss'=cu ts:=Au b2 (BL _ b3);subst e1;obtain ⟨e,he⟩:=_R (out:=(arrOf st').map (·.2)) ed;have I1:Inv X pins σ H { s with heap:=h',toks:=tk }:=I.kept (t':=tk) hk';refine ⟨.ref h'.objs.size,_,I1.laid (t':=tk) (fun b o z=>?_) (sB _) (show bN X.prog X.w _ _ _ (.lst ((cu ts).map V.str)) from ⟨?_,_,e,vX b1,?_⟩),rfl,q _ (I1.aB.fresh (sB _))⟩
 ·have hb:b < h'.objs.size:=wf z;rw [_N (xL hb) (by have:=TW h' (seqObj "list" acc.toList.toArray 0); rw [this]; exact ZR hb)];exact li _ z
 ·rw [mo,qV,<- gB]; exact hz
 ·rw [Z2]; exact he
def Rk {prog:Program} {w:World} {A:Around} {E:Value->Shared->Prop} {s:Shared} {l:Addr} {v:Value} {Q:Value->Shared->Prop} (hl:s.heap.IsList l [v].toArray) (h:Q (.ref (s.heap.objs.size+1)) { s with heap:=sortedAll s.heap [v] #[v] }) :
  wpAny (model prog w) A (call (.builtin "sorted") [.ref l]) Q E s:=by
 refine Tk _P _B _C (_D _) ?_;unfold Builtin.«sorted»;refine kt (m:=checkCount "sorted" 1 1 _) (sK ?_);refine kt (collect_list hl ?_);refine kt (Z7 ?_);have hsz:((s.heap.push (seqObj "list" #[] 0)).update s.heap.objs.size (Obj.mapSeq (·++[v].toArray))).objs.size=s.heap.objs.size+1:=by
  rw [Heap.size_update,size_push']
 have ed:(((s.heap.push (seqObj "list" #[] 0)).update s.heap.objs.size (Obj.mapSeq (·++[v].toArray))).push (seqObj "list" [v].toArray 0)).get? (s.heap.objs.size+1)=some (seqObj "list" [v].toArray 0):=by
  rw [<- hsz]; exact wn _ rfl
 show wpAny _ _ _ _ _ { s with heap:=((s.heap.push (seqObj "list" #[] 0)).update s.heap.objs.size (Obj.mapSeq (·++[v].toArray))).push (seqObj "list" [v].toArray 0) };rw [hsz];refine kt (Id (XV _i ⟨_,ed,rfl⟩ Z9 (sort_1 ed ⟨_,rfl,?_⟩) (_j _)));exact sK ⟨_,rfl,h⟩
def IE (K:PySem.W.Frag):List V->Hp->VK->Prop:=fun xs H Q=>∃ p ys,xs=[.ref p]/\aE K H p ys/\ys.length<=1/\∀ l,H l=none->Q (.ref l) (upd H l (.lst ys))
def SR {K:PySem.W.Frag} (h:X.K=K):cq X (.builtin "sorted") (IE K):=by
 subst h;intro pins s σ H xs us Q I r h;obtain ⟨p,ys,rfl,hq,h1,q⟩:=h;rcases ys with _ | ⟨y,_ | ⟨z,zs⟩⟩
 ·refine IX pins s σ H _ us Q I r ⟨p,([]:List Str),rfl,hq,by simp,fun l hl=>?_⟩;rw [show cu ([]:List Str)=[] from ST.mp (by rw [qV]; rfl)];exact q l hl
 ·obtain ⟨u,rfl,rx⟩:=vals1 r;cases rx;obtain ⟨aj,r',pl,hz⟩:=I.list hq;obtain ⟨v,rfl,rv⟩:=vals1 r';obtain ⟨e,he⟩:=sortedAll_at s.heap [v] #[v];refine Rk pl.isList ⟨.ref (s.heap.objs.size+1),upd H (s.heap.objs.size+1) (.lst [y]),I.laid (t':=s.toks) (fun _ _=>sortedAll_old) (ZW _) (show bN X.prog X.w _ _ _ (.lst [y]) from ⟨fits (by simp),[v],e,r',he⟩),rfl,q _ (I.aB.fresh (ZW _))⟩
 ·simp at h1
def Sf (K:PySem.W.Frag):List V->Hp->VK->Prop:=fun xs H Q=>IE K xs H Q\/EI xs H Q
def Ai {K:PySem.W.Frag} (h:X.K=K) (hc:X.calm=true):cq X (.builtin "sorted") (Sf K):=by
 intro pins s σ H xs us Q I r h';rcases h' with h' | h'
 ·exact SR h pins s σ H xs us Q I r h'
 ·exact P8 hc pins s σ H xs us Q I r h'
def OF (K:PySem.W.Frag) (n:Nat):R2:=fun x y H Q=>((x=.aq/\y=.aq)\/∃ a b xs ys,x=.ref a/\y=.ref b/\(aE K H a xs/\aE K H b ys\/bI K H a xs/\bI K H b ys)/\xs.length=ys.length/\(∀ i (h1:i < xs.length) (h2:i < ys.length),DE K H n xs[i] ys[i]))/\Q (.bl false) H
def rk {K:PySem.W.Frag} (n:Nat) (hK:X.K=K) (hu:X.A.units+(n+1) < cLine):aW X (compareOp .NotEq) (OF K n):=by
 subst hK;intro pins s σ H x y v u Q I rx ry h;obtain ⟨h,q⟩:=h;rcases h with ⟨rfl,rfl⟩ | ⟨a,b,xs,ys,rfl,rfl,dG,hl,he⟩
 ·cases rx; cases ry;exact SeqAt.RcNeAt.none_none _ _ _ _ ⟨.bl _,H,I,rfl,q⟩
 ·cases rx; cases ry;have el:∀ {i1 i2:List Value},Vals xs i1->Vals ys i2->∀ (j:Nat) (g1:j < i1.toArray.size) (g2:j < i2.toArray.size),SeqAt.EqAt X.A.in1 s i1.toArray[j] i2.toArray[j] true:=fun r1 r2 j g1 g2=>by
   obtain ⟨j1,u1⟩:=n9 r1 j g1;obtain ⟨j2,u2⟩:=n9 r2 j g2;exact Ao I n (he j j1 j2) u1 u2 (show X.A.units+1+n < cLine by omega)
  rcases dG with ⟨ha,hb⟩ | ⟨ha,hb⟩
  ·obtain ⟨i1,r1,p1,_⟩:=I.list ha;obtain ⟨i2,r2,p2,_⟩:=I.list hb;have hsz:i1.toArray.size=i2.toArray.size:=by rw [tz,tz,<- r1.length,<- r2.length,hl]
   have k:=_K (A:=X.A) (s:=s) (e:=fun _=>true) p1.isList p2.isList hsz (by omega) (el r1 r2);rw [all_true] at k;exact k _ _ _ _ ⟨.bl _,H,I,rfl,q⟩
  ·obtain ⟨i1,r1,p1,_⟩:=I.tuple ha;obtain ⟨i2,r2,p2,_⟩:=I.tuple hb;have hsz:i1.toArray.size=i2.toArray.size:=by rw [tz,tz,<- r1.length,<- r2.length,hl]
   have k:=SeqAt.RcNeAt.tuples (A:=X.A) (s:=s) (e:=fun _=>true) p1 p2 (by omega) (el r1 r2);rw [all_true,hsz,_o,Bool.and_self] at k;exact k _ _ _ _ ⟨.bl _,H,I,rfl,q⟩
end
def U3 {d:Addr} {o:Obj} {u:HO} {ts:List Str} {tt:TT} {te:TE} {H:Hp} {Q:VK} {vs:List V} (W:Hp->Prop) (w0:W H) (wd:∀ H1,W H1->H1 d=some (.bG o u))
  (ht:∀ t∈ts,∀ H1,W H1->∀ R:Bool->Hp->Prop,(∀ H2,W H2->R false H2)->tt (some (.str t)::vs.map some) H1 R)
  (q:∀ H1 l,W H1->H1 l=none->Q (.ref l) (upd H1 l (.lst []))):rH (yW d o u ts) 1 vs (fm 0) tt te Q H:=by
 refine ⟨fun i zs k H1=>W H1/\zs=[]/\i<=ts.length/\k=ts.length - i,⟨_,w0,rfl,At _,rfl⟩,?_⟩;rintro i zs k H1 ⟨hw,rfl,hi,rfl⟩;refine ⟨At _,?_⟩;by_cases h:i < ts.length
 ·refine .inr ⟨⟨wd _ hw,h⟩,gR (by simp),?_⟩;rintro y H' ⟨rfl,t,h1,rfl⟩ σ0 hσ0;obtain ⟨a,rfl⟩:=zq hσ0;refine ⟨⟨[some (.str t)],rfl,rfl⟩,?_⟩;exact ht t (FB h1) _ hw _ fun H2 w2=>by
   rw [Ch (by decide)];exact ⟨ts.length - (i+1),by omega,w2,rfl,h,rfl⟩
 ·have e:i=ts.length:=by omega
  subst e;exact .inl ⟨⟨wd _ hw,sB _⟩,fun l hl=>q _ _ hw hl⟩
end L2
set_option maxHeartbeats 0
namespace L2.bL
open PySem PySem.Spec PyProof.Rows
local macro_rules | `(tactic| walk_at "s")=>`(tactic| exact ⟨rfl,rfl,rfl,by decide +kernel,rfl,by decide +kernel,by decide +kernel⟩)
abbrev e_ (N:List Str) (s:Stmt):Prop:=aG N N (aD s)
abbrev _root_.L2.FT.k {K:PySem.W.Frag} {mg:Str->Option Value} {a b:Str} {st:Stmt} {ps:List Str} (t:FT K mg a b st ps) (P:Program) (w:World) (base:Heap) (n:Nat) (q:Sp):Prop:=aC P w K mg base aM n t.f t.d ps q
abbrev _root_.L2.MT.k {K:PySem.W.Frag} {C:Addr} {a b:Str} {st:Stmt} {ps:List Str} (t:MT K C a b st ps) (P:Program) (w:World) (mg:Str->Option Value) (base:Heap) (n:Nat) (q:Sp):Prop:=aC P w K mg base aM n t.f t.d ps q
def top (i:Nat):Stmt:=PySem.Challenge.pw_leadnames_k41_things_made.main.body.getD i (.Pass ⟨0,0,0,0⟩)
abbrev Fu:=top 12
abbrev Fg:=top 13
abbrev GB:=top 14
abbrev BR:=top 15
abbrev Jh:=top 25
abbrev G7:=top 26
abbrev Ir:=top 27
abbrev GQ:=top 28
abbrev Ii:=top 29
abbrev I0:=top 30
abbrev Gu:=top 31
abbrev Gx:=top 32
abbrev IJ:=top 33
abbrev IZ:=top 34
abbrev yL:=top 35
abbrev zo:=top 49
abbrev Bm:=top 50
abbrev yD:=top 51
abbrev yC:=top 54
abbrev Be:=top 55
abbrev BN:=top 56
abbrev yr:=top 57
abbrev y3:=top 58
abbrev AN:=top 59
abbrev w6:=top 60
abbrev yG:=top 61
abbrev ye:=top 62
abbrev o8:=top 63
abbrev oN:=top 64
abbrev zL:=top 65
abbrev HD:=top 70
abbrev Jz:=top 71
abbrev Hv:=top 72
abbrev yS:=top 73
abbrev AL:=top 74
abbrev zd:=top 75
abbrev zB:=top 76
abbrev xW:=top 77
abbrev B3:=top 78
abbrev AO:=top 79
abbrev zV:=top 80
abbrev zy:=top 81
abbrev xg:=top 82
abbrev zH:=top 83
abbrev BD:=top 84
abbrev xN:=top 85
abbrev yJ:=top 86
def Tv:e_ ["house","folder"] Fu:=by walk_at "s"
def zD:aG ["house","folder","base"] ["house","folder"] (aD Fg):=by walk_at "s"
def GF:aG ["house","folder","stack"] ["house","folder"] (aD GB):=by walk_at "s"
def lN:aG ["house","asker","folder","root","here","stack","place"] ["house","asker","folder"] (aD BR):=by walk_at "s"
def R5:e_ ["number"] Jh:=by walk_at "s"
def UW:e_ ["text"] G7:=by walk_at "s"
def Mx:e_ ["text"] Ir:=by walk_at "s"
def Xz:e_ ["text"] GQ:=by walk_at "s"
def Um:e_ ["text"] Ii:=by walk_at "s"
def Fj:aG ["path","parts"] ["path"] (aD I0):=by walk_at "s"
def NY:e_ ["text"] Gu:=by walk_at "s"
def R7:e_ ["text"] Gx:=by walk_at "s"
def Og:e_ ["text"] IJ:=by walk_at "s"
def SN:e_ ["text"] IZ:=by walk_at "s"
def MN:e_ ["path"] yL:=by walk_at "s"
def oV:aG ["house","asker","folder","root","names","stack","place"] ["house","asker","folder"] (aD zo):=by walk_at "s"
def F2:aG ["leads","first"] ["leads"] (aD Bm):=by walk_at "s"
def Ew:aG ["house","asker","from_root","parts","last","ended"] ["house","asker","from_root","parts","last"] (aD yD):=by walk_at "s"
def HQ:aG ["path","parts"] ["path"] (aD yC):=by walk_at "s"
def wW:aG ["house","asker","path","asked","ended"] ["house","asker","path"] (aD Be):=by walk_at "s"
def ND:e_ ["house","seat"] BN:=by walk_at "s"
def WU:e_ ["told"] yr:=by walk_at "s"
def Q4:e_ ["house","asker","number","right","reason"] y3:=by walk_at "s"
def Qb:e_ ["house","asker","folder"] AN:=by walk_at "s"
def WV:e_ ["house","seat"] w6:=by walk_at "s"
def ER:aG ["house","asker","path","seat"] ["house","asker","path"] (aD yG):=by walk_at "s"
def UE:e_ ["house","seat","number"] ye:=by walk_at "s"
def II:aG ["house","asker","path","mine","rest","seat"] ["house","asker","path","mine","rest"] (aD o8):=by walk_at "s"
def D1:aG ["house","asker","path","text","mine","rest","seat"] ["house","asker","path","text","mine","rest"] (aD oN):=by walk_at "s"
def G3:aG ["house","asker","path","lead","seat"] ["house","asker","path","lead"] (aD zL):=by walk_at "s"
def BU:aG ["_law_cell","_law_k","_law_number"] ["_law_cell","_law_k"] (aD HD):=by walk_at "s"
def Xh:e_ ["_law_cell"] Jz:=by walk_at "s"
def Hb:aG ["_law_source_here","_law_size","_law_found"] ["_law_source_here","_law_size"] (aD Hv):=by walk_at "s"
def vp:aG ["_law_source_here","_law_words","_law_letters","_law_many"] ["_law_source_here"] (aD yS):=by walk_at "s"
def Ic:aG ["_law_model","_law_asker","_law_number","_law_right_here","_law_thing"] ["_law_model","_law_asker","_law_number","_law_right_here"] (aD AL):=by walk_at "s"
def vn:aG ["_law_model","_law_folder_here","_law_names","_law_name_here"] ["_law_model","_law_folder_here"] (aD zd):=by walk_at "s"
def IH:e_ ["_law_model","_law_asker","_law_folder_here"] zB:=by walk_at "s"
def Iq:aG ["_law_way_here","_law_name_here","_law_style","_law_parts"] ["_law_way_here","_law_name_here","_law_style"] (aD xW):=by walk_at "s"
def vq:aG ["_law_source_here","_law_some","_law_many"] ["_law_source_here"] (aD B3):=by walk_at "s"
def Eb:aG ["_law_source_here","_law_some"] ["_law_source_here"] (aD AO):=by walk_at "s"
def ql:aG ["_law_model","_law_number","_law_found","_law_k","_law_name_here","_law_one"] ["_law_model","_law_number"] (aD zV):=by walk_at "s"
def iz:aG ["_law_house","_law_model","_law_number","_law_kind","_law_owner","_law_its","_law_others","_law_text_here","_law_inside","_law_up","_law_places_here","_law_told","_law_names"] ["_law_house","_law_model","_law_number"] (aD zy):=by walk_at "s"
def Sw:e_ ["_law_house","_law_model"] xg:=by walk_at "s"
def vM:aG ["_law_source_here","_law_some","_law_way_here","_law_many"] ["_law_source_here"] (aD zH):=by walk_at "s"
def zl:aG ["_law_model","_law_asker","_law_number","_law_some","_law_k"] ["_law_model","_law_asker","_law_number"] (aD BD):=by walk_at "s"
def ke:aG ["_law_house","_law_model","_law_source_here","_law_asker","_law_folder_here","_law_name_here","_law_path","_law_way_here","_law_its","_law_others","_law_text_here","_law_place","_law_lead_here"] ["_law_house","_law_model","_law_source_here","_law_asker","_law_folder_here","_law_name_here"] (aD xN):=by walk_at "s"
def ik:aG ["_law_script","_law_house","_law_model","_law_cell","_law_source_here","_law_asker","_law_folder_here","_law_name_here","_law_told"] ["_law_script"] (aD yJ):=by walk_at "s"
abbrev HH:=inClass (top 9) 0
def WK:e_ ["self","told"] HH:=by walk_at "s"
abbrev EC:=inClass (top 10) 0
def MC:e_ ["self","reason"] EC:=by walk_at "s"
abbrev GR:=inClass (top 40) 0
def RJ:e_ ["self","number","kind","owner","mine","rest","text"] GR:=by walk_at "s"
abbrev EK:=inClass (top 40) 1
def QN:e_ ["self","asker"] EK:=by walk_at "s"
abbrev HG:=inClass (top 41) 0
def YF:e_ ["self"] HG:=by walk_at "s"
abbrev HU:=inClass (top 41) 1
def FG:aG ["self","kind","owner","mine","rest","text","number"] ["self","kind","owner","mine","rest","text"] (aD HU):=by walk_at "s"
abbrev He:=inClass (top 41) 2
def Ry:e_ ["self","owner","mine","rest"] He:=by walk_at "s"
abbrev F6:=inClass (top 41) 3
def WA:e_ ["self","owner","text","mine","rest"] F6:=by walk_at "s"
abbrev Ek:=inClass (top 41) 4
def XE:e_ ["self","owner","path"] Ek:=by walk_at "s"
abbrev Fq:=inClass (top 41) 5
def Pk:e_ ["self"] Fq:=by walk_at "s"
abbrev Fx:=inClass (top 41) 6
def Tr:e_ ["self","number"] Fx:=by walk_at "s"
abbrev Hd:=inClass (top 41) 7
def Rl:e_ ["self","folder","name"] Hd:=by walk_at "s"
abbrev GU:=inClass (top 41) 8
def VC:e_ ["self","number"] GU:=by walk_at "s"
abbrev JK:=inClass (top 41) 9
def Mt:e_ ["self","number"] JK:=by walk_at "s"
abbrev G9:=inClass (top 41) 10
def Of:e_ ["self","number"] G9:=by walk_at "s"
abbrev IW:=inClass (top 41) 13
def ug:aG ["self","folder","name","number","thing","former","known"] ["self","folder","name","number"] (aD IW):=by walk_at "s"
abbrev Jv:=inClass (top 41) 14
def F4:aG ["self","folder","name","number"] ["self","folder","name"] (aD Jv):=by walk_at "s"
abbrev JT:=inClass (top 45) 0
def Yl:e_ ["self","number","way"] JT:=by walk_at "s"
abbrev G2:=inClass (top 46) 0
def N1:e_ ["self","step","reason"] G2:=by walk_at "s"
abbrev zj:=inClass (top 47) 0
def NK:e_ ["self","leads"] zj:=by walk_at "s"
abbrev B6:=inClass (top 48) 0
def MP:e_ ["self","house","asker","last"] B6:=by walk_at "s"
abbrev AH:=inClass (top 48) 1
def Fy:aG ["self","from_root","parts","start"] ["self","from_root","parts"] (aD AH):=by walk_at "s"
abbrev B4:=inClass (top 48) 2
def Hj:aG ["self","part"] ["self"] (aD B4):=by walk_at "s"
abbrev xG:=inClass (top 48) 3
def Vy:e_ ["self","reason"] xG:=by walk_at "s"
abbrev Bk:=inClass (top 48) 4
def Xd:e_ ["self","part"] Bk:=by walk_at "s"
abbrev Bc:=inClass (top 48) 5
def Ff:aG ["self","stack"] ["self"] (aD Bc):=by walk_at "s"
abbrev yA:=inClass (top 48) 6
def AU:aG ["self","name","number","kind"] ["self","name"] (aD yA):=by walk_at "s"
abbrev yz:=inClass (top 48) 7
def Wz:e_ ["self","number"] yz:=by walk_at "s"
abbrev Ay:=inClass (top 48) 8
def Fp:aG ["self","number","read"] ["self","number"] (aD Ay):=by walk_at "s"
abbrev yZ:=inClass (top 48) 9
def rB:aG ["self","names","folder"] ["self"] (aD yZ):=by walk_at "s"
abbrev GC:=inClass (top 53) 0
def Xe:e_ ["self","folder","name"] GC:=by walk_at "s"
abbrev JJ:=inClass (top 68) 0
def QF:e_ ["self","owner"] JJ:=by walk_at "s"
abbrev HF:=inClass (top 68) 1
def O4:e_ ["self","name"] HF:=by walk_at "s"
abbrev JB:=inClass (top 68) 4
def Rz:e_ ["self","asker"] JB:=by walk_at "s"
abbrev Gf:=inClass (top 68) 5
def Xl:e_ ["self","asker"] Gf:=by walk_at "s"
abbrev Ea:=inClass (top 68) 6
def WJ:e_ ["self","number"] Ea:=by walk_at "s"
abbrev JQ:=inClass (top 68) 7
def Ui:e_ ["self","number"] JQ:=by walk_at "s"
abbrev Jy:=inClass (top 68) 8
def Ex:aG ["self","number","thing"] ["self","number"] (aD Jy):=by walk_at "s"
abbrev G1:=inClass (top 68) 9
def XI:e_ ["self"] G1:=by walk_at "s"
abbrev GK:=inClass (top 68) 10
def UX:e_ ["self","number","name"] GK:=by walk_at "s"
abbrev G5:=inClass (top 68) 11
def NX:e_ ["self","number"] G5:=by walk_at "s"
abbrev Hg:=inClass (top 68) 12
def Ox:e_ ["self","number"] Hg:=by walk_at "s"
abbrev IG:=inClass (top 68) 13
def XC:e_ ["self","number"] IG:=by walk_at "s"
abbrev HA:=inClass (top 68) 14
def Ub:e_ ["self","number"] HA:=by walk_at "s"
abbrev GZ:=inClass (top 68) 17
def Nl:e_ ["self","asker","number","right"] GZ:=by walk_at "s"
abbrev GS:=inClass (top 68) 23
def NF:e_ ["self","asker"] GS:=by walk_at "s"
abbrev Jk:=inClass (top 68) 25
def TX:e_ ["self","number"] Jk:=by walk_at "s"
abbrev Iz:=inClass (top 68) 26
def R1:e_ ["self","name"] Iz:=by walk_at "s"
abbrev Iu:=inClass (top 68) 27
def Oz:e_ ["self","asker","folder"] Iu:=by walk_at "s"
abbrev Fh:=inClass (top 68) 28
def O2:e_ ["self","asker","folder"] Fh:=by walk_at "s"
abbrev GH:=inClass (top 68) 29
def Hz:aG ["self","tree","owner","root"] ["self","tree","owner"] (aD GH):=by walk_at "s"
set_option genInjectivity false in
set_option genSizeOf false in
structure Tx (K:PySem.W.Frag) (mg:Str->Option Value) where
 fj:FT K mg "top_of" "top_of" Fu ["house","folder"]
 oR:FT K mg "base_of" "base_of" Fg ["house","folder"]
 dJ:FT K mg "stack_of" "stack_of" GB ["house","folder"]
 oO:FT K mg "is_seen" "is_seen" BR ["house","asker","folder"]
 jO:FT K mg "is_whole" "is_whole" Jh ["number"]
 gU:FT K mg "is_name" "is_name" G7 ["text"]
 oI:FT K mg "is_rights" "is_rights" Ir ["text"]
 n8:FT K mg "is_text" "is_text" GQ ["text"]
 nY:FT K mg "is_part" "is_part" Ii ["text"]
 dm:FT K mg "parts_of" "parts_of" I0 ["path"]
 gN:FT K mg "check_name" "check_name" Gu ["text"]
 fB:FT K mg "check_rights" "check_rights" Gx ["text"]
 oC:FT K mg "check_one_right" "check_one_right" IJ ["text"]
 oM:FT K mg "check_text" "check_text" IZ ["text"]
 nU:FT K mg "check_lead" "check_lead" yL ["path"]
 oG:FT K mg "names_to" "names_to" zo ["house","asker","folder"]
 nR:FT K mg "from_least" "from_least" Bm ["leads"]
 o7:FT K mg "walk_parts" "walk_parts" yD ["house","asker","from_root","parts","last"]
 oy:FT K mg "check_seat" "check_seat" yC ["path"]
 o1:FT K mg "seat_of" "seat_of" Be ["house","asker","path"]
 nA:FT K mg "thing_at" "thing_at" BN ["house","seat"]
 nj:FT K mg "number_found" "number_found" yr ["told"]
 nz:FT K mg "check_may" "check_may" y3 ["house","asker","number","right","reason"]
 nB:FT K mg "check_kept" "check_kept" AN ["house","asker","folder"]
 oU:FT K mg "check_free" "check_free" w6 ["house","seat"]
 gG:FT K mg "free_seat_of" "free_seat_of" yG ["house","asker","path"]
 gW:FT K mg "seat_thing" "seat_thing" ye ["house","seat","number"]
 {Dx:Addr}
 {tR:FuncData}
 {KG:Tok}
 {CP:Tok}
 kb:lL K "make_folder" "make_folder" o8 Dx tR [.str "lgw" KG,.str "" CP]
 vN:mg "make_folder" = some (.ref Dx)
 Am:Binds K tR ["house","asker","path","mine","rest"] []
 Ax:Binds K tR ["house","asker","path","mine","rest"] [.str "" CP]
 yB:Binds K tR ["house","asker","path","mine","rest"] [.str "lgw" KG,.str "" CP]
 {Dn:Addr}
 {sY:FuncData}
 {LQ:Tok}
 {Cy:Tok}
 lJ:lL K "make_file" "make_file" oN Dn sY [.str "lgw" LQ,.str "" Cy]
 xB:mg "make_file" = some (.ref Dn)
 xZ:Binds K sY ["house","asker","path","text","mine","rest"] []
 Hw:Binds K sY ["house","asker","path","text","mine","rest"] [.str "" Cy]
 y8:Binds K sY ["house","asker","path","text","mine","rest"] [.str "lgw" LQ,.str "" Cy]
 nG:FT K mg "make_lead" "make_lead" zL ["house","asker","path","lead"]
 oB:FT K mg "_law_mixed" "_law_mixed" HD ["_law_cell","_law_k"]
 o9:FT K mg "_law_source" "_law_source" Jz ["_law_cell"]
 bJ:FT K mg "_law_next" "_law_next" Hv ["_law_source_here","_law_size"]
 jM:FT K mg "_law_name" "_law_name" yS ["_law_source_here"]
 gT:FT K mg "_law_may" "_law_may" AL ["_law_model","_law_asker","_law_number","_law_right_here"]
 oA:FT K mg "_law_way" "_law_way" zd ["_law_model","_law_folder_here"]
 ph:FT K mg "_law_open" "_law_open" zB ["_law_model","_law_asker","_law_folder_here"]
 ni:FT K mg "_law_seat" "_law_seat" xW ["_law_way_here","_law_name_here","_law_style"]
 o6:FT K mg "_law_text" "_law_text" B3 ["_law_source_here"]
 jA:FT K mg "_law_rights" "_law_rights" AO ["_law_source_here"]
 oH:FT K mg "_law_places" "_law_places" zV ["_law_model","_law_number"]
 oX:FT K mg "_law_thing_right" "_law_thing_right" zy ["_law_house","_law_model","_law_number"]
 nk:FT K mg "_law_right" "_law_right" xg ["_law_house","_law_model"]
 nX:FT K mg "_law_lead" "_law_lead" zH ["_law_source_here"]
 pd:FT K mg "_law_folder" "_law_folder" BD ["_law_model","_law_asker","_law_number"]
 nE:FT K mg "_law_made" "_law_made" xN ["_law_house","_law_model","_law_source_here","_law_asker","_law_folder_here","_law_name_here"]
 {sU:Addr}
 {wC:FuncData}
 uy:iT K "law" "law" yJ sU wC
 WI:mg "law" = some (.ref sU)
 FR:Binds K wC ["_law_script"] []
 {Ck:Addr}
 Xo:mg "DOTS" = some (.ref Ck)
 yn:∀ H:Hp,bI K H Ck [.str ".",.str ".."]
 {t_FILE:Tok}
 y4:mg "FILE" = some (.str "file" t_FILE)
 {t_FIRST_TREE:Tok}
 NB:mg "FIRST_TREE" = some (.str "main" t_FIRST_TREE)
 {t_FOLDER:Tok}
 ve:mg "FOLDER" = some (.str "folder" t_FOLDER)
 {er:Addr}
 Qz:mg "Failed" = some (.ref er)
 {dZ:Addr}
 F5:mg "Found" = some (.ref dZ)
 {aK:Addr}
 UY:mg "House" = some (.ref aK)
 {t_LEAD:Tok}
 Sx:mg "LEAD" = some (.str "lead" t_LEAD)
 {t_LETTERS:Tok}
 Ol:mg "LETTERS" = some (.str "abcdefghijklmnopqrstuvwxyz" t_LETTERS)
 {t_MOST_IN_LEAD:Tok}
 UP:mg "MOST_IN_LEAD" = some (.int 120 t_MOST_IN_LEAD)
 {t_MOST_IN_NAME:Tok}
 XS:mg "MOST_IN_NAME" = some (.int 8 t_MOST_IN_NAME)
 {t_MOST_IN_PATH:Tok}
 Qe:mg "MOST_IN_PATH" = some (.int 2000 t_MOST_IN_PATH)
 {t_MOST_IN_TEXT:Tok}
 OZ:mg "MOST_IN_TEXT" = some (.int 60 t_MOST_IN_TEXT)
 {t_MOST_LEADS:Tok}
 Vl:mg "MOST_LEADS" = some (.int 40 t_MOST_LEADS)
 {pC:Addr}
 MQ:mg "NoAsker" = some (.ref pC)
 {fQ:Addr}
 zF:mg "NoDeed" = some (.ref fQ)
 {tw:Addr}
 Yh:mg "NoRights" = some (.ref tw)
 {pj:Addr}
 SG:mg "NoThing" = some (.ref pj)
 {fU:Addr}
 Xc:mg "NoWay" = some (.ref fU)
 {Cf:Addr}
 UO:mg "RIGHTS" = some (.ref Cf)
 zm:∀ H:Hp,bI K H Cf [.str "",.str "l",.str "g",.str "w",.str "lg",.str "lw",.str "gw",.str "lgw"]
 {fe:Addr}
 Sz:mg "Ring" = some (.ref fe)
 {Cm:Addr}
 RD:mg "SINGLE_RIGHTS" = some (.ref Cm)
 zW:∀ H:Hp,bI K H Cm [.str "l",.str "g",.str "w"]
 {jX:Addr}
 SJ:mg "Seat" = some (.ref jX)
 {aY:Addr}
 Oo:mg "Thing" = some (.ref aY)
 {aQ:Addr}
 Vc:mg "Things" = some (.ref aQ)
 {bh:Addr}
 QZ:mg "Walk" = some (.ref bh)
 AX:mg "all" = none
 g_bool:mg "bool" = none
 Gg:mg "int" = none
 gX:mg "isinstance" = none
 f9:mg "len" = none
 mf:mg "list" = none
 Bh:mg "min" = none
 m9:mg "range" = none
 BB:mg "reversed" = none
 pQ:mg "sorted" = none
 ox:mg "str" = none
 rK:MT K fU "__init__" "NoWay.__init__" HH ["self","told"]
 lM:MT K fQ "__init__" "NoDeed.__init__" EC ["self","reason"]
 sd:MT K aY "__init__" "Thing.__init__" GR ["self","number","kind","owner","mine","rest","text"]
 sE:MT K aY "rights_for" "Thing.rights_for" EK ["self","asker"]
 rO:MT K aQ "__init__" "Things.__init__" HG ["self"]
 jC:MT K aQ "add_thing" "Things.add_thing" HU ["self","kind","owner","mine","rest","text"]
 lq:MT K aQ "add_folder" "Things.add_folder" He ["self","owner","mine","rest"]
 qm:MT K aQ "add_file" "Things.add_file" F6 ["self","owner","text","mine","rest"]
 pW:MT K aQ "add_lead" "Things.add_lead" Ek ["self","owner","path"]
 qN:MT K aQ "many" "Things.many" Fq ["self"]
 cK:MT K aQ "at" "Things.at" Fx ["self","number"]
 lI:MT K aQ "child" "Things.child" Hd ["self","folder","name"]
 ra:MT K aQ "names_in" "Things.names_in" GU ["self","number"]
 rp:MT K aQ "places_of" "Things.places_of" JK ["self","number"]
 rf:MT K aQ "place_of" "Things.place_of" G9 ["self","number"]
 qB:MT K aQ "put_name" "Things.put_name" IW ["self","folder","name","number"]
 qC:MT K aQ "drop_name" "Things.drop_name" Jv ["self","folder","name"]
 rP:MT K dZ "__init__" "Found.__init__" JT ["self","number","way"]
 qt:MT K er "__init__" "Failed.__init__" G2 ["self","step","reason"]
 rY:MT K fe "__init__" "Ring.__init__" zj ["self","leads"]
 sj:MT K bh "__init__" "Walk.__init__" B6 ["self","house","asker","last"]
 qR:MT K bh "begin" "Walk.begin" AH ["self","from_root","parts"]
 r6:MT K bh "go_on" "Walk.go_on" B4 ["self"]
 gk:MT K bh "fail" "Walk.fail" xG ["self","reason"]
 qe:MT K bh "take_step" "Walk.take_step" Bk ["self","part"]
 qa:MT K bh "go_up" "Walk.go_up" Bc ["self"]
 qc:MT K bh "go_by" "Walk.go_by" yA ["self","name"]
 qg:MT K bh "meet_lead" "Walk.meet_lead" yz ["self","number"]
 qM:MT K bh "read_lead" "Walk.read_lead" Ay ["self","number"]
 qb:MT K bh "true_path" "Walk.true_path" yZ ["self"]
 qJ:MT K jX "__init__" "Seat.__init__" GC ["self","folder","name"]
 qX:MT K aK "__init__" "House.__init__" JJ ["self","owner"]
 lx:MT K aK "enroll" "House.enroll" HF ["self","name"]
 jw:MT K aK "root_of" "House.root_of" JB ["self","asker"]
 rn:MT K aK "standing_of" "House.standing_of" Gf ["self","asker"]
 iA:MT K aK "kind_of" "House.kind_of" Ea ["self","number"]
 rR:MT K aK "owner_of" "House.owner_of" JQ ["self","number"]
 sG:MT K aK "rights_of" "House.rights_of" Jy ["self","number"]
 qD:MT K aK "many" "House.many" G1 ["self"]
 gm:MT K aK "child" "House.child" GK ["self","number","name"]
 mv:MT K aK "names_in" "House.names_in" G5 ["self","number"]
 lO:MT K aK "text_of" "House.text_of" Hg ["self","number"]
 iu:MT K aK "place_of" "House.place_of" IG ["self","number"]
 lY:MT K aK "places_of" "House.places_of" HA ["self","number"]
 mh:MT K aK "may" "House.may" GZ ["self","asker","number","right"]
 fA:MT K aK "check_asker" "House.check_asker" GS ["self","asker"]
 sM:MT K aK "check_thing" "House.check_thing" Jk ["self","number"]
 lD:MT K aK "add_asker" "House.add_asker" Iz ["self","name"]
 qz:MT K aK "put_root" "House.put_root" Iu ["self","asker","folder"]
 se:MT K aK "put_standing" "House.put_standing" Fh ["self","asker","folder"]
 rZ:MT K aK "add_tree" "House.add_tree" GH ["self","tree","owner"]
 yI:cJ K er
 Xg:Mk K er qt.f
 vW:cJ K dZ
 Pp:Mk K dZ rP.f
 aN:cJ K aK
 XJ:Mk K aK qX.f
 GN:cJ K fe
 Vn:Mk K fe rY.f
 mm:cJ K jX
 Nq:Mk K jX qJ.f
 cW:cJ K aY
 Qr:Mk K aY sd.f
 cb:cJ K aQ
 MM:Mk K aQ rO.f
 aJ:cJ K bh
 Po:Mk K bh sj.f
 OH:bE K er "reason"
 SK:bE K er "step"
 Jo:bE K dZ "number"
 TU:bE K dZ "way"
 uc:bE K aK "changes"
 xi:bE K aK "first_root"
 xK:bE K aK "folder_under"
 Qo:bE K aK "holds"
 ME:bE K aK "holds_given"
 z7:bE K aK "root_over"
 pZ:bE K aK "roots"
 Az:bE K aK "standings"
 eM:bE K aK "things"
 JL:bE K aK "tree_roots"
 MB:bE K fe "leads"
 vQ:bE K jX "folder"
 Bi:bE K jX "name"
 A0:bE K aY "kind"
 ze:bE K aY "mine"
 vT:bE K aY "names"
 Xu:bE K aY "number"
 Bv:bE K aY "owner"
 rE:bE K aY "places"
 xp:bE K aY "rest"
 Je:bE K aY "text"
 xA:bE K aQ "changes"
 oQ:bE K aQ "made"
 IC:bE K bh "asked"
 sA:bE K bh "asker"
 eY:bE K bh "here"
 eR:bE K bh "house"
 JD:bE K bh "last"
 yR:bE K bh "leads_read"
 ly:bE K bh "left"
 Jn:bE K bh "looked_up"
 vh:bE K bh "place"
 nW:bE K bh "reading"
 sL:bE K bh "root"
 BH:bE K bh "step"
 lS:bE K bh "told"
 uF:iU K fQ lM.f "reason"
 yP:PySem.W.typeIn K (.ref fQ)=some (.type "type")
 Eg:iU K fU rK.f "told"
 Nu:PySem.W.typeIn K (.ref fU)=some (.type "type")
 PN:PySem.W.excIn K pC [.type "ValueError",.type "Exception",.type "BaseException",.type "object"] "ValueError.__new__" = true
 MG:PySem.W.excIn K tw [.type "ValueError",.type "Exception",.type "BaseException",.type "object"] "ValueError.__new__" = true
 UG:PySem.W.excIn K pj [.type "ValueError",.type "Exception",.type "BaseException",.type "object"] "ValueError.__new__" = true
 YH:PySem.W.findIn K (.ref fU) "__class__" = some (some (.builtin "object.__class__"))
 Zo:PySem.W.specialIn K (.builtin "object.__class__") "__get__" = some (some (.builtin "getset_descriptor.__get__"))
 Ze:PySem.W.takesIn K (.builtin "object.__class__")=some true
 YJ:PySem.W.mroIn K fU (.type "object")=some true
 Zd:PySem.W.findIn K (.ref fU) "__getattribute__" = some (some (.builtin "BaseException.__getattribute__"))
 Zn:PySem.W.findIn K (.ref fU) "__getattr__" = some none
 YX:PySem.W.mroIn K fU (.type "BaseException")=some true
 YO:PySem.W.findIn K (.ref fQ) "__class__" = some (some (.builtin "object.__class__"))
 Y1:PySem.W.specialIn K (.builtin "object.__class__") "__get__" = some (some (.builtin "getset_descriptor.__get__"))
 YV:PySem.W.takesIn K (.builtin "object.__class__")=some true
 YK:PySem.W.mroIn K fQ (.type "object")=some true
 YL:PySem.W.findIn K (.ref fQ) "__getattribute__" = some (some (.builtin "BaseException.__getattribute__"))
 Y2:PySem.W.findIn K (.ref fQ) "__getattr__" = some none
 Zb:PySem.W.mroIn K fQ (.type "BaseException")=some true
 q1:PySem.W.findIn K (.ref dZ) "__class__" = some (some (.builtin "object.__class__"))
 q2:PySem.W.specialIn K (.builtin "object.__class__") "__get__" = some (some (.builtin "getset_descriptor.__get__"))
 q3:PySem.W.takesIn K (.builtin "object.__class__")=some true
 q4:PySem.W.mroIn K dZ (.type "object")=some true
 q5:PySem.W.kitOne K (.ref dZ) (.ref dZ)=some true
 q6:PySem.W.findIn K (.ref er) "__class__" = some (some (.builtin "object.__class__"))
 q7:PySem.W.mroIn K er (.type "object")=some true
 q8:PySem.W.kitOne K (.ref er) (.ref dZ)=some false
 q9:PySem.W.kitOne K (.ref dZ) (.ref er)=some false
 Zm:PySem.W.kitOne K (.ref er) (.ref er)=some true
 Qs:PySem.W.findIn K (.ref fe) "__class__" = some (some (.builtin "object.__class__"))
 MV:PySem.W.mroIn K fe (.type "object")=some true
 Pr:PySem.W.kitOne K (.ref fe) (.ref dZ)=some false
 Y9:PySem.W.kitOne K (.ref fe) (.ref er)=some false
 Za:PySem.W.subIn K (.ref fU) (.ref fU)=some true
 YN:PySem.W.subIn K (.ref fQ) (.ref fU)=some false
 YM:PySem.W.subIn K (.ref fQ) (.ref fQ)=some true
def iB:List Nat:=List.range' 97 26
def isNm (l:List Nat):Bool:=decide (1<=l.length) && decide (l.length<=8) && l.all (iB.contains ·)
def eg:V->Bool
 | .str z=>isNm z.cps.toList
 | _=>false
def Hc:V->Prop
 | .str z=>z.length<=1000
 | _=>True
def stI {t:TS} {D:Ends} {H:Hp} {σ:L2.St} (τ:L2.St) (h:t D τ H) (e:σ=τ:=by rfl):t D σ H:=e ▸ h
inductive X1 {α0:Type} (R:α0->Prop):Prop | mk:∀ x0,R x0->X1 R
inductive X2 {α0 α1:Type} (R:α0->α1->Prop):Prop | mk:∀ x0 x1,R x0 x1->X2 R
inductive X3 {α0 α1 α2:Type} (R:α0->α1->α2->Prop):Prop | mk:∀ x0 x1 x2,R x0 x1 x2->X3 R
inductive X4 {α0 α1 α2 α3:Type} (R:α0->α1->α2->α3->Prop):Prop | mk:∀ x0 x1 x2 x3,R x0 x1 x2 x3->X4 R
inductive X5 {α0 α1 α2 α3 α4:Type} (R:α0->α1->α2->α3->α4->Prop):Prop | mk:∀ x0 x1 x2 x3 x4,R x0 x1 x2 x3 x4->X5 R
inductive X6 {α0 α1 α2 α3 α4 α5:Type} (R:α0->α1->α2->α3->α4->α5->Prop):Prop | mk:∀ x0 x1 x2 x3 x4 x5,R x0 x1 x2 x3 x4 x5->X6 R
inductive X7 {α0 α1 α2 α3 α4 α5 α6:Type} (R:α0->α1->α2->α3->α4->α5->α6->Prop):Prop | mk:∀ x0 x1 x2 x3 x4 x5 x6,R x0 x1 x2 x3 x4 x5 x6->X7 R
inductive X8 {α0 α1 α2 α3 α4 α5 α6 α7:Type} (R:α0->α1->α2->α3->α4->α5->α6->α7->Prop):Prop | mk:∀ x0 x1 x2 x3 x4 x5 x6 x7,R x0 x1 x2 x3 x4 x5 x6 x7->X8 R
inductive X9 {α0 α1 α2 α3 α4 α5 α6 α7 α8:Type} (R:α0->α1->α2->α3->α4->α5->α6->α7->α8->Prop):Prop | mk:∀ x0 x1 x2 x3 x4 x5 x6 x7 x8,R x0 x1 x2 x3 x4 x5 x6 x7 x8->X9 R
inductive Ju {α0 α1 α2 α3 α4 α5 α6 α7 α8 α9:Type} (R:α0->α1->α2->α3->α4->α5->α6->α7->α8->α9->Prop):Prop | mk:∀ x0 x1 x2 x3 x4 x5 x6 x7 x8 x9,R x0 x1 x2 x3 x4 x5 x6 x7 x8 x9->Ju R
inductive FY {α0 α1 α2 α3 α4 α5 α6 α7 α8 α9 α10:Type} (R:α0->α1->α2->α3->α4->α5->α6->α7->α8->α9->α10->Prop):Prop | mk:∀ x0 x1 x2 x3 x4 x5 x6 x7 x8 x9 x10,R x0 x1 x2 x3 x4 x5 x6 x7 x8 x9 x10->FY R
inductive A2 (p0 p1:Prop):Prop | mk:p0->p1->A2 p0 p1
inductive A3 (p0 p1 p2:Prop):Prop | mk:p0->p1->p2->A3 p0 p1 p2
inductive A4 (p0 p1 p2 p3:Prop):Prop | mk:p0->p1->p2->p3->A4 p0 p1 p2 p3
inductive A5 (p0 p1 p2 p3 p4:Prop):Prop | mk:p0->p1->p2->p3->p4->A5 p0 p1 p2 p3 p4
inductive A6 (p0 p1 p2 p3 p4 p5:Prop):Prop | mk:p0->p1->p2->p3->p4->p5->A6 p0 p1 p2 p3 p4 p5
inductive A7 (p0 p1 p2 p3 p4 p5 p6:Prop):Prop | mk:p0->p1->p2->p3->p4->p5->p6->A7 p0 p1 p2 p3 p4 p5 p6
inductive A8 (p0 p1 p2 p3 p4 p5 p6 p7:Prop):Prop | mk:p0->p1->p2->p3->p4->p5->p6->p7->A8 p0 p1 p2 p3 p4 p5 p6 p7
inductive A9 (p0 p1 p2 p3 p4 p5 p6 p7 p8:Prop):Prop | mk:p0->p1->p2->p3->p4->p5->p6->p7->p8->A9 p0 p1 p2 p3 p4 p5 p6 p7 p8
inductive Bu (p0 p1 p2 p3 p4 p5 p6 p7 p8 p9:Prop):Prop | mk:p0->p1->p2->p3->p4->p5->p6->p7->p8->p9->Bu p0 p1 p2 p3 p4 p5 p6 p7 p8 p9
inductive AK (p0 p1 p2 p3 p4 p5 p6 p7 p8 p9 p10 p11 p12:Prop):Prop | mk:p0->p1->p2->p3->p4->p5->p6->p7->p8->p9->p10->p11->p12->AK p0 p1 p2 p3 p4 p5 p6 p7 p8 p9 p10 p11 p12
inductive JM (p0 p1 p2 p3 p4 p5 p6 p7 p8 p9 p10 p11 p12 p13:Prop):Prop | mk:p0->p1->p2->p3->p4->p5->p6->p7->p8->p9->p10->p11->p12->p13->JM p0 p1 p2 p3 p4 p5 p6 p7 p8 p9 p10 p11 p12 p13
def a1 (f:V->Hp->VK->XK->Prop):Sp:=fun vs H Q E=>match vs with
 | [x1]=>f x1 H Q E
 | _=>False
def a1.o {f:V->Hp->VK->XK->Prop} {vs:List V} {H:Hp} {Q:VK} {E:XK} (h:a1 f vs H Q E):∃ x1,vs=[x1]/\f x1 H Q E:=by
 unfold a1 at h;split at h
 ·exact ⟨_,rfl,h⟩
 ·exact h.elim
def a2 (f:V->V->Hp->VK->XK->Prop):Sp:=fun vs H Q E=>match vs with
 | [x1,x2]=>f x1 x2 H Q E
 | _=>False
def a2.o {f:V->V->Hp->VK->XK->Prop} {vs:List V} {H:Hp} {Q:VK} {E:XK} (h:a2 f vs H Q E):∃ x1 x2,vs=[x1,x2]/\f x1 x2 H Q E:=by
 unfold a2 at h;split at h
 ·exact ⟨_,_,rfl,h⟩
 ·exact h.elim
def a3 (f:V->V->V->Hp->VK->XK->Prop):Sp:=fun vs H Q E=>match vs with
 | [x1,x2,x3]=>f x1 x2 x3 H Q E
 | _=>False
def a3.o {f:V->V->V->Hp->VK->XK->Prop} {vs:List V} {H:Hp} {Q:VK} {E:XK} (h:a3 f vs H Q E):∃ x1 x2 x3,vs=[x1,x2,x3]/\f x1 x2 x3 H Q E:=by
 unfold a3 at h;split at h
 ·exact ⟨_,_,_,rfl,h⟩
 ·exact h.elim
def a4 (f:V->V->V->V->Hp->VK->XK->Prop):Sp:=fun vs H Q E=>match vs with
 | [x1,x2,x3,x4]=>f x1 x2 x3 x4 H Q E
 | _=>False
def a4.o {f:V->V->V->V->Hp->VK->XK->Prop} {vs:List V} {H:Hp} {Q:VK} {E:XK} (h:a4 f vs H Q E):∃ x1 x2 x3 x4,vs=[x1,x2,x3,x4]/\f x1 x2 x3 x4 H Q E:=by
 unfold a4 at h;split at h
 ·exact ⟨_,_,_,_,rfl,h⟩
 ·exact h.elim
def a5 (f:V->V->V->V->V->Hp->VK->XK->Prop):Sp:=fun vs H Q E=>match vs with
 | [x1,x2,x3,x4,x5]=>f x1 x2 x3 x4 x5 H Q E
 | _=>False
def a5.o {f:V->V->V->V->V->Hp->VK->XK->Prop} {vs:List V} {H:Hp} {Q:VK} {E:XK} (h:a5 f vs H Q E):∃ x1 x2 x3 x4 x5,vs=[x1,x2,x3,x4,x5]/\f x1 x2 x3 x4 x5 H Q E:=by
 unfold a5 at h;split at h
 ·exact ⟨_,_,_,_,_,rfl,h⟩
 ·exact h.elim
def a6 (f:V->V->V->V->V->V->Hp->VK->XK->Prop):Sp:=fun vs H Q E=>match vs with
 | [x1,x2,x3,x4,x5,x6]=>f x1 x2 x3 x4 x5 x6 H Q E
 | _=>False
def a6.o {f:V->V->V->V->V->V->Hp->VK->XK->Prop} {vs:List V} {H:Hp} {Q:VK} {E:XK} (h:a6 f vs H Q E):∃ x1 x2 x3 x4 x5 x6,vs=[x1,x2,x3,x4,x5,x6]/\f x1 x2 x3 x4 x5 x6 H Q E:=by
 unfold a6 at h;split at h
 ·exact ⟨_,_,_,_,_,_,rfl,h⟩
 ·exact h.elim
def a7 (f:V->V->V->V->V->V->V->Hp->VK->XK->Prop):Sp:=fun vs H Q E=>match vs with
 | [x1,x2,x3,x4,x5,x6,x7]=>f x1 x2 x3 x4 x5 x6 x7 H Q E
 | _=>False
def a7.o {f:V->V->V->V->V->V->V->Hp->VK->XK->Prop} {vs:List V} {H:Hp} {Q:VK} {E:XK} (h:a7 f vs H Q E):∃ x1 x2 x3 x4 x5 x6 x7,vs=[x1,x2,x3,x4,x5,x6,x7]/\f x1 x2 x3 x4 x5 x6 x7 H Q E:=by
 unfold a7 at h;split at h
 ·exact ⟨_,_,_,_,_,_,_,rfl,h⟩
 ·exact h.elim
def vR (v:V) (k:Addr->Prop):Prop:=match v with
 | .ref x=>k x
 | _=>False
def vR.o {v:V} {k:Addr->Prop} (h:vR v k):∃ x,v=.ref x/\k x:=by
 unfold vR at h;split at h
 ·exact ⟨_,rfl,h⟩
 ·exact h.elim
def vS (v:V) (k:Str->Prop):Prop:=match v with
 | .str x=>k x
 | _=>False
def vS.o {v:V} {k:Str->Prop} (h:vS v k):∃ x,v=.str x/\k x:=by
 unfold vS at h;split at h
 ·exact ⟨_,rfl,h⟩
 ·exact h.elim
def vI (v:V) (k:Int->Prop):Prop:=match v with
 | .int x=>k x
 | _=>False
def vI.o {v:V} {k:Int->Prop} (h:vI v k):∃ x,v=.int x/\k x:=by
 unfold vI at h;split at h
 ·exact ⟨_,rfl,h⟩
 ·exact h.elim
def vB (v:V) (k:Bool->Prop):Prop:=match v with
 | .bl x=>k x
 | _=>False
def vB.o {v:V} {k:Bool->Prop} (h:vB v k):∃ x,v=.bl x/\k x:=by
 unfold vB at h;split at h
 ·exact ⟨_,rfl,h⟩
 ·exact h.elim
def En (f:Int->Hp->VK->XK->Prop):Sp:=a1 fun q1 H Q E=>vI q1 fun x1=>f x1 H Q E
@[elab_as_elim] theorem D6 {f:Int->Hp->VK->XK->Prop} {vs:List V} {H:Hp} {Q:VK} {E:XK} {G:List V->Prop} (h:En f vs H Q E) (k:∀ x1,f x1 H Q E->G [.int x1]):G vs:=by
 obtain ⟨_,rfl,h⟩:=a1.o h;obtain ⟨x1,rfl,h⟩:=vI.o h;exact k x1 h
def HC (f:Int->Int->Hp->VK->XK->Prop):Sp:=a2 fun q1 q2 H Q E=>vI q1 fun x1=>vI q2 fun x2=>f x1 x2 H Q E
@[elab_as_elim] theorem IM {f:Int->Int->Hp->VK->XK->Prop} {vs:List V} {H:Hp} {Q:VK} {E:XK} {G:List V->Prop} (h:HC f vs H Q E) (k:∀ x1 x2,f x1 x2 H Q E->G [.int x1,.int x2]):G vs:=by
 obtain ⟨_,_,rfl,h⟩:=a2.o h;obtain ⟨x1,rfl,h⟩:=vI.o h;obtain ⟨x2,rfl,h⟩:=vI.o h;exact k x1 x2 h
def gd (f:Addr->Hp->VK->XK->Prop):Sp:=a1 fun q1 H Q E=>vR q1 fun x1=>f x1 H Q E
@[elab_as_elim] theorem cQ {f:Addr->Hp->VK->XK->Prop} {vs:List V} {H:Hp} {Q:VK} {E:XK} {G:List V->Prop} (h:gd f vs H Q E) (k:∀ x1,f x1 H Q E->G [.ref x1]):G vs:=by
 obtain ⟨_,rfl,h⟩:=a1.o h;obtain ⟨x1,rfl,h⟩:=vR.o h;exact k x1 h
def Es (f:Addr->Bool->Addr->Hp->VK->XK->Prop):Sp:=a3 fun q1 q2 q3 H Q E=>vR q1 fun x1=>vB q2 fun x2=>vR q3 fun x3=>f x1 x2 x3 H Q E
@[elab_as_elim] theorem FL {f:Addr->Bool->Addr->Hp->VK->XK->Prop} {vs:List V} {H:Hp} {Q:VK} {E:XK} {G:List V->Prop} (h:Es f vs H Q E) (k:∀ x1 x2 x3,f x1 x2 x3 H Q E->G [.ref x1,.bl x2,.ref x3]):G vs:=by
 obtain ⟨_,_,_,rfl,h⟩:=a3.o h;obtain ⟨x1,rfl,h⟩:=vR.o h;obtain ⟨x2,rfl,h⟩:=vB.o h;obtain ⟨x3,rfl,h⟩:=vR.o h;exact k x1 x2 x3 h
def jd (f:Addr->Int->Hp->VK->XK->Prop):Sp:=a2 fun q1 q2 H Q E=>vR q1 fun x1=>vI q2 fun x2=>f x1 x2 H Q E
@[elab_as_elim] theorem bV {f:Addr->Int->Hp->VK->XK->Prop} {vs:List V} {H:Hp} {Q:VK} {E:XK} {G:List V->Prop} (h:jd f vs H Q E) (k:∀ x1 x2,f x1 x2 H Q E->G [.ref x1,.int x2]):G vs:=by
 obtain ⟨_,_,rfl,h⟩:=a2.o h;obtain ⟨x1,rfl,h⟩:=vR.o h;obtain ⟨x2,rfl,h⟩:=vI.o h;exact k x1 x2 h
def uJ (f:Addr->Int->Str->Hp->VK->XK->Prop):Sp:=a3 fun q1 q2 q3 H Q E=>vR q1 fun x1=>vI q2 fun x2=>vS q3 fun x3=>f x1 x2 x3 H Q E
@[elab_as_elim] theorem pe {f:Addr->Int->Str->Hp->VK->XK->Prop} {vs:List V} {H:Hp} {Q:VK} {E:XK} {G:List V->Prop} (h:uJ f vs H Q E) (k:∀ x1 x2 x3,f x1 x2 x3 H Q E->G [.ref x1,.int x2,.str x3]):G vs:=by
 obtain ⟨_,_,_,rfl,h⟩:=a3.o h;obtain ⟨x1,rfl,h⟩:=vR.o h;obtain ⟨x2,rfl,h⟩:=vI.o h;obtain ⟨x3,rfl,h⟩:=vS.o h;exact k x1 x2 x3 h
def EW (f:Addr->Int->Str->Int->Hp->VK->XK->Prop):Sp:=a4 fun q1 q2 q3 q4 H Q E=>vR q1 fun x1=>vI q2 fun x2=>vS q3 fun x3=>vI q4 fun x4=>f x1 x2 x3 x4 H Q E
@[elab_as_elim] theorem ED {f:Addr->Int->Str->Int->Hp->VK->XK->Prop} {vs:List V} {H:Hp} {Q:VK} {E:XK} {G:List V->Prop} (h:EW f vs H Q E) (k:∀ x1 x2 x3 x4,f x1 x2 x3 x4 H Q E->G [.ref x1,.int x2,.str x3,.int x4]):G vs:=by
 obtain ⟨_,_,_,_,rfl,h⟩:=a4.o h;obtain ⟨x1,rfl,h⟩:=vR.o h;obtain ⟨x2,rfl,h⟩:=vI.o h;obtain ⟨x3,rfl,h⟩:=vS.o h;obtain ⟨x4,rfl,h⟩:=vI.o h;exact k x1 x2 x3 x4 h
def sC (f:Addr->Addr->Hp->VK->XK->Prop):Sp:=a2 fun q1 q2 H Q E=>vR q1 fun x1=>vR q2 fun x2=>f x1 x2 H Q E
@[elab_as_elim] theorem kH {f:Addr->Addr->Hp->VK->XK->Prop} {vs:List V} {H:Hp} {Q:VK} {E:XK} {G:List V->Prop} (h:sC f vs H Q E) (k:∀ x1 x2,f x1 x2 H Q E->G [.ref x1,.ref x2]):G vs:=by
 obtain ⟨_,_,rfl,h⟩:=a2.o h;obtain ⟨x1,rfl,h⟩:=vR.o h;obtain ⟨x2,rfl,h⟩:=vR.o h;exact k x1 x2 h
def xt (f:Addr->Addr->Int->Hp->VK->XK->Prop):Sp:=a3 fun q1 q2 q3 H Q E=>vR q1 fun x1=>vR q2 fun x2=>vI q3 fun x3=>f x1 x2 x3 H Q E
@[elab_as_elim] theorem uj {f:Addr->Addr->Int->Hp->VK->XK->Prop} {vs:List V} {H:Hp} {Q:VK} {E:XK} {G:List V->Prop} (h:xt f vs H Q E) (k:∀ x1 x2 x3,f x1 x2 x3 H Q E->G [.ref x1,.ref x2,.int x3]):G vs:=by
 obtain ⟨_,_,_,rfl,h⟩:=a3.o h;obtain ⟨x1,rfl,h⟩:=vR.o h;obtain ⟨x2,rfl,h⟩:=vR.o h;obtain ⟨x3,rfl,h⟩:=vI.o h;exact k x1 x2 x3 h
def Ja (f:Addr->Addr->Addr->Str->Int->Str->Hp->VK->XK->Prop):Sp:=a6 fun q1 q2 q3 q4 q5 q6 H Q E=>vR q1 fun x1=>vR q2 fun x2=>vR q3 fun x3=>vS q4 fun x4=>vI q5 fun x5=>vS q6 fun x6=>f x1 x2 x3 x4 x5 x6 H Q E
@[elab_as_elim] theorem Hk {f:Addr->Addr->Addr->Str->Int->Str->Hp->VK->XK->Prop} {vs:List V} {H:Hp} {Q:VK} {E:XK} {G:List V->Prop} (h:Ja f vs H Q E) (k:∀ x1 x2 x3 x4 x5 x6,f x1 x2 x3 x4 x5 x6 H Q E->G [.ref x1,.ref x2,.ref x3,.str x4,.int x5,.str x6]):G vs:=by
 obtain ⟨_,_,_,_,_,_,rfl,h⟩:=a6.o h;obtain ⟨x1,rfl,h⟩:=vR.o h;obtain ⟨x2,rfl,h⟩:=vR.o h;obtain ⟨x3,rfl,h⟩:=vR.o h;obtain ⟨x4,rfl,h⟩:=vS.o h;obtain ⟨x5,rfl,h⟩:=vI.o h;obtain ⟨x6,rfl,h⟩:=vS.o h;exact k x1 x2 x3 x4 x5 x6 h
def Ho (f:Addr->Addr->Str->Bool->Hp->VK->XK->Prop):Sp:=a4 fun q1 q2 q3 q4 H Q E=>vR q1 fun x1=>vR q2 fun x2=>vS q3 fun x3=>vB q4 fun x4=>f x1 x2 x3 x4 H Q E
@[elab_as_elim] theorem IF {f:Addr->Addr->Str->Bool->Hp->VK->XK->Prop} {vs:List V} {H:Hp} {Q:VK} {E:XK} {G:List V->Prop} (h:Ho f vs H Q E) (k:∀ x1 x2 x3 x4,f x1 x2 x3 x4 H Q E->G [.ref x1,.ref x2,.str x3,.bl x4]):G vs:=by
 obtain ⟨_,_,_,_,rfl,h⟩:=a4.o h;obtain ⟨x1,rfl,h⟩:=vR.o h;obtain ⟨x2,rfl,h⟩:=vR.o h;obtain ⟨x3,rfl,h⟩:=vS.o h;obtain ⟨x4,rfl,h⟩:=vB.o h;exact k x1 x2 x3 x4 h
def i5 (f:Addr->Str->Hp->VK->XK->Prop):Sp:=a2 fun q1 q2 H Q E=>vR q1 fun x1=>vS q2 fun x2=>f x1 x2 H Q E
@[elab_as_elim] theorem eF {f:Addr->Str->Hp->VK->XK->Prop} {vs:List V} {H:Hp} {Q:VK} {E:XK} {G:List V->Prop} (h:i5 f vs H Q E) (k:∀ x1 x2,f x1 x2 H Q E->G [.ref x1,.str x2]):G vs:=by
 obtain ⟨_,_,rfl,h⟩:=a2.o h;obtain ⟨x1,rfl,h⟩:=vR.o h;obtain ⟨x2,rfl,h⟩:=vS.o h;exact k x1 x2 h
def Fe (f:Addr->Str->Bool->Addr->Bool->Hp->VK->XK->Prop):Sp:=a5 fun q1 q2 q3 q4 q5 H Q E=>vR q1 fun x1=>vS q2 fun x2=>vB q3 fun x3=>vR q4 fun x4=>vB q5 fun x5=>f x1 x2 x3 x4 x5 H Q E
@[elab_as_elim] theorem IS {f:Addr->Str->Bool->Addr->Bool->Hp->VK->XK->Prop} {vs:List V} {H:Hp} {Q:VK} {E:XK} {G:List V->Prop} (h:Fe f vs H Q E) (k:∀ x1 x2 x3 x4 x5,f x1 x2 x3 x4 x5 H Q E->G [.ref x1,.str x2,.bl x3,.ref x4,.bl x5]):G vs:=by
 obtain ⟨_,_,_,_,_,rfl,h⟩:=a5.o h;obtain ⟨x1,rfl,h⟩:=vR.o h;obtain ⟨x2,rfl,h⟩:=vS.o h;obtain ⟨x3,rfl,h⟩:=vB.o h;obtain ⟨x4,rfl,h⟩:=vR.o h;obtain ⟨x5,rfl,h⟩:=vB.o h;exact k x1 x2 x3 x4 x5 h
def lz (f:Addr->Str->Int->Hp->VK->XK->Prop):Sp:=a3 fun q1 q2 q3 H Q E=>vR q1 fun x1=>vS q2 fun x2=>vI q3 fun x3=>f x1 x2 x3 H Q E
@[elab_as_elim] theorem fJ {f:Addr->Str->Int->Hp->VK->XK->Prop} {vs:List V} {H:Hp} {Q:VK} {E:XK} {G:List V->Prop} (h:lz f vs H Q E) (k:∀ x1 x2 x3,f x1 x2 x3 H Q E->G [.ref x1,.str x2,.int x3]):G vs:=by
 obtain ⟨_,_,_,rfl,h⟩:=a3.o h;obtain ⟨x1,rfl,h⟩:=vR.o h;obtain ⟨x2,rfl,h⟩:=vS.o h;obtain ⟨x3,rfl,h⟩:=vI.o h;exact k x1 x2 x3 h
def JO (f:Addr->Str->Int->Str->Hp->VK->XK->Prop):Sp:=a4 fun q1 q2 q3 q4 H Q E=>vR q1 fun x1=>vS q2 fun x2=>vI q3 fun x3=>vS q4 fun x4=>f x1 x2 x3 x4 H Q E
@[elab_as_elim] theorem Ga {f:Addr->Str->Int->Str->Hp->VK->XK->Prop} {vs:List V} {H:Hp} {Q:VK} {E:XK} {G:List V->Prop} (h:JO f vs H Q E) (k:∀ x1 x2 x3 x4,f x1 x2 x3 x4 H Q E->G [.ref x1,.str x2,.int x3,.str x4]):G vs:=by
 obtain ⟨_,_,_,_,rfl,h⟩:=a4.o h;obtain ⟨x1,rfl,h⟩:=vR.o h;obtain ⟨x2,rfl,h⟩:=vS.o h;obtain ⟨x3,rfl,h⟩:=vI.o h;obtain ⟨x4,rfl,h⟩:=vS.o h;exact k x1 x2 x3 x4 h
def IK (f:Addr->Str->Int->Str->Str->Hp->VK->XK->Prop):Sp:=a5 fun q1 q2 q3 q4 q5 H Q E=>vR q1 fun x1=>vS q2 fun x2=>vI q3 fun x3=>vS q4 fun x4=>vS q5 fun x5=>f x1 x2 x3 x4 x5 H Q E
@[elab_as_elim] theorem Hl {f:Addr->Str->Int->Str->Str->Hp->VK->XK->Prop} {vs:List V} {H:Hp} {Q:VK} {E:XK} {G:List V->Prop} (h:IK f vs H Q E) (k:∀ x1 x2 x3 x4 x5,f x1 x2 x3 x4 x5 H Q E->G [.ref x1,.str x2,.int x3,.str x4,.str x5]):G vs:=by
 obtain ⟨_,_,_,_,_,rfl,h⟩:=a5.o h;obtain ⟨x1,rfl,h⟩:=vR.o h;obtain ⟨x2,rfl,h⟩:=vS.o h;obtain ⟨x3,rfl,h⟩:=vI.o h;obtain ⟨x4,rfl,h⟩:=vS.o h;obtain ⟨x5,rfl,h⟩:=vS.o h;exact k x1 x2 x3 x4 x5 h
def uq (f:Addr->Str->Str->Hp->VK->XK->Prop):Sp:=a3 fun q1 q2 q3 H Q E=>vR q1 fun x1=>vS q2 fun x2=>vS q3 fun x3=>f x1 x2 x3 H Q E
@[elab_as_elim] theorem nu {f:Addr->Str->Str->Hp->VK->XK->Prop} {vs:List V} {H:Hp} {Q:VK} {E:XK} {G:List V->Prop} (h:uq f vs H Q E) (k:∀ x1 x2 x3,f x1 x2 x3 H Q E->G [.ref x1,.str x2,.str x3]):G vs:=by
 obtain ⟨_,_,_,rfl,h⟩:=a3.o h;obtain ⟨x1,rfl,h⟩:=vR.o h;obtain ⟨x2,rfl,h⟩:=vS.o h;obtain ⟨x3,rfl,h⟩:=vS.o h;exact k x1 x2 x3 h
def HY (f:Addr->Str->Str->Str->Hp->VK->XK->Prop):Sp:=a4 fun q1 q2 q3 q4 H Q E=>vR q1 fun x1=>vS q2 fun x2=>vS q3 fun x3=>vS q4 fun x4=>f x1 x2 x3 x4 H Q E
@[elab_as_elim] theorem Jg {f:Addr->Str->Str->Str->Hp->VK->XK->Prop} {vs:List V} {H:Hp} {Q:VK} {E:XK} {G:List V->Prop} (h:HY f vs H Q E) (k:∀ x1 x2 x3 x4,f x1 x2 x3 x4 H Q E->G [.ref x1,.str x2,.str x3,.str x4]):G vs:=by
 obtain ⟨_,_,_,_,rfl,h⟩:=a4.o h;obtain ⟨x1,rfl,h⟩:=vR.o h;obtain ⟨x2,rfl,h⟩:=vS.o h;obtain ⟨x3,rfl,h⟩:=vS.o h;obtain ⟨x4,rfl,h⟩:=vS.o h;exact k x1 x2 x3 x4 h
def EJ (f:Addr->Str->Str->Str->Str->Hp->VK->XK->Prop):Sp:=a5 fun q1 q2 q3 q4 q5 H Q E=>vR q1 fun x1=>vS q2 fun x2=>vS q3 fun x3=>vS q4 fun x4=>vS q5 fun x5=>f x1 x2 x3 x4 x5 H Q E
@[elab_as_elim] theorem Jq {f:Addr->Str->Str->Str->Str->Hp->VK->XK->Prop} {vs:List V} {H:Hp} {Q:VK} {E:XK} {G:List V->Prop} (h:EJ f vs H Q E) (k:∀ x1 x2 x3 x4 x5,f x1 x2 x3 x4 x5 H Q E->G [.ref x1,.str x2,.str x3,.str x4,.str x5]):G vs:=by
 obtain ⟨_,_,_,_,_,rfl,h⟩:=a5.o h;obtain ⟨x1,rfl,h⟩:=vR.o h;obtain ⟨x2,rfl,h⟩:=vS.o h;obtain ⟨x3,rfl,h⟩:=vS.o h;obtain ⟨x4,rfl,h⟩:=vS.o h;obtain ⟨x5,rfl,h⟩:=vS.o h;exact k x1 x2 x3 x4 x5 h
def Ey (f:Addr->Str->Str->Str->Str->Str->Hp->VK->XK->Prop):Sp:=a6 fun q1 q2 q3 q4 q5 q6 H Q E=>vR q1 fun x1=>vS q2 fun x2=>vS q3 fun x3=>vS q4 fun x4=>vS q5 fun x5=>vS q6 fun x6=>f x1 x2 x3 x4 x5 x6 H Q E
@[elab_as_elim] theorem ID {f:Addr->Str->Str->Str->Str->Str->Hp->VK->XK->Prop} {vs:List V} {H:Hp} {Q:VK} {E:XK} {G:List V->Prop} (h:Ey f vs H Q E) (k:∀ x1 x2 x3 x4 x5 x6,f x1 x2 x3 x4 x5 x6 H Q E->G [.ref x1,.str x2,.str x3,.str x4,.str x5,.str x6]):G vs:=by
 obtain ⟨_,_,_,_,_,_,rfl,h⟩:=a6.o h;obtain ⟨x1,rfl,h⟩:=vR.o h;obtain ⟨x2,rfl,h⟩:=vS.o h;obtain ⟨x3,rfl,h⟩:=vS.o h;obtain ⟨x4,rfl,h⟩:=vS.o h;obtain ⟨x5,rfl,h⟩:=vS.o h;obtain ⟨x6,rfl,h⟩:=vS.o h;exact k x1 x2 x3 x4 x5 x6 h
def y2 (f:Addr->V->Hp->VK->XK->Prop):Sp:=a2 fun q1 x2 H Q E=>vR q1 fun x1=>f x1 x2 H Q E
@[elab_as_elim] theorem uU {f:Addr->V->Hp->VK->XK->Prop} {vs:List V} {H:Hp} {Q:VK} {E:XK} {G:List V->Prop} (h:y2 f vs H Q E) (k:∀ x1 x2,f x1 x2 H Q E->G [.ref x1,x2]):G vs:=by
 obtain ⟨_,x2,rfl,h⟩:=a2.o h;obtain ⟨x1,rfl,h⟩:=vR.o h;exact k x1 x2 h
def Bw (f:Addr->V->V->Hp->VK->XK->Prop):Sp:=a3 fun q1 x2 x3 H Q E=>vR q1 fun x1=>f x1 x2 x3 H Q E
@[elab_as_elim] theorem ku {f:Addr->V->V->Hp->VK->XK->Prop} {vs:List V} {H:Hp} {Q:VK} {E:XK} {G:List V->Prop} (h:Bw f vs H Q E) (k:∀ x1 x2 x3,f x1 x2 x3 H Q E->G [.ref x1,x2,x3]):G vs:=by
 obtain ⟨_,x2,x3,rfl,h⟩:=a3.o h;obtain ⟨x1,rfl,h⟩:=vR.o h;exact k x1 x2 x3 h
def Bo (f:Addr->V->V->V->Hp->VK->XK->Prop):Sp:=a4 fun q1 x2 x3 x4 H Q E=>vR q1 fun x1=>f x1 x2 x3 x4 H Q E
@[elab_as_elim] theorem vw {f:Addr->V->V->V->Hp->VK->XK->Prop} {vs:List V} {H:Hp} {Q:VK} {E:XK} {G:List V->Prop} (h:Bo f vs H Q E) (k:∀ x1 x2 x3 x4,f x1 x2 x3 x4 H Q E->G [.ref x1,x2,x3,x4]):G vs:=by
 obtain ⟨_,x2,x3,x4,rfl,h⟩:=a4.o h;obtain ⟨x1,rfl,h⟩:=vR.o h;exact k x1 x2 x3 x4 h
def HR (f:Addr->V->V->V->V->Hp->VK->XK->Prop):Sp:=a5 fun q1 x2 x3 x4 x5 H Q E=>vR q1 fun x1=>f x1 x2 x3 x4 x5 H Q E
@[elab_as_elim] theorem IL {f:Addr->V->V->V->V->Hp->VK->XK->Prop} {vs:List V} {H:Hp} {Q:VK} {E:XK} {G:List V->Prop} (h:HR f vs H Q E) (k:∀ x1 x2 x3 x4 x5,f x1 x2 x3 x4 x5 H Q E->G [.ref x1,x2,x3,x4,x5]):G vs:=by
 obtain ⟨_,x2,x3,x4,x5,rfl,h⟩:=a5.o h;obtain ⟨x1,rfl,h⟩:=vR.o h;exact k x1 x2 x3 x4 x5 h
def FP (f:Addr->V->V->V->V->V->Hp->VK->XK->Prop):Sp:=a6 fun q1 x2 x3 x4 x5 x6 H Q E=>vR q1 fun x1=>f x1 x2 x3 x4 x5 x6 H Q E
@[elab_as_elim] theorem Ih {f:Addr->V->V->V->V->V->Hp->VK->XK->Prop} {vs:List V} {H:Hp} {Q:VK} {E:XK} {G:List V->Prop} (h:FP f vs H Q E) (k:∀ x1 x2 x3 x4 x5 x6,f x1 x2 x3 x4 x5 x6 H Q E->G [.ref x1,x2,x3,x4,x5,x6]):G vs:=by
 obtain ⟨_,x2,x3,x4,x5,x6,rfl,h⟩:=a6.o h;obtain ⟨x1,rfl,h⟩:=vR.o h;exact k x1 x2 x3 x4 x5 x6 h
def Fl (f:Addr->V->V->V->V->V->V->Hp->VK->XK->Prop):Sp:=a7 fun q1 x2 x3 x4 x5 x6 x7 H Q E=>vR q1 fun x1=>f x1 x2 x3 x4 x5 x6 x7 H Q E
@[elab_as_elim] theorem JF {f:Addr->V->V->V->V->V->V->Hp->VK->XK->Prop} {vs:List V} {H:Hp} {Q:VK} {E:XK} {G:List V->Prop} (h:Fl f vs H Q E) (k:∀ x1 x2 x3 x4 x5 x6 x7,f x1 x2 x3 x4 x5 x6 x7 H Q E->G [.ref x1,x2,x3,x4,x5,x6,x7]):G vs:=by
 obtain ⟨_,x2,x3,x4,x5,x6,x7,rfl,h⟩:=a7.o h;obtain ⟨x1,rfl,h⟩:=vR.o h;exact k x1 x2 x3 x4 x5 x6 x7 h
def jR (f:Str->Hp->VK->XK->Prop):Sp:=a1 fun q1 H Q E=>vS q1 fun x1=>f x1 H Q E
@[elab_as_elim] theorem eS {f:Str->Hp->VK->XK->Prop} {vs:List V} {H:Hp} {Q:VK} {E:XK} {G:List V->Prop} (h:jR f vs H Q E) (k:∀ x1,f x1 H Q E->G [.str x1]):G vs:=by
 obtain ⟨_,rfl,h⟩:=a1.o h;obtain ⟨x1,rfl,h⟩:=vS.o h;exact k x1 h
def GW (f:Str->Str->Int->Hp->VK->XK->Prop):Sp:=a3 fun q1 q2 q3 H Q E=>vS q1 fun x1=>vS q2 fun x2=>vI q3 fun x3=>f x1 x2 x3 H Q E
@[elab_as_elim] theorem E5 {f:Str->Str->Int->Hp->VK->XK->Prop} {vs:List V} {H:Hp} {Q:VK} {E:XK} {G:List V->Prop} (h:GW f vs H Q E) (k:∀ x1 x2 x3,f x1 x2 x3 H Q E->G [.str x1,.str x2,.int x3]):G vs:=by
 obtain ⟨_,_,_,rfl,h⟩:=a3.o h;obtain ⟨x1,rfl,h⟩:=vS.o h;obtain ⟨x2,rfl,h⟩:=vS.o h;obtain ⟨x3,rfl,h⟩:=vI.o h;exact k x1 x2 x3 h
def rV (f:V->Hp->VK->XK->Prop):Sp:=a1 fun x1 H Q E=>f x1 H Q E
@[elab_as_elim] theorem kx {f:V->Hp->VK->XK->Prop} {vs:List V} {H:Hp} {Q:VK} {E:XK} {G:List V->Prop} (h:rV f vs H Q E) (k:∀ x1,f x1 H Q E->G [x1]):G vs:=by
 obtain ⟨x1,rfl,h⟩:=a1.o h;exact k x1 h
def Rn (K:PySem.W.Frag):Sp:=rV fun x H Q _=>A3 (∃ T,clsName H x=some T) (Hc x) (∀ H',ag H H'->Q (.bl (eg x)) H')
def JI {nm:List Nat} (h:isNm nm=true):1<=nm.length/\nm.length<=8/\nm.all (iB.contains ·)=true:=by
 unfold isNm at h;simp only [Do,Zu] at h;exact ⟨h.1.1,h.1.2,h.2⟩
def FH:Str.ofString "abcdefghijklmnopqrstuvwxyz" = Tx.S iB:=by decide +kernel
def Xf {d:Int} (h0:0<=d) (h1:d < 26):∃ c,cz (Str.ofString "abcdefghijklmnopqrstuvwxyz").cps.toList d=some c/\iB.contains c=true:=by
 rw [FH,Tx.jx];obtain ⟨n,rfl⟩:=PP h0;have hl:iB.length=26:=rfl;have hn:n < iB.length:=by omega
 exact ⟨iB[n],eU (ul hn),List.elem_iff.mpr (Z3 hn)⟩
def bX (l:List Nat):Bool:=decide (l=[46]) || decide (l=[46,46]) || isNm l
def lW {l:List Nat} (h:bX l=true):47 ∉ l/\l≠[]/\l.length<=8:=by
 unfold bX at h;simp only [Bool.or_eq_true,Zu] at h;rcases h with (rfl | rfl) | h
 ·exact ⟨by decide,by decide,by decide⟩
 ·exact ⟨by decide,by decide,by decide⟩
 ·obtain ⟨h1,h2,h3⟩:=JI h;refine ⟨fun m=>?_,fun e=>by rw [e] at h1; simp at h1,h2⟩;have:=Go.mp h3 47 m;exact absurd this (by decide +kernel)
abbrev PV (ps:List (List Nat)):List V:=(ps.map Tx.S).map V.str
def told (ps:List (List Nat)) (t:List Nat):List (List Nat):=if ps≠[]/\t.getLast?=some 47 then ps++[[46]] else ps
def eJ (t:List Nat):Bool:=decide (t.head?=some 47)
def Vf {W:List (List Nat)} (h:W.all bX=true):told W (Tx.cC 47 W)=W:=by
 have hw:∀ w'∈W,47 ∉ w'/\w'≠[]:=fun w' hw'=>let q:=lW (Go.mp h w' hw'); ⟨q.1,q.2.1⟩
 unfold told;rw [Ch (fun z=>Tx.xq 47 W hw z.2)]
def MJ {W:List (List Nat)} (h:W.all bX=true):told W (47::Tx.cC 47 W)=W:=by
 have hw:∀ w'∈W,47 ∉ w'/\w'≠[]:=fun w' hw'=>let q:=lW (Go.mp h w' hw'); ⟨q.1,q.2.1⟩
 unfold told;refine Ch fun z=>?_;have e:(47::Tx.cC 47 W)=[47]++Tx.cC 47 W:=rfl;rw [e,Tx.qZ _ _ (Tx.B2 47 W hw z.1)] at z;exact Tx.xq 47 W hw z.2
def MF (K:PySem.W.Frag):Sp:=jR fun z H Q _=>X1 fun (w:List Nat)=>A3 (z=Tx.S w) (w.length<=1000) (∀ H',ag H H'->Q (.bl (bX w)) H')
def VS (K:PySem.W.Frag):Sp:=jR fun z H Q _=>X1 fun (t:List Nat)=>A5 (z=Tx.S t) (1<=t.length) (t.length<=2000) ((Tx.words 47 t).all bX=true) (∀ (H':Hp) (l p:Addr),ag H H'->H l=none->H' l=some (.lst (PV (told (Tx.words 47 t) t)))->H' p=some (.tup [.bl (eJ t),.ref l])->Q (.ref p) H')
structure YI (ps:List (List Nat)) (t:List Nat):Prop where
 words:Tx.words 47 t=ps
 one:1<=t.length
 most:t.length<=150
def qY (n kd ow mi re tx nm pl:V):List (Str×V):=[("number",n),("kind",kd),("owner",ow),("mine",mi),("rest",re),("text",tx),("names",nm),("places",pl)]
def qO (ml:Addr) (c:Int):List (Str×V):=[("made",.ref ml),("changes",.int c)]
structure Th where
 kd:Str
 ow:Str
 mi:Str
 re:Str
 tx:Str
 aw:List (Str×Nat)
 bf:List (Nat×Str)
structure Hs where
 ts:List Th
 ro:List (Str×Nat)
 st:List (Str×Nat)
 tr:List (Str×Nat)
 ov:List (Nat×Nat)
 un:List (Nat×Nat)
structure Ta where
 th:Addr
 di:Addr
 nm:Addr
 pl:Addr
structure Ad where
 a:Addr
 dx:Addr
 t:Addr
 dt:Addr
 ml:Addr
 ro:Addr
 st:Addr
 tr:Addr
 ov:Addr
 un:Addr
 ho:Addr
def nt (c:Int) (A:Ad):List (Str×V):=[("things",.ref A.t),("changes",.int c),("roots",.ref A.ro),("standings",.ref A.st),("tree_roots",.ref A.tr),("root_over",.ref A.ov),("folder_under",.ref A.un),("holds",.ref A.ho),("holds_given",.int 0),("first_root",.int 0)]
def PD {f:Str} {c c':Int} {A:Ad} (h:f ≠ "changes"):(nt c A).lookup f=(nt c' A).lookup f:=by
 unfold nt;simp only [List.lookup];have:(f == ("changes" : Str))=false:=GM.mpr h;rw [this]
def sD (l:List (Str×Nat)):List (Key×V):=l.map fun e=>(.inr e.1,.int e.2)
def nD (l:List (Nat×Nat)):List (Key×V):=l.map fun e=>(.inl (e.1:Int),.int e.2)
def pD (l:List (Nat×Str)):List (List Key×V):=l.map fun e=>([.inl (e.1:Int),.inr e.2],.bl true)
structure lB (CT:Addr) (H:Hp) (a:Ta) (i:Nat) (t:Th):Prop where
 o:∃ fs,H a.th=some (.ins CT a.di fs)/\fs.length<=40/\cZ fs (qY (.int i) (.str t.kd) (.str t.ow) (.str t.mi) (.str t.re) (.str t.tx) (.ref a.nm) (.ref a.pl))
 nm:H a.nm=some (.dK (sD t.aw))
 pl:H a.pl=some (.dT (pD t.bf))
def Ad.w (A:Ad):List Addr:=[A.a,A.t,A.ml,A.ro,A.st,A.tr,A.ov,A.un]
def Ta.l (a:Ta):List Addr:=[a.th,a.nm,a.pl]
structure aR (CH CS CT:Addr) (H:Hp) (A:Ad) (L:List Ta) (M:Hs):Prop where
 h:∃ fs c,H A.a=some (.ins CH A.dx fs)/\fs.length<=40/\cZ fs (nt c A)
 t:∃ fs c,H A.t=some (.ins CS A.dt fs)/\fs.length<=40/\cZ fs (qO A.ml c)
 ml:H A.ml=some (.lst (L.map fun a=>.ref a.th))
 len:L.length=M.ts.length
 th:∀ i t,M.ts[i]?=some t->∃ a,L[i]?=some a/\lB CT H a i t
 ro:H A.ro=some (.dK (sD M.ro))
 st:H A.st=some (.dK (sD M.st))
 tr:H A.tr=some (.dK (sD M.tr))
 ov:H A.ov=some (.dK (nD M.ov))
 un:H A.un=some (.dK (nD M.un))
 nd:(A.w++L.flatMap Ta.l).Nodup
def Kp (W:List Addr) (H H':Hp):Prop:=∀ b o,b ∉ W->H b=some o->H' b=some o
def Kp.trans {W:List Addr} {H H1 H2:Hp} (a:Kp W H H1) (b:Kp W H1 H2):Kp W H H2:=fun c o h e=>b c o h (a c o h e)
def Kp.of {W:List Addr} {H H':Hp} (s:ag H H'):Kp W H H':=fun b o _ e=>s b o e
def bO {H:Hp} {a b:Addr} {o u:HO} (h1:H a=some o) (h2:H b=some u) (h:o≠u):a≠b:=fun e=>h (by rw [e,h2] at h1; cases h1; rfl)
def aH {H:Hp} {a b:Addr} {o:HO} (h1:H a=some o) (h2:H b=none):a≠b:=fun e=>by rw [e,h2] at h1; cases h1
def Aj {H:Hp} {x d:Addr} {o O oo:HO} (hn:H d=none) (hx:H x=some oo):upd (upd H d o) x O x=some O/\upd (upd H d o) x O d=some o/\(∀ b u,b≠x->H b=some u->upd (upd H d o) x O b=some u)/\d≠x:=by
 have n:=aH hx hn;refine ⟨au,by rw [ah (sw n),au],fun b u hb e=>?_,sw n⟩;rw [ah hb,ah (aH e hn)]; exact e
section
variable {CH CS CT:Addr} {H H':Hp} {A:Ad} {L:List Ta} {M:Hs}
def lB.keep {W:List Addr} {a:Ta} {i:Nat} {t:Th} (h:lB CT H a i t) (k:Kp W H H') (hw:∀ b∈a.l,b ∉ W):lB CT H' a i t where
 o:=let ⟨fs,e,r⟩:=h.o; ⟨fs,k _ _ (hw _ (by simp [Ta.l])) e,r⟩
 nm:=k _ _ (hw _ (by simp [Ta.l])) h.nm
 pl:=k _ _ (hw _ (by simp [Ta.l])) h.pl
def kj {i:Nat} {a:Ta} (h:L[i]?=some a) {b:Addr} (hb:b∈a.l):b∈L.flatMap Ta.l:=List.mem_flatMap.mpr ⟨a,FB h,hb⟩
def aR.keep {W:List Addr} (i:aR CH CS CT H A L M) (k:Kp W H H') (hw:∀ b∈A.w++L.flatMap Ta.l,b ∉ W):aR CH CS CT H' A L M where
 h:=let ⟨fs,c,e,r⟩:=i.h; ⟨fs,c,k _ _ (hw _ (by simp [Ad.w])) e,r⟩
 t:=let ⟨fs,c,e,r⟩:=i.t; ⟨fs,c,k _ _ (hw _ (by simp [Ad.w])) e,r⟩
 ml:=k _ _ (hw _ (by simp [Ad.w])) i.ml
 len:=i.len
 th:=fun j t e=>let ⟨a,e1,h⟩:=i.th j t e; ⟨a,e1,h.keep k fun b hb=>hw b (Da _ (kj e1 hb))⟩
 ro:=k _ _ (hw _ (by simp [Ad.w])) i.ro
 st:=k _ _ (hw _ (by simp [Ad.w])) i.st
 tr:=k _ _ (hw _ (by simp [Ad.w])) i.tr
 ov:=k _ _ (hw _ (by simp [Ad.w])) i.ov
 un:=k _ _ (hw _ (by simp [Ad.w])) i.un
 nd:=i.nd
def aR.same (i:aR CH CS CT H A L M) (s:ag H H'):aR CH CS CT H' A L M:=i.keep (W:=[]) (.of s) fun _ _=>by simp
def vU:∀ {L:List Ta} {i j:Nat} {a a':Ta} {b:Addr},(L.flatMap Ta.l).Nodup->L[i]?=some a->L[j]?=some a'->b∈a.l->b∈a'.l->i=j
 | [],_,_,_,_,_,_,h,_,_,_=>by simp at h
 | c::r,0,0,_,_,_,_,_,_,_,_=>rfl
 | c::r,0,j+1,a,a',b,nd,h1,h2,m1,m2=>by
  rw [Uf,GT] at nd;simp only [List.getElem?_cons_zero,Option.some.injEq] at h1;simp only [List.getElem?_cons_succ] at h2;subst h1;exact absurd rfl (nd.2.2 b m1 b (kj h2 m2))
 | c::r,i+1,0,a,a',b,nd,h1,h2,m1,m2=>by
  rw [Uf,GT] at nd;simp only [List.getElem?_cons_zero,Option.some.injEq] at h2;simp only [List.getElem?_cons_succ] at h1;subst h2;exact absurd rfl (nd.2.2 b m2 b (kj h1 m1))
 | c::r,i+1,j+1,a,a',b,nd,h1,h2,m1,m2=>by
  rw [Uf,GT] at nd;simp only [List.getElem?_cons_succ] at h1 h2;rw [vU nd.2.1 h1 h2 m1 m2]
def aR.write {k:Nat} {a:Ta} {t':Th} (i:aR CH CS CT H A L M) (hk:L[k]?=some a) (hh:∃ fs c,H' A.a=some (.ins CH A.dx fs)/\fs.length<=40/\cZ fs (nt c A)) (ht:∃ fs c,H' A.t=some (.ins CS A.dt fs)/\fs.length<=40/\cZ fs (qO A.ml c))
  (aP:lB CT H' a k t') (kp:Kp [A.a,A.t,a.th,a.nm,a.pl] H H'):aR CH CS CT H' A L { M with ts:=M.ts.set k t' }:=by
 have nd:=i.nd;rw [GT] at nd;obtain ⟨n1,n2,n3⟩:=nd;have ma:∀ b∈a.l,b∈L.flatMap Ta.l:=fun b hb=>kj hk hb;have pz:∀ b∈[A.ml,A.ro,A.st,A.tr,A.ov,A.un],b ∉ [A.a,A.t,a.th,a.nm,a.pl]:=by
  intro b hb hm;have hw:b∈A.w:=by
   simp only [Ad.w,ss,u8,EQ] at hb ⊢;rcases hb with h | h | h | h | h | h <;> simp [h]
  simp only [ss,u8,EQ] at hm;rcases hm with rfl | rfl | rfl | rfl | rfl
  ·have:=(Ix.mp n1).1;simp only [ss,u8,EQ,ZP] at hb this;rcases hb with h | h | h | h | h | h <;> simp [h] at this
  ·have:=(Ix.mp (Ix.mp n1).2).1;simp only [ss,u8,EQ,ZP] at hb this;rcases hb with h | h | h | h | h | h <;> simp [h] at this
  ·exact n3 _ hw _ (ma _ (by simp [Ta.l])) rfl
  ·exact n3 _ hw _ (ma _ (by simp [Ta.l])) rfl
  ·exact n3 _ hw _ (ma _ (by simp [Ta.l])) rfl
 refine ⟨hh,ht,kp _ _ (pz _ (by simp)) i.ml,by rw [i.len]; simp,fun j t e=>?_,kp _ _ (pz _ (by simp)) i.ro,kp _ _ (pz _ (by simp)) i.st,kp _ _ (pz _ (by simp)) i.tr,kp _ _ (pz _ (by simp)) i.ov,kp _ _ (pz _ (by simp)) i.un,i.nd⟩;by_cases hj:j=k
 ·subst hj;have bH:j < M.ts.length:=by rw [<- i.len]; exact (lv.mp hk).1
  have e':(M.ts.set j t')[j]?=some t:=e;rw [IN bH] at e';cases e';exact ⟨a,hk,aP⟩
 ·have e':(M.ts.set k t')[j]?=some t:=e;rw [IO (sw hj)] at e';obtain ⟨a',e1,h1⟩:=i.th j t e';refine ⟨a',e1,h1.keep kp fun b hb hm=>?_⟩;have mB:=kj e1 hb;simp only [ss,u8,EQ] at hm;rcases hm with rfl | rfl | rfl | rfl | rfl
  ·exact n3 _ (by simp [Ad.w]) _ mB rfl
  ·exact n3 _ (by simp [Ad.w]) _ mB rfl
  ·exact hj (vU n2 e1 hk hb (by simp [Ta.l]))
  ·exact hj (vU n2 e1 hk hb (by simp [Ta.l]))
  ·exact hj (vU n2 e1 hk hb (by simp [Ta.l]))
end
def Jj:V->Bool
 | .int _=>true
 | _=>false
def W9:Sp:=rV fun v H Q _=>(∃ T,clsName H v=some T)/\Q (.bl (Jj v)) H
def PJ:Sp:=rV fun x H Q _=>A4 (∃ T,clsName H x=some T) (Hc x) (eg x=true) (∀ H',ag H H'->Q .aq H')
def Uj (C:Addr):Sp:=Fl fun x n kd ow mi re tx H Q _=>X1 fun dx=>A2 (H x=some (.ins C dx [])) (∀ l1 l2 H',H l1=none->H l2=none->l1≠l2->l1≠x->l2≠x->(∀ b,b≠x->b≠l1->b≠l2->H' b=H b)->H' l1=some (.dK [])->H' l2=some (.dT []) ->
   (∀ fs,fs.length<=40->cZ fs (qY n kd ow mi re tx (.ref l1) (.ref l2))->H' x=some (.ins C dx fs)->Q .aq H'))
def R4 (C:Addr):Sp:=gd fun x H Q _=>X1 fun dx=>A2 (H x=some (.ins C dx [])) (∀ l H',H l=none->l≠x->(∀ b,b≠x->b≠l->H' b=H b)->H' l=some (.lst [])->(∀ fs,fs.length<=40->cZ fs (qO l 0)->H' x=some (.ins C dx fs)->Q .aq H'))
structure jy (CS:Addr) (H:Hp) (x dt ml:Addr) (rs:List V):Prop where
 o:∃ fs c,H x=some (.ins CS dt fs)/\fs.length<=40/\cZ fs (qO ml c)
 ml:H ml=some (.lst rs)
def qW (CS CT:Addr) (x dt ml:Addr) (rs:List V) (kd ow mi re tx:V) (H:Hp) (Q:VK):Prop :=
 ∀ th di nm pl ks H',H th=none->H nm=none->H pl=none->jy CS H' x dt ml (rs++[.ref th])->H' th=some (.ins CT di ks)->ks.length<=40->cZ ks (qY (.int rs.length) kd ow mi re tx (.ref nm) (.ref pl)) ->
  H' nm=some (.dK [])->H' pl=some (.dT [])->Kp [x,ml] H H'->Q (.int rs.length) H'
def UH (CS CT:Addr):Sp:=FP fun x kd ow mi re tx H Q _=>X3 fun dt ml rs=>A3 (jy CS H x dt ml rs) (rs.length<=500) (qW CS CT x dt ml rs kd ow mi re tx H Q)
def Pt (CS CT:Addr):Sp:=Bo fun x ow mi re H Q _=>X3 fun dt ml rs=>A3 (jy CS H x dt ml rs) (rs.length<=500) (qW CS CT x dt ml rs (.str "folder") ow mi re (.str "") H Q)
def QY (CS CT:Addr):Sp:=HR fun x ow tx mi re H Q _=>X3 fun dt ml rs=>A3 (jy CS H x dt ml rs) (rs.length<=500) (qW CS CT x dt ml rs (.str "file") ow mi re tx H Q)
def T9 (CS CT:Addr):Sp:=Bw fun x ow tx H Q _=>X3 fun dt ml rs=>A3 (jy CS H x dt ml rs) (rs.length<=500) (qW CS CT x dt ml rs (.str "lead") ow (.str "") (.str "") tx H Q)
def Jm (CH CS CT CN:Addr):Sp:=y2 fun x v H Q E=>X3 fun A L M=>A5 (aR CH CS CT H A L M) (A.t=x) (∃ T,clsName H v=some T) (∀ (k:Nat) a t,v=.int k->L[k]?=some a->M.ts[k]?=some t->Q (.ref a.th) H) ((∀ k:Nat,v=.int k->¬ k < M.ts.length)->E (.ref CN) none H)
abbrev iY:=Ad->List Ta->Hs->Nat->Ta->Th->Hp->VK->Prop
def gH (CH CS CT:Addr) (sel:Ad->Addr) (f:iY):Sp:=jd fun x n H Q _=>X6 fun A L M (k:Nat) a t=>A6 (aR CH CS CT H A L M) (sel A=x) (n=(k:Int)) (L[k]?=some a) (M.ts[k]?=some t) (f A L M k a t H Q)
def Wt (CH CS CT:Addr) (sel:Ad->Addr):Sp:=uJ fun x n z H Q _=>X6 fun A L M (k:Nat) a t=>A6 (aR CH CS CT H A L M) (sel A=x) (n=(k:Int)) (L[k]?=some a) (M.ts[k]?=some t) (Q ((aI (sD t.aw) (.inr z)).getD .aq) H)
def JR (CH CS CT:Addr):Sp:=uJ fun x n z H Q _=>X6 fun A L M (k:Nat) a t=>A8 (aR CH CS CT H A L M) (A.a=x) (n=(k:Int)) (L[k]?=some a) (M.ts[k]?=some t) (eg (.str z)=true) (z.length<=1000) (∀ H',ag H H'->Q ((aI (sD t.aw) (.inr z)).getD .aq) H')
def D7 (CH CS CT:Addr) (sel:Ad->Addr):Sp:=gd fun x H Q _=>X3 fun A L M=>A3 (aR CH CS CT H A L M) (sel A=x) (Q (.int M.ts.length) H)
abbrev Ht:iY:=fun _ _ _ _ _ t H Q=>t.aw.length < 64/\∀ l,H l=none->Q (.ref l) (upd H l (.lst ((cu (t.aw.map (·.1))).map V.str)))
abbrev uu:iY:=fun _ _ _ _ _ t H Q=>(t.bf=[]/\Q .aq H)\/∃ f z,t.bf=[(f,z)]/\∀ p,H p=some (.tup [.int (f:Nat),.str z])->Q (.ref p) H
abbrev qr:iY:=fun _ _ _ _ _ t H Q=>Q (.str t.kd) H
abbrev D3:iY:=fun _ _ _ _ _ t H Q=>Q (.str t.ow) H
abbrev Aw:iY:=fun _ _ _ _ _ t H Q=>Q (.str t.tx) H
abbrev M5:iY:=fun _ _ _ _ _ t H Q=>∀ l,H l=none->Q (.ref l) (upd H l (.tup [.str t.mi,.str t.re]))
abbrev RZ:iY:=fun _ _ _ _ _ _ H Q=>Q .aq H
def HW (CH CS CT CA:Addr):Sp:=y2 fun x v H Q E=>X3 fun A L M=>A5 (aR CH CS CT H A L M) (A.a=x) (∃ T,clsName H v=some T) (∀ z,v=.str z->(aI (sD M.ro) (.inr z)).isSome=true->Q .aq H) ((∀ z,v=.str z->aI (sD M.ro) (.inr z)=none)->E (.ref CA) none H)
def N9 (CH CS CT:Addr):Sp:=i5 fun x z H Q _=>X4 fun A L M (r:Nat)=>A4 (aR CH CS CT H A L M) (A.a=x) (aI (sD M.ro) (.inr z)=some (.int r)) (Q (.int r) H)
def bK (t:Th) (asker:Str):Str:=if asker=t.ow then t.mi else t.re
def Pm (CT:Addr):Sp:=i5 fun x z H Q _=>X3 fun a i t=>A3 (lB CT H a i t) (a.th=x) (Q (.str (bK t z)) H)
def jh (v:V):Bool:=decide (v=.str "l") || decide (v=.str "g") || decide (v=.str "w")
def Wo (CR:Addr):Sp:=rV fun v H Q E=>A3 (∃ T,clsName H v=some T) (jh v=true->Q .aq H) (jh v=false->E (.ref CR) none H)
def bZ (s:Str) (z:Str):Bool:=!(Builtin.Str.occurrences z s 0 z.length 1).isEmpty
def E6 (CH CS CT CA CR CN:Addr):Sp:=Bo fun x w v r H Q E=>X3 fun A L M=>A7 (aR CH CS CT H A L M) (A.a=x) (∃ T,clsName H w=some T) (∃ T,clsName H v=some T) (∃ T,clsName H r=some T) ((∀ z,w=.str z->aI (sD M.ro) (.inr z)=none)->E (.ref CA) none H) (∀ z,w=.str z->(aI (sD M.ro) (.inr z)).isSome=true->(jh r=false->E (.ref CR) none H) /\
    ∀ s,r=.str s->jh r=true->((∀ k:Nat,v=.int k->¬ k < M.ts.length)->E (.ref CN) none H)/\∀ (k:Nat) t,v=.int k->M.ts[k]?=some t->Q (.bl (bZ s (bK t z))) H)
local macro_rules | `(tactic| walk_at "rd")=>`(tactic| dsimp only [zI,By,xQ,xV,kf,fm,AQ,jG,tC,jB,BA,uT,lQ,i9,iC,zt,uk,BJ,yE,zw,Bs,oF,jf,qK,xr,uZ,vv,ka,AW,ym,xY,Ag,vx,wU,vf,xR,P1,V3,RC,S5,oP,ux,yx,zU,Bt,zA,WH,Yj,Ae,rJoin,xH,Ab,sN,yj,vE,qT,zf,Ez,BM,W2,QR,yU,xX,yN,AY,pS,rm,xo,z6,AE,z0,BZ,W6,zC,Oi,Ng,T7,Ends.Ys,y6,Ak,wV,wY,zX,zk,AZ,zh,RO,qk,XY,vY,MY,Ec,zN,yl,yy,B8,xx,yH,xF,xU,AB,RA,za,Vq,Va,OV,Vz,vF,Bf,AV,BQ,zP,Wf,FE,zK,vd,WC,List.getElem?_cons_zero,List.getElem?_cons_succ,List.set_cons_zero,List.set_cons_succ,List.cons_append,List.nil_append])
local macro_rules | `(tactic| walk_at "w")=>`(tactic| (first | walk_at "rd" | skip))
local macro_rules | `(tactic| left)=>`(tactic| walk_at "w")
local macro_rules | `(tactic| right)=>`(tactic| (refine ai ?_;left))
local macro_rules | `(tactic| walk_at "f")=>`(tactic| (refine Gc (m:=40) ?_ (by decide); (repeat (refine bT ?_)); exact At _))
local macro_rules | `(tactic| walk_at "c")=>`(tactic| (repeat (first | exact trivial | (refine ⟨fun z=>(by first | exact ⟨_,rfl⟩ | (rcases z with z | z <;> cases z)),?_⟩))))
open Dv (aa ae ao aL aS aX bb bc bg bD cj cX cU dz dN dS eB eG e9 gg gq aq gn il iw kq l8 lR oJ ng nS pa rS sH rJ qG rT nI u0 u7 vm xm B0 xu yv BG y9 Bq yQ FZ Fn Fs HP D9 Il Im Qy NO M3 OM WZ M7 W7 Ru Qh Uq Qu)
abbrev ac:=@Dv.v
abbrev ad:=@Dv.cut
abbrev am:=@Dv.int
abbrev bi:=@Dv.str
abbrev bn:=@Dv.fld
abbrev bv:=@Dv.call
abbrev ce:=@Dv.nil
abbrev ci:=@Dv.ix
abbrev cr:=@Dv.op
abbrev db:=@Dv.lst
abbrev dl:=@Dv.glob
abbrev dL:=@Dv.w_or
abbrev em:=@Dv.bl
abbrev f8:=@Dv.cmp
abbrev gl:=@Dv.tup
abbrev ii:=@Dv.un
abbrev im:=@Dv.make
abbrev io:=@Dv.w_and
abbrev jp:=@Dv.slice
section
variable {P:Program} {w:World} {K:PySem.W.Frag} {mg:Str->Option Value} {base:Heap}
variable (T:Tx K mg)
def Aq:T.gU.k P w base 1 (Rn K):=by
 refine T.gU.F.ok UW (fun _ _ _ _ h=>kx h fun _ _=>rfl) fun ax A outer s H vs Q E hr h=>kx h fun x h=>?_;obtain ⟨⟨ty,h1⟩,j5,q⟩:=h;refine ⟨_,((ad (bb (eB (dL (dN (cX (cj ij T.gX gO (aa (ac 0) (aa (il (.ty "str") T.ox nJ rfl) ae))))) (gg (dN (xm oq oq am (cj (fZ (K:=K) rfl) T.f9 Op (aa (ac 0) ae)) (dl (.int 8) T.XS ⟨_,rfl⟩)))))) (ao (aL em)) ce)
 (ao (aL (cj (xJ (K:=K) rfl rfl) T.AX zE (aa (FZ rfl (x:=("sign" : Str)) (Qy (ac 0)) (fun _ _ _ _=>by exact oJ) (fun _ _ _ _=>by exact (cU 0 (show List.Nodup (["sign"]:List Str) by decide))) (fun _ _ _ _=>by exact (f8 (uP (K:=K) rfl) (ac 0) (dl (.str "abcdefghijklmnopqrstuvwxyz") T.Ol ⟨_,rfl⟩))) (.of rfl (by exact trivial) (by walk_at "c") rfl (by exact trivial))) ae)))))).h,?_⟩
 refine stI [some x] ?_;refine ai ?_;walk_at "rd";simp only [h1,wZ h1];refine ⟨uV _ rfl,?_⟩;cases x with
 | str z =>
  simp only [vi,_p,On,ZB];have hsh':z.length<=1000:=j5;have hl:z.cps.toList.length=z.length:=by simp [Str.length]
  refine ⟨fits hsh',?_⟩;by_cases a1:1<=z.length
  ·rw [AT (show (1:Int)<=(z.length:Int) by omega)];refine bS ?_;by_cases a2:z.length<=8
   ·rw [AT (show (z.length:Int)<=8 by omega)];refine bA ?_;refine Uy (fun c=>.bl (iB.contains c)) (fits hsh') ?_ ?_
    ·intro c _ H1 _ R hR;walk_at "rd";rw [FH,show (⟨#[c]⟩:Str)=Tx.S [c] from rfl,Tx.O7];exact hR H1 (ag.refl H1)
    ·intro H1 s1 l gi;refine ⟨_,aE.of au,z.cps.toList.map (iB.contains ·),by rw [SZ]; rfl,?_⟩;have e:((z.cps.toList.map (iB.contains ·)).all id)=eg (.str z):=by
      show _=isNm z.cps.toList;unfold isNm;rw [hl,AT a1,AT a2,List.all_map];rfl
     rw [e];exact q _ (s1.trans (ag.upd gi))
   ·rw [ut (show ¬ (z.length:Int)<=8 by omega)];refine bS ?_;have e:eg (.str z)=false:=by
     show isNm z.cps.toList=false;unfold isNm;rw [hl,ut a2,Bool.and_false,_H]
    have:=q H (ag.refl H);rw [e] at this;exact this
  ·rw [ut (show ¬ (1:Int)<=(z.length:Int) by omega)];refine bA (bS ?_);have e:eg (.str z)=false:=by
    show isNm z.cps.toList=false;unfold isNm;rw [hl,ut a1,_H,_H]
   have:=q H (ag.refl H);rw [e] at this;exact this
 | _=>exact q H (ag.refl H)
def bR {X:Cx} {b:List Stmt} {t:TS} {D:Ends} {σ:St} {H:Hp} (h:QB X b t) (q:t D σ H):∃ t,dQ X b t/\t D σ H:=⟨t,h.h,q⟩
def V7:V->Bool
 | .int _=>true
 | .bl _=>true
 | _=>false
def PL {H:Hp} {v:V} {ty:String} (h:clsName H v=some ty):uG ty "int" = V7 v:=by
 unfold clsName at h;split at h
 ·cases h; rfl
 ·cases h; rfl
 ·cases h; rfl
 ·cases h; rfl
 ·split at h
  ·cases h; rfl
  ·cases h; rfl
  ·cases h; rfl
  ·cases h
 ·cases h
def EU:T.jO.k P w base 1 W9:=by
 refine T.jO.F.ok R5 (fun _ _ _ _ h=>kx h fun _ _=>rfl) fun ax A outer s H vs Q E hr h=>kx h fun v h=>?_;obtain ⟨⟨ty,cF⟩,q⟩:=h;refine ⟨_,((ao (aL (B0 (cj ij T.gX gO (aa (ac 0) (aa (il (.ty "int") T.Gg E4 rfl) ae))) (Dv.one (NO (cj ij T.gX gO (aa (ac 0) (aa (il (.ty "bool") T.g_bool FJ rfl) ae))))))))).h,?_⟩;refine stI [some v] ?_;left;simp only [cF];refine ⟨by decide,?_⟩;cases v with
 | int i=>cases cF; exact bS ⟨by decide,q⟩
 | bl b=>cases cF; exact bS ⟨by decide,q⟩
 | _ =>
  rw [PL cF];exact bA q
def xI:T.gN.k P w base 2 PJ:=by
 refine T.gN.F.ok NY (fun _ _ _ _ h=>kx h fun _ _=>rfl) fun ax A outer s H vs Q E hr h=>kx h fun x h=>?_;obtain ⟨hc,j5,hn,q1⟩:=h;refine ⟨_,((ao (bb (dN (cX (bv (Aq T) hr.m T.gU.m T.gU.F.kp T.gU.b .nil aA (aa (ac 0) ae)))) (ao iw) ce))).h,?_⟩;refine stI [some x] ?_;left;refine ⟨hc,j5,fun H' s'=>?_⟩;rw [hn];exact bA (q1 H' s')
def iq:List Str:=["","l","g","w","lg","lw","gw","lgw"]
def TR:Sp:=jR fun z H Q _=>z∈iq/\Q (.bl true) H
def Tn:Sp:=jR fun z H Q _=>z∈iq/\Q .aq H
def VA {z:Str} {zs:List Str} (h:z∈zs):f6 (V.str z) (zs.map V.str)=true:=by
 unfold f6;rw [List.any_map,List.any_eq_true];exact ⟨z,h,show (z == z)=true from _o z⟩
def XZ:T.oI.k P w base 1 TR:=by
 refine T.oI.F.ok Mx (fun _ _ _ _ h=>eS h fun _ _=>rfl) fun ax A outer s H vs Q E hr h=>eS h fun z h=>?_;obtain ⟨hz,q⟩:=h;refine ⟨_,((ao (aL (B0 (cj ij T.gX gO (aa (ac 0) (aa (il (.ty "str") T.ox nJ rfl) ae))) (Dv.one (f8 (Ap (K:=K) rfl) (ac 0) (dl (.ref T.Cf) T.UO rfl))))))).h,?_⟩;refine stI [some (V.str z)] ?_;left;refine ⟨by decide,bS ⟨_,.inr (T.zm H),rfl,rfl,?_⟩⟩;rw [show [V.str (Str.ofString ""),V.str (Str.ofString "l"),V.str (Str.ofString "g"),V.str (Str.ofString "w"),V.str (Str.ofString "lg"),V.str (Str.ofString "lw"),V.str (Str.ofString "gw"),V.str (Str.ofString "lgw")]=iq.map V.str from rfl,VA hz];exact q
def ud:T.fB.k P w base 2 Tn:=by
 refine T.fB.F.ok R7 (fun _ _ _ _ h=>eS h fun _ _=>rfl) fun ax A outer s H vs Q E hr h=>eS h fun z h=>?_;obtain ⟨hz,q⟩:=h;refine ⟨_,((ao (bb (dN (cX (bv (XZ T) hr.m T.oI.m T.oI.F.kp T.oI.b .nil aA (aa (ac 0) ae)))) (ao iw) ce))).h,?_⟩;refine stI [some (V.str z)] ?_;left;exact ⟨hz,bA q⟩
def Uv (v:V):f6 v [V.str (Str.ofString "l"),V.str (Str.ofString "g"),V.str (Str.ofString "w")]=jh v:=by
 unfold f6 jh;simp only [Zx,List.any_nil,_Q];have key:∀ z:Str,eT (.str z) v=decide (v=.str z):=fun z=>by
  cases v with
  | str y =>
   show (z == y)=decide (V.str y=V.str z);by_cases e:z=y
   ·subst e; simp
   ·rw [ut (by intro h; injection h with h; exact e h.symm)];exact GM.mpr e
  | _=>rfl
 rw [key,key,key,Bool.or_assoc]
def Ti:aC P w K mg base (cI P w) 1 T.oC.f T.oC.d ["text"] (Wo T.tw):=by
 refine T.oC.F.eK Og (fun _ _ _ _ h=>kx h fun _ _=>rfl) fun ax A outer s H vs Q E hr h=>kx h fun v h=>?_;obtain ⟨⟨ty,cF⟩,q1,q2⟩:=h;refine ⟨_,((ao (bb (eB (dL (dN (cX (cj ij T.gX gO (aa (ac 0) (aa (il (.ty "str") T.ox nJ rfl) ae))))) (gg (bc (zQ (K:=K) rfl) (ac 0) (dl (.ref T.Cm) T.RD rfl))))) (ao (xu xw rfl T.Yh T.MG (aa bi ae))) ce))).h,?_⟩;refine stI [some v] ?_;left;simp only [cF,wZ cF];refine ⟨uV _ rfl,?_⟩;cases v with
 | str z =>
  simp only [vi,_p,On,ZB];refine ⟨_,.inr (T.zW H),rfl,rfl,?_⟩;rw [Uv];cases ho:jh (.str z) with
  | true=>exact bA (q1 ho)
  | false=>exact bS ⟨fits (by simp),q2 ho⟩
 | _=>exact ⟨fits (by simp),q2 rfl⟩
def OE:T.nY.k P w base 2 (MF K):=by
 refine T.nY.F.ok Um (fun _ _ _ _ h=>eS h fun _ _=>rfl) fun ax A outer s H vs Q E hr h=>eS h fun z h=>?_;obtain ⟨w',rfl,hw,q⟩:=h;refine ⟨_,((ao (aL (M3 (f8 (Ap (K:=K) rfl) (ac 0) (dl (.ref T.Ck) T.Xo rfl)) (Dv.one (bv (Aq T) hr.m T.gU.m T.gU.F.kp T.gU.b .nil aA (aa (ac 0) ae))))))).h,?_⟩;refine stI [some (V.str (Tx.S w'))] ?_;walk_at "rd";refine ⟨_,.inr (T.yn H),rfl,rfl,?_⟩;have e:f6 (V.str (Tx.S w')) [V.str (Str.ofString "."),V.str (Str.ofString "..")]=(decide (w'=[46]) || decide (w'=[46,46])):=by
  rw [show Str.ofString "." = Tx.S [46] from by decide +kernel,show Str.ofString ".." = Tx.S [46,46] from by decide +kernel];unfold f6 eT;simp only [Zx,List.any_nil,_Q];have b:∀ m:List Nat,(Tx.S m == Tx.S w')=decide (w'=m):=fun m=>by
   by_cases h:w'=m
   ·rw [h]; simp
   ·have:Tx.S m≠Tx.S w':=fun e=>h (Tx.GP e).symm;rw [ut h];exact GM.mpr this
  rw [b,b]
 rw [e];cases hd:(decide (w'=[46]) || decide (w'=[46,46])) with
 | true =>
  refine bS ?_;have:=q H (ag.refl H);unfold bX at this;rw [hd] at this;exact this
 | false =>
  refine bA ?_;refine ⟨⟨_,rfl⟩,(by show (Tx.S w').length<=1000; rw [Tx.cB]; exact hw),fun H' s'=>?_⟩;have:=q H' s';unfold bX at this;rw [hd,Bool.false_or] at this;have e2:eg (V.str (Tx.S w'))=isNm w':=by show isNm _=_; rw [Tx.jx]
  rw [e2];exact this
def l7:T.dm.k P w base 3 (VS K):=by
 refine T.dm.F.ok Fj (fun _ _ _ _ h=>eS h fun _ _=>rfl) fun ax A outer s H vs Q E hr h=>eS h fun z h=>?_;obtain ⟨t,rfl,t1,t2,kY,q⟩:=h;refine ⟨_,((ad (bb (eB (dL (dN (cX (cj ij T.gX gO (aa (ac 0) (aa (il (.ty "str") T.ox nJ rfl) ae))))) (gg (dN (xm oq oq am (cj (fZ (K:=K) rfl) T.f9 Op (aa (ac 0) ae)) (dl (.int 2000) T.Qe ⟨_,rfl⟩)))))) (ao iw) ce)
 (ad (Fn 1 rfl Fj.nd (x:=("part" : Str)) (rS (K:=K) rfl (gq PySem.F.slot_str_split PySem.F.type_str_split Eu (ac 0) (aa bi ae))) (fun _ _ _ _=>by exact (yv (bc eX (ac 0) bi))) (fun _ _ _ _=>by exact (cU 0 (show List.Nodup (["part"]:List Str) by decide))) (fun _ _ _ _=>by exact (ac 0)) (.of rfl (by exact trivial) (by walk_at "c") rfl (by exact trivial)))
 (ad (bb (dN (cX (cj (xJ (K:=K) rfl rfl) T.AX zE (aa (FZ rfl (x:=("part" : Str)) (rS (K:=K) rfl (ac 1)) (fun _ _ _ _=>by exact oJ) (fun _ _ _ _=>by exact (cU 0 (show List.Nodup (["part"]:List Str) by decide))) (fun _ _ _ _=>by exact (bv (OE T) hr.m T.nY.m T.nY.F.kp T.nY.b .nil aA (aa (ac 0) ae))) (.of rfl (by exact trivial) (by walk_at "c") rfl (by exact trivial))) ae)))) (ao iw) ce)
 (ad (bb (eB (io (bc (Xs hr.oY) (ac 1) (db ae)) (sH (cX (gq PySem.F.slot_str_endswith PySem.F.type_str_endswith NR (ac 0) (aa bi ae)))))) (ao (aX (dz wP wS dR (ac 1) (aa bi ae)))) ce)
 (ao (aL (gl (aa (gq PySem.F.slot_str_startswith PySem.F.type_str_startswith So (ac 0) (aa bi ae)) (aa (ac 1) ae)))))))))).h,?_⟩
 refine stI [some (V.str (Tx.S t)),none] ?_;refine ai ?_;walk_at "rd";have tJ:Str.ofString "/" = Tx.S [47]:=by decide +kernel
 have e0:Str.ofString "" = Tx.S []:=by decide +kernel
 simp only [Tx.cB,tJ,e0];refine ⟨uV _ rfl,bA ⟨wE t2 (by decide),?_⟩⟩;rw [AT (show (1:Int)<=(t.length:Int) by omega),AT (show (t.length:Int)<=2000 by omega)];refine bS (bA (ai ?_));walk_at "rd";have tQ:=Tx.xM 47 t;refine ⟨rfl,by rw [Tx.cB]; exact wE t2 (by decide),?_,?_⟩
 ·rw [Tx.y1,Tx.kE,Tx.BO,Tx.sJ,mo];exact wE (show _<=2001 by omega) (by decide)
 intro l hl;rw [Tx.Fv t 47 (by decide)];refine fM (o:=.lst (((Tx.cut 47 t).map Tx.S).map V.str)) hl fun H1 s1 b1=>?_;refine ⟨⟨_,aE.of b1⟩,xD (fun x=>match x with | .str z=>!decide (z=Tx.S []) | _=>false) id (aE.of b1) (by rw [mo,mo]; exact wE (show _<=2001 by omega) (by decide)) ?_ ?_ ?_⟩
 ·intro x hx H2 _ R hR;obtain ⟨z,_,rfl⟩:=Cl.mp hx;walk_at "rd";exact hR H2 (ag.refl H2)
 ·intro x hx _ H2 _ R hR;walk_at "rd";exact hR H2 (ag.refl H2)
 intro H2 s2 l2 cg;have ew:((((Tx.cut 47 t).map Tx.S).map V.str).filter (fun x=>match x with | .str z=>!decide (z=Tx.S []) | _=>false)).map id=PV (Tx.words 47 t):=by
  rw [List.map_id,List.filter_map];show ((((Tx.cut 47 t).map Tx.S)).filter _).map V.str=_
  congr 1
  rw [<- Tx.Gy];refine List.filter_congr fun z _=>?_;show (!decide (z=Tx.S []))=decide (z≠Tx.S []);by_cases h:z=Tx.S [] <;> simp [h]
 rw [ew];have hX:H l2=none:=(s1.trans s2).free cg;refine fM (o:=.lst (PV (Tx.words 47 t))) cg fun H3 s3 b3=>?_;have mT:ag H H3:=(s1.trans s2).trans s3;have pN:(Tx.words 47 t).length<=2001:=wE (List.length_filter_le _ _) (by omega);refine ai ?_;walk_at "rd";refine ⟨⟨_,aE.of b3⟩,xD (fun _=>true) (fun x=>match x with | .str z=>.bl (bX z.cps.toList) | _=>.bl false) (aE.of b3) (by rw [mo,mo]; exact wE pN (by decide)) ?_ ?_ ?_⟩
 ·intro x _ H4 _ R hR;exact hR H4 (ag.refl H4)
 ·intro x hx _ H4 _ R hR;obtain ⟨z,hz,rfl⟩:=Cl.mp hx;obtain ⟨w',hw,rfl⟩:=Cl.mp hz;walk_at "rd";obtain ⟨_,_,g3⟩:=lW (Go.mp kY w' hw);refine ⟨w',rfl,by omega,fun H5 s5=>?_⟩;have:=hR H5 s5;simp only [Tx.jx] at this;exact this
 intro H4 s4 l4 wx;have eb:((PV (Tx.words 47 t)).filter (fun _=>true)).map (fun x=>match x with | .str z=>V.bl (bX z.cps.toList) | _=>V.bl false)=((Tx.words 47 t).map bX).map V.bl:=by
  rw [List.filter_eq_self.mpr (fun _ _=>rfl),SZ,SZ,SZ];refine List.map_congr_left fun w' _=>?_;show V.bl (bX (Tx.S w').cps.toList)=V.bl (bX w');rw [Tx.jx]
 rw [eb];refine ⟨_,aE.of au,_,rfl,?_⟩;have ea:((Tx.words 47 t).map bX).all id=true:=by rw [List.all_map]; exact kY
 rw [ea];refine bA ?_;have s5:=ag.upd (o:=.lst (((Tx.words 47 t).map bX).map V.bl)) wx;generalize upd H4 l4 (.lst (((Tx.words 47 t).map bX).map V.bl))=H5 at s5 ⊢;have b5:H5 l2=some (.lst (PV (Tx.words 47 t))):=s5 _ _ (s4 _ _ b3);have Dh:ag H H5:=(mT.trans s4).trans s5;refine gj (fun σ' H'=>σ'=[some (V.str (Tx.S t)),some (V.ref l2)]/\ag H H'/\H' l2=some (.lst (PV (told (Tx.words 47 t) t)))) ?_ ?_
 ·walk_at "rd";refine ⟨fits (by simp),fun p hp=>?_⟩;have s6:=ag.upd (o:=.lst []) hp;have c6:upd H5 p (.lst []) p=some (.lst ((([]:List Str)).map V.str)):=au;generalize upd H5 p (.lst [])=H6 at s6 c6 ⊢;have b6:H6 l2=some (.lst (PV (Tx.words 47 t))):=s6 _ _ b5;refine ⟨(Tx.words 47 t).map Tx.S,[],b6,c6,?_⟩;by_cases wN:Tx.words 47 t=[]
  ·rw [AT (show (Tx.words 47 t).map Tx.S=[] by rw [wN]; rfl)];refine bA (bA ⟨by trivial,Dh.trans s6,?_⟩);unfold told;rw [Ch (fun z=>z.1 wN)];exact b6
  ·rw [ut (show ¬ (Tx.words 47 t).map Tx.S=[] by simpa using wN)];refine bS ?_;rw [Tx.Nr];by_cases wt:t.getLast?=some 47
   ·rw [AT wt];refine bS ?_;simp only [b6];refine ⟨by rw [mo,mo]; exact Gc pN (by decide),by trivial,cH.same (Dh.trans s6) hX cH.upd,?_⟩;unfold told;rw [Db ⟨wN,wt⟩,au,show Str.ofString "." = Tx.S [46] from by decide +kernel];simp only [PV,Fr,Fa,_g]
   ·rw [ut wt];refine bA ⟨by trivial,Dh.trans s6,?_⟩;unfold told;rw [Ch (fun z=>wt z.2)];exact b6
 ·rintro σ' H6 ⟨rfl,s6,b6⟩;walk_at "rd";simp only [tJ,Tx.U7];refine ⟨fits (by simp),fun p hp=>?_⟩;exact q _ l2 p (s6.trans (ag.upd hp)) hX (Oh b6 hp) au
def O3:T.sd.k P w mg base 1 (Uj T.aY):=by
 refine T.sd.F.ok RJ (fun _ _ _ _ h=>JF h fun _ _ _ _ _ _ _ _=>rfl) fun ax A outer s H vs Q E hr h=>JF h fun x n kd ow mi re tx h=>?_;obtain ⟨dx,hx,q⟩:=h;refine ⟨_,((ad (bD T.cW T.Xu (ac 0) (ac 1))
 (ad (bD T.cW T.A0 (ac 0) (ac 2))
 (ad (bD T.cW T.Bv (ac 0) (ac 3))
 (ad (bD T.cW T.ze (ac 0) (ac 4))
 (ad (bD T.cW T.xp (ac 0) (ac 5))
 (ad (bD T.cW T.Je (ac 0) (ac 6))
 (ad (bD T.cW T.vT (ac 0) e9)
 (ao (bD T.cW T.rE (ac 0) OM)))))))))).h,?_⟩
 refine stI [some (.ref x),some n,some kd,some ow,some mi,some re,some tx] ?_;refine ai ?_;walk_at "rd";refine ⟨x,dx,_,rfl,hx,by decide,ai ?_⟩;walk_at "rd";refine ⟨x,dx,_,rfl,au,by walk_at "f",ai ?_⟩;walk_at "rd";refine ⟨x,dx,_,rfl,au,by walk_at "f",ai ?_⟩;walk_at "rd";refine ⟨x,dx,_,rfl,au,by walk_at "f",ai ?_⟩;walk_at "rd";refine ⟨x,dx,_,rfl,au,by walk_at "f",ai ?_⟩;walk_at "rd";refine ⟨x,dx,_,rfl,au,by walk_at "f",ai ?_⟩;simp only [ji];walk_at "rd";intro l1 h1;have n1:l1≠x:=fun e=>by rw [e,au] at h1; cases h1
 have h1':H l1=none:=by rw [ah n1] at h1; exact h1
 refine ⟨x,dx,_,rfl,by rw [ah (sw n1),au],by walk_at "f",fun l2 h2=>?_⟩;have n2:l2≠x:=fun e=>by rw [e,au] at h2; cases h2
 rw [ah n2] at h2;have n3:l2≠l1:=fun e=>by rw [e,au] at h2; cases h2
 rw [ah n3,ah n2] at h2;refine ⟨x,dx,_,rfl,by rw [ah (sw n2),au],by walk_at "f",?_⟩;refine q l1 l2 _ h1' h2 (sw n3) n1 n2 (fun b b1 b2 b3=>?_) ?_ ?_ _ ?_ (fun f=>?_) au
 ·rw [ah b1,ah b3,ah b1,ah b2,ah b1]
 ·rw [ah n1,ah (sw n3),ah n1,au]
 ·rw [ah n2,au]
 ·exact wE (by (repeat (refine bT ?_)); exact At _) (sB 40)
 ·rfl
def QM:T.rO.k P w mg base 1 (R4 T.aQ):=by
 refine T.rO.F.ok YF (fun _ _ _ _ h=>cQ h fun _ _=>rfl) fun ax A outer s H vs Q E hr h=>cQ h fun x h=>?_;obtain ⟨dx,hx,q⟩:=h;refine ⟨_,((ad (bD T.cb T.oQ (ac 0) (db ae))
 (ao (bD T.cb T.xA (ac 0) am)))).h,?_⟩
 refine stI [some (.ref x)] ?_;refine ai ?_;walk_at "rd";refine ⟨fits (by simp),fun l hl=>?_⟩;have n1:l≠x:=fun e=>by rw [e,hx] at hl; cases hl
 refine ⟨x,dx,_,rfl,by rw [ah (sw n1)]; exact hx,by decide,?_⟩;refine ⟨x,dx,_,rfl,au,by walk_at "f",?_⟩;refine q l _ hl n1 (fun b b1 b2=>?_) ?_ _ ?_ (fun f=>?_) au
 ·rw [ah b1,ah b1,ah b2]
 ·rw [ah n1,ah n1,au]
 ·exact wE (bT (bT (At _))) (show 0+1+1<=40 by decide)
 ·rfl
def S0:T.sE.k P w mg base 1 (Pm T.aY):=by
 refine T.sE.F.ok QN (fun _ _ _ _ h=>eF h fun _ _ _=>rfl) fun ax A outer s H vs Q E hr h=>eF h fun x z h=>?_;obtain ⟨a,i,t,cw,rfl,q⟩:=h;obtain ⟨fs,hx,aU,sf⟩:=cw.o;refine ⟨_,((ao (aL (Fs (bc eA (ac 1) (bn T.cW T.Bv (ac 0))) (bn T.cW T.ze (ac 0)) (bn T.cW T.xp (ac 0)))))).h,?_⟩;refine stI [some (V.ref a.th),some (V.str z)] ?_;left;refine (fI hx sf rfl ?_);dsimp only;unfold bK at q;by_cases e:z=t.ow
 ·rw [AT e];rw [Db e] at q;exact bS (fI hx sf rfl q)
 ·rw [ut e];rw [Ch e] at q;exact bA (fI hx sf rfl q)
def zp:T.jC.k P w mg base 3 (UH T.aQ T.aY):=by
 refine T.jC.F.ok FG (fun _ _ _ _ h=>Ih h fun _ _ _ _ _ _ _=>rfl) fun ax A outer s H vs Q E hr h=>Ih h fun x kd ow mi re tx h=>?_;obtain ⟨dt,ml,rs,⟨⟨fs,c,hx,aU,sf⟩,hZ⟩,fS,q⟩:=h;refine ⟨_,((ad (kq T.cb T.xA ki (ac 0) am)
  (ad (aS 6 FG.nd (cj (fZ (K:=K) rfl) T.f9 Op (aa (bn T.cb T.oQ (ac 0)) ae)))
  (ad (aX (dz wP wS dR (bn T.cb T.oQ (ac 0)) (aa (im T.Qr (O3 T) hr.m T.Oo T.sd.b .nil aA (aa (ac 6) (aa (ac 1) (aa (ac 2) (aa (ac 3) (aa (ac 4) (aa (ac 5) ae))))))) ae)))
  (ao (aL (ac 6))))))).h,?_⟩
 refine stI [some (.ref x),some kd,some ow,some mi,some re,some tx,none] ?_;have df:ml≠x:=fun e=>by rw [e,hx] at hZ; cases hZ
 refine ai ?_;walk_at "rd";refine ⟨x,dt,fs,.int c,rfl,hx,(sf _).trans rfl,_,_,rfl,rfl,dt,fs,hx,by omega,ai ?_⟩;have dg:cZ (ay "changes" (.int (c+1)) fs) (qO ml (c+1)):=fun f=>by rw [(sf.put "changes" (.int (c+1))) f]; rfl
 have iH:(ay "changes" (.int (c+1)) fs).length<=41:=bT aU;have bB:upd H x (.ins T.aQ dt (ay "changes" (.int (c+1)) fs)) x=some (.ins T.aQ dt (ay "changes" (.int (c+1)) fs)):=au;have jZ:upd H x (.ins T.aQ dt (ay "changes" (.int (c+1)) fs)) ml=some (.lst rs):=by rw [ah df]; exact hZ
 have hJ:Kp [x] H (upd H x (.ins T.aQ dt (ay "changes" (.int (c+1)) fs))):=fun b o hb e=>by rw [ah (fun z=>hb (by simp [z]))]; exact e
 have mJ:∀ b,b≠x->upd H x (.ins T.aQ dt (ay "changes" (.int (c+1)) fs)) b=H b:=fun b hb=>ah hb;generalize upd H x (.ins T.aQ dt (ay "changes" (.int (c+1)) fs))=H1 at bB jZ hJ mJ ⊢;walk_at "rd";refine ⟨x,dt,_,.ref ml,rfl,bB,(dg _).trans rfl,?_⟩;simp only [bC,jZ];refine ai ?_;walk_at "rd";refine ⟨x,dt,_,.ref ml,rfl,bB,(dg _).trans rfl,?_⟩;simp only [jZ];intro th di aP hdth pL;refine ⟨di,au,fun nm pl H2 cx bw hnp hn1 hX fr2 hnm2 hpl2 ks gB sk hth2=>⟨rfl,?_⟩⟩;have Cv:∀ b o,H1 b=some o->upd (upd H1 di (HO.own th)) th (HO.ins T.aY di []) b=some o:=fun b o e=>by
  rw [ah (aH e aP),ah (aH e hdth)]; exact e
 have CM:∀ b o,H1 b=some o->H2 b=some o:=fun b o e=>by
  rw [fr2 b (aH e aP) (aH (Cv b o e) cx) (aH (Cv b o e) bw)]; exact Cv b o e
 have dn:∀ d,d≠th->upd (upd H1 di (HO.own th)) th (HO.ins T.aY di []) d=none->H1 d=none:=fun d n e=>by
  rw [ah n] at e;by_cases z:d=di
  ·rw [z,au] at e; cases e
  ·rw [ah z] at e; exact e
 have K6:=dn nm hn1 cx;have iN:=dn pl hX bw;have Ds:∀ d,H1 d=none->H d=none:=fun d e=>by rw [<- mJ d (sw (aH bB e))]; exact e
 simp only [CM _ _ jZ];refine ⟨gR (by omega),?_⟩;refine q th di nm pl ks _ (Ds _ aP) (Ds _ K6) (Ds _ iN) ⟨⟨_,c+1,by rw [ah (sw df)]; exact CM _ _ bB,?_,dg⟩,au⟩ (by rw [ah (sw (aH jZ aP))]; exact hth2) gB sk
  (by rw [ah (sw (aH jZ K6))]; exact hnm2) (by rw [ah (sw (aH jZ iN))]; exact hpl2) (fun b o hb e=>?_)
 ·rw [jg (u:=.int c) ((sf _).trans rfl)]; exact aU
 ·simp only [ss,u8,EQ,ZP] at hb;rw [ah hb.2];exact CM _ _ (hJ b o (by simp [hb.1]) e)
def FC:T.lq.k P w mg base 4 (Pt T.aQ T.aY):=by
 refine T.lq.F.ok Ry (fun _ _ _ _ h=>vw h fun _ _ _ _ _=>rfl) fun ax A outer s H vs Q E hr h=>vw h fun x ow mi re h=>?_;obtain ⟨dt,ml,rs,at',fS,q⟩:=h;obtain ⟨fs,c,hx,aU,sf⟩:=at'.o;refine ⟨_,((ao (aL (bg T.cb T.jC.h (zp T) hr.m T.jC.b .nil aA (ac 0) (aa (dl (.str "folder") T.ve ⟨_,rfl⟩) (aa (ac 1) (aa (ac 2) (aa (ac 3) (aa bi ae))))))))).h,?_⟩;refine stI [some (.ref x),some ow,some mi,some re] ?_;left;exact ⟨x,dt,fs,rfl,hx,(sf _).trans rfl,dt,ml,rs,at',fS,q⟩
def gQ:aC P w K mg base (cI P w) 2 T.cK.f T.cK.d ["self","number"] (Jm T.aK T.aQ T.aY T.pj):=by
 refine T.cK.F.eK Tr (fun _ _ _ _ h=>uU h fun _ _ _=>rfl) fun ax A outer s H vs Q E hr h=>uU h fun x v h=>?_;obtain ⟨AA,L,M,i,rfl,tQ,q1,q2⟩:=h;obtain ⟨fs,c,hx,aU,sf⟩:=i.t;refine ⟨_,((ad (bb (eB (dL (dN (cX (bv (EU T) hr.m T.jO.m T.jO.F.kp T.jO.b .nil aA (aa (ac 1) ae)))) (gg (dN (xm oq As am (ac 1) (cj (fZ (K:=K) rfl) T.f9 Op (aa (bn T.cb T.oQ (ac 0)) ae))))))) (ao (xu xw rfl T.SG T.UG (aa bi ae))) ce)
 (ao (aL (ci (bt (K:=K) rfl) (bn T.cb T.oQ (ac 0)) (ac 1)))))).h,?_⟩
 refine stI [some (.ref AA.t),some v] ?_;right;refine ⟨tQ,?_⟩;cases v with
 | int n =>
  simp only [Jj,_p,On,ZB];refine e8 (fun h0=>?_) (fun h0=>bS ⟨fits (by simp),q2 fun j e=>?_⟩)
  ·have h0':0<=n:=of_decide_eq_true h0;refine ⟨AA.t,_,_,.ref AA.ml,rfl,hx,(sf _).trans rfl,?_⟩;simp only [bC,i.ml,mo,i.len];obtain ⟨k,rfl⟩:=PP h0';by_cases hk:k < M.ts.length
   ·rw [AT (show (k:Int) < (M.ts.length:Int) by omega)];refine bA ⟨AA.t,_,_,.ref AA.ml,rfl,hx,(sf _).trans rfl,?_⟩;simp only [bC,i.ml];have Kw:k < L.length:=by rw [i.len]; exact hk
    rw [eU (xs:=L.map fun a=>V.ref a.th) (j:=k) (by rw [FS,ul Kw]; rfl)];exact q1 k _ _ rfl (ul Kw) (ul hk)
   ·rw [ut (show ¬ (k:Int) < (M.ts.length:Int) by omega)];refine bS ⟨fits (by simp),q2 fun j e=>?_⟩;injection e with e;have:k=j:=by omega
    rw [<- this]; exact hk
  ·injection e with e;exact absurd (AT (show (0:Int)<=n by omega)) h0
 | _=>exact ⟨fits (by simp),q2 fun k e=>by cases e⟩
def Ph:T.qN.k P w mg base 1 (D7 T.aK T.aQ T.aY Ad.t):=by
 refine T.qN.F.ok Pk (fun _ _ _ _ h=>cQ h fun _ _=>rfl) fun ax A outer s H vs Q E hr h=>cQ h fun x h=>?_;obtain ⟨AA,L,M,i,rfl,q⟩:=h;obtain ⟨fs,c,hx,aU,sf⟩:=i.t;refine ⟨_,((ao (aL (cj (fZ (K:=K) rfl) T.f9 Op (aa (bn T.cb T.oQ (ac 0)) ae))))).h,?_⟩;refine stI [some (.ref AA.t)] ?_;left;refine ⟨AA.t,_,_,.ref AA.ml,rfl,hx,(sf _).trans rfl,?_⟩;simp only [bC,i.ml,mo,i.len];exact q
section
variable {T:Tx K mg} {H:Hp} {A:Ad} {L:List Ta} {M:Hs}
def iy {k:Nat} {a:Ta} {t:Th} {Q:VK} {E:XK} (i:aR T.aK T.aQ T.aY H A L M) (ha:L[k]?=some a) (ht:M.ts[k]?=some t) (q:Q (.ref a.th) H):Jm T.aK T.aQ T.aY T.pj [.ref A.t,.int (k:Int)] H Q E :=
 ⟨A,L,M,i,rfl,⟨_,rfl⟩,fun j a' t' e h1 h2=>by
  injection e with e;have:k=j:=by omega
  subst this;rw [ha] at h1; cases h1;exact q,fun h=>absurd (lv.mp ht).1 (h k rfl)⟩
def ej {k:Nat} {a:Ta} {t:Th} (i:aR T.aK T.aQ T.aY H A L M) (ha:L[k]?=some a) (ht:M.ts[k]?=some t):lB T.aY H a k t:=by
 obtain ⟨a',e,h⟩:=i.th k t ht;rw [ha] at e; cases e;exact h
end
def IT:T.lI.k P w mg base 3 (Wt T.aK T.aQ T.aY Ad.t):=by
 refine T.lI.F.ok Rl (fun _ _ _ _ h=>pe h fun _ _ _ _=>rfl) fun ax A outer s H vs Q E hr h=>pe h fun x n z h=>?_;obtain ⟨AA,L,M,k,a,t,i,rfl,rfl,ha,aP,q⟩:=h;obtain ⟨fs,c,hx,aU,sf⟩:=i.h;obtain ⟨gs,c2,ht,du,sg⟩:=i.t;have cw:=ej i ha aP;obtain ⟨ks,ho,gC,so⟩:=cw.o;refine ⟨_,((ao (aL (WZ (eD hr) (bn T.cW T.vT (dS T.cb T.cK.h (gQ T) hr.m T.cK.b .nil fG (ac 0) (aa (ac 1) ae))) (ac 2))))).h,?_⟩;refine stI [some (V.ref AA.t),some (V.int (k:Int)),some (V.str z)] ?_;left;refine (mI ht sg (iy i ha aP ⟨a.th,_,_,.ref a.nm,rfl,ho,(so _).trans rfl,a.nm,rfl,.inl ⟨_,.inl cw.nm⟩,_,dO.k (k:=.inr z) cw.nm,q⟩))
def NN:T.rf.k P w mg base 3 (gH T.aK T.aQ T.aY Ad.t uu):=by
 refine T.rf.F.ok Of (fun _ _ _ _ h=>bV h fun _ _ _=>rfl) fun ax A outer s H vs Q E hr h=>bV h fun x n h=>?_;obtain ⟨AA,L,M,k,a,t,i,rfl,rfl,ha,aP,q⟩:=h;obtain ⟨fs,c,hx,aU,sf⟩:=i.h;obtain ⟨gs,c2,ht,du,sg⟩:=i.t;have cw:=ej i ha aP;obtain ⟨ks,ho,gC,so⟩:=cw.o;refine ⟨_,((ao (aL (Dv.minD rfl T.Bh (bn T.cW T.rE (dS T.cb T.cK.h (gQ T) hr.m T.cK.b .nil fG (ac 0) (aa (ac 1) ae))))))).h,?_⟩;refine stI [some (V.ref AA.t),some (V.int (k:Int))] ?_;left;refine (mI ht sg (iy i ha aP ⟨a.th,_,_,.ref a.pl,rfl,ho,(so _).trans rfl,a.pl,_,rfl,cw.pl,?_⟩));rcases q with ⟨e,q⟩ | ⟨f,z,e,q⟩
 ·rw [e]; exact .inl ⟨rfl,q⟩
 ·rw [e]; exact .inr ⟨_,_,rfl,q⟩
def vD:T.iA.k P w mg base 3 (gH T.aK T.aQ T.aY Ad.a qr):=by
 refine T.iA.F.ok WJ (fun _ _ _ _ h=>bV h fun _ _ _=>rfl) fun ax A outer s H vs Q E hr h=>bV h fun x n h=>?_;obtain ⟨AA,L,M,k,a,t,i,rfl,rfl,ha,aP,q⟩:=h;obtain ⟨fs,c,hx,aU,sf⟩:=i.h;obtain ⟨gs,c2,ht,du,sg⟩:=i.t;have cw:=ej i ha aP;obtain ⟨ks,ho,gC,so⟩:=cw.o;refine ⟨_,((ao (aL (bn T.cW T.A0 (dS T.cb T.cK.h (gQ T) hr.m T.cK.b .nil fG (bn T.aN T.eM (ac 0)) (aa (ac 1) ae)))))).h,?_⟩;refine stI [some (V.ref AA.a),some (V.int (k:Int))] ?_;left;exact ⟨AA.a,_,_,.ref AA.t,rfl,hx,(sf _).trans rfl,AA.t,_,_,rfl,ht,(sg _).trans rfl,iy i ha aP (fI ho so rfl q)⟩
def uQ:T.iu.k P w mg base 4 (gH T.aK T.aQ T.aY Ad.a uu):=by
 refine T.iu.F.ok XC (fun _ _ _ _ h=>bV h fun _ _ _=>rfl) fun ax A outer s H vs Q E hr h=>bV h fun x n h=>?_;obtain ⟨AA,L,M,k,a,t,i,rfl,rfl,ha,aP,q⟩:=h;obtain ⟨fs,c,hx,aU,sf⟩:=i.h;obtain ⟨gs,c2,ht,du,sg⟩:=i.t;have cw:=ej i ha aP;obtain ⟨ks,ho,gC,so⟩:=cw.o;refine ⟨_,((ao (aL (bg T.cb T.rf.h (NN T) hr.m T.rf.b .nil aA (bn T.aN T.eM (ac 0)) (aa (ac 1) ae))))).h,?_⟩;refine stI [some (V.ref AA.a),some (V.int (k:Int))] ?_;left;exact ⟨AA.a,_,_,.ref AA.t,rfl,hx,(sf _).trans rfl,AA.t,_,_,rfl,ht,(sg _).trans rfl,AA,L,M,k,a,t,i,rfl,rfl,ha,aP,q⟩
def T3:T.sM.k P w mg base 3 (gH T.aK T.aQ T.aY Ad.a RZ):=by
 refine T.sM.F.ok TX (fun _ _ _ _ h=>bV h fun _ _ _=>rfl) fun ax A outer s H vs Q E hr h=>bV h fun x n h=>?_;obtain ⟨AA,L,M,k,a,t,i,rfl,rfl,ha,aP,q⟩:=h;obtain ⟨fs,c,hx,aU,sf⟩:=i.h;obtain ⟨gs,c2,ht,du,sg⟩:=i.t;have cw:=ej i ha aP;obtain ⟨ks,ho,gC,so⟩:=cw.o;refine ⟨_,((ao (aX (dS T.cb T.cK.h (gQ T) hr.m T.cK.b .nil fG (bn T.aN T.eM (ac 0)) (aa (ac 1) ae))))).h,?_⟩;refine stI [some (V.ref AA.a),some (V.int (k:Int))] ?_;left;exact ⟨AA.a,_,_,.ref AA.t,rfl,hx,(sf _).trans rfl,AA.t,_,_,rfl,ht,(sg _).trans rfl,iy i ha aP q⟩
def Ye:T.qD.k P w mg base 2 (D7 T.aK T.aQ T.aY Ad.a):=by
 refine T.qD.F.ok XI (fun _ _ _ _ h=>cQ h fun _ _=>rfl) fun ax A outer s H vs Q E hr h=>cQ h fun x h=>?_;obtain ⟨AA,L,M,i,rfl,q⟩:=h;obtain ⟨fs,c,hx,aU,sf⟩:=i.h;obtain ⟨gs,c2,ht,du,sg⟩:=i.t;refine ⟨_,((ao (aL (rJ T.cb T.qN.h (Ph T) hr.m T.qN.b .nil aA (bn T.aN T.eM (ac 0)))))).h,?_⟩;refine stI [some (V.ref AA.a)] ?_;left;exact ⟨AA.a,_,_,.ref AA.t,rfl,hx,(sf _).trans rfl,AA.t,_,_,rfl,ht,(sg _).trans rfl,AA,L,M,i,rfl,q⟩
section
variable {CH CS CT:Addr} {H:Hp} {A:Ad} {L:List Ta} {M:Hs}
def aR.vt (i:aR CH CS CT H A L M) {k:Nat} {a:Ta} (ha:L[k]?=some a):∀ b∈A.w,∀ c∈a.l,b≠c:=fun b hb c hc=>by
 have nd:=i.nd;rw [GT] at nd;exact nd.2.2 b hb c (kj ha hc)
def aR.aT (i:aR CH CS CT H A L M):A.a≠A.t:=by
 have nd:=i.nd;rw [GT] at nd;have:=(Ix.mp nd.1).1;exact fun e=>this (by rw [e]; simp)
def GO:∀ {L:List Ta} {k:Nat} {a:Ta},(L.flatMap Ta.l).Nodup->L[k]?=some a->a.l.Nodup
 | c::r,0,a,nd,h=>by
  rw [Uf,GT] at nd;simp only [List.getElem?_cons_zero,Option.some.injEq] at h;subst h; exact nd.1
 | c::r,k+1,a,nd,h=>by
  rw [Uf,GT] at nd;simp only [List.getElem?_cons_succ] at h;exact GO nd.2.1 h
def aR.own (i:aR CH CS CT H A L M) {k:Nat} {a:Ta} (ha:L[k]?=some a):a.th≠a.nm/\a.th≠a.pl/\a.nm≠a.pl:=by
 have nd:=i.nd;rw [GT] at nd;have:=GO nd.2.1 ha;simp only [Ta.l,Ix,ss,u8,EQ,ZP,_k,_h,and_true] at this;exact ⟨this.1.1,this.1.2,this.2⟩
end
def XG (CH CS CT:Addr):Sp:=uJ fun x n z H Q _=>X6 fun A L M (k:Nat) a t=>A7 (aR CH CS CT H A L M) (A.t=x) (n=(k:Int)) (L[k]?=some a) (M.ts[k]?=some t) (aI (sD t.aw) (.inr z)=none) (Q .aq H)
def XQ:T.qC.k P w mg base 4 (XG T.aK T.aQ T.aY):=by
 refine T.qC.F.ok F4 (fun _ _ _ _ h=>pe h fun _ _ _ _=>rfl) fun ax A outer s H vs Q E hr h=>pe h fun x n z h=>?_;obtain ⟨AA,L,M,k,a,t,i,rfl,rfl,ha,aP,hv,q⟩:=h;obtain ⟨gs,c2,ht,du,sg⟩:=i.t;refine ⟨_,((ad (aS 3 F4.nd (bg T.cb T.lI.h (IT T) hr.m T.lI.b .nil aA (ac 0) (aa (ac 1) (aa (ac 2) ae))))
 (ao (bb (bc xc (ac 3) aq) (ad iw
 (ad iw
 (ao iw))) ce)))).h,?_⟩
 refine stI [some (V.ref AA.t),some (V.int (k:Int)),some (V.str z),none] ?_;right;refine (mI ht sg ⟨AA,L,M,k,a,t,i,rfl,rfl,ha,aP,?_⟩);rw [hv];refine ⟨by trivial,?_⟩;exact bA q
def Wk (CH CS CT:Addr):Sp:=EW fun x fn z kn H Q _=>X9 fun A L M (f:Nat) (k:Nat) af tf ak tk=>AK (aR CH CS CT H A L M) (A.t=x) (fn=(f:Int)) (kn=(k:Int)) (L[f]?=some af) (M.ts[f]?=some tf) (L[k]?=some ak) (M.ts[k]?=some tk) (f≠k) (aI (sD tf.aw) (.inr z)=none) (tf.aw.length<=500) (tk.bf=[]) (∀ H',aR CH CS CT H' A L { M with ts:=(M.ts.set f { tf with aw:=tf.aw++[(z,k)] }).set k { tk with bf:=[(f,z)] } }->Kp [A.t,af.nm,ak.pl] H H'->Q .aq H')
def xh {l:List (Str×Nat)} {z:Str} {k:Nat} (h:aI (sD l) (.inr z)=none):putK (sD l) (.inr z) (.int (k:Int))=sD (l++[(z,k)]):=by
 have e:((sD l).any fun kv=>decide (kv.1=(Sum.inr z:Key)))=false:=by rw [um,h]; rfl
 unfold putK;rw [e];simp [sD]
def R3:T.qB.k P w mg base 5 (Wk T.aK T.aQ T.aY):=by
 refine T.qB.F.ok ug (fun _ _ _ _ h=>ED h fun _ _ _ _ _=>rfl) fun ax A outer s H vs Q E hr h=>ED h fun x fn z kn h=>?_;obtain ⟨AA,L,M,f,k,af,tf,ak,tk,i,rfl,rfl,rfl,g9,bQ,hU,eC,hfk,hv,jU,bw,q⟩:=h;obtain ⟨fs,c,hx,aU,sf⟩:=i.h;obtain ⟨gs,c2,ht,du,sg⟩:=i.t;have LI:=ej i hU eC;obtain ⟨ks,ho,gC,so⟩:=LI.o;refine ⟨_,((ad (aS 4 ug.nd (dS T.cb T.cK.h (gQ T) hr.m T.cK.b .nil fG (ac 0) (aa (ac 3) ae)))
 (ad (kq T.cb T.xA ki (ac 0) am)
 (ad (aX (bg T.cb T.qC.h (XQ T) hr.m T.qC.b .nil aA (ac 0) (aa (ac 1) (aa (ac 2) ae))))
 (ad (bb (bc eX (bn T.cW T.A0 (ac 4)) (dl (.str "file") T.y4 ⟨_,rfl⟩)) (ao (qG P3 rfl (rS (K:=K) rfl (BG (Pa rfl) T.mf uf (aa (bn T.cW T.rE (ac 4)) ae))) (y9 (K:=K) (n:=2) rfl rfl (gn (cU 5 ug.nd) (gn (cU 6 ug.nd) u0))) (ao iw))) ce)
 (ad (ng (eD hr) (bn T.cW T.vT (dS T.cb T.cK.h (gQ T) hr.m T.cK.b .nil fG (ac 0) (aa (ac 1) ae))) (ac 2) (ac 3))
 (ao (ng (eD hr) (bn T.cW T.rE (ac 4)) (gl (aa (ac 1) (aa (ac 2) ae))) em)))))))).h,?_⟩
 refine stI [some (V.ref AA.t),some (V.int (f:Int)),some (V.str z),some (V.int (k:Int)),none,none,none] ?_;right;refine (mI ht sg (iy i hU eC ?_));right;refine ⟨AA.t,_,_,.int c2,rfl,ht,(sg _).trans rfl,_,_,rfl,rfl,_,_,ht,by omega,ai ?_⟩;have tn:∀ b∈ak.l,AA.t≠b:=i.vt hU _ (by simp [Ad.w]);have i1:aR T.aK T.aQ T.aY (upd H AA.t (.ins T.aQ AA.dt (ay "changes" (.int (c2+1)) gs))) AA L M:=by
  have w:=i.write (H':=upd H AA.t (.ins T.aQ AA.dt (ay "changes" (.int (c2+1)) gs))) (t':=tk) hU ⟨fs,c,by rw [ah i.aT]; exact hx,aU,sf⟩ ⟨_,c2+1,au,by rw [jg (u:=.int c2) ((sg _).trans rfl)]; exact du,fun f=>by rw [(sg.put "changes" (.int (c2+1))) f]; rfl⟩
   (LI.keep (W:=[AA.t]) (fun b o hb e=>by rw [ah (fun z=>hb (by simp [z]))]; exact e) fun b hb=>by simp [sw (tn b hb)]) (fun b o hb e=>by simp only [ss,u8,EQ,ZP] at hb; rw [ah hb.2.1]; exact e)
  have e:M.ts.set k tk=M.ts:=by
   apply List.ext_getElem?;intro j;by_cases hj:k=j
   ·subst hj; rw [IN (lv.mp eC).1,eC]
   ·rw [IO hj]
  rw [e] at w;exact w
 have hJ:Kp [AA.t] H (upd H AA.t (.ins T.aQ AA.dt (ay "changes" (.int (c2+1)) gs))):=fun b o hb e=>by rw [ah (fun z=>hb (by simp [z]))]; exact e
 generalize upd H AA.t (.ins T.aQ AA.dt (ay "changes" (.int (c2+1)) gs))=H1 at i1 hJ ⊢;obtain ⟨gs1,c3,fV,KS,DT⟩:=i1.t;have KD:=ej i1 hU eC;have ithf1:=ej i1 g9 bQ;obtain ⟨ks1,Km,hol1,LA⟩:=KD.o;obtain ⟨g8,hf1,iH,dg⟩:=ithf1.o;left;refine (mI fV DT ⟨AA,L,M,f,af,tf,i1,rfl,rfl,g9,bQ,hv,?_⟩);refine gj (fun σ' H'=>ag H1 H'/\∃ t5 t6,σ'=[some (V.ref AA.t),some (V.int (f:Int)),some (V.str z),some (V.int (k:Int)),some (.ref ak.th),t5,t6]) ?_ ?_
 ·left;refine (fI Km LA rfl ?_);refine e8 (fun _=>?_) (fun _=>⟨ag.refl _,_,_,rfl⟩);refine (fI Km LA rfl ?_);have Du:H1 ak.pl=some (.dT []):=by have:=KD.pl; rw [bw] at this; exact this
  refine ⟨ak.pl,_,rfl,Du,?_⟩;intro l ks hk _ hl;have tK:ks=[]:=ST.mp hk;subst tK;refine ⟨⟨_,aE.of au⟩,D8 (xs:=[]) (fun _ σ' H'=>H'=upd H1 l (.lst [])/\σ'=[some (V.ref AA.t),some (V.int (f:Int)),some (V.str z),some (V.int (k:Int)),some (.ref ak.th),none,none]) ⟨rfl,rfl⟩ (fun _ σ' H' _ h=>by rw [h.1]; exact aE.of au) (fun j x σ' H' hx _=>by simp at hx) (fun σ' H' h=>?_)⟩;obtain ⟨rfl,rfl⟩:=h;exact ⟨ag.upd hl,_,_,rfl⟩
 ·rintro σ' H2 ⟨s2,t5,t6,rfl⟩;have i2:=i1.same s2;obtain ⟨gs2,c4,iG,hgl2,KO⟩:=i2.t;obtain ⟨mP,d2,cf,hxl2,sx2⟩:=i2.h;have C1:=ej i2 g9 bQ;obtain ⟨jr,KR,iK,ck⟩:=C1.o;have Mb:=i2.own g9;have KP:=i2.own hU;have KZ:=i2.vt g9;have Mm:=i2.vt hU;right;refine (mI iG KO (iy i2 g9 bQ ⟨af.th,_,_,.ref af.nm,rfl,KR,(ck _).trans rfl,af.nm,_,rfl,gP.k (k:=.inr z) C1.nm (gR (by unfold sD; rw [mo]; omega)),?_⟩));rw [xh hv];have i3:aR T.aK T.aQ T.aY (upd H2 af.nm (.dK (sD (tf.aw++[(z,k)])))) AA L { M with ts:=M.ts.set f { tf with aw:=tf.aw++[(z,k)] } }:=by
   refine i2.write g9 ⟨mP,d2,by rw [ah (KZ _ (by simp [Ad.w]) _ (by simp [Ta.l]))]; exact cf,hxl2,sx2⟩ ⟨gs2,c4,by rw [ah (KZ _ (by simp [Ad.w]) _ (by simp [Ta.l]))]; exact iG,hgl2,KO⟩ ⟨⟨jr,by rw [ah Mb.1]; exact KR,iK,ck⟩,au,by rw [ah (sw Mb.2.2)]; exact C1.pl⟩ (fun b o hb e=>?_);simp only [ss,u8,EQ,ZP] at hb;rw [ah hb.2.2.2.1]; exact e
  have Lq:Kp [AA.t,af.nm] H (upd H2 af.nm (.dK (sD (tf.aw++[(z,k)])))):=fun b o hb e=>by
   simp only [ss,u8,EQ,ZP] at hb;rw [ah hb.2];exact s2 _ _ (hJ b o (by simp [hb.1]) e)
  generalize upd H2 af.nm (.dK (sD (tf.aw++[(z,k)])))=H3 at i3 Lq ⊢;have Ly:(M.ts.set f { tf with aw:=tf.aw++[(z,k)] })[k]?=some tk:=by rw [IO hfk]; exact eC
  have ithk3:=ej i3 hU Ly;obtain ⟨ks3,ho3,hol3,so3⟩:=ithk3.o;left;refine ⟨ak.th,_,_,.ref ak.pl,rfl,ho3,(so3 _).trans rfl,fits (by simp),fun p hp=>?_⟩;refine fM (o:=.tup [V.int (f:Int),V.str z]) hp fun H4 s4 b4=>?_;have i4:=i3.same s4;have Ce:=ej i4 hU Ly;obtain ⟨ks4,ho4,hol4,so4⟩:=Ce.o;obtain ⟨gs4,c5,ht4,hgl4,sg4⟩:=i4.t;obtain ⟨hs4,d4,iQ,hxl4,sx4⟩:=i4.h;have hpl4:H4 ak.pl=some (.dT []):=by have:=Ce.pl; rw [bw] at this; exact this
  refine ⟨ak.pl,_,rfl,gP.t (k:=[.inl (f:Int),.inr z]) hpl4 b4 (by decide),?_⟩;refine q _ (i4.write hU ⟨hs4,d4,by rw [ah (Mm _ (by simp [Ad.w]) _ (by simp [Ta.l]))]; exact iQ,hxl4,sx4⟩ ⟨gs4,c5,by rw [ah (Mm _ (by simp [Ad.w]) _ (by simp [Ta.l]))]; exact ht4,hgl4,sg4⟩ ⟨⟨ks4,by rw [ah KP.2.1]; exact ho4,hol4,so4⟩,by rw [ah KP.2.2]; exact Ce.nm,au⟩ (fun b o hb e=>?_)) (fun b o hb e=>?_)
  ·simp only [ss,u8,EQ,ZP] at hb;rw [ah hb.2.2.2.2]; exact e
  ·simp only [ss,u8,EQ,ZP] at hb;rw [ah hb.2.2];exact s4 _ _ (Lq b o (by simp [hb.1,hb.2.1]) e)
def IU (CH:Addr) (fld:Str):Sp:=lz fun x z n H Q _=>X5 fun dx fs c d kvs=>A7 (H x=some (.ins CH dx fs)) (fs.length<=40) (fs.lookup ("changes" : Str)=some (.int c)) (fs.lookup fld=some (.ref d)) (H d=some (.dK kvs)) (kvs.length<=40) (Q .aq (upd (upd H x (.ins CH dx (ay "changes" (.int (c+1)) fs))) d (.dK (putK kvs (.inr z) (.int n)))))
def Pd (CH:Addr):Sp:=i5 fun x z H Q _=>X7 fun dx fs c ro st kr ks=>JM (H x=some (.ins CH dx fs)) (fs.length<=40) (fs.lookup ("changes" : Str)=some (.int c)) (fs.lookup ("roots" : Str)=some (.ref ro)) (fs.lookup ("standings" : Str)=some (.ref st)) (fs.lookup ("first_root" : Str)=some (.int 0)) (fs.lookup ("put_root" : Str)=none) (fs.lookup ("put_standing" : Str)=none) (H ro=some (.dK kr)) (kr.length<=40) (H st=some (.dK ks)) (ks.length<=40) (ro≠st) (∀ fs' c' H',H' x=some (.ins CH dx fs')->fs'.length<=40->cZ fs' (ay "changes" (.int c') fs)->H' ro=some (.dK (putK kr (.inr z) (.int 0)))->H' st=some (.dK (putK ks (.inr z) (.int 0)))->(∀ b,b≠x->b≠ro->b≠st->H' b=H b)->Q .aq H')
def SO:T.qz.k P w mg base 1 (IU T.aK "roots"):=by
 refine T.qz.F.ok Oz (fun _ _ _ _ h=>fJ h fun _ _ _ _=>rfl) fun ax A outer s H vs Q E hr h=>fJ h fun x z n h=>?_;obtain ⟨dx,fs,c,d,kvs,hx,aU,hc,hd,hD,gB,q⟩:=h;refine ⟨_,((ad (kq T.aN T.uc ki (ac 0) am)
 (ao (ng (eD hr) (bn T.aN T.pZ (ac 0)) (ac 1) (ac 2))))).h,?_⟩
 refine stI [some (V.ref x),some (V.str z),some (V.int n)] ?_;have df:d≠x:=fun e=>by rw [e,hx] at hD; cases hD
 right;refine ⟨x,dx,fs,.int c,rfl,hx,hc,_,_,rfl,rfl,dx,fs,hx,by omega,?_⟩;left;refine ⟨x,dx,_,.ref d,rfl,au,by rw [ee,Ch (by decide)]; exact hd,d,_,rfl,gP.k (k:=.inr z) (by rw [ah df]; exact hD) (gR (by omega)),q⟩
def VR:T.se.k P w mg base 1 (IU T.aK "standings"):=by
 refine T.se.F.ok O2 (fun _ _ _ _ h=>fJ h fun _ _ _ _=>rfl) fun ax A outer s H vs Q E hr h=>fJ h fun x z n h=>?_;obtain ⟨dx,fs,c,d,kvs,hx,aU,hc,hd,hD,gB,q⟩:=h;refine ⟨_,((ad (kq T.aN T.uc ki (ac 0) am)
 (ao (ng (eD hr) (bn T.aN T.Az (ac 0)) (ac 1) (ac 2))))).h,?_⟩
 refine stI [some (V.ref x),some (V.str z),some (V.int n)] ?_;have df:d≠x:=fun e=>by rw [e,hx] at hD; cases hD
 right;refine ⟨x,dx,fs,.int c,rfl,hx,hc,_,_,rfl,rfl,dx,fs,hx,by omega,?_⟩;left;refine ⟨x,dx,_,.ref d,rfl,au,by rw [ee,Ch (by decide)]; exact hd,d,_,rfl,gP.k (k:=.inr z) (by rw [ah df]; exact hD) (gR (by omega)),q⟩
def ET:T.lD.k P w mg base 2 (Pd T.aK):=by
 refine T.lD.F.ok R1 (fun _ _ _ _ h=>eF h fun _ _ _=>rfl) fun ax A outer s H vs Q E hr h=>eF h fun x z h=>?_;obtain ⟨dx,fs,c,ro,st,kr,ks,hx,aU,hc,kT,aO,eO,DU,cE,DG,hkr,Cg,tK,LU,q⟩:=h;refine ⟨_,((ad (aX (bg T.aN T.qz.h (SO T) hr.m T.qz.b .nil aA (ac 0) (aa (ac 1) (aa (bn T.aN T.xi (ac 0)) ae))))
 (ao (aX (bg T.aN T.se.h (VR T) hr.m T.se.b .nil aA (ac 0) (aa (ac 1) (aa (bn T.aN T.xi (ac 0)) ae))))))).h,?_⟩
 refine stI [some (V.ref x),some (V.str z)] ?_;have n1:ro≠x:=fun e=>by rw [e,hx] at DG; cases DG
 have n2:st≠x:=fun e=>by rw [e,hx] at Cg; cases Cg
 right;refine ⟨x,dx,fs,rfl,hx,DU,x,dx,fs,.int 0,rfl,hx,eO,?_⟩;refine ⟨dx,fs,c,ro,kr,hx,by omega,hc,kT,DG,hkr,?_⟩;have bB:upd (upd H x (.ins T.aK dx (ay "changes" (.int (c+1)) fs))) ro (.dK (putK kr (.inr z) (.int 0))) x=some (.ins T.aK dx (ay "changes" (.int (c+1)) fs)):=by rw [ah (sw n1),au]
 have gu:upd (upd H x (.ins T.aK dx (ay "changes" (.int (c+1)) fs))) ro (.dK (putK kr (.inr z) (.int 0))) ro=some (.dK (putK kr (.inr z) (.int 0))):=au;have LF:upd (upd H x (.ins T.aK dx (ay "changes" (.int (c+1)) fs))) ro (.dK (putK kr (.inr z) (.int 0))) st=some (.dK ks):=by rw [ah (sw LU),ah n2]; exact Cg
 have mJ:∀ b,b≠x->b≠ro->upd (upd H x (.ins T.aK dx (ay "changes" (.int (c+1)) fs))) ro (.dK (putK kr (.inr z) (.int 0))) b=H b:=fun b b1 b2=>by rw [ah b2,ah b1]
 generalize upd (upd H x (.ins T.aK dx (ay "changes" (.int (c+1)) fs))) ro (.dK (putK kr (.inr z) (.int 0)))=H1 at bB gu LF mJ ⊢;have lk:∀ f:Str,f ≠ "changes" -> (ay "changes" (.int (c+1)) fs).lookup f=fs.lookup f:=fun f hf=>by rw [ee,Ch hf]
 left;refine ⟨x,dx,_,rfl,bB,(lk _ (by decide)).trans cE,x,dx,_,.int 0,rfl,bB,(lk _ (by decide)).trans eO,?_⟩;refine ⟨dx,_,c+1,st,ks,bB,by rw [jg hc]; exact aU,by rw [ee,Db rfl],(lk _ (by decide)).trans aO,LF,tK,?_⟩;refine q _ (c+1+1) _ (by rw [ah (sw n2),au]) (by rw [jg (u:=.int (c+1)) (by rw [ee,Db rfl]),jg hc]; exact aU) (fun f=>?_) (by rw [ah LU,ah n1]; exact gu) au (fun b b1 b2 b3=>by rw [ah b3,ah b1]; exact mJ b b1 b2);rw [ee,ee,ee];by_cases e:f = "changes"
 ·rw [Db e,Db e]
 ·rw [Ch e,Ch e,Ch e]
def Wi (CH CS CT:Addr):Sp:=uq fun x m own H Q _=>A2 (m = "main") (X7 fun dx fs c t dt ml tr=>A9 (H x=some (.ins CH dx fs)) (fs.length<=40) (fs.lookup ("things" : Str)=some (.ref t)) (fs.lookup ("changes" : Str)=some (.int c)) (fs.lookup ("tree_roots" : Str)=some (.ref tr)) (fs.lookup ("add_folder" : Str)=none) (jy CS H t dt ml []) (H tr=some (.dK [])) (∀ th di nm pl fs' ks c' H',H th=none->H nm=none->H pl=none->H' x=some (.ins CH dx fs')->fs'.length<=fs.length->cZ fs' (ay "changes" (.int c') fs)->jy CS H' t dt ml [.ref th]->H' th=some (.ins CT di ks)->ks.length<=40 ->
    cZ ks (qY (.int 0) (.str "folder") (.str own) (.str "lgw") (.str "lg") (.str "") (.ref nm) (.ref pl))->H' nm=some (.dK [])->H' pl=some (.dT [])->H' tr=some (.dK [(.inr "main",.int 0)])->Kp [x,t,ml,tr] H H'->Q (.int 0) H'))
def Te:T.rZ.k P w mg base 5 (Wi T.aK T.aQ T.aY):=by
 refine T.rZ.F.ok Hz (fun _ _ _ _ h=>nu h fun _ _ _ _=>rfl) fun ax A outer s H vs Q E hr h=>nu h fun x m own h=>?_;obtain ⟨rfl,dx,fs,c,t,dt,ml,tr,hx,aU,aP,hc,kP,g9,Cd,ju,q⟩:=h;obtain ⟨gs,d,ht,du,sg⟩:=Cd.o;have hZ:=Cd.ml;refine ⟨_,((ad (aS 3 Hz.nd (bg T.cb T.lq.h (FC T) hr.m T.lq.b .nil aA (bn T.aN T.eM (ac 0)) (aa (ac 2) (aa bi (aa bi ae)))))
 (ad (kq T.aN T.uc ki (ac 0) am)
 (ad (ng (eD hr) (bn T.aN T.JL (ac 0)) (ac 1) (ac 3))
 (ao (aL (ac 3))))))).h,?_⟩
 refine stI [some (V.ref x),some (V.str "main"),some (V.str own),none] ?_;have n1:t≠x\/True:=.inr trivial;right;refine ⟨x,dx,fs,.ref t,rfl,hx,aP,t,dt,gs,rfl,ht,(sg _).trans rfl,?_⟩;refine ⟨dt,ml,[],Cd,by simp,?_⟩;intro th di nm pl ks H1 fth fnm fpl at1 hth1 hkl1 sk1 hnm1 Du hJ;obtain ⟨gs',d',fV,KS,DT⟩:=at1.o;have jZ:=at1.ml;have sW:x≠t:=fun e=>by
  rw [e,ht] at hx;injection hx with hx;injection hx with _ _ j4;rw [<- j4] at aP;have:=(sg "things").symm.trans aP;cases this
 have Lp:x≠ml:=fun e=>by rw [e,hZ] at hx; cases hx
 have L8:tr≠t:=fun e=>by rw [e,ht] at ju; cases ju
 have J4:tr≠ml:=fun e=>by rw [e,hZ] at ju; cases ju
 have KY:tr≠x:=fun e=>by rw [e,hx] at ju; cases ju
 have bB:H1 x=some (.ins T.aK dx fs):=hJ _ _ (by simp [sW,Lp]) hx;have hTr1:H1 tr=some (.dK []):=hJ _ _ (by simp [L8,J4]) ju;right;refine ⟨x,dx,fs,.int c,rfl,bB,hc,_,_,rfl,rfl,dx,fs,bB,by omega,ai ?_⟩;left;refine ⟨x,dx,_,.ref tr,rfl,au,by rw [ee,Ch (by decide)]; exact kP,tr,_,rfl,gP.k (k:=.inr "main") (by rw [ah KY]; exact hTr1) (by decide),?_⟩;left;have old:∀ b o,H1 b=some o->b≠x->b≠tr->upd (upd H1 x (.ins T.aK dx (ay "changes" (.int (c+1)) fs))) tr (.dK (putK [] (.inr "main") (.int 0))) b=some o:=fun b o e b1 b2=>by rw [ah b2,ah b1]; exact e
 have LO:th≠x/\th≠tr:=⟨sw (aH hx fth),sw (aH ju fth)⟩;have Kk:nm≠x/\nm≠tr:=⟨sw (aH hx fnm),sw (aH ju fnm)⟩;have Kq:pl≠x/\pl≠tr:=⟨sw (aH hx fpl),sw (aH ju fpl)⟩;refine q th di nm pl _ ks (c+1) _ fth fnm fpl (by rw [ah (sw KY),au]) (Nat.le_of_eq (jg hc)) (cZ.refl _) ⟨⟨gs',d',old _ _ fV (sw sW) (sw L8),KS,DT⟩,old _ _ jZ (sw Lp) (sw J4)⟩ (old _ _ hth1 LO.1 LO.2) hkl1 sk1 (old _ _ hnm1 Kk.1 Kk.2) (old _ _ Du Kq.1 Kq.2) au ?_;intro b o hb e;simp only [ss,u8,EQ,ZP] at hb;exact old _ _ (hJ b o (by simp [hb.2.1,hb.2.2.1]) e) hb.1 hb.2.2.2
def og:aC P w K mg base (cI P w) 1 T.fA.f T.fA.d ["self","asker"] (HW T.aK T.aQ T.aY T.pC):=by
 refine T.fA.F.eK NF (fun _ _ _ _ h=>uU h fun _ _ _=>rfl) fun ax A outer s H vs Q E hr h=>uU h fun x v h=>?_;obtain ⟨AA,L,M,i,rfl,⟨ty,cF⟩,q1,q2⟩:=h;obtain ⟨fs,c,hx,aU,sf⟩:=i.h;refine ⟨_,((ao (bb (eB (dL (dN (cX (cj ij T.gX gO (aa (ac 1) (aa (il (.ty "str") T.ox nJ rfl) ae))))) (gg (Bq (eD hr) (ac 1) (bn T.aN T.pZ (ac 0)))))) (ao (xu xw rfl T.MQ T.PN (aa bi ae))) ce))).h,?_⟩;refine stI [some (V.ref AA.a),some v] ?_;left;simp only [cF,wZ cF];refine ⟨uV _ rfl,?_⟩;cases v with
 | str z =>
  simp only [vi,_p,On,ZB];refine ⟨AA.a,_,_,.ref AA.ro,rfl,hx,(sf _).trans rfl,AA.ro,_,rfl,dO.k (k:=.inr z) i.ro,?_⟩;cases hz:aI (sD M.ro) (.inr z) with
  | none=>exact bS ⟨fits (by simp),q2 fun z' e=>by cases e; exact hz⟩
  | some u=>exact bA (q1 z rfl (by rw [hz]; rfl))
 | _=>exact ⟨fits (by simp),q2 fun z' e=>by cases e⟩
section
variable {T:Tx K mg} {H:Hp} {A:Ad} {L:List Ta} {M:Hs}
def qd {z:Str} {Q:VK} {E:XK} (i:aR T.aK T.aQ T.aY H A L M) (hz:(aI (sD M.ro) (.inr z)).isSome=true) (q:Q .aq H):HW T.aK T.aQ T.aY T.pC [.ref A.a,.str z] H Q E :=
 ⟨A,L,M,i,rfl,⟨_,rfl⟩,fun _ _ _=>q,fun h=>by rw [h z rfl] at hz; cases hz⟩
end
def xC:T.jw.k P w mg base 2 (N9 T.aK T.aQ T.aY):=by
 refine T.jw.F.ok Rz (fun _ _ _ _ h=>eF h fun _ _ _=>rfl) fun ax A outer s H vs Q E hr h=>eF h fun x z h=>?_;obtain ⟨AA,L,M,r,i,rfl,hz,q⟩:=h;obtain ⟨fs,c,hx,aU,sf⟩:=i.h;refine ⟨_,((ad (aX (dS T.aN T.fA.h (og T) hr.m T.fA.b .nil fG (ac 0) (aa (ac 1) ae)))
 (ao (aL (rT (eD hr) (bn T.aN T.pZ (ac 0)) (ac 1)))))).h,?_⟩
 refine stI [some (V.ref AA.a),some (V.str z)] ?_;right;refine (mI hx sf (qd i (by rw [hz]; rfl) ?_));refine ⟨AA.a,_,_,.ref AA.ro,rfl,hx,(sf _).trans rfl,AA.ro,.int r,rfl,?_,q⟩;have:=dO.k (k:=.inr z) i.ro;rw [hz] at this;exact this
def NW (CH CS CT:Addr):Sp:=i5 fun x z H Q _=>X4 fun A L M (r:Nat)=>A5 (aR CH CS CT H A L M) (A.a=x) ((aI (sD M.ro) (.inr z)).isSome=true) (aI (sD M.st) (.inr z)=some (.int r)) (Q (.int r) H)
def V6:T.rn.k P w mg base 2 (NW T.aK T.aQ T.aY):=by
 refine T.rn.F.ok Xl (fun _ _ _ _ h=>eF h fun _ _ _=>rfl) fun ax A outer s H vs Q E hr h=>eF h fun x z h=>?_;obtain ⟨AA,L,M,r,i,rfl,hzr,hz,q⟩:=h;obtain ⟨fs,c,hx,aU,sf⟩:=i.h;refine ⟨_,((ad (aX (dS T.aN T.fA.h (og T) hr.m T.fA.b .nil fG (ac 0) (aa (ac 1) ae)))
 (ao (aL (rT (eD hr) (bn T.aN T.Az (ac 0)) (ac 1)))))).h,?_⟩
 refine stI [some (V.ref AA.a),some (V.str z)] ?_;right;refine (mI hx sf (qd i hzr ?_));refine ⟨AA.a,_,_,.ref AA.st,rfl,hx,(sf _).trans rfl,AA.st,.int r,rfl,?_,q⟩;have:=dO.k (k:=.inr z) i.st;rw [hz] at this;exact this
def sI:T.gm.k P w mg base 4 (JR T.aK T.aQ T.aY):=by
 refine T.gm.F.ok UX (fun _ _ _ _ h=>pe h fun _ _ _ _=>rfl) fun ax A outer s H vs Q E hr h=>pe h fun x n z h=>?_;obtain ⟨AA,L,M,k,a,t,i,rfl,rfl,ha,aP,hn,hl,q⟩:=h;refine ⟨_,((ad (aX (bv (xI T) hr.m T.gN.m T.gN.F.kp T.gN.b .nil aA (aa (ac 2) ae)))
 (ao (aL (bg T.cb T.lI.h (IT T) hr.m T.lI.b .nil aA (bn T.aN T.eM (ac 0)) (aa (ac 1) (aa (ac 2) ae))))))).h,?_⟩
 refine stI [some (V.ref AA.a),some (V.int (k:Int)),some (V.str z)] ?_;right;refine ⟨⟨_,rfl⟩,hl,hn,fun H1 s1=>?_⟩;have i1:=i.same s1;obtain ⟨fs,c,hx,aU,sf⟩:=i1.h;obtain ⟨gs,c2,ht,du,sg⟩:=i1.t;exact ⟨AA.a,_,_,.ref AA.t,rfl,hx,(sf _).trans rfl,AA.t,_,_,rfl,ht,(sg _).trans rfl,AA,L,M,k,a,t,i1,rfl,rfl,ha,aP,q H1 s1⟩
def JC:aC P w K mg base (cI P w) 3 T.mh.f T.mh.d ["self","asker","number","right"] (E6 T.aK T.aQ T.aY T.pC T.tw T.pj):=by
 refine T.mh.F.eK Nl (fun _ _ _ _ h=>vw h fun _ _ _ _ _=>rfl) fun ax A outer s H vs Q E hr h=>vw h fun x wv v r h=>?_;obtain ⟨AA,L,M,i,rfl,hcw,hcv,hcr,q1,q2⟩:=h;obtain ⟨fs,c,hx,aU,sf⟩:=i.h;obtain ⟨gs,c2,ht,du,sg⟩:=i.t;refine ⟨_,((ad (aX (dS T.aN T.fA.h (og T) hr.m T.fA.b .nil cY (ac 0) (aa (ac 1) ae)))
 (ad (aX (eG (Ti T) hr.m T.oC.m T.oC.F.kp T.oC.b .nil cY (aa (ac 3) ae)))
 (ao (aL (f8 (uP (K:=K) rfl) (ac 3) (bg T.cW T.sE.h (S0 T) hr.m T.sE.b .nil aA (dS T.cb T.cK.h (gQ T) hr.m T.cK.b .nil cY (bn T.aN T.eM (ac 0)) (aa (ac 2) ae)) (aa (ac 1) ae)))))))).h,?_⟩
 refine stI [some (V.ref AA.a),some wv,some v,some r] ?_;right;refine (mI hx sf ⟨AA,L,M,i,rfl,hcw,fun z ez hz=>?_,q1⟩);obtain ⟨q3,q4⟩:=q2 z ez hz;subst ez;right;refine ⟨hcr,fun h1=>?_,q3⟩;obtain ⟨st,rfl⟩:∃ st,r=.str st:=by
  unfold jh at h1;simp only [Bool.or_eq_true,Zu] at h1;rcases h1 with (h1 | h1) | h1 <;> exact ⟨_,h1⟩
 obtain ⟨q5,q6⟩:=q4 st rfl h1;refine ⟨AA.a,_,_,.ref AA.t,rfl,hx,(sf _).trans rfl,AA.t,_,_,rfl,ht,(sg _).trans rfl,AA,L,M,i,rfl,hcv,fun k a t ev ha aP=>?_,q5⟩;have cw:=ej i ha aP;obtain ⟨ks,ho,gC,so⟩:=cw.o;exact (mI ho so ⟨a,k,t,cw,rfl,q6 k t ev aP⟩)
def M0 (z:Str):Hs:={ ts:=[{ kd := "folder",ow:=z,mi := "lgw",re := "lg",tx := "",aw:=[],bf:=[] }],ro:=[(z,0)],st:=[(z,0)],tr:=[("main",0)],ov:=[],un:=[] }
def N5 (CH CS CT:Addr):Sp:=i5 fun x z H Q _=>A4 (∃ dx,H x=some (.ins CH dx [])) (z.length<=1000) (eg (.str z)=true) (∀ A L H',A.a=x->aR CH CS CT H' A L (M0 z)->(∀ b∈A.w++L.flatMap Ta.l,b≠x->H b=none)->Kp [x] H H'->Q .aq H')
structure ib (C dx x:Addr) (H H':Hp) (F:List (Str×V)) (W:List (Addr×HO)):Prop where
 k:Kp [x] H H'
 h:H' x=some (.ins C dx F)
 w:∀ e∈W,H' e.1=some e.2/\H e.1=none/\e.1≠x
 n:(W.map (·.1)).Nodup
section
variable {C dx x:Addr} {H H':Hp} {F:List (Str×V)} {W:List (Addr×HO)}
def ib.fresh (v:ib C dx x H H' F W) {p:Addr} (hp:H' p=none):H p=none/\p≠x:=by
 have hx:p≠x:=sw (aH v.h hp);refine ⟨?_,hx⟩;cases e:H p with
 | none=>rfl
 | some o=>rw [v.k p o (by simp [hx]) e] at hp; cases hp
def ib.set (v:ib C dx x H H' F W) (f:Str) (u:V):ib C dx x H (upd H' x (.ins C dx (ay f u F))) (ay f u F) W :=
 ⟨fun b o hb e=>by rw [ah (fun z=>hb (by simp [z]))]; exact v.k b o hb e,au,fun e he=>let ⟨a,b,c⟩:=v.w e he; ⟨by rw [ah c]; exact a,b,c⟩,v.n⟩
def ib.y (v:ib C dx x H H' F W) {p:Addr} {o:HO} (hp:H' p=none):upd H' p o x=some (.ins C dx F):=by rw [ah (aH v.h hp)]; exact v.h
def ib.new (v:ib C dx x H H' F W) {p:Addr} (o:HO) (f:Str) (hp:H' p=none):ib C dx x H (upd (upd H' p o) x (.ins C dx (ay f (.ref p) F))) (ay f (.ref p) F) ((p,o)::W):=by
 obtain ⟨f0,nx⟩:=v.fresh hp;have old:∀ b u,b≠x->H' b=some u->upd (upd H' p o) x (.ins C dx (ay f (.ref p) F)) b=some u:=fun b u hb e=>by rw [ah hb,ah (aH e hp)]; exact e
 refine ⟨fun b u hb e=>old b u (fun z=>hb (by simp [z])) (v.k b u hb e),au,fun e he=>?_,Ix.mpr ⟨fun hm=>?_,v.n⟩⟩
 ·rcases ss.mp he with rfl | he
  ·exact ⟨by rw [ah nx,au],f0,nx⟩
  ·obtain ⟨a,b,c⟩:=v.w e he;exact ⟨old _ _ c a,b,c⟩
 ·obtain ⟨e,he,z⟩:=Cl.mp hm;have:=(v.w e he).1;rw [show e.1=p from z,hp] at this;cases this
end
def Yn:T.qX.k P w mg base 6 (N5 T.aK T.aQ T.aY):=by
 refine T.qX.F.ok QF (fun _ _ _ _ h=>eF h fun _ _ _=>rfl) fun ax A outer s H vs Q E hr h=>eF h fun x z h=>?_;obtain ⟨⟨dx,hx0⟩,j5,hn,q⟩:=h;refine ⟨_,((ad (aX (bv (xI T) hr.m T.gN.m T.gN.F.kp T.gN.b .nil aA (aa (ac 1) ae)))
 (ad (bD T.aN T.eM (ac 0) (M7 T.MM (QM T) hr.m T.Vc T.rO.b .nil aA))
 (ad (bD T.aN T.uc (ac 0) am)
 (ad (bD T.aN T.pZ (ac 0) e9)
 (ad (bD T.aN T.Az (ac 0) e9)
 (ad (bD T.aN T.JL (ac 0) e9)
 (ad (bD T.aN T.z7 (ac 0) e9)
 (ad (bD T.aN T.xK (ac 0) e9)
 (ad (bD T.aN T.Qo (ac 0) e9)
 (ad (bD T.aN T.ME (ac 0) am)
 (ad (bD T.aN T.xi (ac 0) (bg T.aN T.rZ.h (Te T) hr.m T.rZ.b .nil aA (ac 0) (aa (dl (.str "main") T.NB ⟨_,rfl⟩) (aa (ac 1) ae))))
 (ao (aX (bg T.aN T.lD.h (ET T) hr.m T.lD.b .nil aA (ac 0) (aa (ac 1) ae)))))))))))))))).h,?_⟩
 refine stI [some (V.ref x),some (V.str z)] ?_;right;refine ⟨⟨_,rfl⟩,j5,hn,fun H1 s1=>?_⟩;have bB:=s1 _ _ hx0;right;intro t dt ht kX pL;refine ⟨dt,au,fun ml H2 hZ nml fr2 hml2 gs du sg iG=>⟨rfl,?_⟩⟩;have sW:x≠t:=aH bB ht;have nxd:x≠dt:=aH bB kX;have hml':H1 ml=none:=by
  rw [ah nml] at hZ;by_cases e:ml=dt
  ·rw [e,au] at hZ; cases hZ
  ·rw [ah e] at hZ; exact hZ
 have s2:ag H1 H2:=fun b o e=>by
  rw [fr2 b (aH e ht) (aH e hml'),ah (aH e ht),ah (aH e kX)]; exact e
 refine ⟨x,dx,_,rfl,s2 _ _ bB,by decide,ai ?_⟩;have V:ib T.aK dx x H (upd H2 x (.ins T.aK dx (ay "things" (.ref t) []))) (ay "things" (.ref t) []) [(t,.ins T.aQ dt gs),(ml,.lst [])]:=⟨fun b o hb e=>by rw [ah (fun z=>hb (by simp [z]))]; exact s2 _ _ (s1 _ _ e),au,fun e he=>?_,by simp [sw nml]⟩
 case refine_1 =>
  have fr:∀ {d},H1 d=none->H d=none:=fun {d} h=>by
   cases e:H d with
   | none=>rfl
   | some o=>rw [s1 _ _ e] at h; cases h
  simp only [ss,u8,EQ] at he;rcases he with rfl | rfl
  ·exact ⟨by rw [ah (sw sW)]; exact iG,fr ht,sw sW⟩
  ·exact ⟨by rw [ah (sw (aH bB hml'))]; exact hml2,fr hml',sw (aH bB hml')⟩
 clear fr2;generalize upd H2 x _=H3 at V ⊢;left;refine ⟨x,dx,_,rfl,V.h,by walk_at "f",ai ?_⟩
 replace V:=V.set "changes" (.int 0)
 generalize upd H3 x _=H4 at V ⊢;left;intro ro kT;refine ⟨x,dx,_,rfl,V.y kT,by walk_at "f",ai ?_⟩
 replace V:=V.new (.dK []) "roots" kT
 generalize upd (upd H4 ro _) x _=H5 at V ⊢;left;intro st aO;refine ⟨x,dx,_,rfl,V.y aO,by walk_at "f",ai ?_⟩
 replace V:=V.new (.dK []) "standings" aO
 generalize upd (upd H5 st _) x _=H6 at V ⊢;left;intro tr kP;refine ⟨x,dx,_,rfl,V.y kP,by walk_at "f",ai ?_⟩
 replace V:=V.new (.dK []) "tree_roots" kP
 generalize upd (upd H6 tr _) x _=H7 at V ⊢;left;intro ov hov;refine ⟨x,dx,_,rfl,V.y hov,by walk_at "f",ai ?_⟩
 replace V:=V.new (.dK []) "root_over" hov
 generalize upd (upd H7 ov _) x _=H8 at V ⊢;left;intro un hun;refine ⟨x,dx,_,rfl,V.y hun,by walk_at "f",ai ?_⟩
 replace V:=V.new (.dK []) "folder_under" hun
 generalize upd (upd H8 un _) x _=H9 at V ⊢;left;intro ho hho;refine ⟨x,dx,_,rfl,V.y hho,by walk_at "f",ai ?_⟩
 replace V:=V.new (.dK []) "holds" hho
 generalize upd (upd H9 ho _) x _=mM at V ⊢;left;refine ⟨x,dx,_,rfl,V.h,by walk_at "f",ai ?_⟩
 replace V:=V.set "holds_given" (.int 0)
 generalize upd mM x _=H11 at V ⊢;left;have kO:=V.h;have Dd:=V.k;have hw:=V.w;have hX:=V.n;simp only [List.forall_mem_cons] at hw;simp only [Fa,_g,Ix,ss,u8,EQ,ZP,_k,_h,and_true] at hX;obtain ⟨⟨gho11,fr_ho,nho⟩,⟨kM,fr_un,DQ⟩,⟨k8,fr_ov,DP⟩,⟨pA,Kz,Md⟩,⟨gE,L7,CU⟩,⟨gv,Lv,DC⟩,⟨fb,ft,n1⟩,⟨ff,L6,n2⟩,_⟩:=hw;obtain ⟨_,⟨unov,untr,unst,unro,_⟩,⟨ovtr,ovst,ovro,_⟩,⟨trst,trro,_⟩,⟨stro,_⟩,_⟩:=hX;have JY:=sw stro;have C7:=sw trro;have DH:=sw trst;have Kf:=sw ovro;have J7:=sw ovst;have JX:=sw ovtr;have Lj:=sw unro;have KH:=sw unst;have K9:=sw untr;have eovun:=sw unov;have fresh:∀ {d:Addr},d≠x->H11 d=none->H d=none:=fun {d} _ h=>(V.fresh h).1;refine ⟨x,dx,_,rfl,kO,rfl,?_⟩;refine ⟨rfl,dx,_,0,t,dt,ml,tr,kO,by (repeat (refine bT ?_)); exact At _,rfl,rfl,rfl,rfl,⟨⟨gs,0,fb,du,sg⟩,ff⟩,pA,?_⟩;intro th di nm pl fs' ks c' H12 fth fnm fpl hxA hflA Dg atA hthA hklA skA hnmA hplA htrA ua;obtain ⟨gs',d',htA,hglA,sgA⟩:=atA.o;have hmlA:=atA.ml;have lkA:=fun (f:Str) (hf:f ≠ "changes")=>(Dg f).trans ((ee _ _ _ _).trans (Ch hf));have qro:H12 ro=some (.dK []):=ua _ _ (by simp [DC,bO gv fb (by nofun),bO gv ff (by nofun),C7]) gv;have qst:H12 st=some (.dK []):=ua _ _ (by simp [CU,bO gE fb (by nofun),bO gE ff (by nofun),DH]) gE;have qun:H12 un=some (.dK []):=ua _ _ (by simp [DQ,bO kM fb (by nofun),bO kM ff (by nofun),sw K9]) kM;have qov:H12 ov=some (.dK []):=ua _ _ (by simp [DP,bO k8 fb (by nofun),bO k8 ff (by nofun),sw JX]) k8;have tF:=fun (f:Str) (h1:f ≠ "first_root") (h2:f ≠ "changes")=>((ee "first_root" f (.int 0) fs').trans (Ch h1)).trans (lkA f h2);refine ⟨x,dx,fs',rfl,hxA,Gc hflA (by walk_at "f"),?_⟩;refine ⟨x,dx,_,rfl,au,(tF _ (by decide) (by decide)).trans rfl,?_⟩;refine ⟨dx,_,c',ro,st,[],[],au,wE (bT (wE hflA (show _<=9 by (repeat (refine bT ?_)); exact At _))) (by decide),by rw [ee,Ch (by decide),Dg,ee,Db rfl],(tF _ (by decide) (by decide)).trans rfl,(tF _ (by decide) (by decide)).trans rfl,by rw [ee,Db rfl],(tF _ (by decide) (by decide)).trans rfl,(tF _ (by decide) (by decide)).trans rfl,by rw [ah DC]; exact qro,by decide,by rw [ah CU]; exact qst,by decide,JY,?_⟩;intro iS c3 H13 hx13 gz et hro3 hst3 wJ;have old:∀ b o,b≠x->b≠ro->b≠st->H12 b=some o->H13 b=some o:=fun b o b1 b2 b3 e=>by rw [wJ b b1 b2 b3,ah b1]; exact e
 refine q ⟨x,dx,t,dt,ml,ro,st,tr,ov,un,ho⟩ [⟨th,di,nm,pl⟩] H13 rfl ⟨⟨iS,c3,hx13,gz,fun f=>?_⟩,⟨gs',d',old _ _ (n1) (bO fb gv (by nofun)) (bO fb gE (by nofun)) htA,hglA,sgA⟩,old _ _ (n2) (bO ff gv (by nofun)) (bO ff gE (by nofun)) hmlA,rfl,fun j tt e=>?_,hro3,hst3,old _ _ (Md) (sw C7) (sw DH) htrA,old _ _ (DP) (sw Kf) (sw J7) qov,old _ _ (DQ) (sw Lj) (sw KH) qun,?_⟩ ?_ ?_
 ·rw [et f];refine ((Dg.put "first_root" (.int 0)).put "changes" (.int c3) f).trans rfl
 ·have hj:j=0:=by
   have:=(lv.mp e).1;have h1:(M0 z).ts.length=1:=rfl;omega
  subst hj;cases e;exact ⟨_,rfl,⟨⟨ks,old _ _ (sw (aH kO fth)) (sw (aH gv fth)) (sw (aH gE fth)) hthA,hklA,skA⟩,old _ _ (sw (aH kO fnm)) (sw (aH gv fnm)) (sw (aH gE fnm)) hnmA,old _ _ (sw (aH kO fpl)) (sw (aH gv fpl)) (sw (aH gE fpl)) hplA⟩⟩
 ·show List.Nodup [x,t,ml,ro,st,tr,ov,un,th,nm,pl];simp only [Ix,ss,u8,EQ,ZP,_k,_h,and_true];exact ⟨⟨sw n1,sw n2,sw DC,sw CU,sw Md,sw DP,sw DQ,aH kO fth,aH kO fnm,aH kO fpl⟩,⟨bO fb ff (by nofun),bO fb gv (by nofun),bO fb gE (by nofun),bO fb pA (by nofun),bO fb k8 (by nofun),bO fb kM (by nofun),aH fb fth,aH fb fnm,aH fb fpl⟩,⟨bO ff gv (by nofun),bO ff gE (by nofun),bO ff pA (by nofun),bO ff k8 (by nofun),bO ff kM (by nofun),aH ff fth,aH ff fnm,aH ff fpl⟩,⟨JY,C7,Kf,Lj,aH gv fth,aH gv fnm,aH gv fpl⟩,⟨DH,J7,KH,aH gE fth,aH gE fnm,aH gE fpl⟩,⟨JX,K9,aH pA fth,aH pA fnm,aH pA fpl⟩,⟨eovun,aH k8 fth,aH k8 fnm,aH k8 fpl⟩,⟨aH kM fth,aH kM fnm,aH kM fpl⟩,⟨bO hthA hnmA (by nofun),bO hthA hplA (by nofun)⟩,bO hnmA hplA (by nofun)⟩
 ·intro b hb mS;have hb':b∈[x,t,ml,ro,st,tr,ov,un,th,nm,pl]:=hb;simp only [ss,u8,EQ] at hb';rcases hb' with rfl | rfl | rfl | rfl | rfl | rfl | rfl | rfl | rfl | rfl | rfl
  ·exact absurd rfl mS
  ·exact ft
  ·exact L6
  ·exact Lv
  ·exact L7
  ·exact Kz
  ·exact fr_ov
  ·exact fr_un
  ·exact fresh mS fth
  ·exact fresh mS fnm
  ·exact fresh mS fpl
 ·intro b o hb e;have mS:b≠x:=fun z=>hb (by simp [z]);refine old b o mS (aH e Lv) (aH e L7) (ua b o ?_ (Dd b o hb e));simp only [ss,u8,EQ,ZP];exact ⟨mS,aH e ft,aH e L6,aH e Kz⟩
def OI (CH CS CT:Addr):Sp:=i5 fun x z H Q _=>X3 fun A L M=>A9 (aR CH CS CT H A L M) (A.a=x) (z.length<=1000) (eg (.str z)=true) (M.ro.length<=30) (M.st.length<=30) (aI (sD M.ro) (.inr z)=none) (aI (sD M.st) (.inr z)=none) (∀ H',aR CH CS CT H' A L { M with ro:=M.ro++[(z,0)],st:=M.st++[(z,0)] }->Kp [A.a,A.ro,A.st] H H'->Q .aq H')
def E7:T.lx.k P w mg base 3 (OI T.aK T.aQ T.aY):=by
 refine T.lx.F.ok O4 (fun _ _ _ _ h=>eF h fun _ _ _=>rfl) fun ax A outer s H vs Q E hr h=>eF h fun x z h=>?_;obtain ⟨AA,L,M,i,rfl,j5,hn,fS,hsl,JZ,hs0,q⟩:=h;refine ⟨_,((ad (aX (bv (xI T) hr.m T.gN.m T.gN.F.kp T.gN.b .nil aA (aa (ac 1) ae)))
 (ad (bb (yQ (eD hr) (ac 1) (bn T.aN T.pZ (ac 0))) (ao iw) ce)
 (ao (aX (bg T.aN T.lD.h (ET T) hr.m T.lD.b .nil aA (ac 0) (aa (ac 1) ae))))))).h,?_⟩
 refine stI [some (V.ref AA.a),some (V.str z)] ?_;right;refine ⟨⟨_,rfl⟩,j5,hn,fun H1 s1=>?_⟩;have i1:=i.same s1;obtain ⟨fs,c,hx,aU,sf⟩:=i1.h;have nd:=i1.nd;rw [GT] at nd;have C8:=nd.1;simp only [Ad.w,Ix,ss,u8,EQ,ZP] at C8;right;refine ⟨AA.a,_,_,.ref AA.ro,rfl,hx,(sf _).trans rfl,AA.ro,_,rfl,dO.k (k:=.inr z) i1.ro,?_⟩;rw [JZ];refine bA ?_;left;refine (mI hx sf ⟨AA.dx,fs,c,AA.ro,AA.st,_,_,hx,aU,(sf _).trans rfl,(sf _).trans rfl,(sf _).trans rfl,(sf _).trans rfl,(sf _).trans rfl,(sf _).trans rfl,i1.ro,by unfold sD; rw [mo]; omega,i1.st,by unfold sD; rw [mo]; omega,C8.2.2.2.1.1,?_⟩);intro fs' c' H' hx' hfl' sf' hro' hst' fr';have e1:putK (sD M.ro) (.inr z) (.int 0)=sD (M.ro++[(z,0)]):=xh JZ;have e2:putK (sD M.st) (.inr z) (.int 0)=sD (M.st++[(z,0)]):=xh hs0;rw [e1] at hro';rw [e2] at hst';have kp:Kp [AA.a,AA.ro,AA.st] H1 H':=fun b o hb e=>by
  simp only [ss,u8,EQ,ZP] at hb;rw [fr' b hb.1 hb.2.1 hb.2.2]; exact e
 have t8:∀ b∈[AA.t,AA.ml,AA.tr,AA.ov,AA.un],b ∉ [AA.a,AA.ro,AA.st]:=by
  intro b hb hm;simp only [ss,u8,EQ] at hb hm;obtain ⟨⟨a1,a2,a3,a4,a5,a6,a7⟩,⟨b1,b2,b3,b4,b5,b6⟩,⟨c1,c2,c3,c4,c5⟩,⟨d1,d2,d3,d4⟩,⟨f1,f2,f3⟩,_⟩:=C8;rcases hb with rfl | rfl | rfl | rfl | rfl <;> rcases hm with h | h | h <;> first
   | exact a1 h.symm | exact a2 h.symm | exact a5 h.symm | exact a6 h.symm | exact a7 h.symm
   | exact b2 h | exact b3 h | exact c1' h | exact c1 h | exact c2 h | exact c3 h
   | exact d2 h.symm | exact d3 h.symm | exact d4 h.symm | exact f1 h.symm | exact f2 h.symm | exact f3 h.symm | exact b1 h | exact b4 h
 refine q H' ⟨⟨fs',c',hx',hfl',fun f=>?_⟩,?_,kp _ _ (t8 _ (by simp)) i1.ml,i1.len,fun j t e=>?_,hro',hst',kp _ _ (t8 _ (by simp)) i1.tr,kp _ _ (t8 _ (by simp)) i1.ov,kp _ _ (t8 _ (by simp)) i1.un,i1.nd⟩ (fun b o hb e=>kp b o hb (s1 b o e))
 ·rw [sf' f,ee,sf f];by_cases e:f = "changes"
  ·rw [Db e,e]; rfl
  ·rw [Ch e];exact PD e
 ·obtain ⟨gs,d,e,r⟩:=i1.t;exact ⟨gs,d,kp _ _ (t8 _ (by simp)) e,r⟩
 ·obtain ⟨a,e1,h1⟩:=i1.th j t e;refine ⟨a,e1,h1.keep kp fun b hb hm=>?_⟩;have:=i1.vt e1;simp only [ss,u8,EQ] at hm;rcases hm with rfl | rfl | rfl
  ·exact this _ (by simp [Ad.w]) _ hb rfl
  ·exact this _ (by simp [Ad.w]) _ hb rfl
  ·exact this _ (by simp [Ad.w]) _ hb rfl
def jN (M:Hs):Nat->Nat->Nat->Prop
 | 0,k,b=>aI (nD M.un) (.inl (k:Int))=none/\b=k
 | n+1,k,b=>∃ k':Nat,aI (nD M.un) (.inl (k:Int))=some (.int (k':Int))/\jN M n k' b
def je (M:Hs):Nat->Nat->List Nat->Prop
 | 0,k,l=>aI (nD M.ov) (.inl (k:Int))=none/\l=[]
 | n+1,k,l=>∃ (k':Nat) (r:List Nat),aI (nD M.ov) (.inl (k:Int))=some (.int (k':Int))/\je M n k' r/\l=k'::r
def dw (M:Hs) (k b:Nat) (r:List Nat):Prop:=(∃ n,jN M n k b)/\∃ n,je M n b r/\n<=100
def je.len {M:Hs}:∀ {n k:Nat} {l:List Nat},je M n k l->l.length=n
 | 0,_,_,h=>by rw [h.2]; rfl
 | n+1,_,_,h=>by obtain ⟨k',r,_,h2,rfl⟩:=h; simp [h2.len]
abbrev nV (l:List Nat):List V:=l.map fun n:Nat=>V.int (n:Int)
def cP (b:Nat) (r:List Nat):Nat:=(b::r).getLast (by simp)
def OU (CH CS CT:Addr):Sp:=jd fun x n H Q _=>X7 fun A L M (k:Nat) (b:Nat) a t=>A7 (aR CH CS CT H A L M) (A.a=x) (n=(k:Int)) (L[k]?=some a) (M.ts[k]?=some t) (∃ m,jN M m k b) (Q (.int (b:Int)) H)
def Uo (CH CS CT:Addr):Sp:=jd fun x n H Q _=>X8 fun A L M (k:Nat) (b:Nat) r a t=>A7 (aR CH CS CT H A L M) (A.a=x) (n=(k:Int)) (L[k]?=some a) (M.ts[k]?=some t) (dw M k b r) (∀ l H',ag H H'->H l=none->H' l=some (.lst (nV (b::r)))->Q (.ref l) H')
def WT (CH CS CT:Addr):Sp:=jd fun x n H Q _=>X8 fun A L M (k:Nat) (b:Nat) r a t=>A7 (aR CH CS CT H A L M) (A.a=x) (n=(k:Int)) (L[k]?=some a) (M.ts[k]?=some t) (dw M k b r) (∀ H',ag H H'->Q (.int (cP b r:Nat)) H')
def T6:T.oR.k P w base 4 (OU T.aK T.aQ T.aY):=by
 refine T.oR.F.ok zD (fun _ _ _ _ h=>bV h fun _ _ _=>rfl) fun ax A outer s H vs Q E hr h=>bV h fun x n h=>?_;obtain ⟨AA,L,M,k,b,a,t,i,rfl,rfl,ha,aP,⟨m,hb⟩,q⟩:=h;obtain ⟨fs,c,hx,aU,sf⟩:=i.h;refine ⟨_,((ad (aX (bg T.aN T.sM.h (T3 T) hr.m T.sM.b .nil aA (ac 0) (aa (ac 1) ae)))
 (ad (aS 2 zD.nd (ac 1))
 (ad (l8 P3 (yQ (eD hr) (ac 2) (bn T.aN T.xK (ac 0))) (ao (aS 2 zD.nd (rT (eD hr) (bn T.aN T.xK (ac 0)) (ac 2)))))
 (ao (aL (ac 2))))))).h,?_⟩
 refine stI [some (V.ref AA.a),some (V.int (k:Int)),none] ?_;right;refine (mI hx sf ⟨AA,L,M,k,a,t,i,rfl,rfl,ha,aP,?_⟩);right;refine ai ⟨fun m σ' H'=>∃ j:Nat,σ'=[some (V.ref AA.a),some (V.int (k:Int)),some (V.int (j:Int))]/\H'=H/\jN M m j b,⟨m,k,rfl,rfl,hb⟩,?_⟩;rintro m σ' H' ⟨j,rfl,rfl,hj⟩;left;refine ⟨AA.a,_,_,.ref AA.un,rfl,hx,(sf _).trans rfl,AA.un,_,rfl,dO.k (k:=.inl (j:Int)) i.un,?_⟩;cases m with
 | zero =>
  obtain ⟨h0,rfl⟩:=hj;rw [h0];exact bA q
 | succ m =>
  obtain ⟨k',h0,h1⟩:=hj;rw [h0];refine bS ⟨fun σ' H''=>∃ j:Nat,σ'=[some (V.ref AA.a),some (V.int (k:Int)),some (V.int (j:Int))]/\H''=H'/\jN M m j b,fun σ' H' z=>⟨m,Os m,z⟩,?_⟩;left;refine ⟨AA.a,_,_,.ref AA.un,rfl,hx,(sf _).trans rfl,AA.un,.int (k':Int),rfl,?_,k',rfl,by trivial,h1⟩;have:=dO.k (k:=.inl (j:Int)) i.un;rw [h0] at this;exact this
def lG {a b:List Nat}:nV (a++b)=nV a++nV b:=Fr
def nK:T.dJ.k P w base 5 (Uo T.aK T.aQ T.aY):=by
 refine T.dJ.F.ok GF (fun _ _ _ _ h=>bV h fun _ _ _=>rfl) fun ax A outer s H vs Q E hr h=>bV h fun x n h=>?_;obtain ⟨AA,L,M,k,b,r,a,t,i,rfl,rfl,ha,aP,⟨hb,⟨m,hu,hm⟩⟩,q⟩:=h;have hlen:=hu.len;refine ⟨_,((ad (aS 2 GF.nd (db (aa (bv (T6 T) hr.m T.oR.m T.oR.F.kp T.oR.b .nil aA (aa (ac 0) (aa (ac 1) ae))) ae)))
 (ad (l8 P3 (yQ (eD hr) (ci (bt (K:=K) rfl) (ac 2) (ii ky am)) (bn T.aN T.z7 (ac 0))) (ao (aX (dz wP wS dR (ac 2) (aa (rT (eD hr) (bn T.aN T.z7 (ac 0)) (ci (bt (K:=K) rfl) (ac 2) (ii ky am))) ae)))))
 (ao (aL (ac 2)))))).h,?_⟩
 refine stI [some (V.ref AA.a),some (V.int (k:Int)),none] ?_;right;refine ⟨AA,L,M,k,b,a,t,i,rfl,rfl,ha,aP,hb,fits (by simp),fun l hl=>?_⟩;refine fM (o:=.lst [V.int (b:Int)]) hl fun H1 s1 b1=>?_;refine ai ⟨fun m σ' H'=>ag H H'/\∃ (pre:List Nat) (j:Nat) (r':List Nat),σ'=[some (V.ref AA.a),some (V.int (k:Int)),some (V.ref l)]/\H' l=some (.lst (nV pre++[V.int (j:Int)]))/\je M m j r'/\pre++j::r'=b::r,⟨m,s1,[],b,r,rfl,b1,hu,rfl⟩,?_⟩;rintro m σ' H' ⟨s',pre,j,r',rfl,hl',hj,hp⟩;have i1:=i.same s';obtain ⟨fs,c,hx,aU,sf⟩:=i1.h;left;simp only [bC,hl',pf];refine ⟨AA.a,_,_,.ref AA.ov,rfl,hx,(sf _).trans rfl,AA.ov,_,rfl,dO.k (k:=.inl (j:Int)) i1.ov,?_⟩;cases m with
 | zero =>
  obtain ⟨h0,rfl⟩:=hj;rw [h0];refine bA (q l H' s' hl ?_);rw [hl',<- hp,lG];rfl
 | succ m =>
  obtain ⟨k',r2,h0,h1,rfl⟩:=hj;rw [h0];refine bS ⟨fun σ' H'=>ag H H'/\∃ (pre:List Nat) (j:Nat) (r':List Nat),σ'=[some (V.ref AA.a),some (V.int (k:Int)),some (V.ref l)]/\H' l=some (.lst (nV pre++[V.int (j:Int)]))/\je M m j r'/\pre++j::r'=b::r,fun σ' H' z=>⟨m,Os m,z⟩,?_⟩;left;refine ⟨AA.a,_,_,.ref AA.ov,rfl,hx,(sf _).trans rfl,AA.ov,.int (k':Int),rfl,?_,?_⟩
  ·have:=dO.k (k:=.inl (j:Int)) i1.ov;rw [h0] at this;exact this
  have bw:(pre++[j]).length<=102:=by
   have:=Tm List.length hp;simp at this ⊢;omega
  refine ⟨gR (by simp at bw ⊢; omega),s'.fi hl,pre++[j],k',r2,by trivial,?_,h1,?_⟩
  ·rw [au,lG]; rfl
  ·rw [<- hp]; simp
def Jl {b:Nat} {r:List Nat}:∃ pre,b::r=pre++[cP b r]:=⟨(b::r).dropLast,by unfold cP; exact (List.dropLast_concat_getLast (by simp)).symm⟩
def uL:T.fj.k P w base 6 (WT T.aK T.aQ T.aY):=by
 refine T.fj.F.ok Tv (fun _ _ _ _ h=>bV h fun _ _ _=>rfl) fun ax A outer s H vs Q E hr h=>bV h fun x n h=>?_;obtain ⟨AA,L,M,k,b,r,a,t,i,rfl,rfl,ha,aP,hs,q⟩:=h;refine ⟨_,((ao (aL (ci (bt (K:=K) rfl) (bv (nK T) hr.m T.dJ.m T.dJ.F.kp T.dJ.b .nil aA (aa (ac 0) (aa (ac 1) ae))) (ii ky am))))).h,?_⟩;refine stI [some (V.ref AA.a),some (V.int (k:Int))] ?_;left;refine ⟨AA,L,M,k,b,r,a,t,i,rfl,rfl,ha,aP,hs,fun l H' s' _ hl=>?_⟩;dsimp only;obtain ⟨pre,hp⟩:=Jl (b:=b) (r:=r);rw [hp,lG] at hl;simp only [bC,hl,Fa,_g,pf];exact q _ s'
def fz (r:Nat) (l:List Nat):Bool:=l.any (· == r)
def rq {r:Nat}:∀ {l:List Nat},f6 (V.int (r:Int)) (nV l)=fz r l
 | []=>rfl
 | x::l=>by
  have ih:=rq (r:=r) (l:=l);unfold f6 at ih ⊢;unfold fz at ih ⊢;simp only [nV,Fa,Zx] at ih ⊢;rw [ih]
  congr 1
  unfold eT;by_cases e:x=r
  ·subst e; simp
  ·rw [GM.mpr e]
   first | exact GM.mpr (by omega) | (simp; omega)
def jE (M:Hs) (L:List Ta) (root:Nat):Nat->Nat->Bool->Prop
 | n,k,v=>∃ b r a t,L[k]?=some a/\M.ts[k]?=some t/\dw M k b r /\
  if k=cP b r then
   if fz root (b::r)=true then v=true
   else ∃ ab tb,L[b]?=some ab/\M.ts[b]?=some tb/\((tb.bf=[]/\v=false)\/∃ f z,tb.bf=[(f,z)]/\match n with | 0=>False | n+1=>jE M L root n f v)
  else v=false
def NH (CH CS CT:Addr):Sp:=lz fun x z n H Q _=>X6 fun A L M (k:Nat) (root:Nat) v=>A6 (aR CH CS CT H A L M) (A.a=x) (n=(k:Int)) (aI (sD M.ro) (.inr z)=some (.int (root:Int))) (∃ m,jE M L root m k v) (∀ H',ag H H'->Q (.bl v) H')
def Oa:T.oO.k P w base 6 (NH T.aK T.aQ T.aY):=by
 refine T.oO.F.ok lN (fun _ _ _ _ h=>fJ h fun _ _ _ _=>rfl) fun ax A outer s H vs Q E hr h=>fJ h fun x z n h=>?_;obtain ⟨AA,L,M,k,root,v,i,rfl,rfl,hz,⟨m,hm⟩,q⟩:=h;obtain ⟨fs,c,hx,aU,sf⟩:=i.h;refine bR (b:=aZ BR) ((ad (aS 3 lN.nd (bg T.aN T.jw.h (xC T) hr.m T.jw.b .nil aA (ac 0) (aa (ac 1) ae)))
 (ad (aS 4 lN.nd (ac 2))
 (ad (aS 5 lN.nd (bv (nK T) hr.m T.dJ.m T.dJ.F.kp T.dJ.b .nil aA (aa (ac 0) (aa (ac 4) ae))))
 (ad (l8 P3 (bc eA (ac 4) (ci (bt (K:=K) rfl) (ac 5) (ii ky am))) (ad (bb (bc (uP (K:=K) rfl) (ac 3) (ac 5)) (ao (aL em)) ce)
 (ad (aS 6 lN.nd (bg T.aN T.iu.h (uQ T) hr.m T.iu.b .nil aA (ac 0) (aa (ci (bt (K:=K) rfl) (ac 5) am) ae)))
 (ad (bb (bc qi (ac 6) aq) (ao (aL em)) ce)
 (ad (aS 4 lN.nd (ci (bt (K:=K) rfl) (ac 6) am))
 (ao (aS 5 lN.nd (bv (nK T) hr.m T.dJ.m T.dJ.F.kp T.dJ.b .nil aA (aa (ac 0) (aa (ac 4) ae))))))))))
 (ao (aL em))))))) ?_
 refine stI [some (V.ref AA.a),some (V.str z),some (V.int (k:Int)),none,none,none,none] ?_;right;refine (mI hx sf ⟨AA,L,M,root,i,rfl,hz,?_⟩);right;right;obtain ⟨b,r,a,t,ha,ht,aO,dF⟩:=(by unfold jE at hm; exact hm:∃ b r a t,L[k]?=some a/\M.ts[k]?=some t/\dw M k b r/\_);refine ⟨AA,L,M,k,b,r,a,t,i,rfl,rfl,ha,ht,aO,fun l H1 s1 hl0 hl=>?_⟩;refine ai ⟨fun m σ' H'=>ag H H'/\∃ (j:Nat) (l:Addr) (b:Nat) (r:List Nat) (pv:Option V),σ'=[some (V.ref AA.a),some (V.str z),some (V.int (k:Int)),some (V.int (root:Int)),some (V.int (j:Int)),some (V.ref l),pv]/\H' l=some (.lst (nV (b::r)))/\dw M j b r /\
  (if j=cP b r then
   if fz root (b::r)=true then v=true
   else ∃ ab tb,L[b]?=some ab/\M.ts[b]?=some tb/\((tb.bf=[]/\v=false)\/∃ f z,tb.bf=[(f,z)]/\match m with | 0=>False | n+1=>jE M L root n f v)
  else v=false),⟨m,s1,k,l,b,r,none,rfl,hl,aO,dF⟩,?_⟩
 clear dF ha ht aO hl hl0 s1 hm;rintro m σ' H' ⟨s',j,l,b,r,pv,rfl,hl,aO,dF⟩;have i':=i.same s';obtain ⟨pre,hp⟩:=Jl (b:=b) (r:=r);have cg:=hl;rw [hp,lG] at cg;left;simp only [bC,cg,Fa,_g,pf];by_cases hj:j=cP b r
 ·rw [Db hj] at dF;rw [AT (by rw [hj])];refine bS ⟨_,fun _ _ h=>h,?_⟩;right;simp only [bC,hl];refine ⟨rfl,by simp [cM],?_⟩;rw [rq];cases hmem:fz root (b::r) with
  | true =>
   rw [Db hmem] at dF;subst dF;exact bS (q _ s')
  | false =>
   rw [Ch (by rw [hmem]; nofun)] at dF;obtain ⟨ab,tb,dG,sP,bw⟩:=dF;refine bA ?_;refine ai ?_;obtain ⟨fs,c,hx,aU,sf⟩:=i'.h;left;simp only [bC,hl,nV,Fa,fv];refine (mI hx sf ⟨AA,L,M,b,ab,tb,i',rfl,rfl,dG,sP,?_⟩);rcases bw with ⟨bw,rfl⟩ | ⟨f,zz,bw,hn⟩
   ·refine .inl ⟨bw,?_⟩;right;exact ⟨by trivial,bS (q _ s')⟩
   ·refine .inr ⟨f,zz,bw,fun p hp=>?_⟩;right;refine ⟨by trivial,?_⟩;rw [ut (by nofun)];refine bA ?_;right;simp only [bC,hp,fv];cases m with
    | zero=>exact hn.elim
    | succ m =>
     obtain ⟨b2,r2,a2,t2,sS,iG,wO,DX⟩:=(by unfold jE at hn; exact hn:∃ b r a t,L[f]?=some a/\M.ts[f]?=some t/\dw M f b r/\_);refine ⟨AA,L,M,f,b2,r2,a2,t2,i',rfl,rfl,sS,iG,wO,fun l2 H2 s2 hl0 cg=>?_⟩;exact ⟨m,Os m,s'.trans s2,f,l2,b2,r2,some (V.ref p),rfl,cg,wO,DX⟩
 ·rw [Ch hj] at dF;rw [ut (by omega)];subst dF;refine bA ?_;left;exact q _ s'
abbrev Y5 (M:Hs):List Str:=cu (M.tr.map (·.1))
section
variable {CH CS CT:Addr} {H H':Hp} {A:Ad} {L:List Ta} {M:Hs}
end
def yo (C:Addr) (f1 f2:Str):Sp:=Bw fun x v1 v2 H Q _=>X1 fun dx=>A2 (H x=some (.ins C dx [])) (Q .aq (upd H x (.ins C dx (ay f2 v2 (ay f1 v1 [])))))
def Xn:T.rP.k P w mg base 1 (yo T.dZ "number" "way"):=by
 refine T.rP.F.ok Yl (fun _ _ _ _ h=>ku h fun _ _ _ _=>rfl) fun ax A outer s H vs Q E hr h=>ku h fun x v1 v2 h=>?_;obtain ⟨dx,hx,q⟩:=h;refine ⟨_,((ad (bD T.vW T.Jo (ac 0) (ac 1))
 (ao (bD T.vW T.TU (ac 0) (ac 2))))).h,?_⟩
 refine stI [some (V.ref x),some v1,some v2] ?_;right;refine ⟨x,dx,_,rfl,hx,by decide,?_⟩;refine ⟨x,dx,_,rfl,au,by walk_at "f",?_⟩;rw [ji];exact q
def U1:T.qJ.k P w mg base 1 (yo T.jX "folder" "name"):=by
 refine T.qJ.F.ok Xe (fun _ _ _ _ h=>ku h fun _ _ _ _=>rfl) fun ax A outer s H vs Q E hr h=>ku h fun x v1 v2 h=>?_;obtain ⟨dx,hx,q⟩:=h;refine ⟨_,((ad (bD T.mm T.vQ (ac 0) (ac 1))
 (ao (bD T.mm T.Bi (ac 0) (ac 2))))).h,?_⟩
 refine stI [some (V.ref x),some v1,some v2] ?_;right;refine ⟨x,dx,_,rfl,hx,by decide,?_⟩;refine ⟨x,dx,_,rfl,au,by walk_at "f",?_⟩;rw [ji];exact q
def Wj:T.qt.k P w mg base 1 (yo T.er "step" "reason"):=by
 refine T.qt.F.ok N1 (fun _ _ _ _ h=>ku h fun _ _ _ _=>rfl) fun ax A outer s H vs Q E hr h=>ku h fun x v1 v2 h=>?_;obtain ⟨dx,hx,q⟩:=h;refine ⟨_,((ad (bD T.yI T.SK (ac 0) (ac 1))
 (ao (bD T.yI T.OH (ac 0) (ac 2))))).h,?_⟩
 refine stI [some (V.ref x),some v1,some v2] ?_;right;refine ⟨x,dx,_,rfl,hx,by decide,?_⟩;refine ⟨x,dx,_,rfl,au,by walk_at "f",?_⟩;rw [ji];exact q
def qh (h:Addr) (z:Str) (last:Bool) (root here:Int) (place:V) (step:Int) (av lf rd:Addr) (lr lu:Int) (told:V):List (Str×V):=[("house",.ref h),("asker",.str z),("last",.bl last),("root",.int root),("here",.int here),("place",place),("step",.int step),("asked",.ref av),("left",.ref lf),("reading",.ref rd),("leads_read",.int lr),("looked_up",.int lu),("told",told)]
structure Ws where
 here:Nat
 place:Option (Nat×Str)
 step:Nat
 asked:List Nat
 left:List (Sum Nat Str)
 bu:List Nat
 read:Nat
 look:Nat
def dj:Sum Nat Str->V
 | .inl n=>.int (n:Int)
 | .inr z=>.str z
def iV (H0 H:Hp):Option (Nat×Str)->V->Prop
 | none,v=>v=.aq
 | some (k,nm),v=>∃ p,v=.ref p/\H0 p=none/\H p=some (.tup [.int (k:Int),.str nm])
structure Cn where
 CH:Addr
 CS:Addr
 CT:Addr
 CW:Addr
 CF:Addr
 CG:Addr
 CR:Addr
 CN:Addr
 CD:Addr
 CE:Addr
abbrev Tx.cn (T:Tx K mg):Cn:=⟨T.aK,T.aQ,T.aY,T.bh,T.er,T.dZ,T.fe,T.fU,T.fQ,T.jX⟩
structure Wd where
 L:List Ta
 M:Hs
 z:Str
 last:Bool
 root:Nat
structure Wc extends Wd where
 H0:Hp
 A:Ad
 x:Addr
 dx:Addr
 av:Addr
 rd:Addr
structure aV (N:Cn) (c:Wc) (S:Ws) (H:Hp) (lf:Addr) (told:V):Prop where
 i:aR N.CH N.CS N.CT c.H0 c.A c.L c.M
 s:ag c.H0 H
 x0:c.H0 c.x=none
 a0:c.H0 c.av=none
 l0:c.H0 lf=none
 r0:c.H0 c.rd=none
 o:∃ fs pv,H c.x=some (.ins N.CW c.dx fs)/\fs.length<=40/\iV c.H0 H S.place pv/\cZ fs (qh c.A.a c.z c.last c.root S.here pv S.step c.av lf c.rd S.read S.look told)
 oa:H c.av=some (.lst (nV S.asked))
 ol:H lf=some (.lst (S.left.map dj))
 od:H c.rd=some (.lst (nV S.bu))
 n1:c.av≠lf
 n2:c.av≠c.rd
 n3:lf≠c.rd
 hz:aI (sD c.M.ro) (.inr c.z)=some (.int (c.root:Int))
section
variable {N:Cn} {c:Wc} {S:Ws} {H0 H H':Hp} {lf:Addr} {told:V}
def iV.same {p:Option (Nat×Str)} {v:V} (h:iV H0 H p v) (s:ag H H'):iV H0 H' p v:=by
 match p,h with
 | none,h=>exact h
 | some (k,nm),⟨q,e,e0,e1⟩=>exact ⟨q,e,e0,s _ _ e1⟩
def aV.same (v:aV N c S H lf told) (s:ag H H'):aV N c S H' lf told :=
 ⟨v.i,v.s.trans s,v.x0,v.a0,v.l0,v.r0,let ⟨fs,pv,e,l,p,f⟩:=v.o; ⟨fs,pv,s _ _ e,l,p.same s,f⟩,s _ _ v.oa,s _ _ v.ol,s _ _ v.od,v.n1,v.n2,v.n3,v.hz⟩
def aV.m (v:aV N c S H lf told):aR N.CH N.CS N.CT H c.A c.L c.M:=v.i.same v.s
def aV.xa (v:aV N c S H lf told):c.x≠c.av/\c.x≠lf/\c.x≠c.rd:=by
 obtain ⟨fs,pv,e,_⟩:=v.o;exact ⟨bO e v.oa (by nofun),bO e v.ol (by nofun),bO e v.od (by nofun)⟩
def iV.put {p:Option (Nat×Str)} {v:V} {fs:List (Str×V)} {x dx CW:Addr} (h:iV H0 H p v) (hx:∃ gs,H x=some (.ins CW dx gs)):iV H0 (upd H x (.ins CW dx fs)) p v:=by
 match p,h with
 | none,h=>exact h
 | some (k,nm),⟨q,e,e0,e1⟩ =>
  obtain ⟨gs,hx⟩:=hx;exact ⟨q,e,e0,by rw [ah (sw (bO hx e1 (by nofun)))]; exact e1⟩
def aV.put (f:Str) (u:V) (S':Ws) (told':V) (v:aV N c S H lf told) (w:V) (hw:∀ pv,List.lookup f (qh c.A.a c.z c.last c.root S.here pv S.step c.av lf c.rd S.read S.look told)=some w:=by exact fun _=>rfl)
  (hp:S'.place=S.place:=by rfl) (ha:S'.asked=S.asked:=by rfl) (hl:S'.left=S.left:=by rfl) (hr:S'.bu=S.bu:=by rfl)
  (e:∀ pv g,List.lookup g (ay f u (qh c.A.a c.z c.last c.root S.here pv S.step c.av lf c.rd S.read S.look told))=List.lookup g (qh c.A.a c.z c.last c.root S'.here pv S'.step c.av lf c.rd S'.read S'.look told'):=by exact fun _ _=>rfl) :
  ∃ fs,H c.x=some (.ins N.CW c.dx fs)/\fs.length < 1000/\List.lookup f fs=some w/\aV N c S' (upd H c.x (.ins N.CW c.dx (ay f u fs))) lf told':=by
 obtain ⟨fs,pv,e1,l,p,sf⟩:=v.o;have hf:List.lookup f fs=some w:=(sf f).trans (hw pv);exact ⟨fs,e1,by omega,hf,⟨v.i,v.s.fi v.x0,v.x0,v.a0,v.l0,v.r0,⟨_,pv,au,by rw [jg hf]; exact l,by rw [hp]; exact p.put ⟨fs,e1⟩,fun g=>((sf.put f u) g).trans (e pv g)⟩,by rw [ah (sw v.xa.1),ha]; exact v.oa,by rw [ah (sw v.xa.2.1),hl]; exact v.ol,by rw [ah (sw v.xa.2.2),hr]; exact v.od,v.n1,v.n2,v.n3,v.hz⟩⟩
def iV.off {p:Option (Nat×Str)} {v:V} {y:Addr} {o o':HO} (h:iV H0 H p v) (hy:H y=some o) (ht:∀ xs,o≠.tup xs):iV H0 (upd H y o') p v:=by
 match p,h with
 | none,h=>exact h
 | some (k,nm),⟨q,e,e0,e1⟩ =>
  refine ⟨q,e,e0,?_⟩;rw [ah (fun z=>?_)]
  ·exact e1
  ·rw [z,hy] at e1;exact ht _ (FM e1)
def aV.off {y:Addr} {o o':HO} (v:aV N c S H lf told) (y0:c.H0 y=none) (hy:H y=some o) (nx:c.x≠y) (na:c.av≠y) (nl:lf≠y) (nr:c.rd≠y) (ht:∀ xs,o≠.tup xs):aV N c S (upd H y o') lf told:=by
 obtain ⟨gs,pv,e,l,p,f⟩:=v.o;exact ⟨v.i,v.s.fi y0,v.x0,v.a0,v.l0,v.r0,⟨gs,pv,by rw [ah nx]; exact e,l,p.off hy ht,f⟩,by rw [ah na]; exact v.oa,by rw [ah nl]; exact v.ol,by rw [ah nr]; exact v.od,v.n1,v.n2,v.n3,v.hz⟩
def aV.Oc (v:aV N c S H lf told) (ks:List Nat):aV N c { S with asked:=ks } (upd H c.av (.lst (nV ks))) lf told:=by
 obtain ⟨gs,pv,e,l,p,f⟩:=v.o;exact ⟨v.i,v.s.fi v.a0,v.x0,v.a0,v.l0,v.r0,⟨gs,pv,by rw [ah v.xa.1]; exact e,l,p.off v.oa (by nofun),f⟩,au,by rw [ah (sw v.n1)]; exact v.ol,by rw [ah (sw v.n2)]; exact v.od,v.n1,v.n2,v.n3,v.hz⟩
def aV.sF (v:aV N c S H lf told) (ts:List (Sum Nat Str)):aV N c { S with left:=ts } (upd H lf (.lst (ts.map dj))) lf told:=by
 obtain ⟨gs,pv,e,l,p,f⟩:=v.o;exact ⟨v.i,v.s.fi v.l0,v.x0,v.a0,v.l0,v.r0,⟨gs,pv,by rw [ah v.xa.2.1]; exact e,l,p.off v.ol (by nofun),f⟩,by rw [ah v.n1]; exact v.oa,au,by rw [ah (sw v.n3)]; exact v.od,v.n1,v.n2,v.n3,v.hz⟩
def aV.Iw (v:aV N c S H lf told) (ks:List Nat):aV N c { S with bu:=ks } (upd H c.rd (.lst (nV ks))) lf told:=by
 obtain ⟨gs,pv,e,l,p,f⟩:=v.o;exact ⟨v.i,v.s.fi v.r0,v.x0,v.a0,v.l0,v.r0,⟨gs,pv,by rw [ah v.xa.2.2]; exact e,l,p.off v.od (by nofun),f⟩,by rw [ah v.n2]; exact v.oa,by rw [ah v.n3]; exact v.ol,au,v.n1,v.n2,v.n3,v.hz⟩
def aV.Om (v:aV N c S H lf told) (k:Nat):aV N c { S with asked:=S.asked++[k] } (upd H c.av (.lst (nV S.asked++[.int (k:Int)]))) lf told:=by
 have:=v.Oc (S.asked++[k]); rw [lG] at this; exact this
def aV.VQ (v:aV N c S H lf told) (k:Nat):aV N c { S with bu:=S.bu++[k] } (upd H c.rd (.lst (nV S.bu++[.int (k:Int)]))) lf told:=by
 have:=v.Iw (S.bu++[k]); rw [lG] at this; exact this
def aV.Ul (v:aV N c S H lf told) (k:Nat):aV N c { S with left:=S.left++[.inl k] } (upd H lf (.lst (S.left.map dj++[.int (k:Int)]))) lf told:=by
 have:=v.sF (S.left++[.inl k]); rw [Fr] at this; exact this
def aV.MS (v:aV N c S H lf told) (ts:List (Sum Nat Str)):aV N c { S with left:=S.left++ts } (upd H lf (.lst (S.left.map dj++ts.map dj))) lf told:=by
 have:=v.sF (S.left++ts); rw [Fr] at this; exact this
def aV.fresh {y:Addr} (v:aV N c S H lf told) (hy:H y=none):c.H0 y=none:=by
 cases e:c.H0 y with
 | none=>rfl
 | some o=>rw [v.s y o e] at hy; cases hy
def aV.U2 {l:Addr} {ts:List (Sum Nat Str)} (v:aV N c S H lf told) (l0:c.H0 l=none) (hl:H l=some (.lst (ts.map dj))) (n1:c.av≠l) (n3:l≠c.rd):∃ fs,H c.x=some (.ins N.CW c.dx fs)/\fs.length < 1000/\aV N c { S with left:=ts } (upd H c.x (.ins N.CW c.dx (ay "left" (.ref l) fs))) l told:=by
 obtain ⟨fs,pv,e,le,p,f⟩:=v.o;have nx:c.x≠l:=bO e hl (by nofun);exact ⟨fs,e,by omega,⟨v.i,v.s.fi v.x0,v.x0,v.a0,l0,v.r0,⟨_,pv,au,by rw [jg (u:=.ref lf) ((f _).trans rfl)]; exact le,p.put ⟨fs,e⟩,fun g=>((f.put "left" (.ref l)) g).trans rfl⟩,by rw [ah (sw v.xa.1)]; exact v.oa,by rw [ah (sw nx)]; exact hl,by rw [ah (sw v.xa.2.2)]; exact v.od,n1,v.n2,n3,v.hz⟩⟩
def aV.fld (v:aV N c S H lf told):∃ fs pv,H c.x=some (.ins N.CW c.dx fs)/\fs.length < 1000/\cZ fs (qh c.A.a c.z c.last c.root S.here pv S.step c.av lf c.rd S.read S.look told):=by
 obtain ⟨fs,pv,e,l,p,f⟩:=v.o;exact ⟨fs,pv,e,by omega,f⟩
def aV.placed {p:Addr} {k:Nat} {nm:Str} (v:aV N c S H lf told) (p0:c.H0 p=none) (hp:H p=some (.tup [.int (k:Int),.str nm])):∃ fs,H c.x=some (.ins N.CW c.dx fs)/\fs.length < 1000/\aV N c { S with place:=some (k,nm) } (upd H c.x (.ins N.CW c.dx (ay "place" (.ref p) fs))) lf told:=by
 obtain ⟨fs,pv,e,l,_,f⟩:=v.o;exact ⟨fs,e,by omega,⟨v.i,v.s.fi v.x0,v.x0,v.a0,v.l0,v.r0,⟨_,.ref p,au,by rw [jg (u:=pv) ((f _).trans rfl)]; exact l,⟨p,rfl,p0,by rw [ah (sw (bO e hp (by nofun)))]; exact hp⟩,fun g=>((f.put "place" (.ref p)) g).trans rfl⟩,by rw [ah (sw v.xa.1)]; exact v.oa,by rw [ah (sw v.xa.2.1)]; exact v.ol,by rw [ah (sw v.xa.2.2)]; exact v.od,v.n1,v.n2,v.n3,v.hz⟩⟩
end
def W5 (N:Cn):Sp:=Ho fun x h z last H Q _=>X6 fun A L M dx H0 (root:Nat)=>A7 (aR N.CH N.CS N.CT H0 A L M) (A.a=h) (H x=some (.ins N.CW dx [])) (ag H0 H) (H0 x=none) (aI (sD M.ro) (.inr z)=some (.int (root:Int))) (∀ av lf rd H',aV N ⟨⟨L,M,z,last,root⟩,H0,A,x,dx,av,rd⟩ ⟨root,none,0,[],[],[],0,0⟩ H' lf .aq->Q .aq H')
def Rc:T.sj.k P w mg base 3 (W5 T.cn):=by
 refine T.sj.F.ok MP (fun _ _ _ _ h=>IF h fun _ _ _ _ _=>rfl) fun ax A outer s H vs Q E hr h=>IF h fun x hh z last h=>?_;obtain ⟨AA,L,M,dx,H0,root,i,rfl,hx,s0,x0,hz,q⟩:=h;refine bR (b:=aZ B6) ((ad (bD T.aJ T.eR (ac 0) (ac 1))
 (ad (bD T.aJ T.sA (ac 0) (ac 2))
 (ad (bD T.aJ T.JD (ac 0) (ac 3))
 (ad (bD T.aJ T.sL (ac 0) (bg T.aN T.jw.h (xC T) hr.m T.jw.b .nil aA (ac 1) (aa (ac 2) ae)))
 (ad (bD T.aJ T.eY (ac 0) (bn T.aJ T.sL (ac 0)))
 (ad (bD T.aJ T.vh (ac 0) aq)
 (ad (bD T.aJ T.BH (ac 0) am)
 (ad (bD T.aJ T.IC (ac 0) (db ae))
 (ad (bD T.aJ T.ly (ac 0) (db ae))
 (ad (bD T.aJ T.nW (ac 0) (db ae))
 (ad (bD T.aJ T.yR (ac 0) am)
 (ad (bD T.aJ T.Jn (ac 0) am)
 (ao (bD T.aJ T.lS (ac 0) aq))))))))))))))) ?_
 refine stI [some (V.ref x),some (V.ref AA.a),some (V.str z),some (V.bl last)] ?_;right;refine ⟨x,dx,_,rfl,hx,by decide,ai ?_⟩;left;refine ⟨x,dx,_,rfl,au,by walk_at "f",ai ?_⟩;left;refine ⟨x,dx,_,rfl,au,by walk_at "f",ai ?_⟩;simp only [ji];left;have s1:=s0.fi (o:=.ins T.bh dx (ay "last" (.bl last) (ay "asker" (.str z) (ay "house" (.ref AA.a) [])))) x0;have b1:upd H x (.ins T.bh dx (ay "last" (.bl last) (ay "asker" (.str z) (ay "house" (.ref AA.a) [])))) x=some (.ins T.bh dx (ay "last" (.bl last) (ay "asker" (.str z) (ay "house" (.ref AA.a) [])))):=au;generalize upd H x (.ins T.bh dx (ay "last" (.bl last) (ay "asker" (.str z) (ay "house" (.ref AA.a) []))))=H1 at s1 b1 ⊢;have i1:=i.same s1;obtain ⟨fs,c,bB,aU,sf⟩:=i1.h;refine (mI bB sf ⟨AA,L,M,root,i1,rfl,hz,?_⟩);refine ⟨x,dx,_,rfl,b1,by walk_at "f",ai ?_⟩;left;refine ⟨x,dx,_,_,rfl,au,rfl,x,dx,_,rfl,au,by walk_at "f",ai ?_⟩;left;refine ⟨x,dx,_,rfl,au,by walk_at "f",ai ?_⟩;left;refine ⟨x,dx,_,rfl,au,by walk_at "f",ai ?_⟩;simp only [ji];left;have J8:cZ (ay "step" (.int 0) (ay "place" .aq (ay "here" (.int (root:Int)) (ay "root" (.int (root:Int)) (ay "last" (.bl last) (ay "asker" (.str z) (ay "house" (.ref AA.a) []))))))) [("house",.ref AA.a),("asker",.str z),("last",.bl last),("root",.int (root:Int)),("here",.int (root:Int)),("place",.aq),("step",.int 0)]:=fun f=>rfl;have Kn:(ay "step" (.int 0) (ay "place" .aq (ay "here" (.int (root:Int)) (ay "root" (.int (root:Int)) (ay "last" (.bl last) (ay "asker" (.str z) (ay "house" (.ref AA.a) []))))))).length<=10:=by (repeat (refine bT ?_)); exact At _
 generalize (ay "step" (.int 0) (ay "place" .aq (ay "here" (.int (root:Int)) (ay "root" (.int (root:Int)) (ay "last" (.bl last) (ay "asker" (.str z) (ay "house" (.ref AA.a) [])))))))=F7 at J8 Kn ⊢;have s2:=s1.fi (o:=.ins T.bh dx F7) x0;have b2:upd H1 x (.ins T.bh dx F7) x=some (.ins T.bh dx F7):=au;generalize upd H1 x (.ins T.bh dx F7)=H2 at s2 b2 ⊢;have bM:∀ {J:Hp} {d:Addr},ag H0 J->J d=none->H0 d=none:=fun {J d} k hn=>by
  cases e:H0 d with
  | none=>rfl
  | some o=>rw [k d o e] at hn; cases hn
 refine ⟨fits (by simp),fun av sQ=>?_⟩;refine ⟨x,dx,_,rfl,by rw [ah (aH b2 sQ)]; exact b2,by omega,ai ?_⟩;obtain ⟨b3,o3,old3,n3⟩:=Aj (o:=.lst []) (O:=.ins T.bh dx (ay "asked" (.ref av) F7)) sQ b2;have s3:=(s2.trans (ag.upd (o:=.lst []) sQ)).fi (o:=.ins T.bh dx (ay "asked" (.ref av) F7)) x0;have av0:=bM s2 sQ;generalize upd (upd H2 av (.lst [])) x (.ins T.bh dx (ay "asked" (.ref av) F7))=H3 at b3 o3 old3 s3 ⊢;left;refine ⟨fits (by simp),fun lf hlf=>?_⟩;have l1:(ay "asked" (.ref av) F7).length<=11:=bT Kn;refine ⟨x,dx,_,rfl,by rw [ah (aH b3 hlf)]; exact b3,by omega,ai ?_⟩;obtain ⟨b4,o4,KQ,n4⟩:=Aj (o:=.lst []) (O:=.ins T.bh dx (ay "left" (.ref lf) (ay "asked" (.ref av) F7))) hlf b3;have s4:=(s3.trans (ag.upd (o:=.lst []) hlf)).fi (o:=.ins T.bh dx (ay "left" (.ref lf) (ay "asked" (.ref av) F7))) x0;have lf0:=bM s3 hlf;have Dc:av≠lf:=aH o3 hlf;have CV:=KQ av _ n3 o3;generalize upd (upd H3 lf (.lst [])) x (.ins T.bh dx (ay "left" (.ref lf) (ay "asked" (.ref av) F7)))=H4 at b4 o4 KQ s4 CV ⊢;left;refine ⟨fits (by simp),fun rd fR=>?_⟩;have l2:(ay "left" (.ref lf) (ay "asked" (.ref av) F7)).length<=12:=bT l1;refine ⟨x,dx,_,rfl,by rw [ah (aH b4 fR)]; exact b4,by omega,ai ?_⟩;obtain ⟨b5,o5,Cu,n5⟩:=Aj (o:=.lst []) (O:=.ins T.bh dx (ay "reading" (.ref rd) (ay "left" (.ref lf) (ay "asked" (.ref av) F7)))) fR b4;have s5:=(s4.trans (ag.upd (o:=.lst []) fR)).fi (o:=.ins T.bh dx (ay "reading" (.ref rd) (ay "left" (.ref lf) (ay "asked" (.ref av) F7)))) x0;have K1:=Cu av _ n3 CV;have Ld:=Cu lf _ n4 o4;have rd0:=bM s4 fR;have nar:av≠rd:=aH CV fR;have DO:lf≠rd:=aH o4 fR;generalize upd (upd H4 rd (.lst [])) x (.ins T.bh dx (ay "reading" (.ref rd) (ay "left" (.ref lf) (ay "asked" (.ref av) F7))))=H5 at b5 o5 Cu s5 K1 Ld ⊢;have l3:(ay "reading" (.ref rd) (ay "left" (.ref lf) (ay "asked" (.ref av) F7))).length<=13:=bT l2;left;refine ⟨x,dx,_,rfl,b5,by omega,ai ?_⟩;have l4:(ay "leads_read" (.int 0) (ay "reading" (.ref rd) (ay "left" (.ref lf) (ay "asked" (.ref av) F7)))).length<=14:=bT l3;left;refine ⟨x,dx,_,rfl,au,by omega,?_⟩;have l5:(ay "looked_up" (.int 0) (ay "leads_read" (.int 0) (ay "reading" (.ref rd) (ay "left" (.ref lf) (ay "asked" (.ref av) F7))))).length<=15:=bT l4;refine ⟨x,dx,_,rfl,au,by omega,?_⟩;simp only [ji];refine q av lf rd _ ⟨i,s5.fi x0,x0,av0,lf0,rd0,⟨_,.aq,au,wE (bT l5) (by decide),rfl,fun f=>?_⟩,by rw [ah n3]; exact K1,by rw [ah n4]; exact Ld,by rw [ah n5]; exact o5,Dc,nar,DO,hz⟩;exact ((((((J8.put "asked" (.ref av)).put "left" (.ref lf)).put "reading" (.ref rd)).put "leads_read" (.int 0)).put "looked_up" (.int 0)).put "told" .aq f).trans rfl
abbrev zc (k:Nat) (r:Str):List (Str×V):=ay "reason" (.str r) (ay "step" (.int (k:Int)) [])
inductive Tl
 | fail (y:Str)
 | ring (ns:List Nat)
def r8 (N:Cn) (H0 H:Hp) (step:Nat) (fd:Addr):Tl->Prop
 | .fail y=>H0 fd=none/\∃ bF,H fd=some (.ins N.CF bF (zc step y))
 | .ring ns=>H0 fd=none/\∃ bF rl,H fd=some (.ins N.CR bF (ay "leads" (.ref rl) []))/\H rl=some (.lst (nV ns))
structure rg (N:Cn) (c:Wc) (S:Ws) (lf:Addr) (o:Option Tl) (R:Hp->Prop):Prop where
 n:o=none->∀ H',aV N c S H' lf .aq->R H'
 y:∀ t,o=some t->∀ fd H',aV N c S H' lf (.ref fd)->r8 N c.H0 H' S.step fd t->R H'
def VE (N:Cn):Sp:=i5 fun x r H Q _=>X3 fun c S lf=>A3 (c.x=x) (aV N c S H lf .aq) (rg N c S lf (some (.fail r)) (Q .aq))
def aV.tells {N:Cn} {c:Wc} {S:Ws} {H H4:Hp} {lf fd bF C:Addr} {F:List (Str×V)} {t:Tl} (v:aV N c S H lf .aq) (cv:H fd=none) (s4:ag H H4) (b4:H4 fd=some (.ins C bF [])) :
  ∃ fs,upd H4 fd (.ins C bF F) c.x=some (.ins N.CW c.dx fs)/\fs.length < 1000/\aV N c S (upd (upd H4 fd (.ins C bF F)) c.x (.ins N.CW c.dx (ay "told" (.ref fd) fs))) lf (.ref fd)/\c.H0 fd=none/\c.x≠fd:=by
 obtain ⟨fs,pv,hx,aU,sf⟩:=v.fld;have f0:=v.fresh cv;have nx:c.x≠fd:=aH hx cv;have v5:=(v.same s4).off (o':=.ins C bF F) f0 b4 nx (aH v.oa cv) (aH v.ol cv) (aH v.od cv) (by nofun);obtain ⟨wc,mK,fc,_,v6⟩:=v5.put "told" (.ref fd) S (.ref fd) .aq;exact ⟨wc,mK,fc,v6,f0,nx⟩
def rL:T.gk.k P w mg base 3 (VE T.cn):=by
 refine T.gk.F.ok Vy (fun _ _ _ _ h=>eF h fun _ _ _=>rfl) fun ax A outer s H vs Q E hr h=>eF h fun x r h=>?_;obtain ⟨c,S,lf,rfl,v,q⟩:=h;refine bR (b:=aZ xG) ((ao (bD T.aJ T.lS (ac 0) (im T.Xg (Wj T) hr.m T.Qz T.qt.b .nil aA (aa (bn T.aJ T.BH (ac 0)) (aa (ac 1) ae)))))) ?_;refine stI [some (V.ref c.x),some (V.str r)] ?_;obtain ⟨fs,pv,hx,aU,sf⟩:=v.fld;left;refine (fI hx sf rfl (fun fd bF cv hdfd nfd=>?_));have s4:=(ag.upd (o:=.own fd) hdfd).trans (ag.upd (p:=fd) (o:=.ins T.er bF []) (by rw [ah (sw nfd)]; exact cv));have b4:upd (upd H bF (.own fd)) fd (.ins T.er bF []) fd=some (.ins T.er bF []):=au;generalize upd (upd H bF (.own fd)) fd (.ins T.er bF [])=H4 at s4 b4 ⊢;refine ⟨bF,b4,rfl,?_⟩;obtain ⟨wc,mK,fc,v6,f0,nx⟩:=v.tells (t:=.fail r) (F:=zc S.step r) cv s4 b4;exact ⟨c.x,_,_,rfl,mK,fc,q.y _ rfl fd _ v6 ⟨f0,bF,by rw [ah (sw nx)]; exact au⟩⟩
def ig:List Nat->Nat
 | []=>0
 | [a]=>a
 | a::b::r=>min a (ig (b::r))
def yK:∀ {ns:List Nat},ns≠[]->ig ns∈ns
 | [],h=>absurd rfl h
 | [a],_=>by simp [ig]
 | a::b::r,_=>by
  have:=yK (ns:=b::r) (by simp);unfold ig;rcases Nat.le_total a (ig (b::r)) with h | h
  ·rw [Nat.min_eq_left h]; simp
  ·rw [Nat.min_eq_right h]; exact Ev _ this
def Ji:∀ {ns:List Nat} {k:Nat},k∈ns->ig ns<=k
 | [a],k,h=>by rw [AC.mp h]; exact sB _
 | a::b::r,k,h=>by
  unfold ig;rcases ss.mp h with rfl | h
  ·exact Nat.min_le_left _ _
  ·exact wE (Nat.min_le_right _ _) (Ji h)
def kD (ns:List Nat):List Nat:=ns.drop (ns.idxOf (ig ns))++ns.take (ns.idxOf (ig ns))
def HB (ns:List Nat):nV ns=(ns.map (fun k:Nat=>(k:Int))).map V.int:=by
 unfold nV; rw [SZ]; rfl
def BS (k:Nat):∀ ns:List Nat,(ns.map (fun k:Nat=>(k:Int))).idxOf (k:Int)=ns.idxOf k
 | []=>rfl
 | a::r=>by
  have h:((a:Int) == (k:Int))=(a == k):=by
   rw [Zt,Zp,Zp]; omega
  rw [Fa,List.idxOf_cons,List.idxOf_cons,BS k r,h]
def mem_cast {k:Nat} {ns:List Nat} (h:k∈ns):(k:Int)∈ns.map (fun k:Nat=>(k:Int)):=Cl.mpr ⟨k,h,rfl⟩
def XT:Sp:=gd fun l H Q _=>X1 fun (ns:List Nat)=>A4 (H l=some (.lst (nV ns))) (ns≠[]) (ns.length<=500) (∀ l' H',ag H H'->H l'=none->H' l'=some (.lst (nV (kD ns)))->Q (.ref l') H')
def QU:T.nR.k P w base 1 XT:=by
 refine T.nR.F.ok F2 (fun _ _ _ _ h=>cQ h fun _ _=>rfl) fun ax A outer s H vs Q E hr h=>cQ h fun l h=>?_;obtain ⟨ns,hl,df,hlen,q⟩:=h;refine bR (b:=aZ Bm) ((ad (aS 1 F2.nd (dz _c PySem.F.type_list_index (Hx (K:=K) rfl) (ac 0) (aa (cj (Tc (K:=K) rfl rfl) T.Bh IP (aa (ac 0) ae)) ae)))
 (ao (aL (cr cR (jp (nN (K:=K) rfl) (ac 0) (lR (ac 1)) nS) (jp (nN (K:=K) rfl) (ac 0) nS (lR (ac 1)))))))) ?_
 refine stI [some (V.ref l),none] ?_;right;simp only [hl];have hS:aE K H l ((ns.map (fun k:Nat=>(k:Int))).map V.int):=aE.of (by rw [hl,HB]);refine ⟨_,_,hS,mem_cast (yK df),fun k hk=>?_,_,hS,mem_cast (yK df),nV ns,aE.of hl,fun p hp=>?_⟩
 ·obtain ⟨k',hk',rfl⟩:=Cl.mp hk;have:=Ji hk';omega
 rw [BS,Hh];refine fM (o:=.lst (List.drop (ns.idxOf (ig ns)) (nV ns))) hp fun H1 s1 b1=>?_;refine ⟨nV ns,aE.of (s1 _ _ hl),fun p2 cE=>?_⟩;rw [SS];refine fM (o:=.lst (List.take (ns.idxOf (ig ns)) (nV ns))) cE fun H2 s2 b2=>?_;simp only [s2 _ _ b1,b2];refine ⟨fits (by simp [nV]; omega),fun p3 fE=>?_⟩;refine q p3 _ ((s1.trans s2).trans (ag.upd fE)) ?_ ?_
 ·cases e:H p3 with
  | none=>rfl
  | some o=>rw [(s1.trans s2) _ _ e] at fE; cases fE
 ·rw [au];unfold kD nV;rw [Fr,List.map_drop,List.map_take]
def MR (C:Addr):Sp:=sC fun x l H Q _=>X2 fun dx ns=>A3 (H x=some (.ins C dx [])) (H l=some (.lst (nV ns))) (∀ rl,H rl=none->Q .aq (upd (upd H rl (.lst (nV ns))) x (.ins C dx (ay "leads" (.ref rl) []))))
def Uz:T.rY.k P w mg base 1 (MR T.fe):=by
 refine T.rY.F.ok NK (fun _ _ _ _ h=>kH h fun _ _ _=>rfl) fun ax A outer s H vs Q E hr h=>kH h fun x l h=>?_;obtain ⟨dx,ns,hx,hl,q⟩:=h;refine bR (b:=aZ zj) ((ao (bD T.GN T.MB (ac 0) (BG (VZ (K:=K) rfl) T.mf uf (aa (ac 1) ae))))) ?_;refine stI [some (V.ref x),some (V.ref l)] ?_;left;simp only [bC,hl];exact fun rl fS=>⟨x,dx,_,rfl,by rw [ah (aH hx fS)]; exact hx,by decide,q rl fS⟩
def cy (ps:List Str):List (Sum Nat Str):=(ps.map Sum.inr).reverse
def Gz (ps:List Str):(cy ps).map dj=(ps.map V.str).reverse:=by
 unfold cy;rw [List.map_reverse,SZ]; rfl
def Oj (N:Cn):Sp:=Es fun x fr lp H Q _=>Ju fun c S lf (st:Nat) (b:Nat) (ps:List Str) (r:List Nat) (a:Ta) (t:Th) (sn:Bool)=>Bu (c.x=x) (aV N c S H lf .aq) (H lp=some (.lst (ps.map V.str))) (fr=true/\st=c.root\/fr=false/\aI (sD c.M.st) (.inr c.z)=some (.int (st:Int))) (c.L[st]?=some a) (c.M.ts[st]?=some t) (dw c.M st b r) (∃ m,jE c.M c.L c.root m (cP b r) sn) (sn=true->∀ lf' H',aV N c { S with here:=cP b r,left:=cy ps } H' lf' .aq->Q .aq H') (sn=false->rg N c { S with here:=cP b r } lf (some (.fail "outside")) (Q .aq))
def Vw:T.qR.k P w mg base 7 (Oj T.cn):=by
 refine T.qR.F.ok Fy (fun _ _ _ _ h=>FL h fun _ _ _ _=>rfl) fun ax A outer s H vs Q E hr h=>FL h fun x fr lp h=>?_;obtain ⟨c,S,lf,st,b,ps,r,a,t,sn,rfl,v,m8,aO,ha,ht,C3,CO,q1,q2⟩:=h;obtain ⟨fs,pv,hx,aU,sf⟩:=v.fld;refine bR (b:=aZ AH) ((ad (aS 3 Fy.nd (Fs (cX (ac 1)) (bn T.aJ T.sL (ac 0)) (bg T.aN T.rn.h (V6 T) hr.m T.rn.b .nil aA (bn T.aJ T.eR (ac 0)) (aa (bn T.aJ T.sA (ac 0)) ae))))
 (ad (bD T.aJ T.eY (ac 0) (bv (uL T) hr.m T.fj.m T.fj.F.kp T.fj.b .nil aA (aa (bn T.aJ T.eR (ac 0)) (aa (ac 3) ae))))
 (ao (bb (cX (bv (Oa T) hr.m T.oO.m T.oO.F.kp T.oO.b .nil aA (aa (bn T.aJ T.eR (ac 0)) (aa (bn T.aJ T.sA (ac 0)) (aa (bn T.aJ T.eY (ac 0)) ae))))) (ao (bD T.aJ T.ly (ac 0) (Dv.listRev (K:=K) rfl rfl T.mf T.BB (ac 2)))) (ao (aX (bg T.aJ T.gk.h (rL T) hr.m T.gk.b .nil aA (ac 0) (aa bi ae))))))))) ?_
 refine stI [some (V.ref c.x),some (V.bl fr),some (V.ref lp),none] ?_;refine gj (fun σ' H'=>σ'=[some (V.ref c.x),some (V.bl fr),some (V.ref lp),some (V.int (st:Int))]/\H'=H) ?_ ?_
 ·left;rcases aO with ⟨rfl,rfl⟩ | ⟨rfl,aO⟩
  ·exact bS (fI hx sf rfl ⟨rfl,by trivial⟩)
  ·obtain ⟨j4,hc,hh,sZ,iI⟩:=v.m.h;exact bA (fI hx sf rfl (mI hh iI (fI hx sf rfl ⟨c.A,c.L,c.M,st,v.m,rfl,by rw [v.hz]; rfl,aO,rfl,by first | rfl | trivial⟩)))
 rintro σ' H' ⟨rfl,rfl⟩;right;refine (fI hx sf rfl ⟨c.A,c.L,c.M,st,b,r,a,t,v.m,rfl,rfl,ha,ht,C3,fun H1 s1=>?_⟩);have v1:=v.same s1;obtain ⟨g8,bB,iH,_,v2⟩:=v1.put "here" (.int ((cP b r:Nat):Int)) { S with here:=cP b r } .aq _;refine ⟨c.x,_,_,rfl,bB,by first | exact iH | exact mY | omega,?_⟩;have hlp1:=s1 _ _ m8;have Ci:lp≠c.x:=fun e=>by rw [e,hx] at m8; cases m8
 have LB:upd H1 c.x (.ins T.bh c.dx (ay "here" (.int ((cP b r:Nat):Int)) g8)) lp=some (.lst (ps.map V.str)):=by rw [ah Ci]; exact hlp1
 generalize upd H1 c.x (.ins T.bh c.dx (ay "here" (.int ((cP b r:Nat):Int)) g8))=H2 at v2 LB ⊢;obtain ⟨jr,mZ,cf,iK,ck⟩:=v2.fld;left;refine (fI cf ck rfl (fI cf ck rfl (fI cf ck rfl ⟨c.A,c.L,c.M,cP b r,c.root,sn,v2.m,rfl,rfl,v2.hz,CO,fun H3 s3=>?_⟩)));have v3:=v2.same s3;cases sn
 ·obtain ⟨iS,mD,dM,gz,et⟩:=v3.fld;exact bA (mI dM et ⟨c,_,lf,rfl,v3,q2 rfl⟩)
 ·refine bS ?_;refine ⟨lp,ps.map V.str,rfl,aE.of (s3 _ _ LB),fun l hl=>?_⟩;have v4:=v3.same (ag.upd (o:=.lst (ps.map V.str).reverse) hl);have b4:upd H3 l (.lst (ps.map V.str).reverse) l=some (.lst ((cy ps).map dj)):=by rw [au,Gz]
  have l0:=v3.fresh hl;have Dc:c.av≠l:=aH v3.oa hl;have DO:l≠c.rd:=sw (aH v3.od hl);generalize upd H3 l (.lst (ps.map V.str).reverse)=H4 at v4 b4 ⊢;obtain ⟨pF,iQ,mY,v5⟩:=v4.U2 l0 b4 Dc DO;exact ⟨c.x,_,_,rfl,iQ,by first | exact iH | exact mY | omega,q1 rfl l _ v5⟩
def iZ (M:Hs) (L:List Ta) (root:Nat):Nat->Nat->List Str->Prop
 | n,k,ns=>∃ b r a t,L[k]?=some a/\M.ts[k]?=some t/\dw M k b r /\
  if fz root (b::r)=true then ns=[]
  else ∃ ab tb f z,L[b]?=some ab/\M.ts[b]?=some tb/\tb.bf=[(f,z)]/\match n with | 0=>False | n+1=>∃ ns',ns=ns'++[z]/\iZ M L root n f ns'
def Nw (CH CS CT:Addr):Sp:=lz fun x z n H Q _=>X6 fun A L M (k:Nat) (root:Nat) ns=>A7 (aR CH CS CT H A L M) (A.a=x) (n=(k:Int)) (aI (sD M.ro) (.inr z)=some (.int (root:Int))) (∃ m,iZ M L root m k ns) (ns.length<=500) (∀ l H',ag H H'->H' l=some (.lst (ns.map V.str))->Q (.ref l) H')
def Sr:T.oG.k P w base 6 (Nw T.aK T.aQ T.aY):=by
 refine T.oG.F.ok oV (fun _ _ _ _ h=>fJ h fun _ _ _ _=>rfl) fun ax A outer s H vs Q E hr h=>fJ h fun x z n h=>?_;obtain ⟨AA,L,M,k,root,ns,i,rfl,rfl,hz,⟨m,hm⟩,hlen,q⟩:=h;obtain ⟨fs,c,hx,aU,sf⟩:=i.h;refine bR (b:=aZ zo) ((ad (aS 3 oV.nd (bg T.aN T.jw.h (xC T) hr.m T.jw.b .nil aA (ac 0) (aa (ac 1) ae)))
 (ad (aS 4 oV.nd (db ae))
 (ad (aS 5 oV.nd (bv (nK T) hr.m T.dJ.m T.dJ.F.kp T.dJ.b .nil aA (aa (ac 0) (aa (ac 2) ae))))
 (ad (l8 P3 (bc (zQ (K:=K) rfl) (ac 3) (ac 5)) (ad (aS 6 oV.nd (bg T.aN T.iu.h (uQ T) hr.m T.iu.b .nil aA (ac 0) (aa (ci (bt (K:=K) rfl) (ac 5) am) ae)))
 (ad (aX (dz wP wS dR (ac 4) (aa (ci (bt (K:=K) rfl) (ac 6) am) ae)))
 (ao (aS 5 oV.nd (bv (nK T) hr.m T.dJ.m T.dJ.F.kp T.dJ.b .nil aA (aa (ac 0) (aa (ci (bt (K:=K) rfl) (ac 6) am) ae))))))))
 (ao (aL (Dv.listRev (K:=K) rfl rfl T.mf T.BB (ac 4))))))))) ?_
 refine stI [some (V.ref AA.a),some (V.str z),some (V.int (k:Int)),none,none,none,none] ?_;right;refine (mI hx sf ⟨AA,L,M,root,i,rfl,hz,?_⟩);right;refine ⟨fits (by simp),fun ln kW=>?_⟩;refine fM (o:=.lst []) kW fun H1 s1 b1=>?_;have i1:=i.same s1;right;obtain ⟨b,r,a,t,ha,ht,aO,dF⟩:=(by unfold iZ at hm; exact hm:∃ b r a t,L[k]?=some a/\M.ts[k]?=some t/\dw M k b r/\_);refine ⟨AA,L,M,k,b,r,a,t,i1,rfl,rfl,ha,ht,aO,fun l2 H2 s2 hl20 cg=>?_⟩;have gZ:=s1.trans s2;have c1:=s2 _ _ b1;obtain ⟨PV,jV⟩:∃ PV:Nat->St->Hp->Prop,PV=fun m σ' H'=>ag H H'/\∃ (ls:Addr) (b:Nat) (r:List Nat) (cs ns':List Str) (pv:Option V),σ'=[some (V.ref AA.a),some (V.str z),some (V.int (k:Int)),some (V.int (root:Int)),some (V.ref ln),some (V.ref ls),pv]/\H' ls=some (.lst (nV (b::r)))/\H' ln=some (.lst (cs.map V.str))/\ns=ns'++cs.reverse /\
  (if fz root (b::r)=true then ns'=[]
   else ∃ ab tb f z,L[b]?=some ab/\M.ts[b]?=some tb/\tb.bf=[(f,z)]/\match m with | 0=>False | n+1=>∃ ns'',ns'=ns''++[z]/\iZ M L root n f ns''):=⟨_,rfl⟩
 refine ai ⟨PV,⟨m,by rw [jV]; exact ⟨gZ,l2,b,r,[],ns,none,rfl,cg,c1,by simp,dF⟩⟩,?_⟩;clear dF ha ht aO cg hl20 c1 hm gZ s2;intro m σ' H' hI;rw [jV] at hI;obtain ⟨s',ls,b,r,cs,ns',pv,rfl,LR,hln',fX,dF⟩:=hI;have i':=i.same s';obtain ⟨fs',c',hx',hfl',sf'⟩:=i'.h;left;refine ⟨_,.inl (aE.of LR),rfl,by simp [cM],?_⟩;rw [rq];cases hmem:fz root (b::r) with
 | true =>
  rw [Db hmem] at dF;subst dF;refine bA ?_;left;refine ⟨ln,_,rfl,aE.of hln',fun l hl=>?_⟩;refine q l _ (s'.trans (ag.upd hl)) ?_;rw [au,fX,List.nil_append,List.map_reverse]
 | false =>
  rw [Ch (by rw [hmem]; nofun)] at dF;obtain ⟨ab,tb,f,zz,dG,sP,bw,hn⟩:=dF;refine bS ⟨fun σ' H'=>∃ m',m' < m/\PV m' σ' H',fun σ' H' h=>h,?_⟩;right;simp only [bC,LR,nV,Fa,fv];refine ⟨AA.a,_,_,rfl,hx',(sf' _).trans rfl,AA,L,M,b,ab,tb,i',rfl,rfl,dG,sP,.inr ⟨f,zz,bw,fun p hp=>?_⟩⟩;right;simp only [hln',bC,hp,vZ];cases m with
  | zero=>exact hn.elim
  | succ m =>
   obtain ⟨ns2,hns2,hn⟩:=hn;have tQ:cs.length<=500:=by
    have:=Tm List.length fX;simp at this;omega
   refine ⟨gR (by rw [mo]; omega),?_⟩;have Ci:p≠ln:=bO hp hln' (by nofun);have s4:=s'.fi (o:=.lst (List.map V.str cs++[V.str zz])) kW;have b4:upd H' ln (.lst (List.map V.str cs++[V.str zz])) ln=some (.lst ((cs++[zz]).map V.str)):=by rw [au,Fr]; rfl
   have iM:upd H' ln (.lst (List.map V.str cs++[V.str zz])) p=some (.tup [V.int (f:Int),V.str zz]):=by rw [ah Ci]; exact hp
   generalize upd H' ln (.lst (List.map V.str cs++[V.str zz]))=H4 at s4 b4 iM ⊢;left;simp only [bC,iM,fv];obtain ⟨b2,r2,a2,t2,sS,iG,wO,DX⟩:=(by unfold iZ at hn; exact hn:∃ b r a t,L[f]?=some a/\M.ts[f]?=some t/\dw M f b r/\_);refine ⟨AA,L,M,f,b2,r2,a2,t2,i.same s4,rfl,rfl,sS,iG,wO,fun l5 H5 s5 jY fc=>⟨m,Os m,?_⟩⟩;rw [jV];refine ⟨s4.trans s5,l5,b2,r2,cs++[zz],ns2,_,rfl,fc,s5 _ _ b4,?_,DX⟩;rw [fX,hns2];simp
def qQ {a b:Nat} (h:(some (V.int (a:Int)):Option V)=some (V.int (b:Int))):a=b:=by
 have h1:=FM h;injection h1 with h2;omega
def jN.uniq {M:Hs}:∀ {n m k a b:Nat},jN M n k a->jN M m k b->a=b
 | 0,0,_,_,_,h,h'=>by rw [h.2,h'.2]
 | 0,_+1,_,_,_,h,h'=>by obtain ⟨_,e,_⟩:=h'; rw [h.1] at e; cases e
 | _+1,0,_,_,_,h,h'=>by obtain ⟨_,e,_⟩:=h; rw [h'.1] at e; cases e
 | _+1,_+1,_,_,_,h,h'=>by
  obtain ⟨k1,e1,h1⟩:=h; obtain ⟨k2,e2,h2⟩:=h';rw [e1] at e2; cases qQ e2; exact h1.uniq h2
def je.uniq {M:Hs}:∀ {n m k:Nat} {a b:List Nat},je M n k a->je M m k b->a=b
 | 0,0,_,_,_,h,h'=>by rw [h.2,h'.2]
 | 0,_+1,_,_,_,h,h'=>by obtain ⟨_,_,e,_⟩:=h'; rw [h.1] at e; cases e
 | _+1,0,_,_,_,h,h'=>by obtain ⟨_,_,e,_⟩:=h; rw [h'.1] at e; cases e
 | _+1,_+1,_,_,_,h,h'=>by
  obtain ⟨k1,r1,e1,h1,rfl⟩:=h; obtain ⟨k2,r2,e2,h2,rfl⟩:=h';rw [e1] at e2; cases qQ e2; rw [h1.uniq h2]
def dw.uniq {M:Hs} {k b b':Nat} {r r':List Nat} (h:dw M k b r) (h':dw M k b' r'):b=b'/\r=r':=by
 obtain ⟨⟨_,h1⟩,_,h2,_⟩:=h; obtain ⟨⟨_,h3⟩,_,h4,_⟩:=h';obtain rfl:=h1.uniq h3;exact ⟨rfl,h2.uniq h4⟩
inductive uY (c:Wd) (h:Nat):Nat->Prop
 | eL {a t b r}:c.L[h]?=some a->c.M.ts[h]?=some t->dw c.M h b r->fz c.root (b::r)=true->uY c h h
 | up {a t b r ab tb f zz af tf b' r'}:c.L[h]?=some a->c.M.ts[h]?=some t->dw c.M h b r->fz c.root (b::r)=false->c.L[b]?=some ab->c.M.ts[b]?=some tb->tb.bf=[(f,zz)]->c.L[f]?=some af->c.M.ts[f]?=some tf->dw c.M f b' r'->uY c h (cP b' r')
def Ql (N:Cn):Sp:=gd fun x H Q _=>X4 fun c S lf h'=>A4 (c.x=x) (aV N c S H lf .aq) (uY c.toWd S.here h') (∀ H',aV N c { S with here:=h' } H' lf .aq->Q .aq H')
def YA:T.qa.k P w mg base 7 (Ql T.cn):=by
 refine T.qa.F.ok Ff (fun _ _ _ _ h=>cQ h fun _ _=>rfl) fun ax A outer s H vs Q E hr h=>cQ h fun x h=>?_;obtain ⟨c,S,lf,h',rfl,v,hu,q⟩:=h;obtain ⟨fs,pv,hx,aU,sf⟩:=v.fld;refine bR (b:=aZ Bc) ((ad (aS 1 Ff.nd (bv (nK T) hr.m T.dJ.m T.dJ.F.kp T.dJ.b .nil aA (aa (bn T.aJ T.eR (ac 0)) (aa (bn T.aJ T.eY (ac 0)) ae))))
 (ao (bb (bc (zQ (K:=K) rfl) (bn T.aJ T.sL (ac 0)) (ac 1)) (ao (bD T.aJ T.eY (ac 0) (bv (uL T) hr.m T.fj.m T.fj.F.kp T.fj.b .nil aA (aa (bn T.aJ T.eR (ac 0)) (aa (ci (bt (K:=K) rfl) (bg T.aN T.iu.h (uQ T) hr.m T.iu.b .nil aA (bn T.aJ T.eR (ac 0)) (aa (ci (bt (K:=K) rfl) (ac 1) am) ae)) am) ae))))) ce)))) ?_
 refine stI [some (V.ref c.x),none] ?_;obtain ⟨a,t,b,r,ha,aP,aO⟩:∃ a t b r,c.L[S.here]?=some a/\c.M.ts[S.here]?=some t/\dw c.M S.here b r:=by
  cases hu <;> exact ⟨_,_,_,_,by assumption,by assumption,by assumption⟩
 right;refine (fI hx sf rfl (fI hx sf rfl ⟨c.A,c.L,c.M,S.here,b,r,a,t,v.m,rfl,rfl,ha,aP,aO,fun l H1 s1 hl0 hl=>?_⟩));have v1:=v.same s1;obtain ⟨g8,wk,bB,iH,dg⟩:=v1.fld;left;refine (fI bB dg rfl ⟨_,.inl (aE.of hl),rfl,by simp [cM],?_⟩);rw [rq];cases hu with
 | eL _ _ h1 hm =>
  obtain ⟨rfl,rfl⟩:=dw.uniq h1 aO;rw [hm];exact bA (q _ v1)
 | up _ _ h1 hm dG sP bw g9 bQ hst' =>
  obtain ⟨rfl,rfl⟩:=dw.uniq h1 aO;rw [hm];refine bS ?_;obtain ⟨j4,hc,hh,sZ,iI⟩:=v1.m.h;simp only [bC,hl,nV,Fa,fv];refine (fI bB dg rfl (fI bB dg rfl (mI hh iI ⟨c.A,c.L,c.M,_,_,_,v1.m,rfl,rfl,dG,sP,.inr ⟨_,_,bw,fun p hp=>?_⟩⟩)));simp only [hp,fv];refine ⟨c.A,c.L,c.M,_,_,_,_,_,v1.m,rfl,rfl,g9,bQ,hst',fun H2 s2=>?_⟩;obtain ⟨jr,cf,iK,_,v2⟩:=(v1.same s2).put "here" _ { S with here:=cP _ _ } .aq _;exact ⟨c.x,_,_,rfl,cf,iK,q _ v2⟩
def Er:T.lO.k P w mg base 3 (gH T.aK T.aQ T.aY Ad.a Aw):=by
 refine T.lO.F.ok Ox (fun _ _ _ _ h=>bV h fun _ _ _=>rfl) fun ax A outer s H vs Q E hr h=>bV h fun x n h=>?_;obtain ⟨AA,L,M,k,a,t,i,rfl,rfl,ha,aP,q⟩:=h;obtain ⟨fs,c,hx,aU,sf⟩:=i.h;obtain ⟨gs,c2,ht,du,sg⟩:=i.t;have cw:=ej i ha aP;obtain ⟨ks,ho,gC,so⟩:=cw.o;refine ⟨_,((ao (aL (bn T.cW T.Je (dS T.cb T.cK.h (gQ T) hr.m T.cK.b .nil fG (bn T.aN T.eM (ac 0)) (aa (ac 1) ae)))))).h,?_⟩;refine stI [some (V.ref AA.a),some (V.int (k:Int))] ?_;left;exact ⟨AA.a,_,_,.ref AA.t,rfl,hx,(sf _).trans rfl,AA.t,_,_,rfl,ht,(sg _).trans rfl,iy i ha aP (fI ho so rfl q)⟩
def Ac {n:Nat} (h:n<=9000):n<=sizeLine:=wE h (by decide)
def TZ (ps:List (List Nat)):PV ps=(ps.map Tx.S).map V.str:=by
 unfold PV
 first | rfl | simp [SZ,Zv]
def ic (t:List Nat):List Str:=(told (Tx.words 47 t) t).map Tx.S
def qP (S:Ws) (k:Nat) (ps:List Str) (h:Nat):Ws:={ S with read:=S.read+1,bu:=S.bu++[k],left:=(S.left++[.inl k])++cy ps,here:=h }
inductive rD (c:Wd) (S:Ws) (k:Nat):Ws->Prop
 | mk {a tc t ar tr b r}:c.L[k]?=some a->c.M.ts[k]?=some tc->tc.tx=Tx.S t->1<=t.length->t.length<=2000->(Tx.words 47 t).all bX=true->(ic t).length<=124->c.L[c.root]?=some ar->c.M.ts[c.root]?=some tr->dw c.M c.root b r->rD c S k (qP S k (ic t) (if eJ t=true then cP b r else S.here))
def Us (N:Cn):Sp:=jd fun x n H Q _=>X5 fun c S lf (k:Nat) S'=>A7 (c.x=x) (n=(k:Int)) (aV N c S H lf .aq) (S.left.length<=8000) (S.bu.length<=900) (rD c.toWd S k S') (∀ H',aV N c S' H' lf .aq->Q .aq H')
def Ot:T.qM.k P w mg base 7 (Us T.cn):=by
 refine T.qM.F.ok Fp (fun _ _ _ _ h=>bV h fun _ _ _=>rfl) fun ax A outer s H vs Q E hr h=>bV h fun x n h=>?_;obtain ⟨c,S,lf,k,S',rfl,rfl,v,hl,fR,hR,q⟩:=h;cases hR with
 | @mk a tc t ar tr b r ha mH mL h1 h2 kY iL har kP aO =>
 refine bR (b:=aZ Ay) ((ad (aS 2 Fp.nd (bv (l7 T) hr.m T.dm.m T.dm.F.kp T.dm.b .nil aA (aa (bg T.aN T.lO.h (Er T) hr.m T.lO.b .nil aA (bn T.aJ T.eR (ac 0)) (aa (ac 1) ae)) ae)))
 (ad (kq T.aJ T.yR ki (ac 0) am)
 (ad (aX (dz wP wS dR (bn T.aJ T.nW (ac 0)) (aa (ac 1) ae)))
 (ad (aX (dz wP wS dR (bn T.aJ T.ly (ac 0)) (aa (ac 1) ae)))
 (ad (aX (dz PySem.F.slot_list_extend PySem.F.type_list_extend Q2 (bn T.aJ T.ly (ac 0)) (aa (Dv.listRev (K:=K) rfl rfl T.mf T.BB (ci (bt (K:=K) rfl) (ac 2) am)) ae)))
 (ao (bb (cX (ci (bt (K:=K) rfl) (ac 2) am)) (ao (bD T.aJ T.eY (ac 0) (bv (uL T) hr.m T.fj.m T.fj.F.kp T.fj.b .nil aA (aa (bn T.aJ T.eR (ac 0)) (aa (bn T.aJ T.sL (ac 0)) ae))))) ce)))))))) ?_
 refine stI [some (V.ref c.x),some (V.int (k:Int)),none] ?_;obtain ⟨fs,pv,hx,aU,sf⟩:=v.fld;obtain ⟨j4,hc,hh,sZ,iI⟩:=v.m.h;right;refine (fI hx sf rfl (mI hh iI ⟨c.A,c.L,c.M,k,a,tc,v.m,rfl,rfl,ha,mH,?_⟩));simp only [Aw];refine ⟨t,mL,h1,h2,kY,fun H1 l p s1 hl0 gi hp=>?_⟩;have v1:=v.same s1;obtain ⟨g8,bB,iH,j0,v2⟩:=v1.put "leads_read" (.int ((S.read:Int)+1)) { S with read:=S.read+1 } .aq _;right;refine ⟨c.x,_,_,_,rfl,bB,j0,_,_,rfl,rfl,_,_,bB,iH,ai ?_⟩;have hpx:p≠c.x:=fun e=>by rw [e,bB] at hp; cases hp
 have hlx:l≠c.x:=fun e=>by rw [e,bB] at gi; cases gi
 have cE:upd H1 c.x (.ins T.bh c.dx (ay "leads_read" (.int ((S.read:Int)+1)) g8)) p=some (HO.tup [V.bl (eJ t),V.ref l]):=by rw [ah hpx]; exact hp
 have cg:upd H1 c.x (.ins T.bh c.dx (ay "leads_read" (.int ((S.read:Int)+1)) g8)) l=some (.lst (PV (told (Tx.words 47 t) t))):=by rw [ah hlx]; exact gi
 generalize upd H1 c.x (.ins T.bh c.dx (ay "leads_read" (.int ((S.read:Int)+1)) g8))=H2 at v2 cE cg ⊢;obtain ⟨jr,mZ,cf,iK,ck⟩:=v2.fld;left;refine (fI cf ck rfl ?_);simp only [v2.od];have v3:=v2.VQ k;refine ⟨gR (by simp; omega),ai ?_⟩;have nl0:l≠c.rd:=fun e=>by rw [e] at hl0; rw [v.od] at hl0; cases hl0
 have fE:upd H2 c.rd (.lst (nV S.bu++[V.int (k:Int)])) p=some (HO.tup [V.bl (eJ t),V.ref l]):=by rw [ah (sw (bO v2.od cE (by nofun)))]; exact cE
 have jk:upd H2 c.rd (.lst (nV S.bu++[V.int (k:Int)])) l=some (.lst (PV (told (Tx.words 47 t) t))):=by rw [ah nl0]; exact cg
 dsimp only at v3;generalize upd H2 c.rd (.lst (nV S.bu++[V.int (k:Int)]))=H3 at v3 fE jk ⊢;obtain ⟨iS,mD,dM,gz,et⟩:=v3.fld;left;refine (fI dM et rfl ?_);simp only [v3.ol];have v4:=v3.Ul k;refine ⟨xz (Os _) (Ac (by simp; omega)),ai ?_⟩;have iM:upd H3 lf (.lst (S.left.map dj++[V.int (k:Int)])) p=some (HO.tup [V.bl (eJ t),V.ref l]):=by rw [ah (sw (bO v3.ol fE (by nofun)))]; exact fE
 have nll:l≠lf:=fun e=>by rw [e] at hl0; rw [v.ol] at hl0; cases hl0
 have wx:upd H3 lf (.lst (S.left.map dj++[V.int (k:Int)])) l=some (.lst (PV (told (Tx.words 47 t) t))):=by rw [ah nll]; exact jk
 dsimp only at v4;generalize upd H3 lf (.lst (S.left.map dj++[V.int (k:Int)]))=H4 at v4 iM wx ⊢;obtain ⟨pF,Ml,iQ,mY,mC⟩:=v4.fld;left;refine (fI iQ mC rfl ?_);simp only [v4.ol];unfold yu;left;simp only [bC,iM,vZ];refine ⟨l,_,rfl,aE.of wx,fun l5 fc=>?_⟩;rw [TZ,show (List.map V.str (List.map Tx.S (told (Tx.words 47 t) t))).reverse=(cy (ic t)).map dj from (Gz _).symm];refine fM (o:=.lst ((cy (ic t)).map dj)) fc fun H5 s5 b5=>?_;have v5:=v4.same s5;have e5:H5 lf=some (.lst ((S.left++[Sum.inl k]).map dj)):=v5.ol;simp only [e5,b5];have m8:(cy (ic t)).length<=124:=by unfold cy; simpa using iL
 refine ⟨Ac (by simp at hl m8 ⊢; omega),?_⟩;have v6:=v5.MS (cy (ic t));have pM:=s5 _ _ iM;have wI:upd H5 lf (.lst ((S.left++[Sum.inl k]).map dj++(cy (ic t)).map dj)) p=some (HO.tup [V.bl (eJ t),V.ref l]):=by rw [ah (sw (bO v5.ol pM (by nofun)))]; exact pM
 dsimp only at v6;generalize upd H5 lf (.lst ((S.left++[Sum.inl k]).map dj++(cy (ic t)).map dj))=H6 at v6 wI ⊢;simp only [wI,fv];cases hrt:eJ t with
 | false =>
  rw [hrt] at q;exact bA (q _ v6)
 | true =>
  rw [hrt] at q;refine bS ?_;obtain ⟨fs6,pv6,LG,hfl6,Ka⟩:=v6.fld;refine (fI LG Ka rfl (fI LG Ka rfl ⟨c.A,c.L,c.M,c.root,b,r,ar,tr,v6.m,rfl,rfl,har,kP,aO,fun H7 s7=>?_⟩));obtain ⟨fs7,Dq,hfl7,_,v7⟩:=(v6.same s7).put "here" _ (qP S k (ic t) (cP b r)) .aq _;exact ⟨c.x,_,_,rfl,Dq,hfl7,q _ v7⟩
def bU {b:Bool} {A B:Prop} {i:Decidable (b=true)} (h:b=false) (hb:B):if b=true then A else B:=by rw [Ch (by rw [h]; decide)]; exact hb
def dC {b:Bool} {A B:Prop} {i:Decidable (b=true)} (h:b=true) (hb:A):if b=true then A else B:=by rw [Db h]; exact hb
section
variable {T:Tx K mg} {H:Hp} {A:Ad} {L:List Ta} {M:Hs}
def Iy {z s:Str} {k:Nat} {t:Th} {Q:VK} {E:XK} (i:aR T.aK T.aQ T.aY H A L M) (hz:(aI (sD M.ro) (.inr z)).isSome=true) (hs:jh (.str s)=true) (ht:M.ts[k]?=some t) (q:Q (.bl (bZ s (bK t z))) H):E6 T.aK T.aQ T.aY T.pC T.tw T.pj [.ref A.a,.str z,.int k,.str s] H Q E:=by
 refine ⟨A,L,M,i,rfl,⟨_,rfl⟩,⟨_,rfl⟩,⟨_,rfl⟩,fun h=>(by rw [h z rfl] at hz; cases hz),fun z' e _=>?_⟩;cases e;refine ⟨fun h=>(by rw [hs] at h; cases h),fun s' e _=>?_⟩;cases e;have bH:=(lv.mp ht).1;refine ⟨fun h=>absurd bH (h k rfl),fun k' t' e ht'=>?_⟩;cases e;rw [ht] at ht';cases ht';exact q
end
def Uk {k:Nat} {l:List Nat} (h:k∈l):fz k l=true:=List.any_eq_true.mpr ⟨k,h,by simp⟩
def JN {k:Nat} {l:List Nat} (h:k ∉ l):fz k l=false:=by
 unfold fz;rw [List.any_eq_false];intro x hx e;exact h (by rw [<- eq_of_beq e]; exact hx)
inductive sv (c:Wd) (S:Ws) (k:Nat):Ws->Option Tl->Prop
 | ring:k∈S.bu->sv c S k S (some (.ring (kD (S.bu.drop (S.bu.idxOf k)))))
 | many:k ∉ S.bu->S.read=40->sv c S k S (some (.fail "many"))
 | read {S'}:k ∉ S.bu->S.read≠40->rD c S k S'->sv c S k S' none
def Pu (N:Cn):Sp:=jd fun x n H Q _=>X6 fun c S lf (k:Nat) S' o=>A7 (c.x=x) (n=(k:Int)) (aV N c S H lf .aq) (S.left.length<=8000) (S.bu.length<=400) (sv c.toWd S k S' o) (rg N c S' lf o (Q .aq))
def N4:T.qg.k P w mg base 8 (Pu T.cn):=by
 refine T.qg.F.ok Wz (fun _ _ _ _ h=>bV h fun _ _ _=>rfl) fun ax A outer s H vs Q E hr h=>bV h fun x n h=>?_;obtain ⟨c,S,lf,k,S',o,rfl,rfl,v,hl,fR,hR,q⟩:=h;refine bR (b:=aZ yz) ((ao (bb (bc (Ap (K:=K) rfl) (ac 1) (bn T.aJ T.nW (ac 0))) (ao (bD T.aJ T.lS (ac 0) (im T.Vn (Uz T) hr.m T.Sz T.rY.b .nil aA (aa (bv (QU T) hr.m T.nR.m T.nR.F.kp T.nR.b .nil aA (aa (jp (nN (K:=K) rfl) (bn T.aJ T.nW (ac 0)) (lR (dz _c PySem.F.type_list_index (Hx (K:=K) rfl) (bn T.aJ T.nW (ac 0)) (aa (ac 1) ae))) nS) ae)) ae)))) (ao (bb (bc eA (bn T.aJ T.yR (ac 0)) (dl (.int 40) T.Vl ⟨_,rfl⟩)) (ao (aX (bg T.aJ T.gk.h (rL T) hr.m T.gk.b .nil aA (ac 0) (aa bi ae)))) (ao (aX (bg T.aJ T.qM.h (Ot T) hr.m T.qM.b .nil aA (ac 0) (aa (ac 1) ae))))))))) ?_;refine stI [some (V.ref c.x),some (V.int (k:Int))] ?_;obtain ⟨fs,pv,hx,aU,sf⟩:=v.fld;left;refine (fI hx sf rfl ⟨_,.inl (aE.of v.od),rfl,by simp [cM],?_⟩);rw [rq];cases hR with
 | many hk hm =>
  rw [JN hk];refine bA (fI hx sf rfl ?_);refine dC (AT (by omega)) (mI hx sf ⟨c,S,lf,rfl,v,q⟩)
 | read hk hm hR =>
  rw [JN hk];refine bA (fI hx sf rfl ?_);refine bU (ut (by omega)) (mI hx sf ⟨c,S,lf,k,_,rfl,rfl,v,hl,by omega,hR,q.n rfl⟩)
 | ring hk =>
  rw [Uk hk];refine bS (fI hx sf rfl (fI hx sf rfl ?_));simp only [v.od];refine ⟨_,aE.of (by rw [v.od,HB]),mem_cast hk,nV S.bu,aE.of v.od,fun p hp=>?_⟩;rw [BS,Hh];have e1:List.drop (S.bu.idxOf k) (nV S.bu)=nV (S.bu.drop (S.bu.idxOf k)):=by unfold nV; rw [List.map_drop]
  rw [e1];refine fM (o:=.lst (nV (S.bu.drop (S.bu.idxOf k)))) hp fun H1 s1 b1=>?_;have hj:S.bu.idxOf k < S.bu.length:=List.idxOf_lt_length_iff.mpr hk;refine ⟨_,b1,fun e=>by have:=Tm List.length e; simp at this; omega,by simp; omega,fun l2 H2 s2 l20 cg=>?_⟩;intro fd bF cv hdfd nfd;have v2:=(v.same s1).same s2;have s4:=(ag.upd (o:=.own fd) hdfd).trans (ag.upd (p:=fd) (o:=.ins T.fe bF []) (by rw [ah (sw nfd)]; exact cv));have b4:upd (upd H2 bF (.own fd)) fd (.ins T.fe bF []) fd=some (.ins T.fe bF []):=au;generalize upd (upd H2 bF (.own fd)) fd (.ins T.fe bF [])=H4 at s4 b4 ⊢;refine ⟨bF,_,b4,s4 _ _ cg,fun rl fS=>?_⟩;have s5:=s4.trans (ag.upd (o:=.lst (nV (kD (S.bu.drop (S.bu.idxOf k))))) fS);have b5:upd H4 rl (.lst (nV (kD (S.bu.drop (S.bu.idxOf k))))) fd=some (.ins T.fe bF []):=by rw [ah (aH b4 fS)]; exact b4
  have c5:upd H4 rl (.lst (nV (kD (S.bu.drop (S.bu.idxOf k))))) rl=some (.lst (nV (kD (S.bu.drop (S.bu.idxOf k))))):=au;have nr:=aH b4 fS;generalize upd H4 rl (.lst (nV (kD (S.bu.drop (S.bu.idxOf k)))))=H5 at s5 b5 c5 ⊢;obtain ⟨wc,mK,fc,v6,f0,nx⟩:=v2.tells (t:=.ring []) (F:=ay "leads" (.ref rl) []) cv s5 b5;have nrx:rl≠c.x:=fun e=>by rw [e] at c5; obtain ⟨fs7,pv7,Dq,_⟩:=(v2.same s5).fld; rw [Dq] at c5; cases c5
  exact ⟨rfl,c.x,_,_,rfl,mK,fc,q.y _ rfl fd _ v6 ⟨f0,bF,rl,by rw [ah (sw nx),au],by rw [ah nrx,ah (sw nr)]; exact c5⟩⟩
inductive nM (c:Wd) (S:Ws) (t:Th) (p:Str):Ws->Option Tl->Prop
 | no:aI (sD t.aw) (.inr p)=none->nM c S t p { S with look:=S.look+1 } (some (.fail "none"))
 | folder {k a tc b r}:aI (sD t.aw) (.inr p)=some (.int ((k:Nat):Int))->c.L[k]?=some a->c.M.ts[k]?=some tc->tc.kd=("folder" : Str)->dw c.M k b r->nM c S t p { S with look:=S.look+1,here:=cP b r } none
 | fin {k a tc}:aI (sD t.aw) (.inr p)=some (.int ((k:Nat):Int))->c.L[k]?=some a->c.M.ts[k]?=some tc->tc.kd≠("folder" : Str)->(tc.kd=("file" : Str)\/S.left=[]/\c.last=false)->nM c S t p { S with look:=S.look+1,place:=some (S.here,p),here:=k } none
 | lead {k a tc S' o}:aI (sD t.aw) (.inr p)=some (.int ((k:Nat):Int))->c.L[k]?=some a->c.M.ts[k]?=some tc->tc.kd≠("folder" : Str)->tc.kd≠("file" : Str)->¬ (S.left=[]/\c.last=false)->sv c { S with look:=S.look+1 } k S' o->nM c S t p S' o
def yk {T:Tx K mg} {c:Wc} {S:Ws} {H:Hp} {lf:Addr} {k:Nat} {nm:Str} {v3:Option V} {R:Hp->Prop} {Q:VK} (v2:aV T.cn c S H lf .aq) (q:∀ H',aV T.cn c { S with place:=some (S.here,nm),here:=k } H' lf .aq->R H') :
  si (qT T.bh "place" (jG 0) (uk (i9 (vE T.bh "here" (jG 0)) (i9 (jG 1) iC)))) (qT T.bh "here" (jG 0) (jG 2)) { nx:=fun _ H'=>R H',rt:=Q } [some (V.ref c.x),some (V.str nm),some (V.int (k:Int)),v3] H:=by
 obtain ⟨jr,mZ,cf,iK,ck⟩:=v2.fld;right;refine (fI cf ck rfl ⟨fits (by simp),fun p hp=>?_⟩);have w3:=v2.same (ag.upd (o:=.tup [V.int (S.here:Int),V.str nm]) hp);have b3:upd H p (.tup [V.int (S.here:Int),V.str nm]) p=some (.tup [V.int (S.here:Int),V.str nm]):=au;have p0:=v2.fresh hp;generalize upd H p (.tup [V.int (S.here:Int),V.str nm])=H3 at w3 b3 ⊢;obtain ⟨iS,dM,gz,v4⟩:=w3.placed p0 b3;refine ⟨c.x,_,_,rfl,dM,gz,?_⟩;generalize upd H3 c.x _=H4 at v4 ⊢;obtain ⟨pF,iQ,mY,_,v5⟩:=v4.put "here" (.int (k:Int)) { S with place:=some (S.here,nm),here:=k } .aq _;exact ⟨c.x,_,_,rfl,iQ,mY,q _ v5⟩
def Pl (N:Cn):Sp:=i5 fun x nm H Q _=>X7 fun c S lf a t S' o=>Bu (c.x=x) (aV N c S H lf .aq) (c.L[S.here]?=some a) (c.M.ts[S.here]?=some t) (eg (.str nm)=true) (nm.length<=1000) (S.left.length<=8000) (S.bu.length<=400) (nM c.toWd S t nm S' o) (rg N c S' lf o (Q .aq))
def Rj:T.qc.k P w mg base 9 (Pl T.cn):=by
 refine T.qc.F.ok AU (fun _ _ _ _ h=>eF h fun _ _ _=>rfl) fun ax A outer s H vs Q E hr h=>eF h fun x nm h=>?_;obtain ⟨c,S,lf,a,t,S',o,rfl,v,ha,aP,hn,jU,tD,fR,hb,q⟩:=h;refine bR (b:=aZ yA) ((ad (kq T.aJ T.Jn ki (ac 0) am)
 (ad (aS 2 AU.nd (bg T.aN T.gm.h (sI T) hr.m T.gm.b .nil aA (bn T.aJ T.eR (ac 0)) (aa (bn T.aJ T.eY (ac 0)) (aa (ac 1) ae))))
 (ad (bb (bc qi (ac 2) aq) (ad (aX (bg T.aJ T.gk.h (rL T) hr.m T.gk.b .nil aA (ac 0) (aa bi ae)))
 (ao HP)) ce)
 (ad (aS 3 AU.nd (bg T.aN T.iA.h (vD T) hr.m T.iA.b .nil aA (bn T.aJ T.eR (ac 0)) (aa (ac 2) ae)))
 (ao (bb (bc eA (ac 3) (dl (.str "folder") T.ve ⟨_,rfl⟩)) (ao (bD T.aJ T.eY (ac 0) (bv (uL T) hr.m T.fj.m T.fj.F.kp T.fj.b .nil aA (aa (bn T.aJ T.eR (ac 0)) (aa (ac 2) ae))))) (ao (bb (eB (dL (bc eA (ac 3) (dl (.str "file") T.y4 ⟨_,rfl⟩)) (gg (eB (io (bc (yF (K:=K) rfl hr.oY) (bn T.aJ T.ly (ac 0)) (db ae)) (sH (dN (cX (bn T.aJ T.JD (ac 0)))))))))) (ad (bD T.aJ T.vh (ac 0) (gl (aa (bn T.aJ T.eY (ac 0)) (aa (ac 1) ae))))
 (ao (bD T.aJ T.eY (ac 0) (ac 2)))) (ao (aX (bg T.aJ T.qg.h (N4 T) hr.m T.qg.b .nil aA (ac 0) (aa (ac 2) ae))))))))))))) ?_
 refine stI [some (V.ref c.x),some (V.str nm),none,none] ?_;obtain ⟨fs,hx,aU,j0,v1⟩:=v.put "looked_up" (.int ((S.look:Int)+1)) { S with look:=S.look+1 } .aq _;right;refine ⟨c.x,_,_,_,rfl,hx,j0,_,_,rfl,rfl,_,_,hx,aU,ai ?_⟩;generalize upd H c.x (.ins T.bh c.dx (ay "looked_up" (.int ((S.look:Int)+1)) fs))=H1 at v1 ⊢;obtain ⟨g8,wk,bB,iH,dg⟩:=v1.fld;obtain ⟨j4,hc,hh,sZ,iI⟩:=v1.m.h;left;refine (fI bB dg rfl (mI hh iI (fI bB dg rfl ⟨c.A,c.L,c.M,S.here,a,t,v1.m,rfl,rfl,ha,aP,hn,jU,fun H2 s2=>?_⟩)));have v2:=v1.same s2;obtain ⟨jr,mZ,cf,iK,ck⟩:=v2.fld;obtain ⟨hfs2,Cw,Ll,hhl2,hsf2⟩:=v2.m.h;by_cases kZ:aI (sD t.aw) (.inr nm)=none
 ·have he:S'={ S with look:=S.look+1 }/\o=some (.fail "none"):=by
   cases hb with
   | no _=>exact ⟨rfl,rfl⟩
   | folder h1=>rw [kZ] at h1; cases h1
   | fin h1=>rw [kZ] at h1; cases h1
   | lead h1=>rw [kZ] at h1; cases h1
  obtain ⟨rfl,rfl⟩:=he;rw [kZ];right;refine ⟨by trivial,bS ?_⟩;right;exact (mI cf ck ⟨c,_,lf,rfl,v2,q⟩)
 obtain ⟨k,ak,tc,hv,mX,mH⟩:∃ k a tc,aI (sD t.aw) (.inr nm)=some (.int ((k:Nat):Int))/\c.L[k]?=some a/\c.M.ts[k]?=some tc:=by
  cases hb with
  | no h=>exact absurd h kZ
  | folder h1 h2 h3=>exact ⟨_,_,_,h1,h2,h3⟩
  | fin h1 h2 h3=>exact ⟨_,_,_,h1,h2,h3⟩
  | lead h1 h2 h3=>exact ⟨_,_,_,h1,h2,h3⟩
 rw [hv];right;refine ⟨by trivial,?_⟩;rw [ut (by nofun)];refine bA ?_;right;refine (fI cf ck rfl (mI Ll hsf2 ⟨c.A,c.L,c.M,k,ak,tc,v2.m,rfl,rfl,mX,mH,?_⟩));simp only [qr];cases hb with
 | no h=>exact absurd h kZ
 | folder h1 h2 h3 cO aO =>
  rw [hv] at h1; cases qQ h1; rw [mH] at h3; cases h3;simp only [cO,decide_true];left;refine (fI cf ck rfl ⟨c.A,c.L,c.M,k,_,_,ak,_,v2.m,rfl,rfl,mX,mH,aO,fun H3 s3=>?_⟩);obtain ⟨iS,dM,gz,_,v3⟩:=(v2.same s3).put "here" _ { S with look:=S.look+1,here:=cP _ _ } .aq _;exact ⟨c.x,_,_,rfl,dM,gz,q.n rfl _ v3⟩
 | fin h1 h2 h3 cO hf =>
  rw [hv] at h1; cases qQ h1; rw [mH] at h3; cases h3;rw [ut cO];refine bA ?_;left;rcases hf with hf | ⟨hle,hla⟩
  ·exact dC (AT hf) ((Db trivial).mpr (yk v2 (q.n rfl)))
  ·by_cases hf:tc.kd=("file" : Str)
   ·exact dC (AT hf) ((Db trivial).mpr (yk v2 (q.n rfl)))
   refine bU (ut hf) (fI cf ck rfl ⟨fits (by simp),fun d hd=>?_⟩);have v3:=v2.same (ag.upd (o:=.lst []) hd);have b3:upd H2 d (.lst []) d=some (.lst []):=au;generalize upd H2 d (.lst [])=H3 at v3 b3 ⊢;obtain ⟨iS,mD,dM,gz,et⟩:=v3.fld;refine ⟨_,[],aE.of v3.ol,aE.of b3,.inl ⟨rfl,?_⟩⟩;refine dC (by rw [show ({ S with look:=S.look+1 }:Ws).left=[] from hle]; rfl) (fI dM et rfl (dC (by rw [hla]; rfl) (yk v3 (q.n rfl))))
 | lead h1 h2 h3 cO gr jU hm =>
  rw [hv] at h1; cases qQ h1; rw [mH] at h3; cases h3;rw [ut cO];refine bA ?_;left;refine bU (ut gr) (fI cf ck rfl ⟨fits (by simp),fun d hd=>?_⟩);have v3:=v2.same (ag.upd (o:=.lst []) hd);have b3:upd H2 d (.lst []) d=some (.lst []):=au;generalize upd H2 d (.lst [])=H3 at v3 b3 ⊢;obtain ⟨iS,mD,dM,gz,et⟩:=v3.fld;refine ⟨_,[],aE.of v3.ol,aE.of b3,.inl ⟨rfl,?_⟩⟩;by_cases hle:S.left=[]
  ·refine dC (by rw [show ({ S with look:=S.look+1 }:Ws).left=[] from hle]; rfl) (fI dM et rfl ?_);refine bU (by cases hb:c.last with | false=>exact absurd ⟨hle,hb⟩ jU | true=>rfl) ?_;exact (mI dM et ⟨c,_,lf,k,S',o,rfl,rfl,v3,tD,fR,hm,q⟩)
  ·refine bU (by cases h:S.left with | nil=>exact absurd h hle | cons _ _=>rfl) (bA ?_);exact (mI dM et ⟨c,_,lf,k,S',o,rfl,rfl,v3,tD,fR,hm,q⟩)
structure Bj (c:Wd) (S:Ws) (t:Th):Prop where
 l:∃ a,c.L[S.here]?=some a
 e:c.M.ts[S.here]?=some t
 k:t.kd=("folder" : Str)
 g:bZ ("g" : Str) (bK t c.z)=true
def dq (S:Ws):Ws:={ S with step:=S.step+1,asked:=S.asked++[S.here] }
inductive fH (c:Wd) (S:Ws) (p:Str):Ws->Option Tl->Prop
 | flat {a t}:c.L[S.here]?=some a->c.M.ts[S.here]?=some t->t.kd≠("folder" : Str)->fH c S p { S with step:=S.step+1 } (some (.fail "flat"))
 | vL {a t}:c.L[S.here]?=some a->c.M.ts[S.here]?=some t->t.kd=("folder" : Str)->bZ ("g" : Str) (bK t c.z)=false->fH c S p (dq S) (some (.fail "shut"))
 | dot {t}:Bj c S t->p=("." : Str)->fH c S p (dq S) none
 | up {t h}:Bj c S t->p=(".." : Str)->uY c S.here h->fH c S p { dq S with here:=h } none
 | go {t S' o}:Bj c S t->p≠(".." : Str)->p≠("." : Str)->eg (.str p)=true->p.length<=1000->nM c (dq S) t p S' o->fH c S p S' o
def Ms (N:Cn):Sp:=i5 fun x p H Q _=>X5 fun c S lf S' o=>A7 (c.x=x) (aV N c S H lf .aq) (S.asked.length<=8000) (S.left.length<=8000) (S.bu.length<=400) (fH c.toWd S p S' o) (rg N c S' lf o (Q .aq))
def Xj:T.qe.k P w mg base 10 (Ms T.cn):=by
 refine T.qe.F.ok Xd (fun _ _ _ _ h=>eF h fun _ _ _=>rfl) fun ax A outer s H vs Q E hr h=>eF h fun x p h=>?_;obtain ⟨c,S,lf,S',o,rfl,v,hn,tD,fR,hp,q⟩:=h;obtain ⟨a,t,ha,aP⟩:∃ a t,c.L[S.here]?=some a/\c.M.ts[S.here]?=some t:=by
  cases hp with
  | flat h1 h2=>exact ⟨_,_,h1,h2⟩
  | vL h1 h2=>exact ⟨_,_,h1,h2⟩
  | dot h=>obtain ⟨a,e⟩:=h.l; exact ⟨a,_,e,h.e⟩
  | up h=>obtain ⟨a,e⟩:=h.l; exact ⟨a,_,e,h.e⟩
  | go h=>obtain ⟨a,e⟩:=h.l; exact ⟨a,_,e,h.e⟩
 refine bR (b:=aZ Bk) ((ad (kq T.aJ T.BH ki (ac 0) am)
 (ad (bb (bc eX (bg T.aN T.iA.h (vD T) hr.m T.iA.b .nil aA (bn T.aJ T.eR (ac 0)) (aa (bn T.aJ T.eY (ac 0)) ae)) (dl (.str "folder") T.ve ⟨_,rfl⟩)) (ad (aX (bg T.aJ T.gk.h (rL T) hr.m T.gk.b .nil aA (ac 0) (aa bi ae)))
 (ao HP)) ce)
 (ad (aX (dz wP wS dR (bn T.aJ T.IC (ac 0)) (aa (bn T.aJ T.eY (ac 0)) ae)))
 (ao (bb (dN (cX (dS T.aN T.mh.h (JC T) hr.m T.mh.b .nil fG (bn T.aJ T.eR (ac 0)) (aa (bn T.aJ T.sA (ac 0)) (aa (bn T.aJ T.eY (ac 0)) (aa bi ae)))))) (ao (aX (bg T.aJ T.gk.h (rL T) hr.m T.gk.b .nil aA (ac 0) (aa bi ae)))) (ao (bb (bc eA (ac 1) bi) (ao (aX (rJ T.aJ T.qa.h (YA T) hr.m T.qa.b .nil aA (ac 0)))) (ao (bb (bc eX (ac 1) bi) (ao (aX (bg T.aJ T.qc.h (Rj T) hr.m T.qc.b .nil aA (ac 0) (aa (ac 1) ae)))) ce)))))))))) ?_
 refine stI [some (V.ref c.x),some (V.str p)] ?_;obtain ⟨fs,hx,aU,j0,v1⟩:=v.put "step" (.int ((S.step:Int)+1)) { S with step:=S.step+1 } .aq _;right;refine ⟨c.x,_,_,_,rfl,hx,j0,_,_,rfl,rfl,_,_,hx,aU,ai ?_⟩;generalize upd H c.x (.ins T.bh c.dx (ay "step" (.int ((S.step:Int)+1)) fs))=H1 at v1 ⊢;obtain ⟨g8,wk,bB,iH,dg⟩:=v1.fld;obtain ⟨j4,hc,hh,sZ,iI⟩:=v1.m.h;left;refine (fI bB dg rfl (mI hh iI (fI bB dg rfl ⟨c.A,c.L,c.M,S.here,a,t,v1.m,rfl,rfl,ha,aP,?_⟩)));simp only [qr];by_cases cO:t.kd=("folder" : Str)
 ·simp only [cO,decide_true];refine bA ?_;right;refine (fI bB dg rfl ?_);simp only [v1.oa];refine (fI bB dg rfl ?_);have v2:=v1.Om S.here;refine ⟨xz (Os _) (Ac (by simp; omega)),?_⟩;dsimp only at v2;generalize upd H1 c.av (.lst (nV S.asked++[.int (S.here:Int)]))=H2 at v2 ⊢;obtain ⟨jr,mZ,cf,iK,ck⟩:=v2.fld;obtain ⟨iR,gc,gh,iO,dv⟩:=v2.m.h;refine (fI cf ck rfl (mI gh dv (fI cf ck rfl (fI cf ck rfl (Iy v2.m (by rw [v2.hz]; rfl) (by decide +kernel) aP ?_)))));cases hp with
  | flat h1 h2 h3=>rw [aP] at h2; cases h2; exact absurd cO h3
  | vL h1 h2 h3 h4 =>
   rw [aP] at h2; cases h2;rw [h4];exact bS (mI cf ck ⟨c,_,lf,rfl,v2,q⟩)
  | dot hA h5 =>
   have h2:=hA.e; rw [aP] at h2; cases h2;subst h5;rw [hA.g];exact bA (bU (ut (by decide +kernel)) (bU (by rw [AT rfl]; rfl) (q.n rfl _ v2)))
  | up hA h5 hu =>
   have h2:=hA.e; rw [aP] at h2; cases h2;subst h5;rw [hA.g];exact bA (dC (AT rfl) (mI cf ck ⟨c,_,lf,_,rfl,v2,hu,q.n rfl⟩))
  | go hA h5 h6 h7 h8 hb =>
   have h2:=hA.e; rw [aP] at h2; cases h2;rw [hA.g];exact bA (bU (ut h5) (dC (by rw [ut h6]; rfl) (mI cf ck ⟨c,_,lf,a,_,_,_,rfl,v2,ha,aP,h7,h8,tD,fR,hb,q⟩)))
 ·refine dC (by rw [ut cO]; rfl) ?_;right;have hf:S'={ S with step:=S.step+1 }/\o=some (.fail "flat"):=by
   cases hp with
   | flat h1 h2 h3=>exact ⟨rfl,rfl⟩
   | vL h1 h2 h3 h4=>rw [aP] at h2; cases h2; exact absurd h3 cO
   | dot hA=>have h2:=hA.e; rw [aP] at h2; cases h2; exact absurd hA.k cO
   | up hA=>have h2:=hA.e; rw [aP] at h2; cases h2; exact absurd hA.k cO
   | go hA=>have h2:=hA.e; rw [aP] at h2; cases h2; exact absurd hA.k cO
  obtain ⟨rfl,rfl⟩:=hf;exact (mI bB dg ⟨c,_,lf,rfl,v1,q⟩)
def qS (c:Nat):∀ (ns:List Str) (n:Nat),(∀ s∈ns,s.length<=8)->ns.foldl (fun n z=>n+z.length+c) n<=n+(8+c) * ns.length
 | [],n,_=>by simp
 | y::r,n,h=>by
  have h1:=h y (by simp);have h2:=qS c r (n+y.length+c) fun s hs=>h s (by simp [hs]);rw [List.foldl_cons,GE,Nat.mul_add];omega
def uh {ns:List Str} (h:∀ s∈ns,s.length<=8) (hl:ns.length<=100):ns.foldl (fun n z=>n+z.length+(Str.ofString "/").length) 0<=900/\(Str.join (Str.ofString "/") ns).length<=900:=by
 have lj:(Str.ofString "/").length=1:=by decide +kernel
 have h1:=qS 1 ns 0 h;have h2:=StrLaws.join_length_le (Str.ofString "/") ns;have h3:(ns.map (·.length)).sum<=8 * ns.length:=by
  clear h1 h2 hl
  induction ns with
  | nil=>simp
  | cons y r ih =>
   have:=ih fun s hs=>h s (by simp [hs]);have h4:=h y (by simp);rw [Fa,List.sum_cons,GE];omega
 rw [lj] at h2 ⊢;omega
def Ie (ns:List Str):Str:=Str.ofString "/" ++ Str.join (Str.ofString "/") ns
def Sl (N:Cn):Sp:=gd fun x H Q _=>X9 fun c S lf (f:Nat) (a:Ta) (t:Th) (ns:List Str) (cG:List Str) (told:V)=>A9 (c.x=x) (aV N c S H lf told) (c.L[S.here]?=some a) (c.M.ts[S.here]?=some t) (t.kd=("folder" : Str)/\f=S.here/\cG=[]\/t.kd≠("folder" : Str)/\∃ nm:Str,S.place=some (f,nm)/\cG=[nm]/\nm.length<=8) (∃ m,iZ c.M c.L c.root m f ns) (ns.length<=99) (∀ s∈ns,s.length<=8) (∀ H',ag H H'->Q (.str (Ie (ns++cG))) H')
def Sg:T.qb.k P w mg base 7 (Sl T.cn):=by
 refine T.qb.F.ok rB (fun _ _ _ _ h=>cQ h fun _ _=>rfl) fun ax A outer s H vs Q E hr h=>cQ h fun x h=>?_;obtain ⟨c,S,lf,f,a,t,ns,cG,told,rfl,v,ha,aP,hk,fX,hl100,hn8,q⟩:=h;refine bR (b:=aZ yZ) ((ad (aS 1 rB.nd (db ae))
 (ad (aS 2 rB.nd (bn T.aJ T.eY (ac 0)))
 (ad (bb (bc eX (bg T.aN T.iA.h (vD T) hr.m T.iA.b .nil aA (bn T.aJ T.eR (ac 0)) (aa (bn T.aJ T.eY (ac 0)) ae)) (dl (.str "folder") T.ve ⟨_,rfl⟩)) (ad (aS 2 rB.nd (ci (bt (K:=K) rfl) (bn T.aJ T.vh (ac 0)) am))
 (ao (aS 1 rB.nd (db (aa (ci (bt (K:=K) rfl) (bn T.aJ T.vh (ac 0)) am) ae))))) ce)
 (ao (aL (cr cR bi (gq KK KM (jS (K:=K) rfl) bi (aa (cr cR (bv (Sr T) hr.m T.oG.m T.oG.F.kp T.oG.b .nil aA (aa (bn T.aJ T.eR (ac 0)) (aa (bn T.aJ T.sA (ac 0)) (aa (ac 2) ae)))) (ac 1)) ae))))))))) ?_
 refine stI [some (V.ref c.x),none,none] ?_;right;refine ⟨fits (by simp),fun ln kW=>?_⟩;refine fM (o:=.lst []) kW fun H1 s1 b1=>?_;have v1:=v.same s1;obtain ⟨fs,pv,hx,aU,Kb,sf⟩:=v1.o;obtain ⟨j4,hc,hh,sZ,iI⟩:=v1.m.h;right;refine (fI hx sf rfl ?_);refine gj (fun σ' H'=>∃ ln',σ'=[some (V.ref c.x),some (V.ref ln'),some (V.int (f:Int))]/\ag H H'/\H' ln'=some (.lst (cG.map V.str))/\cG.length<=1/\∀ s∈cG,s.length<=8) ?_ ?_
 ·left;refine (fI hx sf rfl (mI hh iI (fI hx sf rfl ⟨c.A,c.L,c.M,S.here,a,t,v1.m,rfl,rfl,ha,aP,?_⟩)));simp only [qr];rcases hk with ⟨cO,rfl,rfl⟩ | ⟨cO,nm,bw,rfl,cx⟩
  ·refine bU (by rw [AT cO]; rfl) ?_;exact ⟨ln,rfl,s1,b1,by simp,fun s hs=>(by cases hs)⟩
  ·refine dC (by rw [ut cO]; rfl) ?_;rw [bw] at Kb;obtain ⟨p,rfl,p0,hp⟩:=Kb;right;refine (fI hx sf rfl ?_);simp only [bC,hp,fv];refine (fI hx sf rfl ?_);simp only [hp,vZ];exact ⟨fits (by simp),fun p2 cE=>⟨p2,rfl,s1.trans (ag.upd cE),by rw [au]; rfl,by simp,fun s hs=>by rw [AC.mp hs]; exact cx⟩⟩
 rintro σ' H2 ⟨l2,rfl,s2,b2,gi,h8⟩;have v2:=v.same s2;obtain ⟨jr,mZ,cf,iK,ck⟩:=v2.fld;left;refine (fI cf ck rfl (fI cf ck rfl ⟨c.A,c.L,c.M,f,c.root,ns,v2.m,rfl,rfl,v2.hz,fX,by omega,fun l H3 s3 hl=>?_⟩));have c3:=s3 _ _ b2;simp only [hl,c3];have hn8':∀ s∈ns++cG,s.length<=8:=fun s hs=>by
  rcases LE.mp hs with hs | hs
  ·exact hn8 s hs
  ·exact h8 s hs
 obtain ⟨pK,wM⟩:=uh hn8' (by rw [ww]; omega);have lj:(Str.ofString "/").length=1:=by decide +kernel
 refine ⟨fits (by simp only [mo]; omega),fun p hp=>?_⟩;refine ⟨_,aE.of au,ns++cG,by simp,?_⟩;exact ⟨fits (by omega),fits (by omega),q _ ((s2.trans s3).trans (ag.upd hp))⟩
structure Bd (S:Ws):Prop where
 a:S.asked.length<=S.step
 p:S.step+S.left.length+125 * (40 - S.read)<=8000
 r:S.bu.length<=S.read
 q:S.read<=40
def F9 (ps:List Str):(cy ps).length=ps.length:=by unfold cy; simp
def rD.bd {c:Wd} {S S':Ws} {k:Nat} (h:rD c S k S') (a:S.asked.length<=S.step) (p:S.step+S.left.length+125 * (40 - S.read)<=8000) (r:S.bu.length<=S.read) (q:S.read < 40):Bd S':=by
 cases h with
 | @mk _ _ t _ _ _ _ h1 h2 h3 h4 h5 h6 h7 _ _ _ =>
  have e:=F9 (ic t);refine ⟨a,?_,by unfold qP; simp; omega,by unfold qP; simp; omega⟩;unfold qP;simp only [ww,GE,Z8,e];omega
def fH.Vs {c:Wd} {S S1:Ws} {p:Str} {o:Option Tl} (ba:S.asked.length<=S.step) (bp:S.step+1+S.left.length+125 * (40 - S.read)<=8000) (br:S.bu.length<=S.read) (bq:S.read<=40) (h:fH c S p S1 o):Bd S1:=by
 cases h with
 | flat=>exact ⟨by dsimp only; omega,by dsimp only; omega,br,bq⟩
 | vL=>exact ⟨by unfold dq; simp; omega,by unfold dq; dsimp only; omega,br,bq⟩
 | dot=>exact ⟨by unfold dq; simp; omega,by unfold dq; dsimp only; omega,br,bq⟩
 | up=>exact ⟨by unfold dq; simp; omega,by unfold dq; dsimp only; omega,br,bq⟩
 | go _ _ _ _ _ hb =>
  have a2:(dq S).asked.length<=(dq S).step:=by unfold dq; simp; omega
  have p2:(dq S).step+(dq S).left.length+125 * (40 - (dq S).read)<=8000:=by unfold dq; dsimp only; omega
  cases hb with
  | no=>exact ⟨a2,p2,br,bq⟩
  | folder=>exact ⟨a2,p2,br,bq⟩
  | fin=>exact ⟨a2,p2,br,bq⟩
  | lead _ _ _ _ _ _ hm =>
   cases hm with
   | ring=>exact ⟨a2,p2,br,bq⟩
   | many=>exact ⟨a2,p2,br,bq⟩
   | read _ h40 hr=>exact hr.bd a2 p2 br (Nat.lt_of_le_of_ne bq h40)
def fH.bd {c:Wd} {S S1:Ws} {l:List (Sum Nat Str)} {p:Str} {o:Option Tl} (b:Bd S) (e:S.left=l++[.inr p]) (h:fH c { S with left:=l } p S1 o):Bd S1:=by
 have bp:=b.p;rw [e,ww] at bp;have e1:[Sum.inr (α:=Nat) p].length=1:=rfl;exact fH.Vs (S:={ S with left:=l }) b.a (by dsimp only; omega) b.r b.q h
inductive dW (c:Wd):Nat->Ws->Ws->Option Tl->Prop
 | done {S}:S.left=[]->dW c 0 S S none
 | pop {n S k l r j S' o}:S.left=l++[.inl k]->S.bu=r++[j]->dW c n { S with left:=l,bu:=r } S' o->dW c (n+1) S S' o
 | step {n S p l S1 S' o}:S.left=l++[.inr p]->fH c { S with left:=l } p S1 none->dW c n S1 S' o->dW c (n+1) S S' o
 | fail {S p l S1 y}:S.left=l++[.inr p]->fH c { S with left:=l } p S1 (some y)->dW c 0 S S1 (some y)
abbrev BF (k:Nat) (ns:List Str):List (Str×V):=ay "way" (.str (Ie ns)) (ay "number" (.int (k:Int)) [])
def uw (M:Hs) (L:List Ta) (root:Nat) (S:Ws) (ns cG:List Str):Prop:=∃ (f:Nat) (a:Ta) (t:Th),L[S.here]?=some a/\M.ts[S.here]?=some t /\
   (t.kd=("folder" : Str)/\f=S.here/\cG=[]\/t.kd≠("folder" : Str)/\∃ nm:Str,S.place=some (f,nm)/\cG=[nm]/\nm.length<=8)/\(∃ m,iZ M L root m f ns)/\ns.length<=99/\(∀ s∈ns,s.length<=8)
def ML (N:Cn):Sp:=gd fun x H Q _=>X6 fun c S lf n S' o=>A6 (c.x=x) (aV N c S H lf .aq) (Bd S) (dW c.toWd n S S' o) (∀ y,o=some y->∀ fd H',aV N c S' H' lf (.ref fd)->r8 N c.H0 H' S'.step fd y->Q .aq H') (o=none->∃ ns cG,uw c.M c.L c.root S' ns cG/\∀ fd bF H',aV N c S' H' lf (.ref fd)->c.H0 fd=none->H' fd=some (.ins N.CG bF (BF S'.here (ns++cG)))->Q .aq H')
def UT:T.r6.k P w mg base 11 (ML T.cn):=by
 refine T.r6.F.ok Hj (fun _ _ _ _ h=>cQ h fun _ _=>rfl) fun ax A outer s H vs Q E hr h=>cQ h fun x h=>?_;obtain ⟨c,S,lf,n,S',o,rfl,v,fg,jt,q1,q2⟩:=h;refine bR (b:=aZ B4) ((ad (l8 P3 (eB (io (bc qi (bn T.aJ T.lS (ac 0)) aq) (sH (bc (NU (K:=K) rfl hr.oY) (bn T.aJ T.ly (ac 0)) (db ae))))) (ad (aS 1 Hj.nd (D9 PySem.F.slot_list_pop PySem.F.type_list_pop Ik (bn T.aJ T.ly (ac 0))))
 (ao (bb (cX (bv (EU T) hr.m T.jO.m T.jO.F.kp T.jO.b .nil aA (aa (ac 1) ae))) (ao (aX (D9 PySem.F.slot_list_pop PySem.F.type_list_pop Ik (bn T.aJ T.nW (ac 0))))) (ao (aX (bg T.aJ T.qe.h (Xj T) hr.m T.qe.b .nil aA (ac 0) (aa (ac 1) ae))))))))
 (ao (bb (bc qi (bn T.aJ T.lS (ac 0)) aq) (ao (bD T.aJ T.lS (ac 0) (im T.Pp (Xn T) hr.m T.F5 T.rP.b .nil aA (aa (bn T.aJ T.eY (ac 0)) (aa (rJ T.aJ T.qb.h (Sg T) hr.m T.qb.b .nil aA (ac 0)) ae))))) ce)))) ?_
 refine stI [some (V.ref c.x),none] ?_;obtain ⟨PV,jV⟩:∃ PV:Nat->St->Hp->Prop,PV=fun m σ' H'=>∃ pv:Option V,σ'=[some (V.ref c.x),pv] /\
   ((∃ n S,m=n+1/\aV T.cn c S H' lf .aq/\Bd S/\dW c.toWd n S S' o) \/
     (∃ y fd,m=0/\o=some y/\aV T.cn c S' H' lf (.ref fd)/\r8 T.cn c.H0 H' S'.step fd y)):=⟨_,rfl⟩
 refine ai ?_;refine ⟨PV,⟨n+1,by rw [jV]; exact ⟨none,rfl,.inl ⟨n,S,rfl,v,fg,jt⟩⟩⟩,?_⟩;clear v fg jt;intro m σ' H' hI;rw [jV] at hI;obtain ⟨pv,rfl,⟨n,S,hm,v1,fg,jt⟩ | ⟨y,fd,hm,ho,v1,cv⟩⟩:=hI
 ·left;obtain ⟨g8,wk,bB,iH,dg⟩:=v1.fld;refine (fI bB dg rfl ⟨by trivial,bS ?_⟩);refine (fI bB dg rfl ⟨fits (by simp),fun d hd=>?_⟩);have v2:=v1.same (ag.upd (o:=.lst []) hd);have b2:upd H' d (.lst []) d=some (.lst []):=au;generalize upd H' d (.lst [])=H2 at v2 b2 ⊢;obtain ⟨jr,mZ,cf,iK,ck⟩:=v2.fld;refine ⟨_,[],aE.of v2.ol,aE.of b2,.inl ⟨rfl,?_⟩⟩;cases jt with
  | done hle =>
   refine bU (by rw [hle]; rfl) ?_;refine (fI cf ck rfl ⟨by trivial,bS ?_⟩);obtain ⟨ns,cG,⟨f,a,t,h1,h2,h3,h4,h5,h6⟩,q⟩:=q2 rfl;refine (fI cf ck rfl (mI cf ck ⟨c,_,lf,f,a,t,ns,cG,_,rfl,v2,h1,h2,h3,h4,h5,h6,fun H3 s3=>?_⟩));intro fd bF cv hdfd nfd;have s4:=(ag.upd (o:=.own fd) hdfd).trans (ag.upd (p:=fd) (o:=.ins T.dZ bF []) (by rw [ah (sw nfd)]; exact cv));have b4:upd (upd H3 bF (.own fd)) fd (.ins T.dZ bF []) fd=some (.ins T.dZ bF []):=au;generalize upd (upd H3 bF (.own fd)) fd (.ins T.dZ bF [])=H4 at s4 b4 ⊢;refine ⟨bF,b4,rfl,?_⟩;obtain ⟨wc,mK,fc,v6,f0,nx⟩:=(v2.same s3).tells (t:=.ring []) (F:=BF S'.here (ns++cG)) cv s4 b4;exact ⟨c.x,_,_,rfl,mK,fc,q fd bF _ v6 f0 (by rw [ah (sw nx)]; exact au)⟩
  | @pop n _ k l r j _ _ hle lK jt =>
   refine dC (by rw [hle]; cases l <;> rfl) ⟨_,fun _ _ h=>h,?_⟩;right;refine (fI cf ck rfl ?_);simp only [v2.ol];refine ⟨l.map dj,V.int (k:Int),by rw [hle,Fr]; rfl,?_⟩;have v3:=v2.sF l;generalize upd H2 lf (.lst (l.map dj))=H3 at v3 ⊢;obtain ⟨iS,mD,dM,gz,et⟩:=v3.fld;refine ⟨⟨_,rfl⟩,bS ?_⟩;refine (fI dM et rfl ?_);simp only [v3.od];refine ⟨nV r,V.int (j:Int),by rw [lK,lG]; rfl,n+1,by omega,?_⟩;have v4:=v3.Iw r;dsimp only at v4;rw [jV];have ba:=fg.a; have bp:=fg.p; have br:=fg.r; have bq:=fg.q;rw [hle,ww] at bp;rw [lK,ww] at br;exact ⟨_,rfl,.inl ⟨n,_,rfl,v4,⟨ba,by dsimp only; omega,by dsimp only; omega,bq⟩,jt⟩⟩
  | @step n _ p l S1 _ _ hle aO jt =>
   refine dC (by rw [hle]; cases l <;> rfl) ⟨_,fun _ _ h=>h,?_⟩;right;refine (fI cf ck rfl ?_);simp only [v2.ol];refine ⟨l.map dj,V.str p,by rw [hle,Fr]; rfl,?_⟩;have v3:=v2.sF l;generalize upd H2 lf (.lst (l.map dj))=H3 at v3 ⊢;obtain ⟨iS,mD,dM,gz,et⟩:=v3.fld;refine ⟨⟨_,rfl⟩,bA ?_⟩;have ba:=fg.a; have bp:=fg.p; have br:=fg.r; have bq:=fg.q;rw [hle,ww] at bp;refine (mI dM et ⟨c,_,lf,_,_,rfl,v3,by dsimp only; omega,by dsimp only; omega,by dsimp only; omega,aO,fun _ H4 v4=>⟨n+1,by omega,?_⟩,fun y hy=>by cases hy⟩);rw [jV];exact ⟨_,rfl,.inl ⟨n,S1,rfl,v4,aO.bd fg hle,jt⟩⟩
  | @fail _ p l _ y hle aO =>
   refine dC (by rw [hle]; cases l <;> rfl) ⟨_,fun _ _ h=>h,?_⟩;right;refine (fI cf ck rfl ?_);simp only [v2.ol];refine ⟨l.map dj,V.str p,by rw [hle,Fr]; rfl,?_⟩;have v3:=v2.sF l;generalize upd H2 lf (.lst (l.map dj))=H3 at v3 ⊢;obtain ⟨iS,mD,dM,gz,et⟩:=v3.fld;refine ⟨⟨_,rfl⟩,bA ?_⟩;have ba:=fg.a; have bp:=fg.p; have br:=fg.r; have bq:=fg.q;rw [hle,ww] at bp;refine (mI dM et ⟨c,_,lf,_,_,rfl,v3,by dsimp only; omega,by dsimp only; omega,by dsimp only; omega,aO,(fun z=>by cases z),fun y' hy fd H4 v4 hf=>⟨0,by omega,?_⟩⟩);cases hy;rw [jV];exact ⟨_,rfl,.inr ⟨y,fd,rfl,rfl,v4,hf⟩⟩
 ·left;obtain ⟨g8,wk,bB,iH,dg⟩:=v1.fld;refine (fI bB dg rfl ⟨by trivial,?_⟩);refine bU (ut (by nofun)) ?_
  first
   | exact (fI bB dg rfl ⟨by trivial,bU (ut (by nofun)) (q1 y ho fd _ v1 cv)⟩)
   | exact bA (fI bB dg rfl ⟨by trivial,bU (ut (by nofun)) (q1 y ho fd _ v1 cv)⟩)
   | (left; exact (fI bB dg rfl ⟨by trivial,bU (ut (by nofun)) (q1 y ho fd _ v1 cv)⟩))
inductive Res
 | found (k:Nat) (ns:List Str)
 | failed (k:Nat) (y:Str)
 | ring (ns:List Nat)
structure End where
 asked:List Nat
 res:Res
def mw (N:Cn) (H:Hp) (fd:Addr):Res->Prop
 | .found k ns=>∃ bF,H fd=some (.ins N.CG bF (BF k ns))
 | .failed k y=>∃ bF,H fd=some (.ins N.CF bF (zc k y))
 | .ring ns=>∃ bF rl,H fd=some (.ins N.CR bF (ay "leads" (.ref rl) []))/\H rl=some (.lst (nV ns))
def mw.same {N:Cn} {H H':Hp} {fd:Addr} (s:ag H H'):∀ {r:Res},mw N H fd r->mw N H' fd r
 | .found _ _,⟨d,e⟩=>⟨d,s _ _ e⟩
 | .failed _ _,⟨d,e⟩=>⟨d,s _ _ e⟩
 | .ring _,⟨d,l,e,f⟩=>⟨d,l,s _ _ e,s _ _ f⟩
def BC (step:Nat):Tl->Res
 | .fail y=>.failed step y
 | .ring ns=>.ring ns
def r8.r {N:Cn} {H0 H:Hp} {k:Nat} {fd:Addr}:∀ {t:Tl},r8 N H0 H k fd t->mw N H fd (BC k t)
 | .fail _,⟨_,d,e⟩=>⟨d,e⟩
 | .ring _,⟨_,d,l,e,f⟩=>⟨d,l,e,f⟩
structure uE (d:Wd) (fr:Bool) (h:Nat):Prop where
 z:aI (sD d.M.ro) (.inr d.z)=some (.int (d.root:Int))
 ex:∃ (st b:Nat) (r:List Nat) (a:Ta) (t:Th),(fr=true/\st=d.root\/fr=false/\aI (sD d.M.st) (.inr d.z)=some (.int (st:Int)))/\d.L[st]?=some a/\d.M.ts[st]?=some t/\dw d.M st b r/\(∃ m,jE d.M d.L d.root m (cP b r) true)/\h=cP b r
inductive kg (d:Wd) (fr:Bool) (ps:List Str):End->Prop
 | told {h n S' t}:uE d fr h->ps.length<=2500->dW d n ⟨h,none,0,[],cy ps,[],0,0⟩ S' (some t)->kg d fr ps ⟨S'.asked,BC S'.step t⟩
 | found {h n S' ns cG}:uE d fr h->ps.length<=2500->dW d n ⟨h,none,0,[],cy ps,[],0,0⟩ S' none->uw d.M d.L d.root S' ns cG->kg d fr ps ⟨S'.asked,.found S'.here (ns++cG)⟩
def Up (N:Cn) (H H':Hp) (e:End) (x:Addr):Prop:=ag H H'/\∃ dx gs fd av,H' x=some (.ins N.CW dx gs)/\gs.lookup ("told" : Str)=some (.ref fd)/\mw N H' fd e.res/\gs.lookup ("asked" : Str)=some (.ref av)/\H' av=some (.lst (nV e.asked))
def U9 (N:Cn):Sp:=Fe fun h z fr lp last H Q _=>X6 fun A L M root ps e=>A5 (aR N.CH N.CS N.CT H A L M) (A.a=h) (H lp=some (.lst (ps.map V.str))) (kg ⟨L,M,z,last,root⟩ fr ps e) (∀ x H',Up N H H' e x->Q (.ref x) H')
def OQ:T.o7.k P w base 12 (U9 T.cn):=by
 refine T.o7.F.ok Ew (fun _ _ _ _ h=>IS h fun _ _ _ _ _ _=>rfl) fun ax A outer s H vs Q E hr h=>IS h fun hh z fr lp last h=>?_;obtain ⟨AA,L,M,root,ps,e,i,rfl,m8,g,q⟩:=h;obtain ⟨kN,bz,hb,iL,n,S',o,jt,f1,f2⟩:∃ h,aI (sD M.ro) (.inr z)=some (.int (root:Int))/\uE ⟨L,M,z,last,root⟩ fr h/\ps.length<=2500/\∃ n S' o,dW ⟨L,M,z,last,root⟩ n ⟨h,none,0,[],cy ps,[],0,0⟩ S' o/\(∀ y,o=some y->e=⟨S'.asked,BC S'.step y⟩)/\(o=none->∃ ns cG,uw M L root S' ns cG/\e=⟨S'.asked,.found S'.here (ns++cG)⟩):=by
  cases g with
  | told b hp hr=>exact ⟨_,b.z,b,hp,_,_,_,hr,fun y hy=>(by cases hy; rfl),fun z=>(by cases z)⟩
  | found b hp hr ht=>exact ⟨_,b.z,b,hp,_,_,_,hr,fun y hy=>(by cases hy),fun _=>⟨_,_,ht,rfl⟩⟩
 obtain ⟨st,b,r,a,t,aO,ha,ht,C3,CO,rfl⟩:=hb.ex;refine bR (b:=aZ yD) ((ad (aS 5 Ew.nd (im T.Po (Rc T) hr.m T.QZ T.sj.b .nil aA (aa (ac 0) (aa (ac 1) (aa (ac 4) ae)))))
 (ad (aX (bg T.aJ T.qR.h (Vw T) hr.m T.qR.b .nil aA (ac 5) (aa (ac 2) (aa (ac 3) ae))))
 (ad (aX (rJ T.aJ T.r6.h (UT T) hr.m T.r6.b .nil aA (ac 5)))
 (ao (aL (ac 5))))))) ?_
 refine stI [some (V.ref AA.a),some (V.str z),some (V.bl fr),some (V.ref lp),some (V.bl last),none] ?_;right;intro x dx hx jW ndx;have s1:=(ag.upd (o:=.own x) jW).trans (ag.upd (p:=x) (o:=.ins T.bh dx []) (by rw [ah (sw ndx)]; exact hx));have b1:upd (upd H dx (.own x)) x (.ins T.bh dx []) x=some (.ins T.bh dx []):=au;generalize upd (upd H dx (.own x)) x (.ins T.bh dx [])=H1 at s1 b1 ⊢;refine ⟨AA,L,M,dx,H,root,i,rfl,b1,s1,hx,bz,fun av lf rd H2 v2=>?_⟩;refine ⟨rfl,ai ?_⟩;left;obtain ⟨jr,mZ,cf,iK,ck⟩:=v2.fld;refine (mI cf ck ⟨_,_,lf,st,b,ps,r,a,t,true,rfl,v2,v2.s _ _ m8,aO,ha,ht,C3,CO,fun _ lf' H3 v3=>ai ?_,fun z=>by cases z⟩);left;obtain ⟨iS,mD,dM,gz,et⟩:=v3.fld;refine (mI dM et ⟨_,_,lf',n,S',o,rfl,v3,⟨At _,by have:=F9 ps; dsimp only; omega,At _,At _⟩,jt,fun y hy fd H4 v4 cv=>?_,fun ho=>?_⟩)
 ·obtain ⟨pF,Ml,iQ,mY,mC⟩:=v4.fld;have he:=f1 y hy;exact q x H4 ⟨v4.s,dx,pF,fd,av,iQ,(mC _).trans rfl,by rw [he]; exact cv.r,(mC _).trans rfl,by rw [he]; exact v4.oa⟩
 ·obtain ⟨ns,cG,ht,he⟩:=f2 ho;refine ⟨ns,cG,ht,fun fd bF H4 v4 f0 cv=>?_⟩;obtain ⟨pF,Ml,iQ,mY,mC⟩:=v4.fld;exact q x H4 ⟨v4.s,dx,pF,fd,av,iQ,(mC _).trans rfl,by rw [he]; exact ⟨bF,cv⟩,(mC _).trans rfl,by rw [he]; exact v4.oa⟩
structure om (d:Wd) (t:List Nat) (e:End):Prop where
 l1:1<=t.length
 l2:t.length<=2000
 all:(Tx.words 47 t).all bX=true
 g:kg d (eJ t) (ic t) e
inductive Rf
 | gp (y:Str)
 | way (r:Res)
def f7 (N:Cn) (H:Hp) (E:XK):Rf->Prop
 | .gp y=>∀ d H',ag H H'->H' d=some (.xd [("reason",.str y)])->E (.ref N.CD) (some d) H'
 | .way r=>∀ fd d H',ag H H'->mw N H' fd r->H' d=some (.xd [("told",.ref fd)])->E (.ref N.CN) (some d) H'
def f7.of {N:Cn} {H H1:Hp} {E:XK} {r:Rf} (s:ag H H1) (h:f7 N H E r):f7 N H1 E r:=by
 cases r with
 | gp y=>exact fun d H' s' e=>h d H' (s.trans s') e
 | way k=>exact fun fd d H' s' e1 e2=>h fd d H' (s.trans s') e1 e2
def f7.raise {N:Cn} {H H1:Hp} {E:XK} {y:Str} {d:Addr} (h:f7 N H E (.gp y)) (s:ag H H1) (hd:H1 d=none):E (.ref N.CD) (some d) (upd H1 d (.xd [("reason",.str y)])):=h d _ (s.trans (ag.upd hd)) au
def xk:T.lM.k P w mg base 1 (kc T.fQ "reason"):=by
 refine T.lM.F.ok MC (fun vs H Q E h=>?_) (fun ax A outer s H vs Q E hr h=>?_)
 ·unfold kc at h;split at h
  ·rfl
  ·exact h.elim
 ·unfold kc at h;split at h
  ·rename_i ea y;obtain ⟨he,q⟩:=h;refine ⟨_,((ao (Il T.uF (ac 0) (ac 1)))).h,?_⟩;refine stI [some (.ref ea),some y] ?_;walk_at "rd";exact ⟨ea,rfl,he,q⟩
  ·exact h.elim
def OY:T.rK.k P w mg base 1 (kc T.fU "told"):=by
 refine T.rK.F.ok WK (fun vs H Q E h=>?_) (fun ax A outer s H vs Q E hr h=>?_)
 ·unfold kc at h;split at h
  ·rfl
  ·exact h.elim
 ·unfold kc at h;split at h
  ·rename_i ea y;obtain ⟨he,q⟩:=h;refine ⟨_,((ao (Il T.Eg (ac 0) (ac 1)))).h,?_⟩;refine stI [some (.ref ea),some y] ?_;walk_at "rd";exact ⟨ea,rfl,he,q⟩
  ·exact h.elim
def PB (N:Cn):Sp:=gd fun fd H Q E=>X1 fun r=>A3 (mw N H fd r) (∀ k ns,r=.found k ns->Q (.int (k:Int)) H) ((∀ k ns,r≠.found k ns)->f7 N H E (.way r))
def M6:aC P w K mg base (cI P w) 3 T.nj.f T.nj.d ["told"] (PB T.cn):=by
 refine T.nj.F.eK WU (fun _ _ _ _ h=>cQ h fun _ _=>rfl) fun ax A outer s H vs Q E hr h=>cQ h fun fd h=>?_;obtain ⟨r,cv,q1,q2⟩:=h;refine bR (b:=aZ yr) ((ad (bb (dN (cX (cj (T4 (K:=K) rfl) T.gX gO (aa (ac 0) (aa (dl (.ref T.dZ) T.F5 rfl) ae))))) (ao (u7 uR rfl rfl T.Xc T.Eg T.Nu (OY T) hr.m T.rK.b (aa (ac 0) ae))) ce)
 (ao (aL (bn T.vW T.Jo (ac 0)))))) ?_
 refine stI [some (V.ref fd)] ?_;right;cases r with
 | found k ns =>
  obtain ⟨bF,hf⟩:=cv;exact ⟨_,_,_,.of (.ins hf T.vW T.q1 T.q2 T.q3 T.q4),.cls T.q5,bA ⟨fd,bF,_,_,rfl,hf,rfl,q1 k ns rfl⟩⟩
 | failed k y =>
  obtain ⟨bF,hf⟩:=id cv;exact ⟨_,_,_,.of (.ins hf T.yI T.q6 T.q2 T.q3 T.q7),.cls T.q8,bS ⟨_,rfl,fun d hd=>q2 (by nofun) fd d _ (ag.upd hd) (cv.same (ag.upd hd)) au⟩⟩
 | ring ns =>
  obtain ⟨bF,rl,hf,hl⟩:=id cv;exact ⟨_,_,_,.of (.ins hf T.GN T.Qs T.q2 T.q3 T.MV),.cls T.Pr,bS ⟨_,rfl,fun d hd=>q2 (by nofun) fd d _ (ag.upd hd) (cv.same (ag.upd hd)) au⟩⟩
inductive jP (ps:List (List Nat)):Option (List (List Nat)×List Nat)->Prop
 | nil:ps=[]->jP ps none
 | Aa {q nm}:ps=q++[nm]->isNm nm=false->nm.length<=8->jP ps none
 | Fb {q nm}:ps=q++[nm]->isNm nm=true->jP ps (some (q,nm))
structure fP (t:List Nat):Prop where
 l1:1<=t.length
 l2:t.length<=2000
 all:(Tx.words 47 t).all bX=true
def VF (N:Cn):Sp:=jR fun pt H Q E=>X2 fun t r=>A5 (pt=Tx.S t) (fP t) (jP (told (Tx.words 47 t) t) r) (∀ x,r=some x->∀ H',ag H H'->Q .aq H') (r=none->f7 N H E (.gp "dots"))
def nH {w:List Nat} (h:isNm w=true):47 ∉ w/\w≠[]/\1<=w.length/\w.length<=8:=by
 have hp:bX w=true:=by unfold bX; rw [h]; simp
 obtain ⟨h1,h2,_⟩:=JI h;exact ⟨(lW hp).1,(lW hp).2.1,h1,h2⟩
def Ej {w:List Nat} {b:Bool} (h:isNm w=b):eg (.str (Tx.S w))=b:=by
 show isNm (Tx.S w).cps.toList=b;rw [Tx.jx]; exact h
def rN {w:List Nat} (h:isNm w=true):eg (.str (Tx.S w))=true:=Ej h
def MO:aC P w K mg base (cI P w) 4 T.oy.f T.oy.d ["path"] (VF T.cn):=by
 refine T.oy.F.eK HQ (fun _ _ _ _ h=>eS h fun _ _=>rfl) fun ax A outer s H vs Q E hr h=>eS h fun pt h=>?_;obtain ⟨t,r,rfl,sp,hs,q1,q2⟩:=h;refine bR (b:=aZ yC) ((ad (aS 1 HQ.nd (ci (bt (K:=K) rfl) (bv (l7 T) hr.m T.dm.m T.dm.F.kp T.dm.b .nil aA (aa (ac 0) ae)) am))
 (ao (bb (eB (dL (bc (VM hr.oY) (ac 1) (db ae)) (gg (dN (cX (bv (Aq T) hr.m T.gU.m T.gU.F.kp T.gU.b .nil aA (aa (ci (bt (K:=K) rfl) (ac 1) (ii ky am)) ae))))))) (ao (u7 uR rfl rfl T.zF T.uF T.yP (xk T) hr.m T.lM.b (aa bi ae))) ce)))) ?_
 refine stI [some (V.str (Tx.S t)),none] ?_;right;refine ⟨t,rfl,sp.l1,sp.l2,sp.all,fun H1 l p s1 _ hl hp=>?_⟩;simp only [bC,hp];rw [show cz [V.bl (eJ t),V.ref l] 1=some (V.ref l) from rfl];refine ⟨fits (by simp),fun d hd=>?_⟩;refine fM (o:=.lst []) hd fun H2 s2 b2=>?_;have cg:=s2 _ _ hl;cases hs with
 | nil e =>
  rw [e] at cg;exact ⟨[],[],cg,b2,dC (AT rfl) ⟨_,rfl,fun d' hd'=>(q2 rfl).raise (s1.trans s2) hd'⟩⟩
 | @Aa qs nm e hn tD =>
  rw [e] at cg;have jk:H2 l=some (.lst (PV qs++[V.str (Tx.S nm)])):=by rw [cg]; simp [PV]
  refine ⟨qs.map Tx.S++[Tx.S nm],[],by rw [jk]; simp [PV],b2,?_⟩;rw [ut (by simp)];refine bA ?_;simp only [jk,pf];refine ⟨⟨_,rfl⟩,by show (Tx.S nm).length<=1000; rw [Tx.cB]; omega,fun H3 s3=>?_⟩;rw [Ej hn];exact bS ⟨_,rfl,fun d' hd'=>(q2 rfl).raise ((s1.trans s2).trans s3) hd'⟩
 | @Fb qs nm e hn =>
  rw [e] at cg;obtain ⟨h1,h2,h3,h4⟩:=nH hn;have jk:H2 l=some (.lst (PV qs++[V.str (Tx.S nm)])):=by rw [cg]; simp [PV]
  refine ⟨qs.map Tx.S++[Tx.S nm],[],by rw [jk]; simp [PV],b2,?_⟩;rw [ut (by simp)];refine bA ?_;simp only [jk,pf];refine ⟨⟨_,rfl⟩,by show (Tx.S nm).length<=1000; rw [Tx.cB]; omega,fun H3 s3=>?_⟩;rw [rN hn];exact bA (q1 _ rfl _ ((s1.trans s2).trans s3))
def qE {H H':Hp} {x:Addr} (s:ag H H') (h:H' x=none):H x=none:=by
 cases e:H x with
 | none=>rfl
 | some o=>rw [s _ _ e] at h; cases h
abbrev v9 (f:Nat) (nm:List Nat):List (Str×V):=ay "name" (.str (Tx.S nm)) (ay "folder" (.int (f:Int)) [])
inductive jc (d:Wd) (t:List Nat):Sum Rf (Nat×List Nat)->Prop
 | Aa:jP (told (Tx.words 47 t) t) none->jc d t (.inl (.gp "dots"))
 | way {q nm e}:jP (told (Tx.words 47 t) t) (some (q,nm))->q.length<=900->kg d (eJ t) (q.map Tx.S++[("." : Str)]) e->(∀ k ns,e.res≠.found k ns)->jc d t (.inl (.way e.res))
 | uA {q nm e f ns}:jP (told (Tx.words 47 t) t) (some (q,nm))->q.length<=900->kg d (eJ t) (q.map Tx.S++[("." : Str)]) e->e.res=.found f ns->jc d t (.inr (f,nm))
def Ov (N:Cn):Sp:=uq fun h z pt H Q E=>X6 fun A L M root t r=>A7 (pt=Tx.S t) (fP t) (aR N.CH N.CS N.CT H A L M) (A.a=h) (jc ⟨L,M,z,true,root⟩ t r) (∀ x,r=.inl x->f7 N H E x) (∀ f nm,r=.inr (f,nm)->∀ x dx H',H x=none->ag H H'->H' x=some (.ins N.CE dx (v9 f nm))->Q (.ref x) H')
def TM:aC P w K mg base (cI P w) 13 T.o1.f T.o1.d ["house","asker","path"] (Ov T.cn):=by
 refine T.o1.F.eK wW (fun _ _ _ _ h=>nu h fun _ _ _ _=>rfl) fun ax A outer s H vs Q E hr h=>nu h fun hh z pt h=>?_;obtain ⟨AA,L,M,root,t,r,rfl,sp,i,rfl,g,q1,q2⟩:=h;refine bR (b:=aZ Be) ((ad (aX (eG (MO T) hr.m T.oy.m T.oy.F.kp T.oy.b .nil cY (aa (ac 2) ae)))
 (ad (aS 3 wW.nd (bv (l7 T) hr.m T.dm.m T.dm.F.kp T.dm.b .nil aA (aa (ac 2) ae)))
 (ad (aS 4 wW.nd (bv (OQ T) hr.m T.o7.m T.o7.F.kp T.o7.b .nil aA (aa (ac 0) (aa (ac 1) (aa (ci (bt (K:=K) rfl) (ac 3) am) (aa (cr cR (jp (nN (K:=K) rfl) (ci (bt (K:=K) rfl) (ac 3) am) nS (lR (ii ky am))) (db (aa bi ae))) (aa em ae)))))))
 (ao (aL (im T.Nq (U1 T) hr.m T.SJ T.qJ.b .nil aA (aa (eG (M6 T) hr.m T.nj.m T.nj.F.kp T.nj.b .nil cY (aa (bn T.aJ T.lS (ac 4)) ae)) (aa (ci (bt (K:=K) rfl) (ci (bt (K:=K) rfl) (ac 3) am) (ii ky am)) ae))))))))) ?_
 refine stI [some (V.ref AA.a),some (V.str z),some (V.str (Tx.S t)),none,none] ?_;right;have hs:(r=.inl (.gp "dots")/\jP (told (Tx.words 47 t) t) none)\/∃ qs nm e,jP (told (Tx.words 47 t) t) (some (qs,nm))/\qs.length<=900/\kg ⟨L,M,z,true,root⟩ (eJ t) (qs.map Tx.S++[("." : Str)]) e/\((∀ k ns,e.res≠.found k ns)->r=.inl (.way e.res))/\∀ f ns,e.res=.found f ns->r=.inr (f,nm):=by
  cases g with
  | Aa h=>exact .inl ⟨rfl,h⟩
  | way h1 h2 h3 h4=>exact .inr ⟨_,_,_,h1,h2,h3,fun _=>rfl,fun f ns e=>absurd e (h4 f ns)⟩
  | uA h1 h2 h3 h4=>exact .inr ⟨_,_,_,h1,h2,h3,fun k=>absurd h4 (k _ _),fun f ns e=>by rw [h4] at e; cases e; rfl⟩
 rcases hs with ⟨rfl,hs⟩ | ⟨qs,nm,e,hs,hq,g,r1,r2⟩
 ·exact ⟨t,none,rfl,sp,hs,(fun x e=>by cases e),fun _=>q1 _ rfl⟩
 refine ⟨t,_,rfl,sp,hs,fun x _ H1 s1=>ai ?_,fun e=>by cases e⟩;have he:told (Tx.words 47 t) t=qs++[nm]:=by cases hs; assumption
 left;refine ⟨t,rfl,sp.l1,sp.l2,sp.all,fun H2 l p s2 _ hl hp=>ai ?_⟩;rw [he,show PV (qs++[nm])=PV qs++[V.str (Tx.S nm)] from by simp [PV]] at hl;left;simp only [bC,hp];rw [show cz [V.bl (eJ t),V.ref l] 1=some (V.ref l) from rfl,show cz [V.bl (eJ t),V.ref l] 0=some (V.bl (eJ t)) from rfl]
 try dsimp only
 refine ⟨_,aE.of hl,fun p1 DU=>?_⟩;rw [Yz];refine ⟨fits (by simp),fun p2 cE=>?_⟩;have s3:=(ag.upd (o:=.lst (PV qs)) DU).trans (ag.upd (o:=.lst [V.str (Str.ofString ".")]) cE);have n12:p1≠p2:=aH (au (o:=.lst (PV qs))) cE;have b3:upd (upd H2 p1 (.lst (PV qs))) p2 (.lst [V.str (Str.ofString ".")]) p1=some (.lst (PV qs)):=by rw [ah n12,au]
 have b4:upd (upd H2 p1 (.lst (PV qs))) p2 (.lst [V.str (Str.ofString ".")]) p2=some (.lst [V.str (Str.ofString ".")]):=au;generalize upd (upd H2 p1 (.lst (PV qs))) p2 (.lst [V.str (Str.ofString ".")])=H3 at s3 b3 b4 ⊢;simp only [b3,b4];refine ⟨fits (by simp; omega),fun p3 fE=>?_⟩;have s4:=s3.trans (ag.upd (o:=.lst (PV qs++[V.str (Str.ofString ".")])) fE);have b5:upd H3 p3 (.lst (PV qs++[V.str (Str.ofString ".")])) p3=some (.lst (PV qs++[V.str (Str.ofString ".")])):=au;generalize upd H3 p3 (.lst (PV qs++[V.str (Str.ofString ".")]))=H4 at s4 b5 ⊢;refine ⟨AA,L,M,root,qs.map Tx.S++[("." : Str)],e,i.same ((s1.trans s2).trans s4),rfl,by rw [b5]; simp [PV],g,?_⟩;rintro x H5 ⟨s5,dx,gs,fd,av,hx,hgs,cv,HI,sQ⟩;have h9:=((s1.trans s2).trans s4).trans s5;refine ⟨x,_,_,_,rfl,hx,hgs,_,cv,fun k ns hk=>?_,fun hk=>(q1 _ (r1 hk)).of h9⟩
 ·have pM:=(s4.trans s5) _ _ hp;have fc:=(s4.trans s5) _ _ hl;simp only [pM];rw [show cz [V.bl (eJ t),V.ref l] 1=some (V.ref l) from rfl];simp only [fc,pf]
  try dsimp only
  intro y dy hy hdy ndy;refine ⟨dy,au,rfl,?_⟩;rw [ji];exact q2 _ _ (r2 _ _ hk) y dy _ (qE h9 hy) (h9.trans ((ag.upd (o:=.own y) hdy).trans (ag.upd (p:=y) (by rw [ah (sw ndy)]; exact hy)))) au
def NC (N:Cn):Sp:=IK fun h z n r y H Q E=>X5 fun A L M t (k:Nat)=>A8 (n=(k:Int)) (aR N.CH N.CS N.CT H A L M) (A.a=h) ((aI (sD M.ro) (.inr z)).isSome=true) (jh (.str r)=true) (M.ts[k]?=some t) (bZ r (bK t z)=true->Q .aq H) (bZ r (bK t z)=false->f7 N H E (.gp y))
def Tj:aC P w K mg base (cI P w) 4 T.nz.f T.nz.d ["house","asker","number","right","reason"] (NC T.cn):=by
 refine T.nz.F.eK Q4 (fun _ _ _ _ h=>Hl h fun _ _ _ _ _ _=>rfl) fun ax A outer s H vs Q E hr h=>Hl h fun hh z n r rs h=>?_;obtain ⟨AA,L,M,t,k,rfl,i,rfl,hz,gu,ht,q1,q2⟩:=h;obtain ⟨iR,gc,gh,iO,dv⟩:=i.h;refine bR (b:=aZ y3) ((ao (bb (dN (cX (dS T.aN T.mh.h (JC T) hr.m T.mh.b .nil cY (ac 0) (aa (ac 1) (aa (ac 2) (aa (ac 3) ae)))))) (ao (u7 uR rfl rfl T.zF T.uF T.yP (xk T) hr.m T.lM.b (aa (ac 4) ae))) ce))) ?_;refine stI [some (V.ref AA.a),some (V.str z),some (V.int (k:Int)),some (V.str r),some (V.str rs)] ?_;left;refine (mI gh dv (Iy i hz gu ht ?_));cases hm:bZ r (bK t z) with
 | true=>exact bA (q1 hm)
 | false=>exact bS ⟨_,rfl,fun d hd=>(q2 hm).raise (fun _ _ e=>e) hd⟩
def VG (N:Cn):Sp:=lz fun h z n H Q E=>X5 fun A L M t (k:Nat)=>A7 (n=(k:Int)) (aR N.CH N.CS N.CT H A L M) (A.a=h) ((aI (sD M.ro) (.inr z)).isSome=true) (M.ts[k]?=some t) (bZ ("w" : Str) (bK t z)=true->Q .aq H) (bZ ("w" : Str) (bK t z)=false->f7 N H E (.gp "kept"))
def M8:aC P w K mg base (cI P w) 5 T.nB.f T.nB.d ["house","asker","folder"] (VG T.cn):=by
 refine T.nB.F.eK Qb (fun _ _ _ _ h=>fJ h fun _ _ _ _=>rfl) fun ax A outer s H vs Q E hr h=>fJ h fun hh z n h=>?_;obtain ⟨AA,L,M,t,k,rfl,i,rfl,hz,ht,q1,q2⟩:=h;refine bR (b:=aZ AN) ((ao (aX (eG (Tj T) hr.m T.nz.m T.nz.F.kp T.nz.b .nil cY (aa (ac 0) (aa (ac 1) (aa (ac 2) (aa bi (aa bi ae))))))))) ?_;refine stI [some (V.ref AA.a),some (V.str z),some (V.int (k:Int))] ?_;left;exact ⟨AA,L,M,t,k,rfl,i,rfl,hz,by decide +kernel,ht,q1,q2⟩
def Wq (N:Cn):Sp:=sC fun h x H Q _=>X8 fun A L M a t dx nm (k:Nat)=>A7 (aR N.CH N.CS N.CT H A L M) (A.a=h) (H x=some (.ins N.CE dx (v9 k nm))) (isNm nm=true) (L[k]?=some a) (M.ts[k]?=some t) (∀ H',ag H H'->Q ((aI (sD t.aw) (.inr (Tx.S nm))).getD .aq) H')
def RK:T.nA.k P w base 5 (Wq T.cn):=by
 refine T.nA.F.ok ND (fun _ _ _ _ h=>kH h fun _ _ _=>rfl) fun ax A outer s H vs Q E hr h=>kH h fun hh x h=>?_;obtain ⟨AA,L,M,a,t,dx,nm,k,i,rfl,hx,hn,ha,ht,q⟩:=h;obtain ⟨iR,gc,gh,iO,dv⟩:=i.h;obtain ⟨h1,h2,h3,h4⟩:=nH hn;refine bR (b:=aZ BN) ((ao (aL (bg T.aN T.gm.h (sI T) hr.m T.gm.b .nil aA (ac 0) (aa (bn T.mm T.vQ (ac 1)) (aa (bn T.mm T.Bi (ac 1)) ae)))))) ?_;refine stI [some (V.ref AA.a),some (V.ref x)] ?_;left;exact (mI gh dv ⟨x,_,_,_,rfl,hx,rfl,x,_,_,_,rfl,hx,rfl,AA,L,M,k,a,t,i,rfl,rfl,ha,ht,rN hn,by rw [Tx.cB]; omega,q⟩)
def MD (N:Cn):Sp:=sC fun h x H Q E=>X8 fun A L M a t dx nm (k:Nat)=>A8 (aR N.CH N.CS N.CT H A L M) (A.a=h) (H x=some (.ins N.CE dx (v9 k nm))) (isNm nm=true) (L[k]?=some a) (M.ts[k]?=some t) (aI (sD t.aw) (.inr (Tx.S nm))=none->∀ H',ag H H'->Q .aq H') (∀ c:Int,aI (sD t.aw) (.inr (Tx.S nm))=some (.int c)->f7 N H E (.gp "there"))
def WY {l:List (Str×Nat)} {z:Key} {v:V} (h:aI (sD l) z=some v):∃ c:Nat,v=.int (c:Int):=by
 unfold aI at h;obtain ⟨kv,h1,rfl⟩:=ZG.mp h;obtain ⟨e,_,rfl⟩:=Cl.mp (List.mem_of_find?_eq_some h1);exact ⟨_,rfl⟩
def MK:aC P w K mg base (cI P w) 6 T.oU.f T.oU.d ["house","seat"] (MD T.cn):=by
 refine T.oU.F.eK WV (fun _ _ _ _ h=>kH h fun _ _ _=>rfl) fun ax A outer s H vs Q E hr h=>kH h fun hh x h=>?_;obtain ⟨AA,L,M,a,t,dx,nm,k,i,rfl,hx,hn,ha,ht,q1,q2⟩:=h;refine bR (b:=aZ w6) ((ao (bb (bc xc (bv (RK T) hr.m T.nA.m T.nA.F.kp T.nA.b .nil aA (aa (ac 0) (aa (ac 1) ae))) aq) (ao (u7 uR rfl rfl T.zF T.uF T.yP (xk T) hr.m T.lM.b (aa bi ae))) ce))) ?_;refine stI [some (V.ref AA.a),some (V.ref x)] ?_;left;refine ⟨AA,L,M,a,t,dx,nm,k,i,rfl,hx,hn,ha,ht,fun H1 s1=>?_⟩;cases hv:aI (sD t.aw) (.inr (Tx.S nm)) with
 | none=>exact ⟨by trivial,bA (q1 hv H1 s1)⟩
 | some v =>
  obtain ⟨c,rfl⟩:=WY hv;exact ⟨by trivial,bS ⟨_,rfl,fun d hd=>(q2 _ hv).raise s1 hd⟩⟩
inductive ou (d:Wd) (t:List Nat):Sum Rf (Nat×List Nat)->Prop
 | no {x}:jc d t (.inl x)->ou d t (.inl x)
 | kept {f nm tf}:jc d t (.inr (f,nm))->d.M.ts[f]?=some tf->bZ ("w" : Str) (bK tf d.z)=false->ou d t (.inl (.gp "kept"))
 | there {f nm a tf c}:jc d t (.inr (f,nm))->isNm nm=true->d.L[f]?=some a->d.M.ts[f]?=some tf->bZ ("w" : Str) (bK tf d.z)=true->aI (sD tf.aw) (.inr (Tx.S nm))=some (.int (c:Int))->ou d t (.inl (.gp "there"))
 | free {f nm a tf}:jc d t (.inr (f,nm))->isNm nm=true->d.L[f]?=some a->d.M.ts[f]?=some tf->bZ ("w" : Str) (bK tf d.z)=true->aI (sD tf.aw) (.inr (Tx.S nm))=none->ou d t (.inr (f,nm))
def Uw (N:Cn):Sp:=uq fun h z pt H Q E=>X6 fun A L M root t r=>A8 (pt=Tx.S t) (fP t) (aR N.CH N.CS N.CT H A L M) (A.a=h) ((aI (sD M.ro) (.inr z)).isSome=true) (ou ⟨L,M,z,true,root⟩ t r) (∀ x,r=.inl x->f7 N H E x) (∀ f nm,r=.inr (f,nm)->∀ x dx H',H x=none->ag H H'->H' x=some (.ins N.CE dx (v9 f nm))->Q (.ref x) H')
def xb:aC P w K mg base (cI P w) 14 T.gG.f T.gG.d ["house","asker","path"] (Uw T.cn):=by
 refine T.gG.F.eK ER (fun _ _ _ _ h=>nu h fun _ _ _ _=>rfl) fun ax A outer s H vs Q E hr h=>nu h fun hh z pt h=>?_;obtain ⟨AA,L,M,root,t,r,rfl,sp,i,rfl,Df,g,q1,q2⟩:=h;refine bR (b:=aZ yG) ((ad (aS 3 ER.nd (eG (TM T) hr.m T.o1.m T.o1.F.kp T.o1.b .nil cY (aa (ac 0) (aa (ac 1) (aa (ac 2) ae)))))
 (ad (aX (eG (M8 T) hr.m T.nB.m T.nB.F.kp T.nB.b .nil cY (aa (ac 0) (aa (ac 1) (aa (bn T.mm T.vQ (ac 3)) ae)))))
 (ad (aX (eG (MK T) hr.m T.oU.m T.oU.F.kp T.oU.b .nil cY (aa (ac 0) (aa (ac 3) ae))))
 (ao (aL (ac 3))))))) ?_
 refine stI [some (V.ref AA.a),some (V.str z),some (V.str (Tx.S t)),none] ?_;right;cases g with
 | no g=>exact ⟨AA,L,M,root,t,_,rfl,sp,i,rfl,g,fun x e=>(by cases e; exact q1 _ rfl),fun f nm e=>by cases e⟩
 | kept g mG hw =>
  refine ⟨AA,L,M,root,t,_,rfl,sp,i,rfl,g,fun x e=>(by cases e),fun f nm e=>?_⟩;cases e;intro x dx H1 fx s1 hx;right;exact ⟨x,_,_,_,rfl,hx,rfl,AA,L,M,_,_,rfl,i.same s1,rfl,Df,mG,fun e=>(by rw [hw] at e; cases e),fun _=>(q1 _ rfl).of s1⟩
 | there g hn Dw mG hw hv =>
  refine ⟨AA,L,M,root,t,_,rfl,sp,i,rfl,g,fun x e=>(by cases e),fun f nm e=>?_⟩;cases e;intro x dx H1 fx s1 hx;right;refine ⟨x,_,_,_,rfl,hx,rfl,AA,L,M,_,_,rfl,i.same s1,rfl,Df,mG,fun _=>ai ?_,fun e=>by rw [hw] at e; cases e⟩;left;exact ⟨AA,L,M,_,_,dx,_,_,i.same s1,rfl,hx,hn,Dw,mG,fun e=>(by rw [hv] at e; cases e),fun _ _=>(q1 _ rfl).of s1⟩
 | free g hn Dw mG hw hv =>
  refine ⟨AA,L,M,root,t,_,rfl,sp,i,rfl,g,fun x e=>(by cases e),fun f nm e=>?_⟩;cases e;intro x dx H1 fx s1 hx;right;refine ⟨x,_,_,_,rfl,hx,rfl,AA,L,M,_,_,rfl,i.same s1,rfl,Df,mG,fun _=>ai ?_,fun e=>by rw [hw] at e; cases e⟩;left;exact ⟨AA,L,M,_,_,dx,_,_,i.same s1,rfl,hx,hn,Dw,mG,fun _ H2 s2=>q2 _ _ rfl x dx H2 fx (s1.trans s2) (s2 _ _ hx),fun _ e=>by rw [hv] at e; cases e⟩
def WB:Sp:=jR fun z H Q _=>z.length<=60/\Q (.bl true) H
def Tg:Sp:=jR fun z H Q _=>z.length<=60/\Q .aq H
def SV:T.n8.k P w base 1 WB:=by
 refine T.n8.F.ok Xz (fun _ _ _ _ h=>eS h fun _ _=>rfl) fun ax A outer s H vs Q E hr h=>eS h fun z h=>?_;obtain ⟨hz,q⟩:=h;refine ⟨_,((ao (aL (B0 (cj ij T.gX gO (aa (ac 0) (aa (il (.ty "str") T.ox nJ rfl) ae))) (Dv.one (f8 oq (cj (fZ (K:=K) rfl) T.f9 Op (aa (ac 0) ae)) (dl (.int 60) T.OZ ⟨_,rfl⟩))))))).h,?_⟩;refine stI [some (V.str z)] ?_;left;refine ⟨by decide,bS ⟨fits (by omega),?_⟩⟩;rw [AT (show (z.length:Int)<=60 by omega)];exact q
def RG:T.oM.k P w base 2 Tg:=by
 refine T.oM.F.ok SN (fun _ _ _ _ h=>eS h fun _ _=>rfl) fun ax A outer s H vs Q E hr h=>eS h fun z h=>?_;obtain ⟨hz,q⟩:=h;refine ⟨_,((ao (bb (dN (cX (bv (SV T) hr.m T.n8.m T.n8.F.kp T.n8.b .nil aA (aa (ac 0) ae)))) (ao iw) ce))).h,?_⟩;refine stI [some (V.str z)] ?_;left;exact ⟨hz,bA q⟩
def UR:T.qm.k P w mg base 4 (QY T.aQ T.aY):=by
 refine T.qm.F.ok WA (fun _ _ _ _ h=>IL h fun _ _ _ _ _ _=>rfl) fun ax A outer s H vs Q E hr h=>IL h fun x ow tx mi re h=>?_;obtain ⟨dt,ml,rs,at',fS,q⟩:=h;obtain ⟨fs,c,hx,aU,sf⟩:=at'.o;refine ⟨_,((ao (aL (bg T.cb T.jC.h (zp T) hr.m T.jC.b .nil aA (ac 0) (aa (dl (.str "file") T.y4 ⟨_,rfl⟩) (aa (ac 1) (aa (ac 3) (aa (ac 4) (aa (ac 2) ae))))))))).h,?_⟩;refine stI [some (.ref x),some ow,some tx,some mi,some re] ?_;left;exact ⟨x,dt,fs,rfl,hx,(sf _).trans rfl,dt,ml,rs,at',fS,q⟩
def XX:T.rR.k P w mg base 3 (gH T.aK T.aQ T.aY Ad.a D3):=by
 refine T.rR.F.ok Ui (fun _ _ _ _ h=>bV h fun _ _ _=>rfl) fun ax A outer s H vs Q E hr h=>bV h fun x n h=>?_;obtain ⟨AA,L,M,k,a,t,i,rfl,rfl,ha,aP,q⟩:=h;obtain ⟨fs,c,hx,aU,sf⟩:=i.h;obtain ⟨gs,c2,ht,du,sg⟩:=i.t;have cw:=ej i ha aP;obtain ⟨ks,ho,gC,so⟩:=cw.o;refine ⟨_,((ao (aL (bn T.cW T.Bv (dS T.cb T.cK.h (gQ T) hr.m T.cK.b .nil fG (bn T.aN T.eM (ac 0)) (aa (ac 1) ae)))))).h,?_⟩;refine stI [some (V.ref AA.a),some (V.int (k:Int))] ?_;left;exact ⟨AA.a,_,_,.ref AA.t,rfl,hx,(sf _).trans rfl,AA.t,_,_,rfl,ht,(sg _).trans rfl,iy i ha aP (fI ho so rfl q)⟩
section
variable {CH CS CT:Addr} {H H':Hp} {A:Ad} {L:List Ta} {M:Hs}
def aR.some (i:aR CH CS CT H A L M):∀ b∈A.w++L.flatMap Ta.l,∃ o,H b=.some o:=fun b hb=>by
 rcases LE.mp hb with h | h
 ·simp only [Ad.w,ss,u8,EQ] at h;rcases h with rfl | rfl | rfl | rfl | rfl | rfl | rfl | rfl
  ·obtain ⟨_,_,e,_⟩:=i.h; exact ⟨_,e⟩
  ·obtain ⟨_,_,e,_⟩:=i.t; exact ⟨_,e⟩
  ·exact ⟨_,i.ml⟩
  ·exact ⟨_,i.ro⟩
  ·exact ⟨_,i.st⟩
  ·exact ⟨_,i.tr⟩
  ·exact ⟨_,i.ov⟩
  ·exact ⟨_,i.un⟩
 ·obtain ⟨a,ha,hb⟩:=List.mem_flatMap.mp h;obtain ⟨k,hk⟩:=Zw ha;have bH:k < M.ts.length:=by rw [<- i.len]; exact (lv.mp hk).1
  obtain ⟨a',e1,t⟩:=i.th k _ (ul bH);rw [hk] at e1;cases e1;simp only [Ta.l,ss,u8,EQ] at hb;rcases hb with rfl | rfl | rfl
  ·obtain ⟨_,e,_⟩:=t.o; exact ⟨_,e⟩
  ·exact ⟨_,t.nm⟩
  ·exact ⟨_,t.pl⟩
def aR.add {th di nm pl:Addr} {ks:List (Str×V)} {kd ow mi re tx:Str} (i:aR CH CS CT H A L M) (f1:H th=none) (f2:H nm=none) (f3:H pl=none) (at':jy CS H' A.t A.dt A.ml ((L.map fun a=>V.ref a.th)++[.ref th])) (aP:H' th=Option.some (.ins CT di ks)) (kl:ks.length<=40)
  (sk:cZ ks (qY (.int (L.length:Nat)) (.str kd) (.str ow) (.str mi) (.str re) (.str tx) (.ref nm) (.ref pl))) (cx:H' nm=Option.some (.dK [])) (bw:H' pl=Option.some (.dT [])) (kp:Kp [A.t,A.ml] H H') :
  aR CH CS CT H' A (L++[⟨th,di,nm,pl⟩]) { M with ts:=M.ts++[⟨kd,ow,mi,re,tx,[],[]⟩] }:=by
 have nd:=i.nd;have sm:=i.some;have nw:∀ b∈A.w++L.flatMap Ta.l,b≠th/\b≠nm/\b≠pl:=fun b hb=>by
  obtain ⟨o,e⟩:=sm b hb;exact ⟨aH e f1,aH e f2,aH e f3⟩
 have h12:th≠nm:=bO aP cx (by nofun);have h13:th≠pl:=bO aP bw (by nofun);have h23:nm≠pl:=bO cx bw (by nofun);have n0:=nd;rw [GT] at n0;obtain ⟨n1,n2,n3⟩:=n0;simp only [Ad.w,Ix,ss,u8,EQ,ZP] at n1;have kA:∀ b∈[A.a,A.ro,A.st,A.tr,A.ov,A.un],b ∉ [A.t,A.ml]:=by
  intro b hb hm;simp only [ss,u8,EQ] at hb hm;rcases hb with rfl | rfl | rfl | rfl | rfl | rfl <;> rcases hm with h | h
  ·exact n1.1.1 h
  ·exact n1.1.2.1 h
  ·exact n1.2.1.2.1 h.symm
  ·exact n1.2.2.1.1 h.symm
  ·exact n1.2.1.2.2.1 h.symm
  ·exact n1.2.2.1.2.1 h.symm
  ·exact n1.2.1.2.2.2.1 h.symm
  ·exact n1.2.2.1.2.2.1 h.symm
  ·exact n1.2.1.2.2.2.2.1 h.symm
  ·exact n1.2.2.1.2.2.2.1 h.symm
  ·exact n1.2.1.2.2.2.2.2 h.symm
  ·exact n1.2.2.1.2.2.2.2 h.symm
 refine ⟨?_,at'.o,?_,by simp [i.len],fun j t e=>?_,kp _ _ (kA _ (by simp)) i.ro,kp _ _ (kA _ (by simp)) i.st,kp _ _ (kA _ (by simp)) i.tr,kp _ _ (kA _ (by simp)) i.ov,kp _ _ (kA _ (by simp)) i.un,?_⟩
 ·obtain ⟨fs,c,e,r⟩:=i.h;exact ⟨fs,c,kp _ _ (kA _ (by simp)) e,r⟩
 ·rw [at'.ml]; simp
 ·have e':(M.ts++[(⟨kd,ow,mi,re,tx,[],[]⟩:Th)])[j]?=.some t:=e;by_cases hj:j < M.ts.length
  ·rw [zn hj] at e';obtain ⟨a,e1,h1⟩:=i.th j t e';refine ⟨a,by rw [zn (by rw [i.len]; exact hj)]; exact e1,h1.keep kp fun b hb hm=>?_⟩;have mB:=kj e1 hb;simp only [ss,u8,EQ] at hm;rcases hm with rfl | rfl
   ·exact n3 _ (by simp [Ad.w]) _ mB rfl
   ·exact n3 _ (by simp [Ad.w]) _ mB rfl
  ·rw [Fk (by omega)] at e';have hj0:j - M.ts.length=0:=by
    rcases Nat.eq_zero_or_pos (j - M.ts.length) with h | h
    ·exact h
    ·rw [ZO (by simp; omega)] at e'; cases e'
   rw [hj0] at e';cases e';have hjl:j=L.length:=by rw [i.len]; omega
   subst hjl;exact ⟨_,by rw [Fk (sB _),Nat.sub_self]; rfl,⟨⟨ks,aP,kl,sk⟩,cx,bw⟩⟩
 ·rw [List.flatMap_append,<- T0,GT];refine ⟨nd,?_,fun b hb c hc e=>?_⟩
  ·simp only [Uf,List.flatMap_nil,_t,Ta.l,Ix,ss,u8,EQ,ZP,_k,_h,and_true];exact ⟨⟨h12,h13⟩,h23⟩
  ·obtain ⟨q1,q2,q3⟩:=nw b hb;simp only [Uf,List.flatMap_nil,_t,Ta.l,ss,u8,EQ] at hc;rcases hc with h | h | h
   ·exact q1 (e.trans h)
   ·exact q2 (e.trans h)
   ·exact q3 (e.trans h)
end
def GL (CH CS CT CE:Addr):Sp:=xt fun h x n H Q _=>FY fun A L M (f:Nat) (k:Nat) af tf ak tk dx nm=>AK (aR CH CS CT H A L M) (A.a=h) (H x=some (.ins CE dx (ay "name" (.str nm) (ay "folder" (.int (f:Int)) [])))) (n=(k:Int)) (L[f]?=some af) (M.ts[f]?=some tf) (L[k]?=some ak) (M.ts[k]?=some tk) (f≠k) (aI (sD tf.aw) (.inr nm)=none) (tf.aw.length<=500) (tk.bf=[]) (∀ H',aR CH CS CT H' A L { M with ts:=(M.ts.set f { tf with aw:=tf.aw++[(nm,k)] }).set k { tk with bf:=[(f,nm)] } }->Kp [A.t,af.nm,ak.pl] H H'->Q (.int (k:Int)) H')
def w8:T.gW.k P w base 6 (GL T.aK T.aQ T.aY T.jX):=by
 refine T.gW.F.ok UE (fun _ _ _ _ h=>uj h fun _ _ _ _=>rfl) fun ax A outer s H vs Q E hr h=>uj h fun hh x n h=>?_;obtain ⟨AA,L,M,f,k,af,tf,ak,tk,dx,nm,i,rfl,hx,rfl,g9,bQ,hU,eC,df,hv,hl,bw,q⟩:=h;obtain ⟨iR,gc,gh,iO,dv⟩:=i.h;obtain ⟨gs,c2,ht,du,sg⟩:=i.t;refine bR (b:=aZ ye) ((ad (aX (bg T.cb T.qB.h (R3 T) hr.m T.qB.b .nil aA (bn T.aN T.eM (ac 0)) (aa (bn T.mm T.vQ (ac 1)) (aa (bn T.mm T.Bi (ac 1)) (aa (ac 2) ae)))))
 (ao (aL (ac 2))))) ?_
 refine stI [some (V.ref AA.a),some (V.ref x),some (V.int (k:Int))] ?_;right;exact (fI gh dv rfl (mI ht sg ⟨x,_,_,_,rfl,hx,rfl,x,_,_,_,rfl,hx,rfl,AA,L,M,f,k,af,tf,ak,tk,i,rfl,rfl,rfl,g9,bQ,hU,eC,df,hv,hl,bw,q⟩))
def pX (CH CS CT:Addr) (A:Ad) (L:List Ta) (M:Hs) (f:Nat) (t0:Th) (a0:Ta) (nm kd ow mi re tx:Str) (H:Hp) (Q:VK):Prop :=
 ∀ a H',(∀ b∈a.l,H b=none)->aR CH CS CT H' A (L++[a]) { M with ts:=M.ts.set f { t0 with aw:=t0.aw++[(nm,M.ts.length)] }++[⟨kd,ow,mi,re,tx,[],[(f,nm)]⟩] }->Kp [A.t,A.ml,a0.nm] H H'->Q (.int (M.ts.length:Nat)) H'
def Jb {α:Type} {y b:α}:∀ r:List α,(r++[y]).set r.length b=r++[b]
 | []=>rfl
 | c::r=>by simp only [List.cons_append,GE,List.set_cons_succ]; rw [Jb r]
def Q3 {α:Type}:∀ {xs:List α} {f:Nat} {y a b:α},f < xs.length->((xs++[y]).set f a).set xs.length b=xs.set f a++[b]:=fun {xs f y a b} h=>by
 rw [List.set_append_left _ _ h];have:=Jb (y:=y) (b:=b) (xs.set f a)
 rwa [ZJ] at this
def Ah {CH CS CT CE:Addr} {H:Hp} {A:Ad} {L:List Ta} {M:Hs} {f:Nat} {z nm kd mi re tx:Str} {a0:Ta} {t0:Th} {x dx:Addr} {Q:VK} {E:XK} (i:aR CH CS CT H A L M) (fY:L[f]?=some a0) (fW:M.ts[f]?=some t0) (hx:H x=some (.ins CE dx (ay "name" (.str nm) (ay "folder" (.int (f:Int)) [])))) (hv:aI (sD t0.aw) (.inr nm)=none) (hl:t0.aw.length<=400)
  (nx1:x≠A.t) (mp:pX CH CS CT A L M f t0 a0 nm kd z mi re tx H Q):qW CS CT A.t A.dt A.ml (L.map fun a=>V.ref a.th) (.str kd) (.str z) (.str mi) (.str re) (.str tx) H (fun v H'=>GL CH CS CT CE [.ref A.a,.ref x,v] H' Q E):=by
 intro th di nm' pl ks H' f1 f2 f3 at' aP kl sk cx bw kp;have nx2:x≠A.ml:=bO hx i.ml (by nofun);have hlen:(L.map fun a=>V.ref a.th).length=L.length:=mo _;rw [hlen] at sk ⊢;have i2:=i.add f1 f2 f3 at' aP kl sk cx bw kp;have h0:f < M.ts.length:=(lv.mp fW).1;have DM:=i.len;have e0:(M.ts++[(⟨kd,z,mi,re,tx,[],[]⟩:Th)])[f]?=some t0:=by rw [zn h0]; exact fW
 have ek:(M.ts++[(⟨kd,z,mi,re,tx,[],[]⟩:Th)])[L.length]?=some ⟨kd,z,mi,re,tx,[],[]⟩:=by rw [DM,Fk (sB _),Nat.sub_self]; rfl
 refine ⟨A,L++[⟨th,di,nm',pl⟩],_,f,L.length,a0,t0,⟨th,di,nm',pl⟩,⟨kd,z,mi,re,tx,[],[]⟩,dx,nm,i2,rfl,kp _ _ (by simp [nx1,nx2]) hx,rfl,by rw [zn (by omega)]; exact fY,e0,by rw [Fk (sB _),Nat.sub_self]; rfl,ek,by omega,hv,by omega,rfl,fun H2 i3 k3=>?_⟩;have:=mp ⟨th,di,nm',pl⟩ H2 (fun b hb=>by simp only [Ta.l,ss,u8,EQ] at hb; rcases hb with rfl | rfl | rfl <;> assumption) (by
  have e:=i3;dsimp only at e;rw [DM] at e;rw [Q3 h0] at e;exact e) (fun b o hb e=>?_)
 ·rw [DM]; exact this
 ·simp only [ss,u8,EQ,ZP] at hb;have nbp:b≠pl:=aH e f3;exact k3 _ _ (by simp [hb.1,hb.2.2,nbp]) (kp _ _ (by simp [hb.1,hb.2.1]) e)
def yY {CH CS CT:Addr} {H:Hp} {A:Ad} {L:List Ta} {M:Hs} (i:aR CH CS CT H A L M):jy CS H A.t A.dt A.ml (L.map fun a=>V.ref a.th):=⟨i.t,i.ml⟩
def pX.of {CH CS CT:Addr} {H H1:Hp} {A:Ad} {L:List Ta} {M:Hs} {f:Nat} {t0:Th} {a0:Ta} {nm kd ow mi re tx:Str} {Q:VK} (s:ag H H1) (m:pX CH CS CT A L M f t0 a0 nm kd ow mi re tx H Q):pX CH CS CT A L M f t0 a0 nm kd ow mi re tx H1 Q:=fun a H' fr i k=>m a H' (fun b hb=>qE s (fr b hb)) i ((Kp.of s).trans k)
def Sj (K:PySem.W.Frag):Sp:=jR fun pt H Q _=>X1 fun t=>A4 (pt=Tx.S t) (fP t) (t.length<=120) (∀ H',ag H H'->Q .aq H')
def T1:T.nU.k P w base 4 (Sj K):=by
 refine T.nU.F.ok MN (fun _ _ _ _ h=>eS h fun _ _=>rfl) fun ax A outer s H vs Q E hr h=>eS h fun pt h=>?_;obtain ⟨t,rfl,pt,hl,q⟩:=h;refine bR (b:=aZ yL) ((ad (aX (bv (l7 T) hr.m T.dm.m T.dm.F.kp T.dm.b .nil aA (aa (ac 0) ae)))
 (ao (bb (bc BK (cj (fZ (K:=K) rfl) T.f9 Op (aa (ac 0) ae)) (dl (.int 120) T.UP ⟨_,rfl⟩)) (ao iw) ce)))) ?_
 refine stI [some (V.str (Tx.S t))] ?_;right;refine ⟨t,rfl,pt.l1,pt.l2,pt.all,fun H1 l p s1 _ _ _=>?_⟩;left;refine ⟨by rw [Tx.cB]; exact fits (by omega),?_⟩;rw [Tx.cB,ut (show ¬ (t.length:Int) > 120 by omega)];exact bA (q _ s1)
def Pf:T.pW.k P w mg base 4 (T9 T.aQ T.aY):=by
 refine T.pW.F.ok XE (fun _ _ _ _ h=>ku h fun _ _ _ _=>rfl) fun ax A outer s H vs Q E hr h=>ku h fun x ow tx h=>?_;obtain ⟨dt,ml,rs,at',fS,q⟩:=h;obtain ⟨fs,c,hx,aU,sf⟩:=at'.o;refine ⟨_,((ao (aL (bg T.cb T.jC.h (zp T) hr.m T.jC.b .nil aA (ac 0) (aa (dl (.str "lead") T.Sx ⟨_,rfl⟩) (aa (ac 1) (aa bi (aa bi (aa (ac 2) ae))))))))).h,?_⟩;refine stI [some (.ref x),some ow,some tx] ?_;left;exact ⟨x,dt,fs,rfl,hx,(sf _).trans rfl,dt,ml,rs,at',fS,q⟩
structure uX (N:Cn) (H:Hp) (A:Ad) (L:List Ta) (M:Hs) (z:Str) (t:List Nat) (kd mi re tx:Str) (Q:VK) (E:XK):Prop where
 i:aR N.CH N.CS N.CT H A L M
 p:fP t
 hz:(aI (sD M.ro) (.inr z)).isSome=true
 uz:mi∈iq
 lK:re∈iq
 hL:L.length<=400
 hl:∀ (f:Nat) t0,M.ts[f]?=some t0->t0.aw.length<=400
 r:∃ root r,ou ⟨L,M,z,true,root⟩ t r/\(∀ x,r=.inl x->f7 N H E x)/\∀ f nm a0 t0,r=.inr (f,nm)->L[f]?=some a0->M.ts[f]?=some t0->pX N.CH N.CS N.CT A L M f t0 a0 (Tx.S nm) kd z mi re tx H Q
def Pc (N:Cn):Sp:=EJ fun h z pt mi re H Q E=>X4 fun A L M t=>A3 (pt=Tx.S t) (uX N H A L M z t "folder" mi re "" Q E) (A.a=h)
def Xq (N:Cn):Sp:=Ey fun h z pt tx mi re H Q E=>X4 fun A L M t=>A4 (pt=Tx.S t) (uX N H A L M z t "file" mi re tx Q E) (A.a=h) (tx.length<=60)
def vH:aC P w K mg base (cI P w) 15 T.Dx T.tR ["house","asker","path","mine","rest"] (Pc T.cn):=by
 refine T.kb.eK II (fun vs H Q E h=>?_) (fun ax A outer s H vs Q E hr h=>?_)
 ·exact Jq h fun _ _ _ _ _ _=>rfl
 ·refine Jq h fun hh z pt mi re h=>?_;obtain ⟨AA,L,M,t,rfl,pr,rfl⟩:=h;obtain ⟨iR,gc,gh,iO,dv⟩:=pr.i.h;obtain ⟨root,r,gu,q1,q2⟩:=pr.r;refine bR (b:=aZ o8) ((ad (aX (dS T.aN T.fA.h (og T) hr.m T.fA.b .nil cY (ac 0) (aa (ac 1) ae)))
  (ad (aX (bv (l7 T) hr.m T.dm.m T.dm.F.kp T.dm.b .nil aA (aa (ac 2) ae)))
  (ad (aX (bv (ud T) hr.m T.fB.m T.fB.F.kp T.fB.b .nil aA (aa (ac 3) ae)))
  (ad (aX (bv (ud T) hr.m T.fB.m T.fB.F.kp T.fB.b .nil aA (aa (ac 4) ae)))
  (ad (aS 5 II.nd (eG (xb T) hr.m T.gG.m T.gG.F.kp T.gG.b .nil cY (aa (ac 0) (aa (ac 1) (aa (ac 2) ae)))))
  (ao (aL (bv (w8 T) hr.m T.gW.m T.gW.F.kp T.gW.b .nil aA (aa (ac 0) (aa (ac 5) (aa (bg T.cb T.lq.h (FC T) hr.m T.lq.b .nil aA (bn T.aN T.eM (ac 0)) (aa (ac 1) (aa (ac 3) (aa (ac 4) ae)))) ae)))))))))))) ?_
  refine stI [some (V.ref AA.a),some (V.str z),some (V.str (Tx.S t)),some (V.str mi),some (V.str re),none] ?_;right;refine (mI gh dv (qd pr.i pr.hz (ai ?_)));left;refine ⟨t,rfl,pr.p.l1,pr.p.l2,pr.p.all,fun H1 l p s1 _ hl hp=>ai ?_⟩;left;refine ⟨pr.uz,ai ?_⟩;left;refine ⟨pr.lK,ai ?_⟩;left;refine ⟨AA,L,M,root,t,r,rfl,pr.p,pr.i.same s1,rfl,pr.hz,gu,fun x e=>(q1 x e).of s1,fun f nm e x dx H2 fx s2 hx=>?_⟩;left;have i2:=pr.i.same (s1.trans s2);obtain ⟨Ks,Ky,tN,K2,tG⟩:=i2.h;obtain ⟨gs,c2,ht,du,sg⟩:=i2.t;obtain ⟨_,_,fV,_⟩:=(pr.i.same s1).t;subst e;cases gu with
  | free g hn fY fW hw hv =>
   refine (fI tN tG rfl (mI ht sg ⟨AA.dt,AA.ml,_,yY i2,by rw [mo]; have:=pr.hL; omega,Ah i2 fY fW hx hv (pr.hl _ _ fW) (sw (aH fV fx)) ((q2 _ _ _ _ rfl fY fW).of (s1.trans s2))⟩))
def yX:aC P w K mg base (cI P w) 15 T.Dn T.sY ["house","asker","path","text","mine","rest"] (Xq T.cn):=by
 refine T.lJ.eK D1 (fun vs H Q E h=>?_) (fun ax A outer s H vs Q E hr h=>?_)
 ·exact ID h fun _ _ _ _ _ _ _=>rfl
 ·refine ID h fun hh z pt tx mi re h=>?_;obtain ⟨AA,L,M,t,rfl,pr,rfl,mL⟩:=h;obtain ⟨iR,gc,gh,iO,dv⟩:=pr.i.h;obtain ⟨root,r,gu,q1,q2⟩:=pr.r;refine bR (b:=aZ oN) ((ad (aX (dS T.aN T.fA.h (og T) hr.m T.fA.b .nil cY (ac 0) (aa (ac 1) ae)))
  (ad (aX (bv (l7 T) hr.m T.dm.m T.dm.F.kp T.dm.b .nil aA (aa (ac 2) ae)))
  (ad (aX (bv (ud T) hr.m T.fB.m T.fB.F.kp T.fB.b .nil aA (aa (ac 4) ae)))
  (ad (aX (bv (ud T) hr.m T.fB.m T.fB.F.kp T.fB.b .nil aA (aa (ac 5) ae)))
  (ad (aX (bv (RG T) hr.m T.oM.m T.oM.F.kp T.oM.b .nil aA (aa (ac 3) ae)))
  (ad (aS 6 D1.nd (eG (xb T) hr.m T.gG.m T.gG.F.kp T.gG.b .nil cY (aa (ac 0) (aa (ac 1) (aa (ac 2) ae)))))
  (ao (aL (bv (w8 T) hr.m T.gW.m T.gW.F.kp T.gW.b .nil aA (aa (ac 0) (aa (ac 6) (aa (bg T.cb T.qm.h (UR T) hr.m T.qm.b .nil aA (bn T.aN T.eM (ac 0)) (aa (ac 1) (aa (ac 3) (aa (ac 4) (aa (ac 5) ae))))) ae))))))))))))) ?_
  refine stI [some (V.ref AA.a),some (V.str z),some (V.str (Tx.S t)),some (V.str tx),some (V.str mi),some (V.str re),none] ?_;right;refine (mI gh dv (qd pr.i pr.hz (ai ?_)));left;refine ⟨t,rfl,pr.p.l1,pr.p.l2,pr.p.all,fun H1 l p s1 _ hl hp=>ai ?_⟩;left;refine ⟨pr.uz,ai ?_⟩;left;refine ⟨pr.lK,ai ?_⟩;left;refine ⟨mL,ai ?_⟩;left;refine ⟨AA,L,M,root,t,r,rfl,pr.p,pr.i.same s1,rfl,pr.hz,gu,fun x e=>(q1 x e).of s1,fun f nm e x dx H2 fx s2 hx=>?_⟩;left;have i2:=pr.i.same (s1.trans s2);obtain ⟨Ks,Ky,tN,K2,tG⟩:=i2.h;obtain ⟨gs,c2,ht,du,sg⟩:=i2.t;obtain ⟨_,_,fV,_⟩:=(pr.i.same s1).t;subst e;cases gu with
  | free g hn fY fW hw hv =>
   refine (fI tN tG rfl (mI ht sg ⟨AA.dt,AA.ml,_,yY i2,by rw [mo]; have:=pr.hL; omega,Ah i2 fY fW hx hv (pr.hl _ _ fW) (sw (aH fV fx)) ((q2 _ _ _ _ rfl fY fW).of (s1.trans s2))⟩))
def OJ (N:Cn):Sp:=HY fun h z pt tx H Q E=>X5 fun A L M t tl=>A6 (pt=Tx.S t) (tx=Tx.S tl) (uX N H A L M z t "lead" "" "" tx Q E) (A.a=h) (fP tl) (tl.length<=120)
def Pb:aC P w K mg base (cI P w) 15 T.nG.f T.nG.d ["house","asker","path","lead"] (OJ T.cn):=by
 refine T.nG.F.eK G3 (fun _ _ _ _ h=>Jg h fun _ _ _ _ _=>rfl) fun ax A outer s H vs Q E hr h=>Jg h fun hh z pt tx h=>?_;obtain ⟨AA,L,M,t,tl,rfl,rfl,pr,rfl,ptl,hl120⟩:=h;obtain ⟨iR,gc,gh,iO,dv⟩:=pr.i.h;obtain ⟨root,r,gu,q1,q2⟩:=pr.r;refine bR (b:=aZ zL) ((ad (aX (dS T.aN T.fA.h (og T) hr.m T.fA.b .nil cY (ac 0) (aa (ac 1) ae)))
 (ad (aX (bv (l7 T) hr.m T.dm.m T.dm.F.kp T.dm.b .nil aA (aa (ac 2) ae)))
 (ad (aX (bv (T1 T) hr.m T.nU.m T.nU.F.kp T.nU.b .nil aA (aa (ac 3) ae)))
 (ad (aS 4 G3.nd (eG (xb T) hr.m T.gG.m T.gG.F.kp T.gG.b .nil cY (aa (ac 0) (aa (ac 1) (aa (ac 2) ae)))))
 (ao (aL (bv (w8 T) hr.m T.gW.m T.gW.F.kp T.gW.b .nil aA (aa (ac 0) (aa (ac 4) (aa (bg T.cb T.pW.h (Pf T) hr.m T.pW.b .nil aA (bn T.aN T.eM (ac 0)) (aa (ac 1) (aa (ac 3) ae))) ae))))))))))) ?_
 refine stI [some (V.ref AA.a),some (V.str z),some (V.str (Tx.S t)),some (V.str (Tx.S tl)),none] ?_;right;refine (mI gh dv (qd pr.i pr.hz (ai ?_)));left;refine ⟨t,rfl,pr.p.l1,pr.p.l2,pr.p.all,fun H1 l p s1 _ hl hp=>ai ?_⟩;left;refine ⟨tl,rfl,ptl,hl120,fun H1' s1'=>ai ?_⟩
 replace s1:=s1.trans s1'
 clear hl hp;generalize H1'=H1 at s1 ⊢;left;refine ⟨AA,L,M,root,t,r,rfl,pr.p,pr.i.same s1,rfl,pr.hz,gu,fun x e=>(q1 x e).of s1,fun f nm e x dx H2 fx s2 hx=>?_⟩;left;have i2:=pr.i.same (s1.trans s2);obtain ⟨Ks,Ky,tN,K2,tG⟩:=i2.h;obtain ⟨gs,c2,ht,du,sg⟩:=i2.t;obtain ⟨_,_,fV,_⟩:=(pr.i.same s1).t;subst e;cases gu with
 | free g hn fY fW hw hv =>
  refine (fI tN tG rfl (mI ht sg ⟨AA.dt,AA.ml,_,yY i2,by rw [mo]; have:=pr.hL; omega,Ah i2 fY fW hx hv (pr.hl _ _ fW) (sw (aH fV fx)) ((q2 _ _ _ _ rfl fY fW).of (s1.trans s2))⟩))
inductive Br (d:Wd) (t:List Nat):Sum Rf Nat->Prop
 | way {e}:om d t e->(∀ k ns,e.res≠.found k ns)->Br d t (.inl (.way e.res))
 | file {e k ns a th}:om d t e->e.res=.found k ns->d.L[k]?=some a->d.M.ts[k]?=some th->th.kd≠("folder" : Str)->Br d t (.inl (.gp "file"))
 | ok {e k ns a th}:om d t e->e.res=.found k ns->d.L[k]?=some a->d.M.ts[k]?=some th->th.kd=("folder" : Str)->Br d t (.inr k)
inductive xS (d:Wd) (t:List Nat):Sum Rf Nat->Prop
 | way {e}:om d t e->(∀ k ns,e.res≠.found k ns)->xS d t (.inl (.way e.res))
 | Zg {e k ns a th}:om d t e->e.res=.found k ns->d.L[k]?=some a->d.M.ts[k]?=some th->th.ow≠d.z->xS d t (.inl (.gp "mine"))
 | ok {e k ns a th}:om d t e->e.res=.found k ns->d.L[k]?=some a->d.M.ts[k]?=some th->th.ow=d.z->xS d t (.inr k)
def AS:List Str:=["own","ann","b"]
inductive fq (M:Hs) (r:Nat):Nat->Prop
 | refl:fq M r r
 | up {k f nm t}:M.ts[k]?=some t->t.bf=[(f,nm)]->fq M r f->fq M r k
structure qo (M:Hs) (k:Nat) (t:Th):Prop where
 nl:t.aw.length<=M.ts.length
 kd:t.kd=("folder" : Str)\/t.kd=("file" : Str)\/t.kd=("lead" : Str)
 ld:t.kd=("lead" : Str)->∃ tl,t.tx=Tx.S tl/\fP tl/\tl.length<=120
 pl:k=0/\t.bf=[]\/∃ (f:Nat) (nm:Str) (tf:Th),f < k/\t.bf=[(f,nm)]/\nm.length<=8/\M.ts[f]?=some tf/\tf.kd=("folder" : Str)
 ch:∀ z v,aI (sD t.aw) (.inr z)=some v->∃ (c:Nat) (tc:Th),v=.int (c:Int)/\M.ts[c]?=some tc/\tc.bf=[(k,z)]
structure Pz (M:Hs) (z:Str) (r k:Nat):Prop where
 ro:aI (sD M.ro) (.inr z)=some (.int (r:Int))
 st:aI (sD M.st) (.inr z)=some (.int (k:Int))
 b:fq M r k
 tr:∃ t,M.ts[r]?=some t/\t.kd=("folder" : Str)
 tk:∃ t,M.ts[k]?=some t/\t.kd=("folder" : Str)
structure Gd (M:Hs):Prop where
 tr:M.tr=[(("main" : Str),0)]
 ov:M.ov=[]
 un:M.un=[]
 as:∀ z∈AS,∃ r k,Pz M z r k
 rl:M.ro.length<=3
 sl:M.st.length<=3
 t0:∃ t,M.ts[0]?=some t/\t.kd=("folder" : Str)
 th:∀ k t,M.ts[k]?=some t->qo M k t
def Ts (p:Str):Prop:=p=("." : Str)\/p=(".." : Str)\/eg (.str p)=true/\p.length<=8
section
variable {M:Hs} {L:List Ta} {z:Str} {r:Nat}
def adr (hL:L.length=M.ts.length) {k:Nat} {t:Th} (h:M.ts[k]?=some t):∃ a,L[k]?=some a :=
 ⟨_,ul (by rw [hL]; exact (lv.mp h).1)⟩
def Gd.eE (g:Gd M) (k:Nat):dw M k k [] :=
 ⟨⟨0,by unfold jN; rw [g.un]; exact ⟨rfl,rfl⟩⟩,0,by unfold je; rw [g.ov]; exact ⟨rfl,rfl⟩,At _⟩
def qu {k:Nat}:fz r [k]=decide (k=r):=by
 unfold fz;by_cases h:k=r
 ·simp [h]
 ·simp [h]
def Gd.par (g:Gd M) {k:Nat} {t:Th} (ht:M.ts[k]?=some t) (hb:fq M r k) (hk:k≠r):∃ (f:Nat) (nm:Str) (tf:Th),f < k/\t.bf=[(f,nm)]/\nm.length<=8/\M.ts[f]?=some tf/\tf.kd=("folder" : Str)/\fq M r f:=by
 cases hb with
 | refl=>exact absurd rfl hk
 | up h1 h2 h3 =>
  rw [ht] at h1; cases h1;rcases (g.th k t ht).pl with ⟨_,e⟩ | ⟨f,nm,tf,hf,hp,hl,bQ,gr⟩
  ·rw [e] at h2; cases h2
  ·rw [hp] at h2; cases h2;exact ⟨_,_,tf,hf,hp,hl,bQ,gr,h3⟩
def Gd.seen (g:Gd M) (hL:L.length=M.ts.length):∀ (n k:Nat) (t:Th),k<=n->M.ts[k]?=some t->fq M r k->jE M L r n k true
 | n,k,t,hk,ht,hb=>by
  obtain ⟨a,ha⟩:=adr hL ht;unfold jE;refine ⟨k,[],a,t,ha,ht,g.eE k,?_⟩;rw [Db (show k=cP k [] from rfl),qu];by_cases h0:k=r
  ·rw [Db (AT h0)]
  ·rw [Ch (by rw [ut h0]; nofun)];obtain ⟨f,nm,tf,hf,hp,_,bQ,_,hb'⟩:=g.par ht hb h0;refine ⟨a,t,ha,ht,.inr ⟨f,nm,hp,?_⟩⟩
   match n,hk with
   | 0,hk=>omega
   | n+1,hk=>exact g.seen hL n f tf (by omega) bQ hb'
def Gd.nm (g:Gd M) (hL:L.length=M.ts.length):∀ (n k:Nat) (t:Th),k<=n->M.ts[k]?=some t->fq M r k->∃ ns,iZ M L r n k ns/\ns.length<=k/\∀ s∈ns,s.length<=8
 | n,k,t,hk,ht,hb=>by
  obtain ⟨a,ha⟩:=adr hL ht;by_cases h0:k=r
  ·refine ⟨[],?_,At _,fun _ h=>by cases h⟩;unfold iZ;exact ⟨k,[],a,t,ha,ht,g.eE k,by rw [qu,Db (AT h0)]⟩
  ·obtain ⟨f,nm,tf,hf,hp,hl,bQ,_,hb'⟩:=g.par ht hb h0
   match n,hk with
   | 0,hk=>omega
   | n+1,hk =>
    obtain ⟨ns,h1,h2,h3⟩:=g.nm hL n f tf (by omega) bQ hb';refine ⟨ns++[nm],?_,by rw [ww]; simp; omega,fun s hs=>?_⟩
    ·unfold iZ;refine ⟨k,[],a,t,ha,ht,g.eE k,?_⟩;rw [qu,Ch (by rw [ut h0]; nofun)];exact ⟨a,t,f,nm,ha,ht,hp,ns,rfl,h1⟩
    ·rcases LE.mp hs with hs | hs
     ·exact h3 s hs
     ·rw [AC.mp hs]; exact hl
def Ft:eg (.str ("." : Str))=false/\eg (.str (".." : Str))=false:=by decide +kernel
end
def Val (M:Hs) (r:Nat) (S:Ws):Prop:=∃ t,M.ts[S.here]?=some t/\(t.kd=("folder" : Str)/\fq M r S.here\/t.kd≠("folder" : Str)/\∃ (f:Nat) (nm:Str) (tf:Th),S.place=some (f,nm)/\nm.length<=8/\M.ts[f]?=some tf/\fq M r f)
def Bn:List (Sum Nat Str)->Nat
 | []=>0
 | .inl _::r=>Bn r+1
 | .inr _::r=>Bn r
structure Y7 (d:Wd) (S:Ws):Prop where
 v:Val d.M d.root S
 ps:∀ p,Sum.inr p∈S.left->Ts p
 cn:Bn S.left=S.bu.length
 rl:S.read<=40
section
variable {d:Wd}
def Tw (g:Gd d.M) (hL:d.L.length=d.M.ts.length) (hn:d.M.ts.length<=90) {S:Ws} (v:Val d.M d.root S):∃ ns cG,uw d.M d.L d.root S ns cG:=by
 obtain ⟨t,ht,hk⟩:=v;obtain ⟨a,ha⟩:=adr hL ht;rcases hk with ⟨cO,hb⟩ | ⟨cO,f,nm,tf,hp,h8,bQ,hb⟩
 ·obtain ⟨ns,h1,h2,h3⟩:=g.nm hL S.here S.here t (sB _) ht hb;have:=(lv.mp ht).1;exact ⟨ns,[],S.here,a,t,ha,ht,.inl ⟨cO,rfl,rfl⟩,⟨_,h1⟩,by omega,h3⟩
 ·obtain ⟨ns,h1,h2,h3⟩:=g.nm hL f f tf (sB _) bQ hb;have:=(lv.mp bQ).1;exact ⟨ns,[nm],f,a,t,ha,ht,.inr ⟨cO,nm,hp,rfl,h8⟩,⟨_,h1⟩,by omega,h3⟩
end
section
variable {M:Hs} {L:List Ta} {z:Str} {r:Nat} {last:Bool}
def Gd.lift {M':Hs} (g:Gd M) (h1:M'.ro=M.ro) (h2:M'.st=M.st) (h3:M'.tr=M.tr) (h4:M'.ov=M.ov) (h5:M'.un=M.un) (old:∀ (k:Nat) (t:Th),M.ts[k]?=some t->∃ t':Th,M'.ts[k]?=some t'/\t'.kd=t.kd/\t'.bf=t.bf) (th:∀ k t,M'.ts[k]?=some t->qo M' k t):Gd M':=by
 have bl:∀ {r k},fq M r k->fq M' r k:=fun {r k} b=>by
  induction b with
  | refl=>exact .refl
  | up a1 a2 _ ih =>
   obtain ⟨t',e1,_,e3⟩:=old _ _ a1;exact .up e1 (e3.trans a2) ih
 refine ⟨h3.trans g.tr,h4.trans g.ov,h5.trans g.un,fun z hz=>?_,by rw [h1]; exact g.rl,by rw [h2]; exact g.sl,?_,th⟩
 ·obtain ⟨r,k,a⟩:=g.as z hz;refine ⟨r,k,by rw [h1]; exact a.ro,by rw [h2]; exact a.st,bl a.b,?_,?_⟩
  ·obtain ⟨t,e1,e2⟩:=a.tr;obtain ⟨t',e3,e4,_⟩:=old _ _ e1;exact ⟨t',e3,e4.trans e2⟩
  ·obtain ⟨t,e1,e2⟩:=a.tk;obtain ⟨t',e3,e4,_⟩:=old _ _ e1;exact ⟨t',e3,e4.trans e2⟩
 ·obtain ⟨t,e1,e2⟩:=g.t0;obtain ⟨t',e3,e4,_⟩:=old _ _ e1;exact ⟨t',e3,e4.trans e2⟩
def qo.lift {M':Hs} {k:Nat} {t t':Th} (h:qo M k t) (hl:M.ts.length<=M'.ts.length) (e1:t'.kd=t.kd) (e2:t'.bf=t.bf) (e3:t'.aw=t.aw) (e4:t'.tx=t.tx) (old:∀ (k:Nat) (t:Th),M.ts[k]?=some t->∃ t':Th,M'.ts[k]?=some t'/\t'.kd=t.kd/\t'.bf=t.bf):qo M' k t':=by
 refine ⟨by rw [e3]; exact wE h.nl hl,by rw [e1]; exact h.kd,by rw [e1,e4]; exact h.ld,?_,fun z v hv=>?_⟩
 ·rcases h.pl with ⟨a,b⟩ | ⟨f,nm,tf,a1,a2,a3,a4,a5⟩
  ·exact .inl ⟨a,e2.trans b⟩
  ·obtain ⟨t2,b1,b2,_⟩:=old _ _ a4;exact .inr ⟨f,nm,t2,a1,e2.trans a2,a3,b1,b2.trans a5⟩
 ·rw [e3] at hv;obtain ⟨c,tc,a1,a2,a3⟩:=h.ch z v hv;obtain ⟨t2,b1,_,b3⟩:=old _ _ a2;exact ⟨c,t2,a1,b1,b3.trans a3⟩
def Gd.make (g:Gd M) {f:Nat} {tf:Th} {nm kd mi re tx:Str} (bQ:M.ts[f]?=some tf) (gr:tf.kd=("folder" : Str)) (cx:nm.length<=8) (mW:aI (sD tf.aw) (.inr nm)=none) (hk:kd=("folder" : Str)\/kd=("file" : Str)\/kd=("lead" : Str)) (mR:kd=("lead" : Str)->∃ tl,tx=Tx.S tl/\fP tl/\tl.length<=120) :
  Gd { M with ts:=M.ts.set f { tf with aw:=tf.aw++[(nm,M.ts.length)] }++[⟨kd,z,mi,re,tx,[],[(f,nm)]⟩] }:=by
 have hf:=(lv.mp bQ).1;have hlen:(M.ts.set f { tf with aw:=tf.aw++[(nm,M.ts.length)] }).length=M.ts.length:=ZJ;have old:∀ (k:Nat) (t:Th),M.ts[k]?=some t->∃ t':Th,(M.ts.set f { tf with aw:=tf.aw++[(nm,M.ts.length)] }++[(⟨kd,z,mi,re,tx,[],[(f,nm)]⟩:Th)])[k]?=some t'/\t'.kd=t.kd/\t'.bf=t.bf:=fun k t ht=>by
  have hk:=(lv.mp ht).1;rw [zn (by rw [hlen]; exact hk)];by_cases e:k=f
  ·subst e;rw [IN hk];rw [bQ] at ht; cases ht;exact ⟨_,rfl,rfl,rfl⟩
  ·rw [IO (sw e)];exact ⟨t,ht,rfl,rfl⟩
 have new:(M.ts.set f { tf with aw:=tf.aw++[(nm,M.ts.length)] }++[(⟨kd,z,mi,re,tx,[],[(f,nm)]⟩:Th)])[M.ts.length]?=some ⟨kd,z,mi,re,tx,[],[(f,nm)]⟩:=by
  rw [Fk (by rw [hlen]; exact sB _),hlen,Nat.sub_self]; rfl
 have ll:M.ts.length<=(M.ts.set f { tf with aw:=tf.aw++[(nm,M.ts.length)] }++[(⟨kd,z,mi,re,tx,[],[(f,nm)]⟩:Th)]).length:=by rw [ww,hlen]; omega
 refine g.lift rfl rfl rfl rfl rfl old fun k t ht=>?_;have ht':(M.ts.set f { tf with aw:=tf.aw++[(nm,M.ts.length)] }++[(⟨kd,z,mi,re,tx,[],[(f,nm)]⟩:Th)])[k]?=some t:=ht;by_cases hk':k < M.ts.length
 ·rw [zn (by rw [hlen]; exact hk')] at ht';by_cases e:k=f
  ·subst e;rw [IN hk'] at ht';cases ht';have h0:=g.th k tf bQ;have h:=h0.lift (M':={ M with ts:=M.ts.set k { tf with aw:=tf.aw++[(nm,M.ts.length)] }++[⟨kd,z,mi,re,tx,[],[(k,nm)]⟩] }) (t':=tf) ll rfl rfl rfl rfl old;refine ⟨by show (tf.aw++[(nm,M.ts.length)]).length<=_; rw [ww,ww,hlen]; have:=h0.nl; simp; omega,h.kd,h.ld,h.pl,fun y v hv=>?_⟩;have e:sD (tf.aw++[(nm,M.ts.length)])=sD tf.aw++[(.inr nm,.int ((M.ts.length:Nat):Int))]:=by unfold sD; rw [Fr]; rfl
   have hv':aI (sD (tf.aw++[(nm,M.ts.length)])) (.inr y)=some v:=hv;rw [e,pP _ _ _ _ mW] at hv';split at hv'
   ·rename_i he;cases hv';injection he with he;exact ⟨M.ts.length,_,rfl,new,by rw [he]⟩
   ·exact h.ch y v hv'
  ·rw [IO (sw e)] at ht';exact (g.th k t ht').lift ll rfl rfl rfl rfl old
 ·have DR:k < M.ts.length+1:=by
   have:=(lv.mp ht').1;rw [ww,hlen] at this; exact this
  have:k=M.ts.length:=by omega
  subst this;rw [new] at ht';cases ht';obtain ⟨t',e1,e2,_⟩:=old _ _ bQ;exact ⟨by show 0<=_; exact At _,hk,mR,.inr ⟨f,nm,t',hf,rfl,cx,e1,e2.trans gr⟩,fun y v hv=>by cases hv⟩
end
def OG:T.ra.k P w mg base 3 (gH T.aK T.aQ T.aY Ad.t Ht):=by
 refine T.ra.F.ok VC (fun _ _ _ _ h=>bV h fun _ _ _=>rfl) fun ax A outer s H vs Q E hr h=>bV h fun x n h=>?_;obtain ⟨AA,L,M,k,a,t,i,rfl,rfl,ha,aP,q⟩:=h;obtain ⟨fs,c,hx,aU,sf⟩:=i.h;obtain ⟨gs,c2,ht,du,sg⟩:=i.t;have cw:=ej i ha aP;obtain ⟨ks,ho,gC,so⟩:=cw.o;refine ⟨_,((ao (aL (cj (Qn (K:=K) rfl rfl) T.pQ pU (aa (bn T.cW T.vT (dS T.cb T.cK.h (gQ T) hr.m T.cK.b .nil fG (ac 0) (aa (ac 1) ae))) ae))))).h,?_⟩;refine stI [some (V.ref AA.t),some (V.int (k:Int))] ?_;left;refine (mI ht sg (iy i ha aP ⟨a.th,_,_,.ref a.nm,rfl,ho,(so _).trans rfl,.inr (.inl ⟨a.nm,_,t.aw.map (·.1),rfl,cw.nm,by unfold sD; rw [SZ,SZ]; rfl,by rw [mo]; exact q.1,q.2⟩)⟩))
def Hi:T.mv.k P w mg base 4 (gH T.aK T.aQ T.aY Ad.a Ht):=by
 refine T.mv.F.ok NX (fun _ _ _ _ h=>bV h fun _ _ _=>rfl) fun ax A outer s H vs Q E hr h=>bV h fun x n h=>?_;obtain ⟨AA,L,M,k,a,t,i,rfl,rfl,ha,aP,q⟩:=h;obtain ⟨fs,c,hx,aU,sf⟩:=i.h;obtain ⟨gs,c2,ht,du,sg⟩:=i.t;have cw:=ej i ha aP;obtain ⟨ks,ho,gC,so⟩:=cw.o;refine ⟨_,((ao (aL (bg T.cb T.ra.h (OG T) hr.m T.ra.b .nil aA (bn T.aN T.eM (ac 0)) (aa (ac 1) ae))))).h,?_⟩;refine stI [some (V.ref AA.a),some (V.int (k:Int))] ?_;left;exact ⟨AA.a,_,_,.ref AA.t,rfl,hx,(sf _).trans rfl,AA.t,_,_,rfl,ht,(sg _).trans rfl,AA,L,M,k,a,t,i,rfl,rfl,ha,aP,q⟩
abbrev yM:iY:=fun _ _ _ _ _ t H Q=>(t.bf=[]/\∀ l,H l=none->Q (.ref l) (upd H l (.lst [])))\/∃ f z,t.bf=[(f,z)]/\∀ y l,H y=some (.tup [.int (f:Nat),.str z])->H l=none->Q (.ref l) (upd H l (.lst [.ref y]))
def RW:T.rp.k P w mg base 3 (gH T.aK T.aQ T.aY Ad.t yM):=by
 refine T.rp.F.ok Mt (fun _ _ _ _ h=>bV h fun _ _ _=>rfl) fun ax A outer s H vs Q E hr h=>bV h fun x n h=>?_;obtain ⟨AA,L,M,k,a,t,i,rfl,rfl,ha,aP,q⟩:=h;obtain ⟨fs,c,hx,aU,sf⟩:=i.h;obtain ⟨gs,c2,ht,du,sg⟩:=i.t;have cw:=ej i ha aP;obtain ⟨ks,ho,gC,so⟩:=cw.o;refine ⟨_,((ao (aL (cj (NJ rfl) T.pQ pU (aa (bn T.cW T.rE (dS T.cb T.cK.h (gQ T) hr.m T.cK.b .nil fG (ac 0) (aa (ac 1) ae))) ae))))).h,?_⟩;refine stI [some (V.ref AA.t),some (V.int (k:Int))] ?_;left;refine (mI ht sg (iy i ha aP ⟨a.th,_,_,.ref a.pl,rfl,ho,(so _).trans rfl,a.pl,_,rfl,cw.pl,?_⟩));rcases q with ⟨e,q⟩ | ⟨f,z,e,q⟩
 ·rw [e]; exact .inl ⟨rfl,q⟩
 ·rw [e]; exact .inr ⟨_,_,rfl,q⟩
def Gb:T.lY.k P w mg base 4 (gH T.aK T.aQ T.aY Ad.a yM):=by
 refine T.lY.F.ok Ub (fun _ _ _ _ h=>bV h fun _ _ _=>rfl) fun ax A outer s H vs Q E hr h=>bV h fun x n h=>?_;obtain ⟨AA,L,M,k,a,t,i,rfl,rfl,ha,aP,q⟩:=h;obtain ⟨fs,c,hx,aU,sf⟩:=i.h;obtain ⟨gs,c2,ht,du,sg⟩:=i.t;have cw:=ej i ha aP;obtain ⟨ks,ho,gC,so⟩:=cw.o;refine ⟨_,((ao (aL (bg T.cb T.rp.h (RW T) hr.m T.rp.b .nil aA (bn T.aN T.eM (ac 0)) (aa (ac 1) ae))))).h,?_⟩;refine stI [some (V.ref AA.a),some (V.int (k:Int))] ?_;left;exact ⟨AA.a,_,_,.ref AA.t,rfl,hx,(sf _).trans rfl,AA.t,_,_,rfl,ht,(sg _).trans rfl,AA,L,M,k,a,t,i,rfl,rfl,ha,aP,q⟩
def Vd:Sp:=HC fun _ _ H Q _=>∀ r:Int,0<=r->Q (.int r) H
def XR:T.oB.k P w base 1 Vd:=by
 refine T.oB.F.ok BU (fun _ _ _ _ h=>IM h fun _ _ _=>rfl) fun ax A outer s H vs Q E hr h=>IM h fun y z h=>?_;refine ⟨_,((ad (aS 2 BU.nd (cr jJ (cr oZ (cr cR (cr cR (ac 0) (cr oZ am (ac 1))) am) am) am))
 (ad (aS 2 BU.nd (cr jJ (cr oZ (ac 2) (cr cR (cr zx (ac 2) am) am)) am))
 (ao (aL (cr jJ (cr oZ (ac 2) (cr cR (cr zx (ac 2) am) am)) am)))))).h,?_⟩
 refine stI [some (.int y),some (.int z),none] ?_;right;refine ⟨.inl ⟨by decide,by decide⟩,.inr ⟨by decide,by decide⟩,by decide,ai ?_⟩;left;generalize hm:(y+7919 * z+1) * 48271 % 2147483647=m;have m0:0<=m:=by rw [<- hm]; exact ZM _ (by decide)
 have m1:m < 2147483647:=by rw [<- hm]; exact ZI _ (by decide)
 refine ⟨⟨by decide,by decide⟩,.inl ⟨by omega,by omega⟩,by decide,?_⟩;left;generalize hn:m * (m / 1009+69621) % 2147483647=n;have n0:0<=n:=by rw [<- hn]; exact ZM _ (by decide)
 have n1:n < 2147483647:=by rw [<- hn]; exact ZI _ (by decide)
 refine ⟨⟨by decide,by decide⟩,.inl ⟨by omega,by omega⟩,by decide,?_⟩;exact h _ (ZM _ (by decide))
def We:Sp:=En fun _ H Q _=>∀ l a b c,H l=none->Q (.ref l) (upd H l (.lst [.int a,.int b,.int c]))
def NI:T.o9.k P w base 1 We:=by
 refine T.o9.F.ok Xh (fun _ _ _ _ h=>D6 h fun _ _=>rfl) fun ax A outer s H vs Q E hr h=>D6 h fun y h=>?_;refine ⟨_,((ad (bb (bc As (ac 0) (cr RU am am)) (ao (aL (db (aa am (aa (cr jJ (ac 0) am) (aa am ae)))))) ce)
 (ao (aL (db (aa (ac 0) (aa (cr jJ (ac 0) am) (aa am ae)))))))).h,?_⟩
 refine stI [some (.int y)] ?_;right;refine ⟨by constructor <;> decide,e8 (fun _=>⟨by decide,fits (by simp),fun p hp=>h _ _ _ _ hp⟩) (fun _=>⟨by decide,fits (by simp),fun p hp=>h _ _ _ _ hp⟩)⟩
def BP:Sp:=jd fun st b H Q _=>X3 fun x y z=>A4 (H st=some (.lst [.int x,.int y,.int z])) (0 < b) (b<=1000) (∀ d x' y' z' H',0<=d->d < b->H' st=some (.lst [.int x',.int y',.int z'])->cH st H H'->Q (.int d) H')
def fL:T.bJ.k P w base 2 BP:=by
 refine T.bJ.F.ok Hb (fun _ _ _ _ h=>bV h fun _ _ _=>rfl) fun ax A outer s H vs Q E hr h=>bV h fun st b h=>?_;obtain ⟨x,y,z,h1,kN,pK,q⟩:=h;refine ⟨_,((ad (bb (bc BK (ci (bt (K:=K) rfl) (ac 0) am) am) (ad (aS 2 Hb.nd (cr jJ (ci (bt (K:=K) rfl) (ac 0) am) (ac 1)))
 (ad (vm (cr zx (ci (bt (K:=K) rfl) (ac 0) am) (ac 1)) (Im (ac 0) am Gn))
 (ao (aL (ac 2))))) ce)
 (ad (vm (cr cR (ci (bt (K:=K) rfl) (ac 0) am) am) (Im (ac 0) am Gn))
 (ao (aL (cr jJ (bv (XR T) hr.m T.oB.m T.oB.F.kp T.oB.b .nil aA (aa (ci (bt (K:=K) rfl) (ac 0) am) (aa (ci (bt (K:=K) rfl) (ac 0) am) ae))) (ac 1))))))).h,?_⟩
 refine stI [some (.ref st),some (.int b),none] ?_;right;simp only [bC,h1,fv];refine e8 (fun _=>?_) (fun _=>?_)
 ·right;simp only [bC,h1,fv];refine ⟨kN,ai ?_⟩;left;simp only [bC,h1,fv,GE,Sm,List.set_cons_zero];refine ⟨⟨kN,by omega⟩,?_⟩;exact q _ _ _ _ _ (ZM _ (by omega)) (ZI _ kN) au cH.upd
 ·right;simp only [bC,h1,GA,GE,Z8,Qk,List.set_cons_zero,List.set_cons_succ];left;simp only [bC,au,vZ,GA];intro r r0;refine ⟨kN,?_⟩;exact q _ _ _ _ _ (ZM _ (by omega)) (ZI _ kN) au cH.upd
def Dr (st:Addr) (H:Hp):Prop:=∃ x y z:Int,H st=some (.lst [.int x,.int y,.int z])
def Dr.same {st:Addr} {H H':Hp} (h:Dr st H) (s:ag H H'):Dr st H':=let ⟨x,y,z,e⟩:=h; ⟨x,y,z,s _ _ e⟩
def Dr.ne {st p:Addr} {H:Hp} (h:Dr st H) (hp:H p=none):p≠st:=let ⟨x,y,z,e⟩:=h; fun q=>by rw [q,e] at hp; cases hp
def gb {st:Addr} {b:Int} {H:Hp} {Q:VK} {E:XK} (h:Dr st H) (kN:0 < b) (pK:b<=1000) (q:∀ d H',0<=d->d < b->Dr st H'->cH st H H'->Q (.int d) H'):BP [.ref st,.int b] H Q E:=by
 obtain ⟨x,y,z,e⟩:=h;exact ⟨x,y,z,e,kN,pK,fun d x' y' z' H' d0 d1 e' k=>q d H' d0 d1 ⟨x',y',z',e'⟩ k⟩
def pick {xs:List V} {d:Int} (h0:0<=d) (h1:d < xs.length):∃ v∈xs,cz xs d=some v:=by
 obtain ⟨n,rfl⟩:=PP h0;have hn:n < xs.length:=by omega
 exact ⟨xs[n],Z3 hn,eU (ul hn)⟩
def D0 {H:Hp} {st:Addr} {xs:List V} {Q:VK} {E:XK} {b:Int} (h:Dr st H) (hb:b=xs.length) (hn:xs.length<=1000) (h0:0 < xs.length) (q:∀ v H',v∈xs->Dr st H'->cH st H H'->Q v H') :
  xs.length<=sizeLine/\∀ p,H p=none->BP [.ref st,.int b] (upd H p (.lst xs)) (fun y H2=>oP K (.ref p) y H2 Q) E:=by
 refine ⟨fits hn,fun p hp=>?_⟩;have s1:=ag.upd (o:=.lst xs) hp;have b1:upd H p (.lst xs) p=some (.lst xs):=au;have np:=h.ne hp;generalize upd H p (.lst xs)=H1 at s1 b1 ⊢;refine gb (h.same s1) (by omega) (by omega) fun d H2 d0 d1 h2 k2=>?_;obtain ⟨v,hv,e⟩:=pick (xs:=xs) d0 (by omega);simp only [oP,bC,k2 _ _ np b1,e];exact q v H2 hv h2 ((s1.keep st).trans k2)
def PZ:Sp:=gd fun st H Q _=>Dr st H/\∀ z H',z∈iq->Dr st H'->cH st H H'->Q (.str z) H'
def Fc:T.jA.k P w base 3 PZ:=by
 refine T.jA.F.ok Eb (fun _ _ _ _ h=>cQ h fun _ _=>rfl) fun ax A outer s H vs Q E hr h=>cQ h fun st h=>?_;obtain ⟨aO,q⟩:=h;refine bR (b:=aZ AO) ((ad (aS 1 Eb.nd (db (aa bi (aa bi (aa bi (aa bi (aa bi (aa bi (aa bi (aa bi ae))))))))))
 (ao (aL (ci (bt (K:=K) rfl) (ac 1) (cj (Wa rfl) T.Bh IP (aa am (aa (bv (fL T) hr.m T.bJ.m T.bJ.F.kp T.bJ.b .nil aA (aa (ac 0) (aa am ae))) ae)))))))) ?_
 refine stI [some (V.ref st),none] ?_;right;refine ⟨fits (by simp),fun ps iL=>?_⟩;generalize hSL:[V.str (Str.ofString ""),V.str (Str.ofString "l"),V.str (Str.ofString "g"),V.str (Str.ofString "w"),V.str (Str.ofString "lg"),V.str (Str.ofString "lw"),V.str (Str.ofString "gw"),V.str (Str.ofString "lgw")]=SL;have s1:=ag.upd (o:=.lst SL) iL;have b1:upd H ps (.lst SL) ps=some (.lst SL):=au;have np:=aO.ne iL;have d1:=aO.same s1;generalize hH:upd H ps (.lst SL)=H1 at s1 b1 d1 ⊢;refine gb d1 (by decide) (by decide) fun d H2 e0 e1 d2 k2=>?_;have l2:H2 ps=some (.lst SL):=k2 _ _ np b1;have i0:0<=(if d < 7 then d else 7):=by split <;> omega
 have i1:(if d < 7 then d else 7) < (8:Int):=by split <;> omega
 obtain ⟨v,hv,e⟩:=pick (xs:=SL) i0 (by rw [<- hSL]; exact i1);dsimp only;simp only [bC,l2,e];obtain ⟨z,hz,rfl⟩:∃ z,z∈iq/\v=V.str z:=by
  rw [<- hSL] at hv;simp only [ss,u8,EQ] at hv;rcases hv with rfl | rfl | rfl | rfl | rfl | rfl | rfl | rfl <;> exact ⟨_,by decide +kernel,rfl⟩
 exact q z H2 hz d2 ((s1.keep st).trans k2)
inductive Down (d:Wd):Nat->List Str->Nat->Prop
 | nil {f}:Down d f [] f
 | cons {f nm ns k h t tk}:d.M.ts[f]?=some t->t.kd=("folder" : Str)->bZ ("g" : Str) (bK t d.z)=true->eg (.str nm)=true->nm.length<=8->aI (sD t.aw) (.inr nm)=some (.int ((k:Nat):Int))->d.M.ts[k]?=some tk->tk.kd=("folder" : Str)->Down d k ns h->Down d f (nm::ns) h
def vy {nm:Str} {ns:List Str}:cy (nm::ns)=cy ns++[.inr nm]:=by simp [cy]
def Q9 {d:Wd} {P:Ws->Option Tl->Prop} (g:Gd d.M) (hL:d.L.length=d.M.ts.length) {f h:Nat} {ns:List Str} (D:Down d f ns h):∀ {S:Ws} {l:List (Sum Nat Str)},S.here=f->S.left=l++cy ns ->
  (∀ S1:Ws,S1.here=h->S1.left=l->S1.place=S.place->S1.bu=S.bu->∃ n S' o,dW d n S1 S' o/\P S' o)->∃ n S' o,dW d n S S' o/\P S' o:=by
 induction D with
 | nil=>exact fun e1 e2 k=>k _ e1 (by simpa [cy] using e2) rfl rfl
 | @cons f nm ns k h t tk ht hk hg hn hl hv eC hkk D ih =>
  intro S l e1 e2 kk;obtain ⟨a,ha⟩:=adr hL ht;obtain ⟨b,hb⟩:=adr hL eC;rw [vy,<- T0] at e2;have st:fH d { S with left:=l++cy ns } nm { dq { S with left:=l++cy ns } with look:=(dq { S with left:=l++cy ns }).look+1,here:=cP k [] } none :=
   .go (t:=t) ⟨⟨a,by rw [<- e1] at ha; exact ha⟩,by rw [<- e1] at ht; exact ht,hk,hg⟩ (fun z=>by rw [z,Ft.2] at hn; cases hn) (fun z=>by rw [z,Ft.1] at hn; cases hn) hn (by omega) (.folder hv hb eC hkk (g.eE k))
  obtain ⟨n,S',o,r,p⟩:=ih (S:={ dq { S with left:=l++cy ns } with look:=(dq { S with left:=l++cy ns }).look+1,here:=cP k [] }) (l:=l) rfl rfl fun S1 a1 a2 a3 a4=>kk S1 a1 a2 (a3.trans rfl) (a4.trans rfl);exact ⟨n+1,S',o,.step e2 st r,p⟩
def S7 {d:Wd} {P:Ws->Option Tl->Prop} (hL:d.L.length=d.M.ts.length) {S:Ws} {l:List (Sum Nat Str)} {t:Th} (ht:d.M.ts[S.here]?=some t) (hk:t.kd=("folder" : Str)) (hg:bZ ("g" : Str) (bK t d.z)=true) (e2:S.left=l++[.inr ("." : Str)])
  (kk:∀ S1:Ws,S1.here=S.here->S1.left=l->S1.place=S.place->S1.bu=S.bu->∃ n S' o,dW d n S1 S' o/\P S' o):∃ n S' o,dW d n S S' o/\P S' o:=by
 obtain ⟨a,ha⟩:=adr hL ht;obtain ⟨n,S',o,r,p⟩:=kk (dq { S with left:=l }) rfl rfl rfl rfl;exact ⟨n+1,S',o,.step e2 (.dot (t:=t) ⟨⟨a,ha⟩,ht,hk,hg⟩ rfl) r,p⟩
def OX {d:Wd} {P:Ws->Option Tl->Prop} (g:Gd d.M) (hL:d.L.length=d.M.ts.length) {S:Ws} {l:List (Sum Nat Str)} {t:Th} (h0:S.here=d.root) (ht:d.M.ts[S.here]?=some t) (hk:t.kd=("folder" : Str)) (hg:bZ ("g" : Str) (bK t d.z)=true) (e2:S.left=l++[.inr (".." : Str)])
  (kk:∀ S1:Ws,S1.here=S.here->S1.left=l->S1.place=S.place->S1.bu=S.bu->∃ n S' o,dW d n S1 S' o/\P S' o):∃ n S' o,dW d n S S' o/\P S' o:=by
 obtain ⟨a,ha⟩:=adr hL ht;obtain ⟨n,S',o,r,p⟩:=kk { dq { S with left:=l } with here:=S.here } rfl rfl rfl rfl;exact ⟨n+1,S',o,.step e2 (.up (t:=t) ⟨⟨a,ha⟩,ht,hk,hg⟩ rfl (.eL ha ht (g.eE _) (by rw [qu,h0]; exact AT rfl))) r,p⟩
def Ua {d:Wd} {P:Ws->Option Tl->Prop} (g:Gd d.M) (hL:d.L.length=d.M.ts.length) {S:Ws} {l:List (Sum Nat Str)} {t tf:Th} {f:Nat} {z:Str} (h0:S.here≠d.root) (ht:d.M.ts[S.here]?=some t) (hk:t.kd=("folder" : Str)) (hg:bZ ("g" : Str) (bK t d.z)=true) (hp:t.bf=[(f,z)]) (bQ:d.M.ts[f]?=some tf) (e2:S.left=l++[.inr (".." : Str)])
  (kk:∀ S1:Ws,S1.here=f->S1.left=l->S1.place=S.place->S1.bu=S.bu->∃ n S' o,dW d n S1 S' o/\P S' o):∃ n S' o,dW d n S S' o/\P S' o:=by
 obtain ⟨a,ha⟩:=adr hL ht;obtain ⟨b,hb⟩:=adr hL bQ;obtain ⟨n,S',o,r,p⟩:=kk { dq { S with left:=l } with here:=cP f [] } rfl rfl rfl rfl;exact ⟨n+1,S',o,.step e2 (.up (t:=t) ⟨⟨a,ha⟩,ht,hk,hg⟩ rfl (.up ha ht (g.eE _) (by rw [qu]; exact ut h0) ha ht hp hb bQ (g.eE f))) r,p⟩
inductive Pass (d:Wd):Nat->List Str->Nat->Prop
 | nil {f}:Pass d f [] f
 | down {f ns k ps h}:Down d f ns k->Pass d k ps h->Pass d f (ns++ps) h
 | dot {f t ps h}:d.M.ts[f]?=some t->t.kd=("folder" : Str)->bZ ("g" : Str) (bK t d.z)=true->Pass d f ps h->Pass d f (("." : Str)::ps) h
 | HZ {t ps h}:d.M.ts[d.root]?=some t->t.kd=("folder" : Str)->bZ ("g" : Str) (bK t d.z)=true->Pass d d.root ps h->Pass d d.root ((".." : Str)::ps) h
 | up {k t tf f z ps h}:k≠d.root->d.M.ts[k]?=some t->t.kd=("folder" : Str)->bZ ("g" : Str) (bK t d.z)=true->t.bf=[(f,z)]->d.M.ts[f]?=some tf->Pass d f ps h->Pass d k ((".." : Str)::ps) h
def Nh {d:Wd} (g:Gd d.M) (hL:d.L.length=d.M.ts.length) {f h:Nat} {ps:List Str} (D:Pass d f ps h):∀ {S:Ws},S.here=f->S.left=cy ps->∃ n S' o,dW d n S S' o/\o=none/\S'.here=h:=by
 induction D with
 | nil=>exact fun e1 e2=>⟨0,_,none,.done (by rw [e2]; rfl),rfl,e1⟩
 | @down f ns k ps h D _ ih =>
  intro S e1 e2;exact Q9 (P:=fun S' o=>o=none/\S'.here=h) g hL D e1 (l:=cy ps) (by rw [e2]; simp [cy]) fun S1 a1 a2 _ _=>ih a1 a2
 | dot ht hk hg _ ih =>
  intro S e1 e2;subst e1;exact S7 (P:=fun S' o=>o=none/\S'.here=_) hL ht hk hg (e2.trans vy) fun S1 a1 a2 _ _=>ih a1 a2
 | HZ ht hk hg _ ih =>
  intro S e1 e2;exact OX (P:=fun S' o=>o=none/\S'.here=_) g hL e1 (by rw [e1]; exact ht) hk hg (e2.trans vy) fun S1 a1 a2 _ _=>ih (a1.trans e1) a2
 | up df ht hk hg hp bQ _ ih =>
  intro S e1 e2;subst e1;exact Ua (P:=fun S' o=>o=none/\S'.here=_) g hL df ht hk hg hp bQ (e2.trans vy) fun S1 a1 a2 _ _=>ih a1 a2
def OL {M:Hs} {L:List Ta} {z:Str} {last fr:Bool} {ps:List Str} {h:Nat} {t0 t:Th} (g:Gd M) (hL:L.length=M.ts.length) (hn:M.ts.length<=90) (kT:aI (sD M.ro) (.inr z)=some (.int ((0:Nat):Int))) (aO:aI (sD M.st) (.inr z)=some (.int ((0:Nat):Int)))
  (iJ:M.ts[0]?=some t0) (D:Pass ⟨L,M,z,last,0⟩ 0 ps h) (hl:ps.length<=2500) (ht:M.ts[h]?=some t) (hk:t.kd=("folder" : Str)) (hb:fq M 0 h):∃ e ns,kg ⟨L,M,z,last,0⟩ fr ps e/\e.res=.found h ns:=by
 obtain ⟨n,S',o,r,rfl,hh⟩:=Nh (d:=⟨L,M,z,last,0⟩) g hL D (S:=⟨0,none,0,[],cy ps,[],0,0⟩) rfl rfl;obtain ⟨a0,fY⟩:=adr hL iJ;have hB:uE ⟨L,M,z,last,0⟩ fr 0:=⟨kT,0,0,[],a0,t0,by cases fr with | true=>exact .inl ⟨rfl,rfl⟩ | false=>exact .inr ⟨rfl,aO⟩,fY,iJ,g.eE 0,⟨0,g.seen hL 0 0 t0 (sB _) iJ .refl⟩,rfl⟩;obtain ⟨ns,cG,kP⟩:=Tw (d:=⟨L,M,z,last,0⟩) g hL hn (S:=S') ⟨t,by rw [hh]; exact ht,.inl ⟨hk,by rw [hh]; exact hb⟩⟩;exact ⟨_,_,.found hB hl r kP,by rw [hh]⟩
def WE {M:Hs} {L:List Ta} {z:Str} {q:List (List Nat)} {nm t:List Nat} {h:Nat} {t0 th:Th} (g:Gd M) (hL:L.length=M.ts.length) (hn:M.ts.length<=90) (kT:aI (sD M.ro) (.inr z)=some (.int ((0:Nat):Int))) (aO:aI (sD M.st) (.inr z)=some (.int ((0:Nat):Int)))
  (iJ:M.ts[0]?=some t0) (D:Pass ⟨L,M,z,true,0⟩ 0 (q.map Tx.S++[("." : Str)]) h) (hq:told (Tx.words 47 t) t=q++[nm]) (cx:isNm nm=true) (hl:q.length<=900) (ht:M.ts[h]?=some th) (hk:th.kd=("folder" : Str)) (hb:fq M 0 h):jc ⟨L,M,z,true,0⟩ t (.inr (h,nm)):=by
 obtain ⟨e,ns,ge,he⟩:=OL (fr:=eJ t) g hL hn kT aO iJ D (by simp; omega) ht hk hb;exact .uA (.Fb hq cx) hl ge he
structure zZ (H:Hp) (it dk k:Nat) (t:Th):Prop where
 l:∃ up:V,H it=some (.lst [.str t.kd,.str t.ow,.str t.mi,.str t.re,.str t.tx,.ref dk,up])/\(k=0/\t.bf=[]/\up=.aq\/∃ (f:Nat) (nm:Str) (p:Addr),f < k/\t.bf=[(f,nm)]/\up=.ref p/\H p=some (.tup [.int (f:Int),.str nm]))
 d:Rd H dk (.dK (sD t.aw))
structure cD (H:Hp) (lm:Addr) (Is:List (Addr×Addr)) (ts:List Th):Prop where
 l:H lm=some (.lst (Is.map fun p=>.ref p.1))
 n:Is.length=ts.length
 t:∀ (k:Nat) (p:Addr×Addr) (t:Th),Is[k]?=some p->ts[k]?=some t->zZ H p.1 p.2 k t
def cD.at {H:Hp} {lm:Addr} {Is:List (Addr×Addr)} {ts:List Th} (m:cD H lm Is ts) {k:Nat} {t:Th} (h:ts[k]?=some t):∃ p,Is[k]?=some p/\cz (Is.map fun p=>V.ref p.1) (k:Int)=some (.ref p.1)/\zZ H p.1 p.2 k t:=by
 have hk:=(lv.mp h).1;have e:Is[k]?=some (Is[k]'(by rw [m.n]; exact hk)):=ul _;exact ⟨_,e,eU (by rw [FS,e]; rfl),m.t k _ t e h⟩
def T8:Sp:=JO fun lm z n y H Q _=>X4 fun Is ts k t=>A5 (cD H lm Is ts) (n=((k:Nat):Int)) (ts[k]?=some t) (y.length<=8) (Q (.bl (bZ y (bK t z))) H)
def AM:T.gT.k P w base 1 T8:=by
 refine T.gT.F.ok Ic (fun _ _ _ _ h=>Ga h fun _ _ _ _ _=>rfl) fun ax A outer s H vs Q E hr h=>Ga h fun lm z n y h=>?_;obtain ⟨Is,ts,k,t,m,rfl,ht,hy,q⟩:=h;obtain ⟨p,hp,cN,mt⟩:=m.at ht;obtain ⟨up,hl,_⟩:=mt.l;refine bR (b:=aZ AL) ((ad (aS 4 Ic.nd (ci (bt (K:=K) rfl) (ac 0) (ac 2)))
 (ao (aL (f8 (uP (K:=K) rfl) (ac 3) (ci (bt (K:=K) rfl) (ac 4) (cr cR am (BG RP T.Gg E4 (aa (f8 eX (ci (bt (K:=K) rfl) (ac 4) am) (ac 1)) ae))))))))) ?_
 refine stI [some (V.ref lm),some (V.str z),some (V.int (k:Int)),some (V.str y),none] ?_;right;simp only [bC,m.l,cN];left;have a1:cz [V.str t.kd,V.str t.ow,V.str t.mi,V.str t.re,V.str t.tx,V.ref p.2,up] 1=some (.str t.ow):=eU (j:=1) rfl;have a2:cz [V.str t.kd,V.str t.ow,V.str t.mi,V.str t.re,V.str t.tx,V.ref p.2,up] (2+0)=some (.str t.mi):=eU (j:=2) rfl;have a3:cz [V.str t.kd,V.str t.ow,V.str t.mi,V.str t.re,V.str t.tx,V.ref p.2,up] (2+1)=some (.str t.re):=eU (j:=3) rfl;simp only [bC,hl,a1];by_cases e:t.ow=z
 ·rw [Ch (by rw [AT e]; decide),a2];rw [show bK t z=t.mi from Db e.symm] at q;exact q
 ·rw [Db (by rw [ut e]; rfl),a3];rw [show bK t z=t.re from Ch fun h=>e h.symm] at q;exact q
inductive dU (ts:List Th) (z:Str):Nat->Prop
 | root {t}:ts[0]?=some t->bZ ("g" : Str) (bK t z)=true->dU ts z 0
 | up {k t f nm}:k≠0->ts[k]?=some t->bZ ("g" : Str) (bK t z)=true->t.bf=[(f,nm)]->dU ts z f->dU ts z k
def Qf:Sp:=lz fun lm z n H Q _=>X3 fun Is ts k=>A4 (cD H lm Is ts) (n=((k:Nat):Int)) (k < ts.length) (∀ b:Bool,(b=true->dU ts z k)->Q (.bl b) H)
def Nm:T.ph.k P w base 2 Qf:=by
 refine T.ph.F.ok IH (fun _ _ _ _ h=>fJ h fun _ _ _ _=>rfl) fun ax A outer s H vs Q E hr h=>fJ h fun lm z n h=>?_;obtain ⟨Is,ts,k,m,rfl,hk,q⟩:=h;refine bR (b:=aZ zB) ((ad (l8 P3 (bc eX (ac 2) am) (ad (bb (dN (cX (bv (AM T) hr.m T.gT.m T.gT.F.kp T.gT.b .nil aA (aa (ac 0) (aa (ac 1) (aa (ac 2) (aa bi ae))))))) (ao (aL em)) ce)
 (ao (aS 2 IH.nd (ci (bt (K:=K) rfl) (ci (bt (K:=K) rfl) (ci (bt (K:=K) rfl) (ac 0) (ac 2)) am) am)))))
 (ao (aL (bv (AM T) hr.m T.gT.m T.gT.F.kp T.gT.b .nil aA (aa (ac 0) (aa (ac 1) (aa am (aa bi ae))))))))) ?_
 refine stI [some (V.ref lm),some (V.str z),some (V.int (k:Int))] ?_;refine gj (fun σ' H'=>H'=H/\σ'=[some (V.ref lm),some (V.str z),some (V.int ((0:Nat):Int))]/\(dU ts z 0->dU ts z k)) ?_ ?_
 ·refine ⟨fun j σ' H'=>H'=H/\j < ts.length/\σ'=[some (V.ref lm),some (V.str z),some (V.int (j:Int))]/\(dU ts z j->dU ts z k),⟨k,rfl,hk,rfl,id⟩,?_⟩;rintro j σ' H' ⟨rfl,hj,rfl,ho⟩;left;by_cases e0:j=0
  ·subst e0;exact bU (by decide) ⟨rfl,rfl,ho⟩
  refine dC (by rw [ut (by omega)]; rfl) ⟨_,fun _ _ z=>z,ai ?_⟩;have ht:ts[j]?=some ts[j]:=ul hj;generalize ts[j]=t at ht;left;refine ⟨Is,ts,j,t,m,rfl,ht,by decide +kernel,?_⟩;cases hg:bZ (Str.ofString "g") (bK t z) with
  | false=>exact bS (q _ nofun)
  | true =>
   refine bA ?_;obtain ⟨p,hp,cN,mt⟩:=m.at ht;obtain ⟨up,hl,h⟩:=mt.l;rcases h with ⟨h,_⟩ | ⟨f,nm,pp,hf,bw,rfl,jo⟩
   ·exact absurd h e0
   have a6:cz [V.str t.kd,V.str t.ow,V.str t.mi,V.str t.re,V.str t.tx,V.ref p.2,V.ref pp] 6=some (.ref pp):=eU (j:=6) rfl;simp only [bC,m.l,cN,hl,a6,jo,fv];exact ⟨f,hf,trivial,by omega,by trivial,fun o=>ho (.up e0 ht hg bw o)⟩
 ·rintro σ' H' ⟨rfl,rfl,ho⟩;left;have h0:ts[0]?=some (ts[0]'(by omega)):=ul _;exact ⟨Is,ts,0,_,m,rfl,h0,by decide +kernel,q _ fun hb=>ho (.root h0 hb)⟩
def cD.same {H H':Hp} {lm:Addr} {Is:List (Addr×Addr)} {ts:List Th} (m:cD H lm Is ts) (s:ag H H'):cD H' lm Is ts :=
 ⟨s _ _ m.l,m.n,fun k p t h1 h2=>let ⟨⟨up,hl,h⟩,d⟩:=m.t k p t h1 h2; ⟨⟨up,s _ _ hl,h.imp id fun ⟨f,nm,q,a,b,c,e⟩=>⟨f,nm,q,a,b,c,s _ _ e⟩⟩,d.imp (s _ _) fun ⟨o,e⟩=>⟨o,s _ _ e⟩⟩⟩
inductive gM (ts:List Th):Nat->List (List Nat)->Prop
 | root:gM ts 0 []
 | up {k t f wd W}:k≠0->ts[k]?=some t->t.bf=[(f,Tx.S wd)]->isNm wd=true->gM ts f W->gM ts k (W++[wd])
def gM.ok {ts:List Th} {k:Nat} {W:List (List Nat)} (h:gM ts k W):∀ w∈W,isNm w=true:=by
 induction h with
 | root=>nofun
 | up _ _ _ hn _ ih =>
  intro w hw;rcases LE.mp hw with hw | hw
  ·exact ih w hw
  ·rw [AC.mp hw]; exact hn
def Jw (ts:List Th):Prop:=∀ (j:Nat) (t:Th) (f:Nat) (nm:Str),ts[j]?=some t->t.bf=[(f,nm)]->∃ wd,nm=Tx.S wd/\isNm wd=true
def Tu:Sp:=jd fun lm n H Q _=>X3 fun Is ts k=>A6 (cD H lm Is ts) (n=((k:Nat):Int)) (k < ts.length) (k<=60) (Jw ts) (∀ W H',gM ts k W->W.length<=k->ag H H'->Q (.str (Tx.S (47::Tx.cC 47 W))) H')
def Vx:T.oA.k P w base 1 Tu:=by
 refine T.oA.F.ok vn (fun _ _ _ _ h=>bV h fun _ _ _=>rfl) fun ax A outer s H vs Q E hr h=>bV h fun lm n h=>?_;obtain ⟨Is,ts,k,m,rfl,hk,LS,kZ,q⟩:=h;refine bR (b:=aZ zd) ((ad (aS 2 vn.nd (db ae))
 (ad (l8 P3 (bc eX (ac 1) am) (ad (vm (ci (bt (K:=K) rfl) (ci (bt (K:=K) rfl) (ac 0) (ac 1)) am) (y9 (K:=K) (n:=2) rfl rfl (gn (cU 1 vn.nd) (gn (cU 3 vn.nd) u0))))
 (ao (aX (dz wP wS dR (ac 2) (aa (ac 3) ae))))))
 (ao (aL (cr cR bi (gq KK KM (jS (K:=K) rfl) bi (aa (Dv.rev (K:=K) rfl (ac 2) (lR (ii ky am))) ae)))))))) ?_
 refine stI [some (V.ref lm),some (V.int (k:Int)),none,none] ?_;right;refine ⟨by simp,fun p hp=>?_⟩;refine gj (fun σ' H'=>∃ us:List (List Nat),H'=upd H p (.lst (us.map fun u=>.str (Tx.S u)))/\(∃ x,σ'=[some (V.ref lm),some (V.int ((0:Nat):Int)),some (V.ref p),x])/\us.length<=k/\gM ts k us.reverse) ?_ ?_
 ·refine ⟨fun j σ' H'=>∃ us:List (List Nat),H'=upd H p (.lst (us.map fun u=>.str (Tx.S u)))/\j < ts.length/\(∃ x,σ'=[some (V.ref lm),some (V.int (j:Int)),some (V.ref p),x])/\us.length+j<=k/\∀ W,gM ts j W->gM ts k (W++us.reverse),⟨k,[],rfl,hk,⟨_,rfl⟩,by simp,fun W h=>by simpa using h⟩,?_⟩;rintro j σ' H' ⟨us,rfl,hj,⟨x,rfl⟩,hu,ho⟩;have mj:=m.same (ag.upd (o:=.lst (us.map fun u=>V.str (Tx.S u))) hp);have lj:upd H p (.lst (us.map fun u=>V.str (Tx.S u))) p=some (.lst (us.map fun u=>V.str (Tx.S u))):=au;left;by_cases e0:j=0
  ·subst e0;exact bU (by decide) ⟨us,rfl,⟨x,rfl⟩,hu,ho [] .root⟩
  refine dC (by rw [ut (by omega)]; rfl) ⟨_,fun _ _ z=>z,ai ?_⟩;have ht:ts[j]?=some ts[j]:=ul hj;generalize ts[j]=t at ht;obtain ⟨pi,tM,cN,mt⟩:=mj.at ht;obtain ⟨up,hl,h⟩:=mt.l;rcases h with ⟨h,_⟩ | ⟨f,nm,pp,hf,bw,rfl,jo⟩
  ·exact absurd h e0
  obtain ⟨wd,rfl,gy⟩:=kZ j t f nm ht bw;have a6:cz [V.str t.kd,V.str t.ow,V.str t.mi,V.str t.re,V.str t.tx,V.ref pi.2,V.ref pp] 6=some (.ref pp):=eU (j:=6) rfl;left;simp only [bC,mj.l,cN,hl,a6];refine ⟨pp,_,rfl,bI.of jo,rfl,_,_,rfl,_,_,rfl,rfl,?_⟩;simp only [lj];refine ⟨Gc (show _<=60 by simp; omega) (by decide),f,hf,us++[wd],?_,by omega,⟨_,rfl⟩,by simp; omega,fun W h=>?_⟩
  ·rw [ji,Fr]; rfl
  ·have:=ho _ (.up e0 ht bw gy h)
   simpa using this
 ·rintro σ' H' ⟨us,rfl,⟨x,rfl⟩,hu,hn⟩;refine fM (o:=.lst (us.map fun u=>V.str (Tx.S u))) hp fun H1 s1 l1=>?_;left;unfold zu;left;refine ⟨by trivial,p,_,rfl,aE.of l1,fun p2 cE=>?_⟩;have h8:∀ s∈us.reverse.map Tx.S,s.length<=8:=fun s hs=>by
   obtain ⟨w,hw,rfl⟩:=Cl.mp hs;have:=hn.ok w hw;unfold isNm at this;simp only [Do,Zu] at this;exact this.1.2
  obtain ⟨b1,b2⟩:=uh h8 (by simp; omega);refine ⟨_,aE.of au,us.reverse.map Tx.S,by simp [List.map_reverse,Zv],wE b1 (by decide),wE (Zz b2 _) (by decide),?_⟩;rw [show Str.ofString "/" = Tx.S [47] from rfl,Tx.pb,show Tx.S [47]++Tx.S (Tx.cC 47 us.reverse)=Tx.S (47::Tx.cC 47 us.reverse) from Tx.ko [47] _];exact q _ _ hn (by rw [Wp]; exact hu) (s1.trans (ag.upd cE))
def joinR (n:Nat):List (List Nat)->List Nat
 | []=>[]
 | [x]=>x
 | x::y::r=>x++List.replicate n 47++joinR n (y::r)
def u9 (n:Nat):∀ ps:List (List Nat),Str.join (Tx.S (List.replicate n 47)) (ps.map Tx.S)=Tx.S (joinR n ps)
 | []=>rfl
 | [x]=>rfl
 | x::y::r=>by
  have ih:=u9 n (y::r);show Tx.S x++Tx.S (List.replicate n 47)++Str.join (Tx.S (List.replicate n 47)) ((y::r).map Tx.S)=Tx.S (x++List.replicate n 47++joinR n (y::r));rw [ih,Tx.ko,Tx.ko]
def EV (n:Nat):∀ ps:List (List Nat),(∀ w∈ps,47 ∉ w/\w≠[])->Tx.words 47 (joinR (n+1) ps)=ps
 | [],_=>rfl
 | [x],h=>Tx.uS 47 x (h x (by simp)).1 (h x (by simp)).2
 | x::y::r,h=>by
  have ih:=EV n (y::r) (fun w hw=>h w (Ev _ hw));show Tx.words 47 (x++List.replicate (n+1) 47++joinR (n+1) (y::r))=_;rw [UV,T0,List.cons_append,Tx.BX,Tx.ur,ih,Tx.uS 47 x (h x (by simp)).1 (h x (by simp)).2];rfl
def AD (n k:Nat):∀ ps:List (List Nat),(∀ w∈ps,w.length<=k)->(joinR n ps).length<=ps.length * (k+n)
 | [],_=>At _
 | [x],h=>by
  have:=h x (by simp);show x.length<=1 * (k+n);omega
 | x::y::r,h=>by
  have ih:=AD n k (y::r) (fun w hw=>h w (Ev _ hw));have:=h x (by simp);show (x++List.replicate n 47++joinR n (y::r)).length<=((y::r).length+1) * (k+n);rw [ww,ww,List.length_replicate,Nat.add_mul,Nat.one_mul];omega
def Jt (n:Nat):∀ ps:List (List Nat),(∀ w∈ps,47 ∉ w/\w≠[])->ps≠[]->(joinR n ps).getLast?≠some 47/\joinR n ps≠[]
 | [],_,h=>absurd rfl h
 | [x],h,_=>⟨fun e=>(h x (by simp)).1 (List.mem_of_getLast? e),(h x (by simp)).2⟩
 | x::y::r,h,_=>by
  obtain ⟨a,b⟩:=Jt n (y::r) (fun w hw=>h w (Ev _ hw)) (by simp);show (x++List.replicate n 47++joinR n (y::r)).getLast?≠some 47/\x++List.replicate n 47++joinR n (y::r)≠[];exact ⟨by rw [Tx.qZ _ _ b]; exact a,by simp [b]⟩
structure rF (t:List Nat) (V:List (List Nat)):Prop where
 w:Tx.words 47 t=V
 told:told (Tx.words 47 t) t=V
 p:fP t
section
variable {V:List (List Nat)}
def r9 (h:V.all bX=true):∀ w'∈V,47 ∉ w'/\w'≠[]:=fun w' hw'=>let q:=lW (Go.mp h w' hw'); ⟨q.1,q.2.1⟩
def jL (h:V.all bX=true):∀ w'∈V,w'.length<=8:=fun w' hw'=>(lW (Go.mp h w' hw')).2.2
def Iv (h:V.all bX=true) (hn:V≠[]) (hl:V.length<=150):rF (Tx.cC 47 V) V:=by
 have e:=Tx.wb 47 V (r9 h);have l:=Tx.rh 47 8 V (jL h);refine ⟨e,by rw [e]; exact Vf h,?_,by omega,by rw [e]; exact h⟩;have:=Tx.B2 47 V (r9 h) hn;exact List.length_pos_iff.mpr this
def u3 (h:V.all bX=true) (hl:V.length<=150):rF (47::Tx.cC 47 V) V:=by
 have e:Tx.words 47 (47::Tx.cC 47 V)=V:=by
  have:=Tx.wb 47 V (r9 h);rw [show (47::Tx.cC 47 V)=List.replicate 1 47++Tx.cC 47 V from rfl,Tx.ur,this]
 have l:=Tx.rh 47 8 V (jL h);exact ⟨e,by rw [e]; exact MJ h,by simp,by simp; omega,by rw [e]; exact h⟩
def Sn (h:V.all bX=true) (hn:V≠[]) (hl:V.length<=150):rF (47::47::joinR 2 V) V:=by
 have e:Tx.words 47 (47::47::joinR 2 V)=V:=by
  have:=EV 1 V (r9 h);rw [show (47::47::joinR 2 V)=List.replicate 2 47++joinR 2 V from rfl,Tx.ur,this]
 have l:=AD 2 8 V (jL h);obtain ⟨a,b⟩:=Jt 2 V (r9 h) hn;refine ⟨e,?_,by simp,by simp; omega,by rw [e]; exact h⟩;rw [e];unfold L2.bL.told;refine Ch fun z=>?_;rw [show (47::47::joinR 2 V)=[47,47]++joinR 2 V from rfl,Tx.qZ _ _ b] at z;exact a z.2
end
def EH (c:Nat):∀ (ps:List Str) (n:Nat),(∀ s∈ps,s.length<=8)->ps.foldl (fun n z=>n+z.length+c) n<=n+(8+c) * ps.length:=qS c
def NT {W:List (List Nat)}:eV (PV W) none (some 1)=PV (W.take 1):=by
 unfold eV;rw [show (1:Int)=((1:Nat):Int) from rfl,HT.vC];cases W with
 | nil=>rfl
 | cons x r=>simp [PV,HT.da]
def Xy:Sp:=GW fun wy nm st H Q _=>X2 fun W wd=>A6 (wy=Tx.S (47::Tx.cC 47 W)) (nm=Tx.S wd) (W.all bX=true) (bX wd=true) (W.length<=60) (∀ q t H',(q=W\/q=W++[[46]]\/q=W.take 1++[[46,46]]++W)->rF t (q++[wd])->ag H H'->Q (.str (Tx.S t)) H')
def Vi:T.ni.k P w base 1 Xy:=by
 refine T.ni.F.ok Iq (fun _ _ _ _ h=>E5 h fun _ _ _ _=>rfl) fun ax A outer s H vs Q E hr h=>E5 h fun wy nm st h=>?_;obtain ⟨W,wd,rfl,rfl,hW,gy,LS,q⟩:=h;refine bR (b:=aZ xW) ((ad (Fn 3 rfl Iq.nd (x:=("_law_part" : Str)) (rS (K:=K) rfl (gq PySem.F.slot_str_split PySem.F.type_str_split Eu (ac 0) (aa bi ae))) (fun _ _ _ _=>by exact (yv (bc eX (ac 0) bi))) (fun _ _ _ _=>by exact (cU 0 (show List.Nodup (["_law_part"]:List Str) by decide))) (fun _ _ _ _=>by exact (ac 0)) (.of rfl (by exact trivial) (by walk_at "c") rfl (by exact trivial)))
 (ad (bb (bc eA (ac 2) am) (ao (aL (cr cR bi (gq KK KM (jS (K:=K) rfl) bi (aa (cr cR (ac 3) (db (aa (ac 1) ae))) ae))))) ce)
 (ad (bb (bc eA (ac 2) am) (ao (aL (gq KK KM (jS (K:=K) rfl) bi (aa (cr cR (ac 3) (db (aa (ac 1) ae))) ae)))) ce)
 (ad (bb (bc eA (ac 2) am) (ao (aL (gq KK KM (jS (K:=K) rfl) bi (aa (cr cR (cr cR (db (aa bi ae)) (ac 3)) (db (aa bi (aa (ac 1) ae)))) ae)))) ce)
 (ao (aL (gq KK KM (jS (K:=K) rfl) bi (aa (cr cR (cr cR (cr cR (cr cR (db (aa bi ae)) (jp (nN (K:=K) rfl) (ac 3) nS (lR am))) (db (aa bi ae))) (ac 3)) (db (aa (ac 1) ae))) ae))))))))) ?_
 refine stI [some (V.str (Tx.S (47::Tx.cC 47 W))),some (V.str (Tx.S wd)),some (V.int st),none] ?_;have tJ:Str.ofString "/" = Tx.S [47]:=by decide +kernel
 have e0:Str.ofString "" = Tx.S []:=by decide +kernel
 have pw:=u3 hW (by omega);have l:=Tx.rh 47 8 W (jL hW);generalize ht:47::Tx.cC 47 W=t at pw;have tl:t.length<=560:=by rw [<- ht]; simp; omega
 have tQ:=Tx.xM 47 t;right;simp only [tJ,e0];refine ⟨rfl,by rw [Tx.cB]; exact fits (by omega),?_,?_⟩
 ·rw [Tx.y1,Tx.kE,Tx.BO,Tx.sJ,mo];exact fits (by omega)
 intro l hl;rw [Tx.Fv t 47 (by decide)];refine fM (o:=.lst (((Tx.cut 47 t).map Tx.S).map V.str)) hl fun H1 s1 b1=>?_;refine ⟨⟨_,aE.of b1⟩,xD (fun x=>match x with | .str z=>!decide (z=Tx.S []) | _=>false) id (aE.of b1) (by rw [mo,mo]; exact fits (by omega)) ?_ ?_ ?_⟩
 ·intro x hx H2 _ R hR;obtain ⟨z,_,rfl⟩:=Cl.mp hx;left;exact hR H2 (ag.refl H2)
 ·intro x hx _ H2 _ R hR;left;exact hR H2 (ag.refl H2)
 intro H2 s2 l2 cg;have ew:((((Tx.cut 47 t).map Tx.S).map V.str).filter (fun x=>match x with | .str z=>!decide (z=Tx.S []) | _=>false)).map id=PV (Tx.words 47 t):=by
  rw [List.map_id,List.filter_map];show ((((Tx.cut 47 t).map Tx.S)).filter _).map V.str=_
  congr 1
  rw [<- Tx.Gy];refine List.filter_congr fun z _=>?_;show (!decide (z=Tx.S []))=decide (z≠Tx.S []);by_cases h:z=Tx.S [] <;> simp [h]
 rw [ew];rw [pw.w];have mT:=(s1.trans s2).trans (ag.upd (o:=.lst (PV W)) cg);have b3:upd H2 l2 (.lst (PV W)) l2=some (.lst (PV W)):=au;generalize upd H2 l2 (.lst (PV W))=H3 at mT b3 ⊢;clear s1 s2 b1 ew hl cg tQ;have tY:(W++[wd]).all bX=true:=by rw [_a,hW]; simp [gy]
 have bd:∀ {V:List (List Nat)},V.all bX=true->V.length<=99->(V.map Tx.S).foldl (fun n z=>n+z.length+(Tx.S [47]).length) 0<=sizeLine/\(Tx.S [47]).length+(Str.join (Tx.S [47]) (V.map Tx.S)).length<=sizeLine:=fun {V} h hl=>by
  obtain ⟨b1,b2⟩:=uh (ns:=V.map Tx.S) (fun s hs=>by obtain ⟨w,hw,rfl⟩:=Cl.mp hs; rw [Tx.cB]; exact jL h w hw) (by simp; omega);rw [tJ] at b1 b2;exact ⟨wE b1 (by decide),wE (Zz b2 _) (by decide)⟩
 right;refine e8 (fun _=>?_) (fun _=>ai ?_)
 ·refine ⟨fits (by simp),fun p hp=>?_⟩;simp only [(ag.upd (o:=.lst [V.str (Tx.S wd)]) hp) _ _ b3,au];refine ⟨fits (by simp [PV]; omega),fun p2 cE=>⟨_,aE.of au,(W++[wd]).map Tx.S,by simp [PV,Zv],?_,?_,?_⟩⟩
  ·exact (bd tY (by simp; omega)).1
  ·exact (bd tY (by simp; omega)).2
  ·rw [Tx.pb,Tx.ko];exact q W _ _ (.inl rfl) (u3 tY (by simp; omega)) (mT.trans ((ag.upd hp).trans (ag.upd cE)))
 left;refine e8 (fun _=>?_) (fun _=>ai ?_)
 ·refine ⟨fits (by simp),fun p hp=>?_⟩;simp only [(ag.upd (o:=.lst [V.str (Tx.S wd)]) hp) _ _ b3,au];refine ⟨fits (by simp [PV]; omega),fun p2 cE=>⟨_,aE.of au,(W++[wd]).map Tx.S,by simp [PV,Zv],(bd tY (by simp; omega)).1,?_⟩⟩;rw [Tx.pb];exact q W _ _ (.inl rfl) (Iv tY (by simp) (by simp; omega)) (mT.trans ((ag.upd hp).trans (ag.upd cE)))
 left;refine e8 (fun _=>?_) (fun _=>?_)
 ·refine ⟨fits (by simp),fun p hp=>?_⟩;have s4:=ag.upd (o:=.lst [V.str (Tx.S [])]) hp;have c4:upd H3 p (.lst [V.str (Tx.S [])]) p=some (.lst [V.str (Tx.S [])]):=au;have d4:=s4 _ _ b3;generalize upd H3 p (.lst [V.str (Tx.S [])])=H4 at s4 c4 d4 ⊢;simp only [c4,d4];refine ⟨fits (by simp [PV]; omega),fun p2 cE=>⟨fits (by simp),fun p3 fE=>?_⟩⟩;have s5:=ag.upd (o:=.lst ([V.str (Tx.S [])]++PV W)) cE;have c5:upd H4 p2 (.lst ([V.str (Tx.S [])]++PV W)) p2=some (.lst ([V.str (Tx.S [])]++PV W)):=au;generalize upd H4 p2 (.lst ([V.str (Tx.S [])]++PV W))=H5 at s5 c5 fE ⊢;simp only [(ag.upd (o:=.lst [V.str (Str.ofString "."),V.str (Tx.S wd)]) fE) _ _ c5,au];have hV:(W++[[46],wd]).all bX=true:=by rw [_a,hW]; simp [gy]; decide
  refine ⟨fits (by simp [PV]; omega),fun p4 iM=>⟨_,aE.of au,([]::(W++[[46],wd])).map Tx.S,?_,?_,?_⟩⟩
  ·simp [PV,Zv]; decide +kernel
  ·refine wE (EH 2 _ 0 fun s hs=>?_) ?_
   ·obtain ⟨w,hw,rfl⟩:=Cl.mp hs;rw [Tx.cB];rcases ss.mp hw with rfl | hw
    ·exact At _
    ·exact jL hV w hw
   ·exact fits (by simp; omega)
  ·rw [show Str.ofString "//" = Tx.S (List.replicate 2 47) by decide +kernel,u9,show joinR 2 ([]::(W++[[46],wd]))=47::47::joinR 2 (W++[[46],wd]) by cases W <;> rfl];exact q (W++[[46]]) _ _ (.inr (.inl rfl)) (by rw [T0]; exact Sn hV (by simp) (by simp; omega)) (((mT.trans s4).trans s5).trans ((ag.upd fE).trans (ag.upd iM)))
 ·refine ⟨fits (by simp),fun p hp=>?_⟩;have s4:=ag.upd (o:=.lst [V.str (Tx.S [])]) hp;have c4:upd H3 p (.lst [V.str (Tx.S [])]) p=some (.lst [V.str (Tx.S [])]):=au;have d4:=s4 _ _ b3;generalize upd H3 p (.lst [V.str (Tx.S [])])=H4 at s4 c4 d4 ⊢;refine ⟨_,aE.of d4,fun p2 cE=>?_⟩;rw [NT];have s5:=ag.upd (o:=.lst (PV (W.take 1))) cE;have c5:upd H4 p2 (.lst (PV (W.take 1))) p2=some (.lst (PV (W.take 1))):=au;have l5:=s5 _ _ c4;have d5:=s5 _ _ d4;generalize upd H4 p2 (.lst (PV (W.take 1)))=H5 at s5 c5 l5 d5 ⊢;simp only [l5,c5];have t1:(W.take 1).length<=1:=by simp; omega
  refine ⟨fits (by simp [PV]; omega),fun p3 fE=>⟨fits (by simp),fun p4 iM=>?_⟩⟩;have s6:=ag.upd (o:=.lst ([V.str (Tx.S [])]++PV (W.take 1))) fE;have c6:upd H5 p3 (.lst ([V.str (Tx.S [])]++PV (W.take 1))) p3=some (.lst ([V.str (Tx.S [])]++PV (W.take 1))):=au;have d6:=s6 _ _ d5;generalize upd H5 p3 (.lst ([V.str (Tx.S [])]++PV (W.take 1)))=H6 at s6 c6 d6 iM ⊢;have s7:=ag.upd (o:=.lst [V.str (Str.ofString "..")]) iM;have c7:=s7 _ _ c6;have d7:=s7 _ _ d6;simp only [c7,au];refine ⟨fits (by simp [PV]; omega),fun p5 pM=>?_⟩;have s8:=ag.upd (o:=.lst ([V.str (Tx.S [])]++PV (W.take 1)++[V.str (Str.ofString "..")])) pM;have d8:=s8 _ _ d7;simp only [d8];refine ⟨fits (by simp [PV]; omega),fun p6 wI=>⟨fits (by simp),fun p7 hp7=>?_⟩⟩;have s9:=ag.upd (o:=.lst ([V.str (Tx.S [])]++PV (W.take 1)++[V.str (Str.ofString "..")]++PV W)) wI;have iF:=ag.upd (o:=.lst [V.str (Tx.S wd)]) hp7;simp only [iF _ _ (au (a:=p6))];have hV:(W.take 1++[[46,46]]++W++[wd]).all bX=true:=by
   have fV:(W.take 1).all bX=true:=Go.mpr fun w hw=>Go.mp hW w (List.mem_of_mem_take hw);rw [_a,_a,_a,hW,fV];simp [gy]
   decide
  refine ⟨fits (by simp [PV]; omega),fun p8 hp8=>⟨_,aE.of au,([]::(W.take 1++[[46,46]]++W++[wd])).map Tx.S,?_,?_,?_⟩⟩
  ·simp [PV,Zv]; decide +kernel
  ·refine wE (EH 1 _ 0 fun s hs=>?_) ?_
   ·obtain ⟨w,hw,rfl⟩:=Cl.mp hs;rw [Tx.cB];rcases ss.mp hw with rfl | hw
    ·exact At _
    ·exact jL hV w hw
   ·exact fits (by simp; omega)
  ·rw [Tx.pb,show Tx.cC 47 ([]::(W.take 1++[[46,46]]++W++[wd]))=47::Tx.cC 47 (W.take 1++[[46,46]]++W++[wd]) by cases W <;> rfl];exact q (W.take 1++[[46,46]]++W) _ _ (.inr (.inr rfl)) (u3 hV (by simp; omega)) ((((((((mT.trans s4).trans s5).trans s6).trans s7).trans s8).trans s9).trans iF).trans (ag.upd hp8))
def Down.snoc {d:Wd} {f k j:Nat} {ns:List Str} {nm:Str} {t tj:Th} (D:Down d f ns k) (ht:d.M.ts[k]?=some t) (hk:t.kd=("folder" : Str)) (hg:bZ ("g" : Str) (bK t d.z)=true) (hn:eg (.str nm)=true) (hl:nm.length<=8) (hv:aI (sD t.aw) (.inr nm)=some (.int ((j:Nat):Int))) (htj:d.M.ts[j]?=some tj) (hkj:tj.kd=("folder" : Str)):Down d f (ns++[nm]) j:=by
 induction D with
 | nil=>exact .cons ht hk hg hn hl hv htj hkj .nil
 | cons a b c e f' g' h i _ ih=>exact .cons a b c e f' g' h i (ih ht)
def yq (ts:List Th):Prop:=∀ (k:Nat) (t:Th) (f:Nat) (nm:Str),ts[k]?=some t->t.bf=[(f,nm)]->∃ tf,ts[f]?=some tf/\aI (sD tf.aw) (.inr nm)=some (.int ((k:Nat):Int))
def dU.g {ts:List Th} {z:Str} {k:Nat} (h:dU ts z k):∃ t,ts[k]?=some t/\bZ ("g" : Str) (bK t z)=true:=by
 cases h with
 | root a b=>exact ⟨_,a,b⟩
 | up _ a b _ _=>exact ⟨_,a,b⟩
def Ra {M:Hs} {L:List Ta} {z:Str} {last:Bool} (g:Gd M) (lk:yq M.ts) {k:Nat} {W:List (List Nat)} (hW:gM M.ts k W):dU M.ts z k->(∃ t,M.ts[k]?=some t/\t.kd=("folder" : Str))->Down ⟨L,M,z,last,0⟩ 0 (W.map Tx.S) k:=by
 induction hW with
 | root=>exact fun _ _=>.nil
 | @up k t f wd W h0 ht hp gy _ ih =>
  rintro ho ⟨t',ht',hk'⟩;rw [ht] at ht';cases ht';cases ho with
  | root=>exact absurd rfl h0
  | @up _ t2 f2 mO _ iG _ cE ho2 =>
   rw [ht] at iG;cases iG;rw [hp] at cE;cases cE;obtain ⟨tf,bQ,hv⟩:=lk k t f _ ht hp;have gr:tf.kd=("folder" : Str):=by
    rcases (g.th k t ht).pl with ⟨e,_⟩ | ⟨f',nm',tf',_,e,_,h1,h2⟩
    ·exact absurd e h0
    ·rw [hp] at e;cases e;rw [bQ] at h1;cases h1;exact h2
   obtain ⟨tf2,h1,h2⟩:=ho2.g;rw [bQ] at h1;cases h1;rw [Fr];exact (ih ho2 ⟨tf,bQ,gr⟩).snoc bQ gr h2 (rN gy) (by rw [Tx.cB]; exact (nH gy).2.2.2) hv ht hk'
def OT {M:Hs} {L:List Ta} {z:Str} {last:Bool} (g:Gd M) (lk:yq M.ts) {k:Nat} {W:List (List Nat)} (hW:gM M.ts k W) (ho:dU M.ts z k) (hk:∃ t,M.ts[k]?=some t/\t.kd=("folder" : Str)) {q:List (List Nat)} (hq:q=W\/q=W++[[46]]\/q=W.take 1++[[46,46]]++W) (h0:∃ t,M.ts[0]?=some t/\t.kd=("folder" : Str)/\bZ ("g" : Str) (bK t z)=true):Pass ⟨L,M,z,last,0⟩ 0 (q.map Tx.S++[("." : Str)]) k:=by
 have D:Down ⟨L,M,z,last,0⟩ 0 (W.map Tx.S) k:=Ra g lk hW ho hk;obtain ⟨t,ht,cO⟩:=hk;obtain ⟨t',ht',hg⟩:=ho.g;rw [ht] at ht';cases ht';have dot:∀ {ps},Pass ⟨L,M,z,last,0⟩ k ps k->Pass ⟨L,M,z,last,0⟩ k (("." : Str)::ps) k:=fun p=>.dot ht cO hg p;have e46:Tx.S [46]=("." : Str):=by decide +kernel
 have Lz:Tx.S [46,46]=(".." : Str):=by decide +kernel
 rcases hq with rfl | rfl | rfl
 ·exact .down D (dot .nil)
 ·rw [Fr,T0,Fa,_g,e46];exact .down D (dot (dot .nil))
 ·obtain ⟨t0,iJ,CJ,CB⟩:=h0;have tail:Pass ⟨L,M,z,last,0⟩ 0 (W.map Tx.S++[("." : Str)]) k:=.down D (dot .nil);cases W with
  | nil =>
   show Pass ⟨L,M,z,last,0⟩ 0 ([Tx.S [46,46]]++([]++[("." : Str)])) k;rw [Lz];exact .HZ iJ CJ CB tail
  | cons x r =>
   show Pass ⟨L,M,z,last,0⟩ 0 (Tx.S x::Tx.S [46,46]::((x::r).map Tx.S++[("." : Str)])) k;rw [Lz];rw [Fa] at D;cases D with
   | @cons _ _ _ k1 _ ta tb a1 a2 a3 a4 a5 a6 a7 a8 D2 =>
    have hb:bZ ("g" : Str) (bK tb z)=true:=by
     generalize r.map Tx.S=rs at D2;cases D2 with
     | nil =>
      have a7':M.ts[k]?=some tb:=a7;rw [ht] at a7'; cases a7'; exact hg
     | cons b1 _ b3 _ _ _ _ _ _=>rw [a7] at b1; cases b1; exact b3
    obtain ⟨c,tc,ec,h1,h2⟩:=(g.th 0 ta a1).ch _ _ a6;have e1:k1=c:=by
     have:=V.int.inj ec;omega
    subst e1;have h1':M.ts[k1]?=some tb:=a7;rw [h1'] at h1;cases h1;have df:k1≠0:=fun e=>by
     rcases (g.th k1 tb a7).pl with ⟨_,e2⟩ | ⟨f,_,_,hf,_⟩
     ·rw [h2] at e2; cases e2
     ·omega
    exact Pass.down (ns:=[Tx.S x]) (.cons a1 a2 a3 a4 a5 a6 a7 a8 .nil) (.up df a7 a8 hb h2 iJ tail)
def rb {σ:St}:lX [] σ []:=⟨rfl,nofun⟩
def iW {j:Nat} {ix:List Nat} {σ:St} {v:V} {vs:List V} (h:σ[j]?=some (some v)) (c:lX ix σ vs):lX (j::ix) σ (v::vs):=⟨Tm (· + 1) c.1,fun i k u h1 h2=>by
 cases i with
 | zero=>cases h1; cases h2; exact h
 | succ i=>exact c.2 i k u h1 h2⟩
def TH:Sp:=gd fun st H Q _=>Dr st H/\∀ tx H',tx.length<=60->Dr st H'->cH st H H'->Q (.str tx) H'
def PF:T.o6.k P w base 3 TH:=by
 refine T.o6.F.ok vq (fun _ _ _ _ h=>cQ h fun _ _=>rfl) fun ax A outer s H vs Q E hr h=>cQ h fun st h=>?_;obtain ⟨aO,q⟩:=h;refine bR (b:=aZ B3) ((ad (aS 1 vq.nd bi)
 (ad (aS 1 vq.nd (cr cR (ac 1) bi))
 (ad (aS 2 vq.nd (ci (bt (K:=K) rfl) (db (aa am (aa am (aa (bv (fL T) hr.m T.bJ.m T.bJ.F.kp T.bJ.b .nil aA (aa (ac 0) (aa am ae))) (aa am ae))))) (bv (fL T) hr.m T.bJ.m T.bJ.F.kp T.bJ.b .nil aA (aa (ac 0) (aa am ae)))))
 (ao (aL (gq KK KM (jS (K:=K) rfl) bi (aa (nI rfl (TN:=["_law_k"]) (caps:=["_law_some","_law_source_here"]) (ix:=[1,0]) (pa T.m9 (aa (ac 2) ae)) (fun _ _ _ _=>by exact oJ) (fun _ _ _ _=>by exact (cU 0 (show List.Nodup (["_law_k","_law_some","_law_source_here"]:List Str) by decide))) (fun _ _ _ _=>by exact (ci (bt (K:=K) rfl) (ac 1) (bv (fL T) hr.m T.bJ.m T.bJ.F.kp T.bJ.b .nil aA (aa (ac 2) (aa am ae))))) (.of rfl (by exact ⟨rfl,rfl,trivial⟩) (by walk_at "c") rfl (by exact ⟨⟨rfl,rfl,rfl,rfl⟩,⟨rfl,rfl,rfl,rfl⟩,trivial⟩))) ae)))))))) ?_
 refine stI [some (V.ref st),none,none] ?_;right;right;refine ⟨by decide +kernel,ai ?_⟩;left;refine gb aO (by decide) (by decide) fun d H1 d0 d1 h1 k1=>D0 h1 rfl (by simp) (by simp) fun v H2 hv h2 k2=>?_;obtain ⟨m,hm,rfl⟩:∃ m:Nat,m<=60/\v=V.int (m:Nat):=by
  obtain ⟨n,rfl⟩:=PP d0;simp only [ss,u8,EQ] at hv;rcases hv with rfl | rfl | rfl | rfl
  ·exact ⟨0,by decide,rfl⟩
  ·exact ⟨60,by decide,rfl⟩
  ·exact ⟨n,by omega,rfl⟩
  ·exact ⟨3,by decide,rfl⟩
 have al:(Str.ofString " !\"#$&'()*+,-./0123456789:;<=>?@ABCDEFGHIJKLMNOPQRSTUVWXYZ[\\]^_`" ++ Str.ofString "abcdefghijklmnopqrstuvwxyz{|}~").cps.toList.length=94:=by decide +kernel
 have al2:(Str.ofString " !\"#$&'()*+,-./0123456789:;<=>?@ABCDEFGHIJKLMNOPQRSTUVWXYZ[\\]^_`" ++ Str.ofString "abcdefghijklmnopqrstuvwxyz{|}~").length=94:=by decide +kernel
 generalize Str.ofString " !\"#$&'()*+,-./0123456789:;<=>?@ABCDEFGHIJKLMNOPQRSTUVWXYZ[\\]^_`" ++ Str.ofString "abcdefghijklmnopqrstuvwxyz{|}~" = az at al al2 ⊢;refine ⟨[.str az,.ref st],iW rfl (iW rfl rb),⟨by omega,by omega⟩,vV m (fun i ys H'=>cH st H H'/\Dr st H'/\∃ ps:List (List Nat),ys=PV ps/\(∀ w∈ps,w.length<=1)/\ps.length=i) (by omega) ⟨k1.trans k2,h2,[],rfl,nofun,rfl⟩ (fun i ys H1 h=>?_) (fun k ys H3 hk h R r=>?_) (fun ys H3 l h hl=>?_)⟩
 ·obtain ⟨_,_,ps,rfl,_,e⟩:=h;rw [<- e]; simp [PV]
 ·obtain ⟨k3,d3,ps,rfl,hp,e⟩:=h;left;refine gb d3 (by decide) (by decide) fun d H4 e0 e1 d4 k4=>⟨fits (by omega),?_⟩;obtain ⟨n,rfl⟩:=PP e0;rw [eU (j:=n) (ul (by omega))];exact r _ _ ⟨k3.trans k4,d4,ps++[[_]],by simp [PV]; rfl,fun w hw=>by
   rcases LE.mp hw with hw | hw
   ·exact hp w hw
   ·rw [AC.mp hw]; exact sB 1,by rw [ww,e]; rfl⟩
 ·obtain ⟨k3,d3,ps,rfl,hp,e⟩:=h;have s4:=ag.upd (o:=.lst (PV ps)) hl;have h0:=AD 0 1 ps hp;refine ⟨_,aE.of au,ps.map Tx.S,rfl,?_,?_⟩
  ·have:=qS (Str.ofString "").length (ps.map Tx.S) 0 (fun s hs=>by
    obtain ⟨x,hx,rfl⟩:=Cl.mp hs;rw [Tx.cB]; exact wE (hp x hx) (by decide))
   refine fits (wE this ?_);rw [show (Str.ofString "").length=0 by decide +kernel,mo];omega
  ·rw [show Str.ofString "" = Tx.S (List.replicate 0 47) by decide +kernel,u9];exact q _ _ (by rw [Tx.cB]; omega) (d3.same s4) (k3.trans (s4.keep st))
def Gv:∀ ps:List (List Nat),joinR 0 ps=ps.flatten
 | []=>rfl
 | [x]=>by simp [joinR]
 | x::y::r=>by
  show x++List.replicate 0 47++joinR 0 (y::r)=_;rw [Gv (y::r)];simp
def Yd:Sp:=gd fun st H Q _=>Dr st H/\∀ wd H',isNm wd=true->Dr st H'->cH st H H'->Q (.str (Tx.S wd)) H'
def Jd:T.jM.k P w base 3 Yd:=by
 refine T.jM.F.ok vp (fun _ _ _ _ h=>cQ h fun _ _=>rfl) fun ax A outer s H vs Q E hr h=>cQ h fun st h=>?_;obtain ⟨aO,q⟩:=h;refine bR (b:=aZ yS) ((ad (aS 1 vp.nd (db (aa bi (aa bi (aa bi (aa bi (aa bi (aa bi (aa bi (aa bi ae))))))))))
 (ad (bb (bc BK (bv (fL T) hr.m T.bJ.m T.bJ.F.kp T.bJ.b .nil aA (aa (ac 0) (aa am ae))) am) (ao (aL (ci (bt (K:=K) rfl) (ac 1) (bv (fL T) hr.m T.bJ.m T.bJ.F.kp T.bJ.b .nil aA (aa (ac 0) (aa am ae)))))) ce)
 (ad (aS 2 vp.nd bi)
 (ad (aS 3 vp.nd (cr cR am (bv (fL T) hr.m T.bJ.m T.bJ.F.kp T.bJ.b .nil aA (aa (ac 0) (aa am ae)))))
 (ao (aL (gq KK KM (jS (K:=K) rfl) bi (aa (nI rfl (TN:=["_law_k"]) (caps:=["_law_letters","_law_source_here"]) (ix:=[2,0]) (pa T.m9 (aa (ac 3) ae)) (fun _ _ _ _=>by exact oJ) (fun _ _ _ _=>by exact (cU 0 (show List.Nodup (["_law_k","_law_letters","_law_source_here"]:List Str) by decide))) (fun _ _ _ _=>by exact (ci (bt (K:=K) rfl) (ac 1) (bv (fL T) hr.m T.bJ.m T.bJ.F.kp T.bJ.b .nil aA (aa (ac 2) (aa am ae))))) (.of rfl (by exact ⟨rfl,rfl,trivial⟩) (by walk_at "c") rfl (by exact ⟨⟨rfl,rfl,rfl,rfl⟩,⟨rfl,rfl,rfl,rfl⟩,trivial⟩))) ae))))))))) ?_
 refine stI [some (V.ref st),none,none,none] ?_;right;refine ⟨fits (by simp),fun ps iL=>?_⟩;generalize hSL:[V.str (Str.ofString "a"),V.str (Str.ofString "ab"),V.str (Str.ofString "b"),V.str (Str.ofString "main"),V.str (Str.ofString "dots"),V.str (Str.ofString "folder"),V.str (Str.ofString "abcdefgh"),V.str (Str.ofString "zz")]=SL;have s1:=ag.upd (o:=.lst SL) iL;have b1:upd H ps (.lst SL) ps=some (.lst SL):=au;have np:=aO.ne iL;have d1:=aO.same s1;generalize hH:upd H ps (.lst SL)=H1 at s1 b1 d1 ⊢;right;refine gb d1 (by decide) (by decide) fun d H2 e0 e1 d2 k2=>?_;refine e8 (fun _=>?_) (fun _=>?_)
 ·refine gb d2 (by decide) (by decide) fun d3 H3 f0 f1 d3' k3=>?_;have l2:H3 ps=some (.lst SL):=k3 _ _ np (k2 _ _ np b1);obtain ⟨v,hv,e⟩:=pick (xs:=SL) f0 (by rw [<- hSL]; exact f1);simp only [bC,l2,e];obtain ⟨z,hz,rfl⟩:∃ z,isNm z=true/\v=V.str (Tx.S z):=by
   rw [<- hSL] at hv;simp only [ss,u8,EQ] at hv;rcases hv with rfl | rfl | rfl | rfl | rfl | rfl | rfl | rfl
   ·exact ⟨[97],by decide +kernel,by decide +kernel⟩
   ·exact ⟨[97,98],by decide +kernel,by decide +kernel⟩
   ·exact ⟨[98],by decide +kernel,by decide +kernel⟩
   ·exact ⟨[109,97,105,110],by decide +kernel,by decide +kernel⟩
   ·exact ⟨[100,111,116,115],by decide +kernel,by decide +kernel⟩
   ·exact ⟨[102,111,108,100,101,114],by decide +kernel,by decide +kernel⟩
   ·exact ⟨[97,98,99,100,101,102,103,104],by decide +kernel,by decide +kernel⟩
   ·exact ⟨[122,122],by decide +kernel,by decide +kernel⟩
  exact q z H3 hz d3' (((s1.keep st).trans k2).trans k3)
 right;right;refine gb d2 (by decide) (by decide) fun d3 H3 f0 f1 d3' k3=>?_;obtain ⟨m,rfl⟩:=PP f0;generalize haz:Str.ofString "abcdefghijklmnopqrstuvwxyz" = az;dsimp only;rw [show (1:Int)+(m:Int)=((m+1:Nat):Int) by omega];refine ⟨[.str az,.ref st],iW rfl (iW rfl rb),⟨by omega,by omega⟩,vV (m+1) (fun i ys H'=>cH st H H'/\Dr st H'/\∃ ps:List (List Nat),ys=PV ps/\(∀ w∈ps,∃ c,w=[c]/\iB.contains c=true)/\ps.length=i) (by omega) ⟨((s1.keep st).trans k2).trans k3,d3',[],rfl,nofun,rfl⟩ (fun i ys H1 h=>?_) (fun k ys H4 hk h R r=>?_) (fun ys H4 l h hl=>?_)⟩
 ·obtain ⟨_,_,ps,rfl,_,e⟩:=h;rw [<- e]; simp [PV]
 ·obtain ⟨k4,d4,ps,rfl,hp,e⟩:=h;left;refine gb d4 (by decide) (by decide) fun d5 H5 e5 e6 d5' k5=>⟨by rw [<- haz]; decide +kernel,?_⟩;obtain ⟨c,hc,hl⟩:=Xf e5 e6;rw [<- haz,hc];exact r _ _ ⟨k4.trans k5,d5',ps++[[c]],by simp [PV]; rfl,fun w hw=>by
   rcases LE.mp hw with hw | hw
   ·exact hp w hw
   ·exact ⟨c,AC.mp hw,hl⟩,by rw [ww,e]; rfl⟩
 ·obtain ⟨k4,d4,ps,rfl,hp,e⟩:=h;have s4:=ag.upd (o:=.lst (PV ps)) hl;have gi:∀ w∈ps,w.length<=1:=fun w hw=>by obtain ⟨c,rfl,_⟩:=hp w hw; exact sB 1
  refine ⟨_,aE.of au,ps.map Tx.S,rfl,?_,?_⟩
  ·have:=qS (Str.ofString "").length (ps.map Tx.S) 0 (fun s hs=>by
    obtain ⟨x,hx,rfl⟩:=Cl.mp hs;rw [Tx.cB]; exact wE (gi x hx) (by decide))
   refine fits (wE this ?_);rw [show (Str.ofString "").length=0 by decide +kernel,mo];omega
  ·rw [show Str.ofString "" = Tx.S (List.replicate 0 47) by decide +kernel,u9];refine q _ _ ?_ (d4.same s4) (k4.trans (s4.keep st));have hn:ps.flatten.length=ps.length:=by
    clear e hl s4
    induction ps with
    | nil=>rfl
    | cons x r ih =>
     obtain ⟨c,rfl,_⟩:=hp x (by simp);have:=ih (fun w hw=>hp w (Ev _ hw)) (fun w hw=>gi w (Ev _ hw));simp [this]
   rw [Gv];unfold isNm;rw [hn,e];simp only [Do,Zu];refine ⟨⟨by omega,by omega⟩,Go.mpr fun c hc=>?_⟩;obtain ⟨x,hx,DS⟩:=List.mem_flatten.mp hc;obtain ⟨c',rfl,hc'⟩:=hp x hx;rw [AC.mp DS]; exact hc'
def Af {w:List Nat} (h:isNm w=true):bX w=true:=by unfold bX; rw [h]; simp
def Pq:Sp:=gd fun st H Q _=>Dr st H/\∀ tl H',fP tl->tl.length<=120->Dr st H'->cH st H H'->Q (.str (Tx.S tl)) H'
def YC:T.nX.k P w base 4 Pq:=by
 refine T.nX.F.ok vM (fun _ _ _ _ h=>cQ h fun _ _=>rfl) fun ax A outer s H vs Q E hr h=>cQ h fun st h=>?_;obtain ⟨aO,q⟩:=h;refine bR (b:=aZ zH) ((ad (aS 1 vM.nd (db (aa bi (aa bi (aa bi (aa bi (aa (cr cR (cr oZ bi am) bi) (aa (cr oZ bi am) (aa bi (aa bi ae))))))))))
 (ad (aS 2 vM.nd (bv (fL T) hr.m T.bJ.m T.bJ.F.kp T.bJ.b .nil aA (aa (ac 0) (aa am ae))))
 (ad (bb (bc As (ac 2) am) (ao (aL (ci (bt (K:=K) rfl) (ac 1) (ac 2)))) ce)
 (ad (aS 3 vM.nd (cr cR am (bv (fL T) hr.m T.bJ.m T.bJ.F.kp T.bJ.b .nil aA (aa (ac 0) (aa am ae)))))
 (ao (aL (cr cR (ci (bt (K:=K) rfl) (db (aa bi (aa bi ae))) (cr jJ (ac 2) am)) (gq KK KM (jS (K:=K) rfl) bi (aa (nI rfl (TN:=["_law_k"]) (caps:=["_law_source_here"]) (ix:=[0]) (pa T.m9 (aa (ac 3) ae)) (fun _ _ _ _=>by exact oJ) (fun _ _ _ _=>by exact (cU 0 (show List.Nodup (["_law_k","_law_source_here"]:List Str) by decide))) (fun _ _ _ _=>by exact (bv (Jd T) hr.m T.jM.m T.jM.F.kp T.jM.b .nil aA (aa (ac 1) ae))) (.of rfl (by exact ⟨rfl,trivial⟩) (by walk_at "c") rfl (by exact ⟨⟨rfl,rfl,rfl,rfl⟩,trivial⟩))) ae)))))))))) ?_
 refine stI [some (V.ref st),none,none,none] ?_;right;refine ⟨by rw [show Str.ofString "x/" = Tx.S [120,47] by decide +kernel]; exact Tx.JG [120,47] 59 (by decide) (by decide),by decide +kernel,by rw [show Str.ofString "//" = Tx.S [47,47] by decide +kernel]; exact Tx.JG [47,47] 60 (by decide) (by decide),fits (by simp),fun ps iL=>?_⟩;generalize hSL:[V.str (Str.ofString "/"),V.str (Str.ofString "a"),V.str (Str.ofString ".."),V.str (Str.ofString "/ab/b/"),V.str (Txt.mul (Str.ofString "x/") 59++Str.ofString "x"),V.str (Txt.mul (Str.ofString "//") 60),V.str (Str.ofString "./."),V.str (Str.ofString "zz/../main")]=SL;have s1:=ag.upd (o:=.lst SL) iL;have b1:upd H ps (.lst SL) ps=some (.lst SL):=au;have np:=aO.ne iL;have d1:=aO.same s1;generalize hH:upd H ps (.lst SL)=H1 at s1 b1 d1 ⊢;right;refine gb d1 (by decide) (by decide) fun d H2 e0 e1 d2 k2=>?_;right;refine e8 (fun h8=>?_) (fun _=>?_)
 ·have l2:H2 ps=some (.lst SL):=k2 _ _ np b1;obtain ⟨v,hv,e⟩:=pick (xs:=SL) e0 (by rw [<- hSL]; exact of_decide_eq_true h8);simp only [bC,l2,e];obtain ⟨z,hz,Cq,rfl⟩:∃ z,fP z/\z.length<=120/\v=V.str (Tx.S z):=by
   rw [<- hSL] at hv;simp only [ss,u8,EQ] at hv;rcases hv with rfl | rfl | rfl | rfl | rfl | rfl | rfl | rfl
   ·exact ⟨[47],⟨by decide +kernel,by decide +kernel,by decide +kernel⟩,by decide +kernel,by decide +kernel⟩
   ·exact ⟨[97],⟨by decide +kernel,by decide +kernel,by decide +kernel⟩,by decide +kernel,by decide +kernel⟩
   ·exact ⟨[46,46],⟨by decide +kernel,by decide +kernel,by decide +kernel⟩,by decide +kernel,by decide +kernel⟩
   ·exact ⟨[47,97,98,47,98,47],⟨by decide +kernel,by decide +kernel,by decide +kernel⟩,by decide +kernel,by decide +kernel⟩
   ·exact ⟨(List.replicate 59 [120,47]).flatten++[120],⟨by decide +kernel,by decide +kernel,by decide +kernel⟩,by decide +kernel,by decide +kernel⟩
   ·exact ⟨List.replicate 120 47,⟨by decide +kernel,by decide +kernel,by decide +kernel⟩,by decide +kernel,by decide +kernel⟩
   ·exact ⟨[46,47,46],⟨by decide +kernel,by decide +kernel,by decide +kernel⟩,by decide +kernel,by decide +kernel⟩
   ·exact ⟨[122,122,47,46,46,47,109,97,105,110],⟨by decide +kernel,by decide +kernel,by decide +kernel⟩,by decide +kernel,by decide +kernel⟩
  exact q z H2 hz Cq d2 ((s1.keep st).trans k2)
 right;refine gb d2 (by decide) (by decide) fun d3 H3 f0 f1 d3' k3=>?_;obtain ⟨m,rfl⟩:=PP f0;dsimp only;refine ⟨fits (by simp),fun pq hpq=>?_⟩;have s4:=ag.upd (o:=.lst [V.str (Str.ofString ""),V.str (Str.ofString "/")]) hpq;have b4:upd H3 pq (.lst [V.str (Str.ofString ""),V.str (Str.ofString "/")]) pq=some (.lst [V.str (Str.ofString ""),V.str (Str.ofString "/")]):=au;have d4:=d3'.same s4;generalize upd H3 pq (.lst [V.str (Str.ofString ""),V.str (Str.ofString "/")])=H4 at s4 b4 d4 ⊢;obtain ⟨v,hv,e⟩:=pick (xs:=[V.str (Str.ofString ""),V.str (Str.ofString "/")]) (d:=d % 2) (by omega) (by show d % 2 < 2; omega);refine ⟨by decide,?_⟩;simp only [bC,b4,e];rw [show (1:Int)+(m:Int)=((m+1:Nat):Int) by omega];refine ⟨[.ref st],iW rfl rb,⟨by omega,by omega⟩,vV (m+1) (fun i ys H'=>cH st H H'/\Dr st H'/\∃ ps:List (List Nat),ys=PV ps/\(∀ w∈ps,isNm w=true)/\ps.length=i) (by omega) ⟨(((s1.keep st).trans k2).trans k3).trans (s4.keep st),d4,[],rfl,nofun,rfl⟩ (fun i ys H1 h=>?_) (fun k ys H5 hk h R r=>?_) (fun ys H5 l h hl=>?_)⟩
 ·obtain ⟨_,_,ps,rfl,_,e⟩:=h;rw [<- e]; simp [PV]
 ·obtain ⟨k5,d5,ps,rfl,hp,e⟩:=h;left;refine ⟨d5,fun wd H6 hw d6 k6=>?_⟩;exact r _ _ ⟨k5.trans k6,d6,ps++[wd],by simp [PV],fun w hw'=>by
   rcases LE.mp hw' with hw' | hw'
   ·exact hp w hw'
   ·rw [AC.mp hw']; exact hw,by rw [ww,e]; rfl⟩
 ·obtain ⟨k5,d5,ps,rfl,hp,ep⟩:=h;have s6:=ag.upd (o:=.lst (PV ps)) hl;have hV:ps.all bX=true:=Go.mpr fun w hw=>Af (hp w hw);have hj:=Tx.rh 47 8 ps (jL hV);obtain ⟨c1,c2⟩:=uh (ns:=ps.map Tx.S) (fun s hs=>by obtain ⟨w,hw,rfl⟩:=Cl.mp hs; rw [Tx.cB]; exact jL hV w hw) (by simp; omega);refine ⟨_,aE.of au,ps.map Tx.S,rfl,wE c1 (by decide),?_⟩;simp only [ss,u8,EQ] at hv;rw [show Str.ofString "/" = Tx.S [47] by decide +kernel] at c2 ⊢;rw [Tx.pb] at c2 ⊢;rcases hv with rfl | rfl
  ·dsimp only;refine ⟨wE (Zz c2 _) (by decide +kernel),?_⟩;rw [show Str.ofString "" = Tx.S [] by decide +kernel,Tx.ko];exact q _ _ (Iv hV (fun z=>by rw [z] at ep; cases ep) (by omega)).p (by rw [List.nil_append]; omega) (d5.same s6) (k5.trans (s6.keep st))
  ·dsimp only;refine ⟨wE (Zz c2 _) (by decide +kernel),?_⟩;rw [show Str.ofString "/" = Tx.S [47] by decide +kernel,Tx.ko];exact q _ _ (u3 hV (by omega)).p (by simp; omega) (d5.same s6) (k5.trans (s6.keep st))
def Sd:Sp:=lz fun lm z n H Q _=>X2 fun Is ts=>A4 (cD H lm Is ts) (ts.length<=60) (0<=n) (∀ H',ag H H'->Q .aq H'/\∀ k t,ts[k]?=some t->t.kd=("folder" : Str)->bZ ("w" : Str) (bK t z)=true->dU ts z k->Q (.int ((k:Nat):Int)) H')
def Nv:T.pd.k P w base 3 Sd:=by
 refine T.pd.F.ok zl (fun _ _ _ _ h=>fJ h fun _ _ _ _=>rfl) fun ax A outer s H vs Q E hr h=>fJ h fun lm z n h=>?_;obtain ⟨Is,ts,m,LS,hn,q⟩:=h;refine bR (b:=aZ BD) ((ad (aS 3 zl.nd (db ae))
 (ad (qG P3 rfl (pa T.m9 (aa (cj (fZ (K:=K) rfl) T.f9 Op (aa (ac 0) ae)) ae)) (cU 4 zl.nd) (ao (bb (eB (io (bc eA (ci (bt (K:=K) rfl) (ci (bt (K:=K) rfl) (ac 0) (ac 4)) am) bi) (io (cX (bv (AM T) hr.m T.gT.m T.gT.F.kp T.gT.b .nil aA (aa (ac 0) (aa (ac 1) (aa (ac 4) (aa bi ae)))))) (sH (cX (bv (Nm T) hr.m T.ph.m T.ph.F.kp T.ph.b .nil aA (aa (ac 0) (aa (ac 1) (aa (ac 4) ae))))))))) (ao (aX (dz wP wS dR (ac 3) (aa (ac 4) ae)))) ce)))
 (ad (bb (bc (yF (K:=K) rfl hr.oY) (ac 3) (db ae)) (ao (aL aq)) ce)
 (ao (aL (ci (bt (K:=K) rfl) (ac 3) (cr jJ (ac 2) (cj (fZ (K:=K) rfl) T.f9 Op (aa (ac 3) ae)))))))))) ?_
 refine stI [some (V.ref lm),some (V.str z),some (V.int n),none,none] ?_;right;refine ⟨by simp,fun p hp=>?_⟩;refine gj (fun σ' H'=>∃ ks:List Nat,H'=upd H p (.lst (nV ks))/\(∃ x,σ'=[some (V.ref lm),some (V.str z),some (V.int n),some (V.ref p),x])/\ks.length<=60/\∀ k∈ks,∃ t,ts[k]?=some t/\t.kd=("folder" : Str)/\bZ ("w" : Str) (bK t z)=true/\dU ts z k) ?_ ?_
 ·left;have m1:∀ ks,cD (upd H p (.lst (nV ks))) lm Is ts:=fun ks=>m.same (ag.upd hp);simp only [bC,(ag.upd (o:=.lst []) hp) _ _ m.l];rw [mo,m.n];refine ⟨⟨by omega,by omega⟩,Hy (lo:=0) (n:=((ts.length:Nat):Int).toNat) (fun i σ' H'=>∃ ks:List Nat,H'=upd H p (.lst (nV ks))/\(∃ x,σ'=[some (V.ref lm),some (V.str z),some (V.int n),some (V.ref p),x])/\ks.length<=i/\∀ k∈ks,∃ t,ts[k]?=some t/\t.kd=("folder" : Str)/\bZ ("w" : Str) (bK t z)=true/\dU ts z k) ⟨[],rfl,⟨_,rfl⟩,sB _,nofun⟩ ?_ (fun σ' H' ⟨ks,a,b,c,d⟩=>⟨ks,a,b,by omega,d⟩)⟩;rintro i σ' H' hi ⟨ks,rfl,⟨x,rfl⟩,hl,hk⟩;have hi':i < ts.length:=by omega
  have ht:ts[i]?=some ts[i]:=ul hi';generalize ts[i]=t at ht;have mk:=m1 ks;obtain ⟨pi,tM,cN,mt⟩:=mk.at ht;obtain ⟨up,jq,_⟩:=mt.l;have e0:(0:Int)+(i:Int)=(i:Int):=by omega
  have eL:∃ ks_1:List Nat,upd H p (.lst (nV ks))=upd H p (.lst (nV ks_1))/\(∃ x,[some (V.ref lm),some (V.str z),some (V.int n),some (V.ref p),some (V.int (i:Int))]=[some (V.ref lm),some (V.str z),some (V.int n),some (V.ref p),x])/\ks_1.length<=i+1/\∀ k∈ks_1,∃ t,ts[k]?=some t/\t.kd=("folder" : Str)/\bZ ("w" : Str) (bK t z)=true/\dU ts z k:=⟨ks,rfl,⟨_,rfl⟩,by omega,hk⟩;left;rw [e0];simp only [bC,mk.l,cN,jq,fv];by_cases e:t.kd=("folder" : Str)
  ·refine dC (AT e) ⟨Is,ts,i,t,mk,rfl,ht,by decide +kernel,?_⟩;cases hw:bZ (Str.ofString "w") (bK t z) with
   | false=>exact bA eL
   | true =>
    refine bS ⟨Is,ts,i,mk,rfl,hi',fun b hb=>?_⟩;cases b with
    | false=>exact bA eL
    | true =>
     refine bS ?_;simp only [au];refine ⟨Gc (show _<=60 by simp [nV]; try omega) (by decide),ks++[i],?_,⟨_,rfl⟩,by simp; try omega,fun k h=>?_⟩
     ·rw [ji]; simp [nV]
     ·rcases LE.mp h with h | h
      ·exact hk k h
      ·rw [AC.mp h]; exact ⟨t,ht,e,hw,hb rfl⟩
  ·exact bU (by rw [ut e]) eL
 ·rintro σ' H' ⟨ks,rfl,⟨x,rfl⟩,hl,hk⟩;refine fM (o:=.lst (nV ks)) hp fun H1 s1 l1=>?_;right;refine ⟨by simp,fun p2 cE=>?_⟩;have s2:=s1.trans (ag.upd (o:=.lst []) cE);have l2:=(ag.upd (o:=.lst []) cE) _ _ l1;refine ⟨_,[],aE.of l2,aE.of au,.inl ⟨rfl,?_⟩⟩;obtain ⟨q1,q2⟩:=q _ s2;cases ks with
  | nil=>exact dC rfl q1
  | cons c r =>
   refine bU (by simp [nV]) ?_;simp only [bC,l2];refine ⟨by simp [nV]; try omega,?_⟩;obtain ⟨v,hv,e⟩:=pick (xs:=nV (c::r)) (d:=n % ((nV (c::r)).length:Int)) (ZM _ (by simp [nV]; try omega)) (ZI _ (by simp [nV]; try omega));rw [e];obtain ⟨k,hkm,rfl⟩:=Cl.mp hv;obtain ⟨t,h1,h2,h3,h4⟩:=hk k hkm;exact q2 k t h1 h2 h3 h4
def HE (xs:List V):Prop:=∀ v∈xs,∀ a,v≠V.ref a
def Fm (zs:List Int):HE (zs.map V.int):=fun v hv a=>by obtain ⟨z,_,rfl⟩:=Cl.mp hv; nofun
def lF:HO->Prop
 | .lst xs=>HE xs
 | .bG _ _=>True
 | .tup _=>True
 | .ext _=>True
 | _=>False
def eP (st:Addr) (H H':Hp):Prop:=∀ c o,c≠st->lF o->H c=some o->H' c=some o
def fw (H H':Hp):Prop:=∀ c o,lF o->H c=some o->H' c=some o
def fw.l {st:Addr} {H H':Hp} (k:fw H H'):eP st H H':=fun c o _ h e=>k c o h e
def eP.trans {st:Addr} {H H1 H2:Hp} (a:eP st H H1) (b:eP st H1 H2):eP st H H2:=fun c o n h e=>b c o n h (a c o n h e)
def fw.trans {H H1 H2:Hp} (a:fw H H1) (b:fw H1 H2):fw H H2:=fun c o h e=>b c o h (a c o h e)
def fw.of {H H':Hp} (s:ag H H'):fw H H':=fun c o _ e=>s _ _ e
section
variable {CH CS CT:Addr} {H H':Hp} {A:Ad} {L:List Ta} {M:Hs}
def aR.yO (i:aR CH CS CT H A L M) (h0:M.ts≠[]) {b:Addr} {o:HO} (hb:b∈A.w++L.flatMap Ta.l) (hx:lF o) (e:H b=Option.some o):False:=by
 rcases LE.mp hb with h | h
 ·simp only [Ad.w,ss,u8,EQ] at h;rcases h with rfl | rfl | rfl | rfl | rfl | rfl | rfl | rfl
  ·obtain ⟨_,_,e',_⟩:=i.h; rw [e'] at e; cases e; exact hx
  ·obtain ⟨_,_,e',_⟩:=i.t; rw [e'] at e; cases e; exact hx
  ·rw [i.ml] at e;cases e;cases L with
   | nil=>exact h0 (ST.mp i.len.symm)
   | cons a r=>exact hx (.ref a.th) (by simp) a.th rfl
  ·rw [i.ro] at e; cases e; exact hx
  ·rw [i.st] at e; cases e; exact hx
  ·rw [i.tr] at e; cases e; exact hx
  ·rw [i.ov] at e; cases e; exact hx
  ·rw [i.un] at e; cases e; exact hx
 ·obtain ⟨a,ha,h⟩:=List.mem_flatMap.mp h;obtain ⟨j,ha⟩:=Zw ha;have bH:j < M.ts.length:=by rw [<- i.len]; exact (lv.mp ha).1
  obtain ⟨a',e1,t⟩:=i.th j _ (ul bH);rw [ha] at e1; cases e1;simp only [Ta.l,ss,u8,EQ] at h;rcases h with rfl | rfl | rfl
  ·obtain ⟨_,e',_⟩:=t.o; rw [e'] at e; cases e; exact hx
  ·rw [t.nm] at e; cases e; exact hx
  ·rw [t.pl] at e; cases e; exact hx
def aR.off (i:aR CH CS CT H A L M) (h0:M.ts≠[]) {W:List Addr} (hW:∀ b∈W,b∈A.w++L.flatMap Ta.l) (k:Kp W H H'):fw H H':=fun c o ho e=>k c _ (fun hc=>i.yO h0 (hW c hc) ho e) e
def aR.drawn {st:Addr} (i:aR CH CS CT H A L M) (h0:M.ts≠[]) (d:Dr st H) (k:cH st H H'):aR CH CS CT H' A L M:=by
 refine i.keep (W:=[st]) (fun b o hb e=>k b o (by simpa using hb) e) fun b hb hm=>?_;obtain rfl:b=st:=by simpa using hm
 obtain ⟨x,y,z,e⟩:=d;exact i.yO h0 hb (show lF (.lst [.int x,.int y,.int z]) from Fm [x,y,z]) e
end
def Gd.ne {M:Hs} (g:Gd M):M.ts≠[]:=fun e=>by obtain ⟨t,h,_⟩:=g.t0; rw [e] at h; cases h
def pT:List (Str×Nat):=[("own",0),("ann",0),("b",0)]
def zY:∀ z∈AS,aI (sD pT) (.inr z)=some (.int ((0:Nat):Int)):=by
 intro z hz;simp only [AS,ss,u8,EQ] at hz;rcases hz with rfl | rfl | rfl <;> decide +kernel
structure dX (M:Hs) (n:Nat):Prop where
 g:Gd M
 lk:yq M.ts
 nm:Jw M.ts
 nd:∀ (k:Nat) (t:Th),M.ts[k]?=some t->(t.aw.map (·.1)).Nodup
 ro:M.ro=pT
 st:M.st=pT
 t0:∃ t,M.ts[0]?=some t/\t.kd=("folder" : Str)/\t.ow=("own" : Str)/\t.mi=("lgw" : Str)/\t.re=("lg" : Str)
 n:M.ts.length<=n
def dX.le {M:Hs} {n m:Nat} (h:dX M n) (hm:n<=m):dX M m:={ h with n:=wE h.n hm }
def Gd.Hm {M:Hs} (g:Gd M):∀ (n k:Nat) (t:Th),k<=n->M.ts[k]?=some t->fq M 0 k
 | n,k,t,hk,ht=>by
  rcases (g.th k t ht).pl with ⟨rfl,_⟩ | ⟨f,nm,tf,hf,hp,_,bQ,_⟩
  ·exact .refl
  ·match n,hk with
   | 0,hk=>omega
   | n+1,hk=>exact .up ht hp (g.Hm n f tf (by omega) bQ)
def dX.root {M:Hs} {n:Nat} (h:dX M n) {z:Str} (hz:z∈AS):∃ t,M.ts[0]?=some t/\t.kd=("folder" : Str)/\bZ ("g" : Str) (bK t z)=true:=by
 obtain ⟨t,h1,h2,h3,h4,h5⟩:=h.t0;refine ⟨t,h1,h2,?_⟩;unfold bK;rw [h3,h4,h5];simp only [AS,ss,u8,EQ] at hz;rcases hz with rfl | rfl | rfl <;> decide +kernel
def dX.Rv {M:Hs} {n:Nat} (h:dX M n):∃ t,M.ts[0]?=some t/\t.kd=("folder" : Str)/\bZ ("w" : Str) (bK t "own")=true/\dU M.ts "own" 0:=by
 obtain ⟨t,h1,h2,h3,h4,h5⟩:=h.t0;have h6:bK t "own" = ("lgw" : Str):=by unfold bK; rw [h3,h4]; exact Db rfl
 exact ⟨t,h1,h2,by rw [h6]; decide +kernel,.root h1 (by rw [h6]; decide +kernel)⟩
def QC {l:List (Str×Nat)} {nm:Str} (h:aI (sD l) (.inr nm)=none):nm ∉ l.map (·.1):=fun hm=>by
 obtain ⟨e,he,rfl⟩:=Cl.mp hm;unfold aI at h;rw [Option.map_eq_none_iff,List.find?_eq_none] at h;exact h _ (Cl.mpr ⟨e,he,rfl⟩) (by simp)
def uI {l:List (Str×Nat)} {nm:Str} {n:Nat}:sD (l++[(nm,n)])=sD l++[(.inr nm,.int ((n:Nat):Int))]:=by unfold sD; rw [Fr]; rfl
def dX.make {M:Hs} {n f:Nat} (h:dX M n) {tf:Th} {wd:List Nat} {kd z mi re tx:Str} (bQ:M.ts[f]?=some tf) (gr:tf.kd=("folder" : Str)) (cx:isNm wd=true) (mW:aI (sD tf.aw) (.inr (Tx.S wd))=none) (hk:kd=("folder" : Str)\/kd=("file" : Str)\/kd=("lead" : Str)) (mR:kd=("lead" : Str)->∃ tl,tx=Tx.S tl/\fP tl/\tl.length<=120) :
  dX { M with ts:=M.ts.set f { tf with aw:=tf.aw++[(Tx.S wd,M.ts.length)] }++[⟨kd,z,mi,re,tx,[],[(f,Tx.S wd)]⟩] } (n+1):=by
 have hf:=(lv.mp bQ).1;have hlen:(M.ts.set f { tf with aw:=tf.aw++[(Tx.S wd,M.ts.length)] }).length=M.ts.length:=ZJ;have at':∀ (k:Nat) (t:Th),(M.ts.set f { tf with aw:=tf.aw++[(Tx.S wd,M.ts.length)] }++[(⟨kd,z,mi,re,tx,[],[(f,Tx.S wd)]⟩:Th)])[k]?=some t->(k=f/\t={ tf with aw:=tf.aw++[(Tx.S wd,M.ts.length)] })\/(k≠f/\M.ts[k]?=some t)\/(k=M.ts.length/\t=⟨kd,z,mi,re,tx,[],[(f,Tx.S wd)]⟩):=fun k t ht=>by
  rcases _E k M.ts.length with h1 | h1
  ·rw [zn (by rw [hlen]; exact h1)] at ht;by_cases e:k=f
   ·subst e;rw [IN h1] at ht;cases ht; exact .inl ⟨rfl,rfl⟩
   ·rw [IO (sw e)] at ht;exact .inr (.inl ⟨e,ht⟩)
  ·rw [Fk (by rw [hlen]; exact h1),hlen] at ht
   match hj:k - M.ts.length with
   | 0=>rw [hj] at ht; cases ht; exact .inr (.inr ⟨by omega,rfl⟩)
   | j+1=>rw [hj] at ht; cases ht
 have old:∀ (k:Nat) (t:Th),M.ts[k]?=some t->k≠f->(M.ts.set f { tf with aw:=tf.aw++[(Tx.S wd,M.ts.length)] }++[(⟨kd,z,mi,re,tx,[],[(f,Tx.S wd)]⟩:Th)])[k]?=some t:=fun k t ht e=>by
  rw [zn (by rw [hlen]; exact (lv.mp ht).1),IO (sw e)]; exact ht
 have Cj:(M.ts.set f { tf with aw:=tf.aw++[(Tx.S wd,M.ts.length)] }++[(⟨kd,z,mi,re,tx,[],[(f,Tx.S wd)]⟩:Th)])[f]?=some { tf with aw:=tf.aw++[(Tx.S wd,M.ts.length)] }:=by
  rw [zn (by rw [hlen]; exact hf),IN hf]
 have Kl:∀ (f':Nat) (nm':Str) (k:Nat),(∃ tf',M.ts[f']?=some tf'/\aI (sD tf'.aw) (.inr nm')=some (.int ((k:Nat):Int)))->∃ tf',(M.ts.set f { tf with aw:=tf.aw++[(Tx.S wd,M.ts.length)] }++[(⟨kd,z,mi,re,tx,[],[(f,Tx.S wd)]⟩:Th)])[f']?=some tf'/\aI (sD tf'.aw) (.inr nm')=some (.int ((k:Nat):Int)):=fun f' nm' k ⟨tf',h1,h2⟩=>by
  by_cases e:f'=f
  ·subst e;rw [bQ] at h1; cases h1;refine ⟨_,Cj,?_⟩;show aI (sD (tf.aw++[(Tx.S wd,M.ts.length)])) _=_;rw [uI,pP _ _ _ _ mW];split
   ·rename_i he;rw [he,mW] at h2; cases h2
   ·exact h2
  ·exact ⟨tf',old _ _ h1 e,h2⟩
 refine ⟨h.g.make bQ gr (by rw [Tx.cB]; exact (nH cx).2.2.2) mW hk mR,fun k t f' nm' ht hp=>?_,fun k t f' nm' ht hp=>?_,fun k t ht=>?_,h.ro,h.st,?_,by have:=h.n; simp; omega⟩
 ·rcases at' k t ht with ⟨rfl,rfl⟩ | ⟨e,ht⟩ | ⟨rfl,rfl⟩
  ·exact Kl _ _ _ (h.lk k tf f' nm' bQ hp)
  ·exact Kl _ _ _ (h.lk k t f' nm' ht hp)
  ·cases hp;refine ⟨_,Cj,?_⟩;show aI (sD (tf.aw++[(Tx.S wd,M.ts.length)])) _=_;rw [uI,pP _ _ _ _ mW,Db rfl]
 ·rcases at' k t ht with ⟨rfl,rfl⟩ | ⟨e,ht⟩ | ⟨rfl,rfl⟩
  ·exact h.nm k tf f' nm' bQ hp
  ·exact h.nm k t f' nm' ht hp
  ·cases hp;exact ⟨wd,rfl,cx⟩
 ·rcases at' k t ht with ⟨rfl,rfl⟩ | ⟨e,ht⟩ | ⟨rfl,rfl⟩
  ·show ((tf.aw++[(Tx.S wd,M.ts.length)]).map (·.1)).Nodup;rw [Fr,GT];refine ⟨h.nd _ _ bQ,by simp,fun a ha b hb e=>?_⟩;rw [show b=Tx.S wd by simpa using hb] at e;exact QC mW (e ▸ ha)
  ·exact h.nd _ _ ht
  ·exact .nil
 ·obtain ⟨t,h1,h2⟩:=h.t0;by_cases e:0=f
  ·subst e;rw [bQ] at h1; cases h1;exact ⟨_,Cj,h2⟩
  ·exact ⟨t,old _ _ h1 e,h2⟩
structure Mw (H:Hp) (lm:Addr) (Is:List (Addr×Addr)) (ts:List Th) (F:List Addr):Prop where
 r:cD H lm Is ts
 u:∀ (k:Nat) (p:Addr×Addr) (t:Th),Is[k]?=some p->ts[k]?=some t->H p.2=some (.dK (sD t.aw))
 nd:(Is.map (·.2)).Nodup
 al:lm ∉ F
 ap:∀ p∈Is,p.1 ∉ F/\p.2 ∉ F
section
variable {H H':Hp} {lm:Addr} {Is:List (Addr×Addr)} {ts:List Th} {F:List Addr}
def cD.row (m:cD H lm Is ts) {p:Addr×Addr} (hp:p∈Is):∃ k t,Is[k]?=some p/\ts[k]?=some t/\zZ H p.1 p.2 k t:=by
 obtain ⟨k,hk⟩:=Zw hp;have hl:=(lv.mp hk).1;have ht:ts[k]?=some (ts[k]'(by rw [<- m.n]; exact hl)):=ul _;exact ⟨k,_,hk,ht,m.t k p _ hk ht⟩
def Mw.keep (m:Mw H lm Is ts F) (k:∀ b o,H b=some o->(b=lm\/(∃ p∈Is,b=p.1\/b=p.2)\/∃ xs,o=.tup xs)->H' b=some o):Mw H' lm Is ts F where
 r:=⟨k _ _ m.r.l (.inl rfl),m.r.n,fun j p t h1 h2=>by
  have hm:=FB h1;obtain ⟨⟨up,hl,h⟩,d⟩:=m.r.t j p t h1 h2;exact ⟨⟨up,k _ _ hl (.inr (.inl ⟨p,hm,.inl rfl⟩)),h.imp id fun ⟨f,nm,q,a,b,c,e⟩=>⟨f,nm,q,a,b,c,k _ _ e (.inr (.inr ⟨_,rfl⟩))⟩⟩,.inl (k _ _ (m.u j p t h1 h2) (.inr (.inl ⟨p,hm,.inr rfl⟩)))⟩⟩
 u:=fun j p t h1 h2=>k _ _ (m.u j p t h1 h2) (.inr (.inl ⟨p,FB h1,.inr rfl⟩))
 nd:=m.nd
 al:=m.al
 ap:=m.ap
def Mw.same (m:Mw H lm Is ts F) (s:ag H H'):Mw H' lm Is ts F:=m.keep fun b o e _=>s b o e
def Mw.drawn {st:Addr} (m:Mw H lm Is ts F) (d:Dr st H) (k:cH st H H'):Mw H' lm Is ts F:=m.keep fun b o e hb=>k b o (fun z=>by
 subst z;obtain ⟨x,y,w',d⟩:=d;rw [d] at e;cases e;rcases hb with rfl | ⟨p,hp,hb⟩ | ⟨xs,hb⟩
 ·rw [m.r.l] at d;cases Is with
  | nil=>cases d
  | cons a r=>cases d
 ·obtain ⟨j,t,h1,h2,mt⟩:=m.r.row hp;rcases hb with rfl | rfl
  ·obtain ⟨up,hl,_⟩:=mt.l;rw [hl] at d; cases d
  ·rw [m.u j p t h1 h2] at d; cases d
 ·cases hb) e
def Mw.UJ (m:Mw H lm Is ts F) (h0:ts≠[]) {b:Addr} {o:HO} (ho:lF o) (e:H b=some o):b≠lm:=fun z=>by
 rw [z,m.r.l] at e;cases e;cases Is with
 | nil=>exact h0 (ST.mp m.r.n.symm)
 | cons a r=>exact ho (.ref a.1) (by simp) a.1 rfl
def Mw.O6 {CH CS CT:Addr} {A:Ad} {L:List Ta} {M:Hs} {W:List Addr} (m:Mw H lm Is ts (A.w++L.flatMap Ta.l)) (i:aR CH CS CT H A L M) (h0:M.ts≠[]) (hW:∀ b∈W,b∈A.w++L.flatMap Ta.l) (k:Kp W H H'):Mw H' lm Is ts (A.w++L.flatMap Ta.l):=m.keep fun b o e hb=>k b o (fun z=>by
 rcases hb with rfl | ⟨p,hp,rfl | rfl⟩ | ⟨xs,rfl⟩
 ·exact m.al (hW _ z)
 ·exact (m.ap p hp).1 (hW _ z)
 ·exact (m.ap p hp).2 (hW _ z)
 ·exact i.yO h0 (hW _ z) (show lF (.tup xs) from trivial) e) e
def Mw.grow {A:Ad} {L:List Ta} {a:Ta} (m:Mw H lm Is ts (A.w++L.flatMap Ta.l)) (fr:∀ b∈a.l,H b=none):Mw H lm Is ts (A.w++(L++[a]).flatMap Ta.l):=by
 have nn:∀ b o,H b=some o->b ∉ A.w++L.flatMap Ta.l->b ∉ A.w++(L++[a]).flatMap Ta.l:=fun b o e n z=>by
  rw [List.flatMap_append,<- T0] at z;rcases LE.mp z with z | z
  ·exact n z
  ·have:=fr b (by simpa using z);rw [this] at e; cases e
 refine ⟨m.r,m.u,m.nd,nn _ _ m.r.l m.al,fun p hp=>?_⟩;obtain ⟨k,t,h1,h2,mt⟩:=m.r.row hp;obtain ⟨up,hl,_⟩:=mt.l;exact ⟨nn _ _ hl (m.ap p hp).1,nn _ _ (m.u k p t h1 h2) (m.ap p hp).2⟩
def Mw.app {pp dk it f:Nat} {nm kd z mi re tx:Str} (m:Mw H lm Is ts F) (hF:∀ b∈F,∃ o,H b=some o) (jo:H pp=some (.tup [.int (f:Int),.str nm])) (hf:f < ts.length) (b8:H dk=none) (hit:upd H dk (.dK []) it=none) :
  Mw (upd (upd (upd H dk (.dK [])) it (.lst [.str kd,.str z,.str mi,.str re,.str tx,.ref dk,.ref pp])) lm (.lst ((Is.map fun p=>V.ref p.1)++[.ref it]))) lm (Is++[(it,dk)]) (ts++[⟨kd,z,mi,re,tx,[],[(f,nm)]⟩]) F:=by
 have nd:dk≠it:=aH (au (o:=.dK [])) hit;have s1:=(ag.upd (o:=.dK []) b8).trans (ag.upd (o:=.lst [.str kd,.str z,.str mi,.str re,.str tx,.ref dk,.ref pp]) hit);have b1:upd (upd H dk (.dK [])) it (.lst [.str kd,.str z,.str mi,.str re,.str tx,.ref dk,.ref pp]) dk=some (.dK []):=by rw [ah nd,au]
 have b2:upd (upd H dk (.dK [])) it (.lst [.str kd,.str z,.str mi,.str re,.str tx,.ref dk,.ref pp]) it=some (.lst [.str kd,.str z,.str mi,.str re,.str tx,.ref dk,.ref pp]):=au;have Lm:H it=none:=qE (ag.upd b8) hit;have l0:=m.r.l;have nl:lm≠dk:=aH l0 b8;have nl2:lm≠it:=aH l0 Lm;have m1:=m.same s1;generalize upd (upd H dk (.dK [])) it (.lst [.str kd,.str z,.str mi,.str re,.str tx,.ref dk,.ref pp])=H1 at s1 b1 b2 m1 ⊢;have kp:∀ b o,b≠lm->H1 b=some o->upd H1 lm (.lst ((Is.map fun p=>V.ref p.1)++[.ref it])) b=some o:=fun b o n e=>by rw [ah n]; exact e
 have olds:∀ (k:Nat) (p:Addr×Addr) (t:Th),Is[k]?=some p->ts[k]?=some t->p.1≠lm/\p.2≠lm:=fun k p t h1 h2=>by
  obtain ⟨up,hl,_⟩:=(m1.r.t k p t h1 h2).l;refine ⟨fun z=>?_,fun z=>?_⟩
  ·rw [z,m1.r.l] at hl;cases Is with
   | nil=>cases hl
   | cons a r=>cases hl
  ·have:=m1.u k p t h1 h2;rw [z,m1.r.l] at this; cases this
 have split:∀ (k:Nat) (p:Addr×Addr) (t:Th),(Is++[(it,dk)])[k]?=some p->(ts++[(⟨kd,z,mi,re,tx,[],[(f,nm)]⟩:Th)])[k]?=some t->(Is[k]?=some p/\ts[k]?=some t)\/(k=ts.length/\p=(it,dk)/\t=⟨kd,z,mi,re,tx,[],[(f,nm)]⟩):=fun k p t h1 h2=>by
  rcases _E k ts.length with h | h
  ·rw [zn (by rw [m.r.n]; exact h)] at h1;rw [zn h] at h2;exact .inl ⟨h1,h2⟩
  ·rw [Fk (by rw [m.r.n]; exact h),m.r.n] at h1;rw [Fk h] at h2
   match hj:k - ts.length with
   | 0=>rw [hj] at h1 h2; cases h1; cases h2; exact .inr ⟨by omega,rfl,rfl⟩
   | j+1=>rw [hj] at h1; cases h1
 have u:∀ (k:Nat) (p:Addr×Addr) (t:Th),(Is++[(it,dk)])[k]?=some p->(ts++[(⟨kd,z,mi,re,tx,[],[(f,nm)]⟩:Th)])[k]?=some t->upd H1 lm (.lst ((Is.map fun p=>V.ref p.1)++[.ref it])) p.2=some (.dK (sD t.aw)):=fun k p t h1 h2=>by
  rcases split k p t h1 h2 with ⟨h1,h2⟩ | ⟨rfl,rfl,rfl⟩
  ·exact kp _ _ (olds k p t h1 h2).2 (m1.u k p t h1 h2)
  ·exact kp _ _ (sw nl) b1
 refine ⟨⟨by rw [au,Fr]; rfl,by simp [m.r.n],fun k p t h1 h2=>⟨?_,.inl (u k p t h1 h2)⟩⟩,u,?_,m.al,fun p hp=>?_⟩
 ·rcases split k p t h1 h2 with ⟨h1,h2⟩ | ⟨rfl,rfl,rfl⟩
  ·obtain ⟨up,hl,h⟩:=(m1.r.t k p t h1 h2).l;exact ⟨up,kp _ _ (olds k p t h1 h2).1 hl,h.imp id fun ⟨f,nm,q,a,b,c,e⟩=>⟨f,nm,q,a,b,c,kp _ _ (fun z=>by rw [z,m1.r.l] at e; cases e) e⟩⟩
  ·exact ⟨_,kp _ _ (sw nl2) b2,.inr ⟨f,nm,pp,hf,rfl,rfl,kp _ _ (bO (s1 _ _ jo) m1.r.l nofun) (s1 _ _ jo)⟩⟩
 ·rw [Fr,GT];refine ⟨m.nd,by simp,fun a ha b hb e=>?_⟩;rw [show b=dk by simpa using hb] at e;obtain ⟨p,hp,rfl⟩:=Cl.mp ha;obtain ⟨k,t,h1,h2,_⟩:=m.r.row hp;have:=m.u k p t h1 h2;rw [e,b8] at this; cases this
 ·rcases LE.mp hp with hp | hp
  ·exact m.ap p hp
  ·rw [AC.mp hp];exact ⟨fun z=>(by obtain ⟨o,e⟩:=hF _ z; rw [Lm] at e; cases e),fun z=>(by obtain ⟨o,e⟩:=hF _ z; rw [b8] at e; cases e)⟩
def Mw.put {f:Nat} {tf:Th} {p:Addr×Addr} {ns:List (Str×Nat)} (m:Mw H lm Is ts F) (hp:Is[f]?=some p) (hf:ts[f]?=some tf):Mw (upd H p.2 (.dK (sD ns))) lm Is (ts.set f { tf with aw:=ns }) F:=by
 have hd:=m.u f p tf hp hf;have hl:=(lv.mp hf).1;have kp:∀ b o,H b=some o->b≠p.2->upd H p.2 (.dK (sD ns)) b=some o:=fun b o e n=>by rw [ah n]; exact e
 have two:∀ (k:Nat) (p':Addr×Addr),Is[k]?=some p'->p'.2=p.2->k=f:=fun k p' h1 e=>by
  have a:=m.nd;have k1:=(lv.mp h1);have k2:=(lv.mp hp);obtain ⟨Kj,Kv⟩:=k1;obtain ⟨Mj,LJ⟩:=k2;rcases Nat.lt_trichotomy k f with h | h | h
  ·exact ((Zr.mp a) k f (by simpa using Kj) (by simpa using Mj) h (by rw [TD,TD,Kv,LJ]; exact e)).elim
  ·exact h
  ·exact ((Zr.mp a) f k (by simpa using Mj) (by simpa using Kj) h (by rw [TD,TD,Kv,LJ]; exact e.symm)).elim
 have at':∀ (k:Nat) (t:Th),(ts.set f { tf with aw:=ns })[k]?=some t->(k=f/\t={ tf with aw:=ns })\/(k≠f/\ts[k]?=some t):=fun k t ht=>by
  by_cases e:k=f
  ·subst e;rw [IN hl] at ht;cases ht; exact .inl ⟨rfl,rfl⟩
  ·rw [IO (sw e)] at ht;exact .inr ⟨e,ht⟩
 have u:∀ (k:Nat) (p':Addr×Addr) (t:Th),Is[k]?=some p'->(ts.set f { tf with aw:=ns })[k]?=some t->upd H p.2 (.dK (sD ns)) p'.2=some (.dK (sD t.aw)):=fun k p' t h1 h2=>by
  rcases at' k t h2 with ⟨rfl,rfl⟩ | ⟨e,h2⟩
  ·rw [hp] at h1; cases h1; exact au
  ·exact kp _ _ (m.u k p' t h1 h2) fun z=>e (two k p' h1 z)
 refine ⟨⟨kp _ _ m.r.l fun z=>(by rw [<- z,m.r.l] at hd; cases hd),by rw [ZJ]; exact m.r.n,fun k p' t h1 h2=>⟨?_,.inl (u k p' t h1 h2)⟩⟩,u,m.nd,m.al,m.ap⟩;have row:∀ t0:Th,ts[k]?=some t0->t0.kd=t.kd->t0.ow=t.ow->t0.mi=t.mi->t0.re=t.re->t0.tx=t.tx->t0.bf=t.bf->∃ up:V,upd H p.2 (.dK (sD ns)) p'.1=some (.lst [.str t.kd,.str t.ow,.str t.mi,.str t.re,.str t.tx,.ref p'.2,up])/\(k=0/\t.bf=[]/\up=.aq\/∃ (f:Nat) (nm:Str) (p0:Addr),f < k/\t.bf=[(f,nm)]/\up=.ref p0/\upd H p.2 (.dK (sD ns)) p0=some (.tup [.int (f:Int),.str nm])):=fun t0 ht e1 e2 e3 e4 e5 e6=>by
  obtain ⟨up,hl',h⟩:=(m.r.t k p' t0 h1 ht).l;rw [e1,e2,e3,e4,e5] at hl';rw [e6] at h;exact ⟨up,kp _ _ hl' fun z=>(by rw [<- z,hl'] at hd; cases hd),h.imp id fun ⟨f,nm,q,a,b,c,e⟩=>⟨f,nm,q,a,b,c,kp _ _ e fun z=>by rw [<- z,e] at hd; cases hd⟩⟩
 rcases at' k t h2 with ⟨rfl,rfl⟩ | ⟨e,h2⟩
 ·exact row tf hf rfl rfl rfl rfl rfl rfl
 ·exact row t h2 rfl rfl rfl rfl rfl rfl
end
def ui (N:Cn) (A:Ad) (L:List Ta) (M:Hs) (lm st:Addr) (Is:List (Addr×Addr)) (f:Nat) (tf:Th) (nm z:Str) (H:Hp) (Q:VK):Prop :=
 ∀ H' a it dk kd mi re tx,(kd=("folder" : Str)\/kd=("file" : Str)\/kd=("lead" : Str))->(kd=("lead" : Str)->∃ tl,tx=Tx.S tl/\fP tl/\tl.length<=120) ->
  aR N.CH N.CS N.CT H' A (L++[a]) { M with ts:=M.ts.set f { tf with aw:=tf.aw++[(nm,M.ts.length)] }++[⟨kd,z,mi,re,tx,[],[(f,nm)]⟩] } ->
  Mw H' lm (Is++[(it,dk)]) (M.ts++[⟨kd,z,mi,re,tx,[],[(f,nm)]⟩]) (A.w++(L++[a]).flatMap Ta.l)->eP st H H'->Q (.int (M.ts.length:Nat)) H'
structure jF (N:Cn) (H:Hp) (A:Ad) (L:List Ta) (M:Hs) (lm:Addr) (Is:List (Addr×Addr)) (f:Nat) (tf:Th) (wd:List Nat) (z:Str):Prop where
 i:aR N.CH N.CS N.CT H A L M
 m:Mw H lm Is M.ts (A.w++L.flatMap Ta.l)
 g:dX M 50
 hz:z∈AS
 hn:isNm wd=true
 hf:M.ts[f]?=some tf
 hk:tf.kd=("folder" : Str)
 hw:bZ ("w" : Str) (bK tf z)=true
 ho:dU M.ts z f
 hv:aI (sD tf.aw) (.inr (Tx.S wd))=none
section
variable {N:Cn} {H H':Hp} {A:Ad} {L:List Ta} {M:Hs} {lm st:Addr} {Is:List (Addr×Addr)} {f:Nat} {tf:Th} {wd:List Nat} {z:Str}
def jF.same (p:jF N H A L M lm Is f tf wd z) (s:ag H H'):jF N H' A L M lm Is f tf wd z:={ p with i:=p.i.same s,m:=p.m.same s }
def jF.drawn (p:jF N H A L M lm Is f tf wd z) (d:Dr st H) (k:cH st H H'):jF N H' A L M lm Is f tf wd z:={ p with i:=p.i.drawn p.g.g.ne d k,m:=p.m.drawn d k }
def eP.draw (d:Dr st H) (k:cH st H H'):eP st H H':=fun c o n _ e=>k c o n e
def jF.kI {W:List (List Nat)} {q:List (List Nat)} {t:List Nat} {pp dk it:Addr} {kd mi re tx:Str} {Q:VK} {E:XK} (p:jF N H A L M lm Is f tf wd z) (hW:gM M.ts f W) (j3:W.length<=f) (hq:q=W\/q=W++[[46]]\/q=W.take 1++[[46,46]]++W) (hp:rF t (q++[wd]))
  (jo:H pp=some (.tup [.int (f:Int),.str (Tx.S wd)])) (b8:H dk=none) (hit:upd H dk (.dK []) it=none) (uz:mi∈iq) (lK:re∈iq) (cO:kd=("folder" : Str)\/kd=("file" : Str)\/kd=("lead" : Str)) (mR:kd=("lead" : Str)->∃ tl,tx=Tx.S tl/\fP tl/\tl.length<=120) (mq:ui N A L M lm st Is f tf (Tx.S wd) z H Q) :
  uX N (upd (upd (upd H dk (.dK [])) it (.lst [.str kd,.str z,.str mi,.str re,.str tx,.ref dk,.ref pp])) lm (.lst ((Is.map fun p=>V.ref p.1)++[.ref it]))) A L M z t kd mi re tx Q E:=by
 have aU:=(lv.mp p.hf).1;have m1:=p.m.app (kd:=kd) (z:=z) (mi:=mi) (re:=re) (tx:=tx) (fun b hb=>p.i.some b hb) jo aU b8 hit;have s1:=(ag.upd (o:=.dK []) b8).trans (ag.upd (o:=.lst [.str kd,.str z,.str mi,.str re,.str tx,.ref dk,.ref pp]) hit);have kp:Kp [lm] H (upd (upd (upd H dk (.dK [])) it (.lst [.str kd,.str z,.str mi,.str re,.str tx,.ref dk,.ref pp])) lm (.lst ((Is.map fun p=>V.ref p.1)++[.ref it]))):=fun b o hb e=>by
  rw [ah (by simpa using hb)]; exact s1 _ _ e
 have i1:=p.i.keep kp fun b hb z=>p.m.al (by rw [<- AC.mp z]; exact hb);have kl:eP st H (upd (upd (upd H dk (.dK [])) it (.lst [.str kd,.str z,.str mi,.str re,.str tx,.ref dk,.ref pp])) lm (.lst ((Is.map fun p=>V.ref p.1)++[.ref it]))):=fun b o _ ho e=>kp b o (by simpa using p.m.UJ p.g.g.ne ho e) e;generalize upd (upd (upd H dk (.dK [])) it (.lst [.str kd,.str z,.str mi,.str re,.str tx,.ref dk,.ref pp])) lm (.lst ((Is.map fun p=>V.ref p.1)++[.ref it]))=H1 at m1 kp i1 kl ⊢;clear s1;have g:=p.g;have hz:=zY z p.hz;have hn:=g.n;obtain ⟨t0,iJ,CJ,CB⟩:=g.root p.hz;have hql:q.length<=900:=by rcases hq with rfl | rfl | rfl <;> (try simp only [ww,GE,Z8,ZA]) <;> omega
 have uA:jc ⟨L,M,z,true,0⟩ t (.inr (f,wd)):=WE g.g i1.len (by omega) (by rw [g.ro]; exact hz) (by rw [g.st]; exact hz) iJ (OT g.g g.lk hW p.ho ⟨tf,p.hf,p.hk⟩ hq ⟨t0,iJ,CJ,CB⟩) hp.told p.hn hql p.hf p.hk (g.g.Hm _ f tf (sB _) p.hf);obtain ⟨a0,fY⟩:=adr i1.len p.hf;refine ⟨i1,hp.p,by rw [g.ro,hz]; rfl,uz,lK,by rw [i1.len]; omega,fun f t0 h=>by have:=(g.g.th f t0 h).nl; omega,0,.inr (f,wd),.free uA p.hn fY p.hf p.hw p.hv,nofun,?_⟩;intro f' nm' a1 t1 e ha1 fV a H2 fr i2 k2;cases e;rw [p.hf] at fV; cases fV;have J0:∀ b∈[A.t,A.ml,a1.nm],b∈A.w++L.flatMap Ta.l:=fun b hb=>by
  simp only [ss,u8,EQ] at hb;rcases hb with rfl | rfl | rfl
  ·simp [Ad.w]
  ·simp [Ad.w]
  ·exact Da _ (kj ha1 (by simp [Ta.l]))
 have m2:=(m1.O6 i1 g.g.ne J0 k2);refine mq H2 a it dk kd mi re tx cO mR i2 ?_ (kl.trans (i1.off g.g.ne J0 k2).l);have m3:=m1.grow fr;refine ⟨m2.r,m2.u,m2.nd,m3.al,m3.ap⟩
end
def O8 (N:Cn):Sp:=Ja fun h lm st z n nm H Q _=>X7 fun A L M Is f tf wd=>A6 (n=((f:Nat):Int)) (nm=Tx.S wd) (A.a=h) (jF N H A L M lm Is f tf wd z) (Dr st H) (ui N A L M lm st Is f tf (Tx.S wd) z H Q)
def SQ:aC P w K mg base (cI P w) 16 T.nE.f T.nE.d ["_law_house","_law_model","_law_source_here","_law_asker","_law_folder_here","_law_name_here"] (O8 T.cn):=by
 refine T.nE.F.eK ke (fun _ _ _ _ h=>Hk h fun _ _ _ _ _ _ _=>rfl) fun ax A outer s H vs Q E hr h=>Hk h fun hh lm st z n nm h=>?_;obtain ⟨AA,L,M,Is,f,tf,wd,rfl,rfl,rfl,p,aO,q⟩:=h;refine bR (b:=aZ xN) ((ad (aS 6 ke.nd (bv (Vi T) hr.m T.ni.m T.ni.F.kp T.ni.b .nil aA (aa (bv (Vx T) hr.m T.oA.m T.oA.F.kp T.oA.b .nil aA (aa (ac 1) (aa (ac 4) ae))) (aa (ac 5) (aa (bv (fL T) hr.m T.bJ.m T.bJ.F.kp T.bJ.b .nil aA (aa (ac 2) (aa am ae))) ae)))))
 (ad (aS 7 ke.nd (bv (fL T) hr.m T.bJ.m T.bJ.F.kp T.bJ.b .nil aA (aa (ac 2) (aa am ae))))
 (ad (aS 8 ke.nd (bv (Fc T) hr.m T.jA.m T.jA.F.kp T.jA.b .nil aA (aa (ac 2) ae)))
 (ad (aS 9 ke.nd (bv (Fc T) hr.m T.jA.m T.jA.F.kp T.jA.b .nil aA (aa (ac 2) ae)))
 (ad (aS 10 ke.nd (bv (PF T) hr.m T.o6.m T.o6.F.kp T.o6.b .nil aA (aa (ac 2) ae)))
 (ad (aS 11 ke.nd (gl (aa (ac 4) (aa (ac 5) ae))))
 (ad (bb (bc eA (ac 7) am) (ad (aX (dz wP wS dR (ac 1) (aa (db (aa bi (aa (ac 3) (aa (ac 8) (aa (ac 9) (aa bi (aa e9 (aa (ac 11) ae)))))))) ae)))
 (ao (aL (eG (vH T) hr.m T.vN T.kb.kp T.Am .nil cY (aa (ac 0) (aa (ac 3) (aa (ac 6) (aa (ac 8) (aa (ac 9) ae))))))))) ce)
 (ad (bb (bc eA (ac 7) am) (ad (aX (dz wP wS dR (ac 1) (aa (db (aa bi (aa (ac 3) (aa bi (aa bi (aa bi (aa e9 (aa (ac 11) ae)))))))) ae)))
 (ao (aL (eG (vH T) hr.m T.vN T.kb.kp T.yB (.cons (show RelV (.str "lgw") _ from ⟨_,rfl⟩) (.cons (show RelV (.str "") _ from ⟨_,rfl⟩) .nil)) cY (aa (ac 0) (aa (ac 3) (aa (ac 6) ae))))))) ce)
 (ad (bb (bc eA (ac 7) am) (ad (aX (dz wP wS dR (ac 1) (aa (db (aa bi (aa (ac 3) (aa (ac 8) (aa bi (aa bi (aa e9 (aa (ac 11) ae)))))))) ae)))
 (ao (aL (eG (vH T) hr.m T.vN T.kb.kp T.Ax (.cons (show RelV (.str "") _ from ⟨_,rfl⟩) .nil) cY (aa (ac 0) (aa (ac 3) (aa (ac 6) (aa (ac 8) ae)))))))) ce)
 (ad (bb (bc eA (ac 7) am) (ad (aX (dz wP wS dR (ac 1) (aa (db (aa bi (aa (ac 3) (aa (ac 8) (aa (ac 9) (aa (ac 10) (aa e9 (aa (ac 11) ae)))))))) ae)))
 (ao (aL (eG (yX T) hr.m T.xB T.lJ.kp T.xZ .nil cY (aa (ac 0) (aa (ac 3) (aa (ac 6) (aa (ac 10) (aa (ac 8) (aa (ac 9) ae)))))))))) ce)
 (ad (bb (bc eA (ac 7) am) (ad (aX (dz wP wS dR (ac 1) (aa (db (aa bi (aa (ac 3) (aa bi (aa bi (aa (ac 10) (aa e9 (aa (ac 11) ae)))))))) ae)))
 (ao (aL (eG (yX T) hr.m T.xB T.lJ.kp T.y8 (.cons (show RelV (.str "lgw") _ from ⟨_,rfl⟩) (.cons (show RelV (.str "") _ from ⟨_,rfl⟩) .nil)) cY (aa (ac 0) (aa (ac 3) (aa (ac 6) (aa (ac 10) ae)))))))) ce)
 (ad (bb (bc eA (ac 7) am) (ad (aX (dz wP wS dR (ac 1) (aa (db (aa bi (aa (ac 3) (aa (ac 8) (aa (ac 9) (aa (ac 10) (aa e9 (aa (ac 11) ae)))))))) ae)))
 (ao (aL (W7 (yX T) hr.m T.xB T.lJ.kp (Q8 T.lJ rfl (fun _ _ _ _ _ _ _ _ _ _ _ _ _=>⟨_,rfl,rfl⟩)) (iD.ps cY) (aa (ac 0) (aa (ac 3) (aa (ac 6) (aa (ac 10) ae)))) (ac 9) (ac 8))))) ce)
 (ad (bb (bc eA (ac 7) am) (ad (aX (dz wP wS dR (ac 1) (aa (db (aa bi (aa (ac 3) (aa bi (aa (ac 9) (aa bi (aa e9 (aa (ac 11) ae)))))))) ae)))
 (ao (aL (Ru (vH T) hr.m T.vN T.kb.kp (Pg (show RelV (.str "lgw") _ from ⟨_,rfl⟩) T.kb rfl (fun _ _ _ _ _ _ _ _ _ _ _=>⟨_,rfl,rfl⟩)) (iD.ps cY) (aa (ac 0) (aa (ac 3) (aa (ac 6) ae))) (ac 9))))) ce)
 (ad (aS 12 ke.nd (bv (YC T) hr.m T.nX.m T.nX.F.kp T.nX.b .nil aA (aa (ac 2) ae)))
 (ad (aX (dz wP wS dR (ac 1) (aa (db (aa bi (aa (ac 3) (aa bi (aa bi (aa (ac 12) (aa e9 (aa (ac 11) ae)))))))) ae)))
 (ao (aL (eG (Pb T) hr.m T.nG.m T.nG.F.kp T.nG.b .nil cY (aa (ac 0) (aa (ac 3) (aa (ac 6) (aa (ac 12) ae))))))))))))))))))))))) ?_
 refine stI [some (V.ref AA.a),some (V.ref lm),some (V.ref st),some (V.str z),some (V.int (f:Int)),some (V.str (Tx.S wd)),none,none,none,none,none,none,none] ?_;right;have aU:=(lv.mp p.hf).1;have hn50:=p.g.n;refine ⟨Is,M.ts,f,p.m.r,rfl,aU,by omega,p.g.nm,fun W H1 hW j3 s1=>?_⟩;have p1:=p.same s1;refine gb (aO.same s1) (by decide) (by decide) fun d H2 e0 e1 d2 k2=>?_;have p2:=p1.drawn (aO.same s1) k2;have hWp:W.all bX=true:=Go.mpr fun w hw=>Af (hW.ok w hw);refine ⟨W,wd,rfl,rfl,hWp,Af p.hn,by omega,fun qq t H3 hq ht s3=>?_⟩;have p3:=p2.same s3;have d3:=d2.same s3;have Kg:eP st H H3:=((fw.of s1).l.trans (eP.draw (aO.same s1) k2)).trans (fw.of s3).l;clear p1 p2 d2 k2 s1 s3 p aO;right;refine gb d3 (by decide) (by decide) fun way H4 e2 e3 d4 k4=>?_;have p4:=p3.drawn d3 k4;have K4:=Kg.trans (eP.draw d3 k4);clear p3 Kg k4 d3;right;refine ⟨d4,fun aj H5 hi d5 k5=>?_⟩;have p5:=p4.drawn d4 k5;have Me:=K4.trans (eP.draw d4 k5);clear p4 K4 k5 d4;right;refine ⟨d5,fun kU H6 ho d6 k6=>?_⟩;have p6:=p5.drawn d5 k6;have Kc:=Me.trans (eP.draw d5 k6);clear p5 Me k6 d5;right;refine ⟨d6,fun tx H7 mL d7 k7=>?_⟩;have p7:=p6.drawn d6 k7;have La:=Kc.trans (eP.draw d6 k7);clear p6 Kc k7 d6;right;refine ⟨fits (by simp),fun pp jo=>?_⟩;have s8:=ag.upd (o:=.tup [V.int (f:Int),V.str (Tx.S wd)]) jo;have p8:=p7.same s8;have d8:=d7.same s8;have c8:upd H7 pp (.tup [V.int (f:Int),V.str (Tx.S wd)]) pp=some (.tup [V.int (f:Int),V.str (Tx.S wd)]):=au;have q8:ui T.cn AA L M lm st Is f tf (Tx.S wd) z (upd H7 pp (.tup [V.int (f:Int),V.str (Tx.S wd)])) Q:=fun H' a it dk kd mi re tx h1 h2 h3 h4 h5=>q H' a it dk kd mi re tx h1 h2 h3 h4 ((La.trans (fw.of s8).l).trans h5);generalize upd H7 pp (.tup [V.int (f:Int),V.str (Tx.S wd)])=H8 at p8 d8 c8 q8 ⊢;clear p7 d7 La q s8;have bl:∀ {H9:Hp},ag H8 H9->H9 lm=some (.lst (Is.map fun p=>V.ref p.1)):=fun s=>s _ _ p8.m.r.l;have jY:Is.length<=50:=by rw [p8.m.r.n]; omega
 have DJ:("lgw" : Str)∈iq:=by decide +kernel
 have sR:("" : Str)∈iq:=by decide +kernel
 right;refine e8 (fun _=>?_) (fun _=>ai ?_)
 ·right;rw [p8.m.r.l];refine fun dk b8=>⟨fits (by simp),fun it hit=>?_⟩;rw [bl ((ag.upd b8).trans (ag.upd hit))];have pr:=p8.kI (kd := "folder") (mi:=aj) (re:=kU) (tx := "") (E:=E) hW j3 hq ht c8 b8 hit hi ho (.inl rfl) (fun e=>absurd e (by decide +kernel)) q8;exact ⟨Gc (show _<=50 by simpa using jY) (by decide),AA,L,M,t,rfl,pr,rfl⟩
 left;refine e8 (fun _=>?_) (fun _=>ai ?_)
 ·right;rw [p8.m.r.l];refine fun dk b8=>⟨fits (by simp),fun it hit=>?_⟩;rw [bl ((ag.upd b8).trans (ag.upd hit))];have pr:=p8.kI (kd := "folder") (mi := "lgw") (re := "") (tx := "") (E:=E) hW j3 hq ht c8 b8 hit DJ sR (.inl rfl) (fun e=>absurd e (by decide +kernel)) q8;exact ⟨Gc (show _<=50 by simpa using jY) (by decide),AA,L,M,t,rfl,pr,rfl⟩
 left;refine e8 (fun _=>?_) (fun _=>ai ?_)
 ·right;rw [p8.m.r.l];refine fun dk b8=>⟨fits (by simp),fun it hit=>?_⟩;rw [bl ((ag.upd b8).trans (ag.upd hit))];have pr:=p8.kI (kd := "folder") (mi:=aj) (re := "") (tx := "") (E:=E) hW j3 hq ht c8 b8 hit hi sR (.inl rfl) (fun e=>absurd e (by decide +kernel)) q8;exact ⟨Gc (show _<=50 by simpa using jY) (by decide),AA,L,M,t,rfl,pr,rfl⟩
 left;refine e8 (fun _=>?_) (fun _=>ai ?_)
 ·right;rw [p8.m.r.l];refine fun dk b8=>⟨fits (by simp),fun it hit=>?_⟩;rw [bl ((ag.upd b8).trans (ag.upd hit))];have pr:=p8.kI (kd := "file") (mi:=aj) (re:=kU) (tx:=tx) (E:=E) hW j3 hq ht c8 b8 hit hi ho (.inr (.inl rfl)) (fun e=>absurd e (by decide +kernel)) q8;exact ⟨Gc (show _<=50 by simpa using jY) (by decide),AA,L,M,t,rfl,pr,rfl,mL⟩
 left;refine e8 (fun _=>?_) (fun _=>ai ?_)
 ·right;rw [p8.m.r.l];refine fun dk b8=>⟨fits (by simp),fun it hit=>?_⟩;rw [bl ((ag.upd b8).trans (ag.upd hit))];have pr:=p8.kI (kd := "file") (mi := "lgw") (re := "") (tx:=tx) (E:=E) hW j3 hq ht c8 b8 hit DJ sR (.inr (.inl rfl)) (fun e=>absurd e (by decide +kernel)) q8;exact ⟨Gc (show _<=50 by simpa using jY) (by decide),AA,L,M,t,rfl,pr,rfl,mL⟩
 left;refine e8 (fun _=>?_) (fun _=>ai ?_)
 ·right;rw [p8.m.r.l];refine fun dk b8=>⟨fits (by simp),fun it hit=>?_⟩;rw [bl ((ag.upd b8).trans (ag.upd hit))];have pr:=p8.kI (kd := "file") (mi:=aj) (re:=kU) (tx:=tx) (E:=E) hW j3 hq ht c8 b8 hit hi ho (.inr (.inl rfl)) (fun e=>absurd e (by decide +kernel)) q8;exact ⟨Gc (show _<=50 by simpa using jY) (by decide),AA,L,M,t,rfl,pr,rfl,mL⟩
 left;refine e8 (fun _=>?_) (fun _=>ai ?_)
 ·right;rw [p8.m.r.l];refine fun dk b8=>⟨fits (by simp),fun it hit=>?_⟩;rw [bl ((ag.upd b8).trans (ag.upd hit))];have pr:=p8.kI (kd := "folder") (mi := "lgw") (re:=kU) (tx := "") (E:=E) hW j3 hq ht c8 b8 hit DJ ho (.inl rfl) (fun e=>absurd e (by decide +kernel)) q8;exact ⟨Gc (show _<=50 by simpa using jY) (by decide),AA,L,M,t,rfl,pr,rfl⟩
 left;refine ⟨d8,fun tl H9 bw Lh d9 k9=>ai ?_⟩;have p9:=p8.drawn d8 k9;have c9:H9 pp=some (.tup [V.int (f:Int),V.str (Tx.S wd)]):=k9 _ _ (fun z=>by obtain ⟨_,_,_,d⟩:=d8; rw [z,d] at c8; cases c8) c8;have q9:ui T.cn AA L M lm st Is f tf (Tx.S wd) z H9 Q:=fun H' a it dk kd mi re tx h1 h2 h3 h4 h5=>q8 H' a it dk kd mi re tx h1 h2 h3 h4 ((eP.draw d8 k9).trans h5);left;rw [p9.m.r.l];refine fun dk b8=>⟨fits (by simp),fun it hit=>?_⟩;rw [((ag.upd b8).trans (ag.upd hit)) _ _ p9.m.r.l];have pr:=p9.kI (kd := "lead") (mi := "") (re := "") (tx:=Tx.S tl) (E:=E) hW j3 hq ht c9 b8 hit sR sR (.inr (.inr rfl)) (fun _=>⟨tl,rfl,bw,Lh⟩) q9;exact ⟨Gc (show _<=50 by simpa using jY) (by decide),AA,L,M,t,tl,rfl,rfl,pr,rfl,bw,Lh⟩
section
variable {H H':Hp} {lm:Addr} {Is:List (Addr×Addr)} {ts:List Th}
def cD.keep (m:cD H lm Is ts) (k:∀ b o,H b=some o->(b=lm\/(∃ p∈Is,b=p.1)\/∃ xs,o=.tup xs)->H' b=some o) (kd:∀ p∈Is,∀ kvs,Rd H p.2 (.dK kvs)->Rd H' p.2 (.dK kvs)):cD H' lm Is ts :=
 ⟨k _ _ m.l (.inl rfl),m.n,fun j p t h1 h2=>by
  have hm:=FB h1;obtain ⟨⟨up,hl,h⟩,d⟩:=m.t j p t h1 h2;exact ⟨⟨up,k _ _ hl (.inr (.inl ⟨p,hm,rfl⟩)),h.imp id fun ⟨f,nm,q,a,b,c,e⟩=>⟨f,nm,q,a,b,c,k _ _ e (.inr (.inr ⟨_,rfl⟩))⟩⟩,kd p hm _ d⟩⟩
def Gq {a b:Addr} {kvs:List (Key×V)} {xs:List V} (h:Rd H a (.dK kvs)) (e:H b=some (.lst xs)):b≠a:=fun z=>by
 subst z;rcases h with h | ⟨x,h⟩
 ·rw [h] at e; exact HO.noConfusion (FM e)
 ·rw [h] at e; exact HO.noConfusion (FM e)
def FF {a b:Addr} {kvs:List (Key×V)} {xs:List V} (h:Rd H a (.dK kvs)) (e:H b=some (.tup xs)):b≠a:=fun z=>by
 subst z;rcases h with h | ⟨x,h⟩
 ·rw [h] at e; exact HO.noConfusion (FM e)
 ·rw [h] at e; exact HO.noConfusion (FM e)
def U5 {a:Addr} {kvs kvs':List (Key×V)} (h:Rd H a (.dK kvs)) (h':Rd H a (.dK kvs')):kvs=kvs':=by
 rcases h with h | ⟨x,h⟩ <;> rcases h' with h' | ⟨y,h'⟩ <;> rw [h] at h' <;> have h':=FM h' <;> first | exact HO.noConfusion h' | (injection h' with _ h2; injection h2) | (injection h')
def cD.bG {f:Nat} {p:Addr×Addr} {t:Th} {o:Obj} (m:cD H lm Is ts) (hp:Is[f]?=some p) (ht:ts[f]?=some t):cD (upd H p.2 (.bG o (.dK (sD t.aw)))) lm Is ts:=by
 have hd:=(m.t f p t hp ht).d;refine m.keep (fun b o' e hb=>?_) fun q hq kvs h=>?_
 ·have hn:b≠p.2:=by
   rcases hb with rfl | ⟨q,hq,rfl⟩ | ⟨xs,rfl⟩
   ·exact Gq hd m.l
   ·obtain ⟨j,tj,h1,h2,mt⟩:=m.row hq;obtain ⟨up,hl,_⟩:=mt.l;exact Gq hd hl
   ·exact FF hd e
  rw [ah hn]; exact e
 ·by_cases z:q.2=p.2
  ·rw [z] at h ⊢;refine .inr ⟨o,?_⟩;rw [U5 h hd,au]
  ·rcases h with h | ⟨x,h⟩
   ·exact .inl (by rw [ah z]; exact h)
   ·exact .inr ⟨x,by rw [ah z]; exact h⟩
def cD.upd {p:Addr} {o:HO} (m:cD H lm Is ts) (n1:p≠lm) (n2:∀ q∈Is,p≠q.1/\p≠q.2) (n3:∀ xs,H p≠some (.tup xs)):cD (L2.upd H p o) lm Is ts:=by
 refine m.keep (fun b o' e hb=>?_) fun q hq kvs h=>?_
 ·have hn:b≠p:=by
   rcases hb with rfl | ⟨q,hq,rfl⟩ | ⟨xs,rfl⟩
   ·exact sw n1
   ·exact sw (n2 q hq).1
   ·exact fun z=>n3 xs (by rw [<- z]; exact e)
  rw [ah hn]; exact e
 ·have hn:q.2≠p:=sw (n2 q hq).2;rcases h with h | ⟨x,h⟩
  ·exact .inl (by rw [ah hn]; exact h)
  ·exact .inr ⟨x,by rw [ah hn]; exact h⟩
end
def AF:∀ {l:List (Str×Nat)} {e j:Nat} {nm:Str},(l.map (·.1)).Nodup->l[e]?=some (nm,j)->aI (sD l) (.inr nm)=some (.int ((j:Nat):Int))
 | [],_,_,_,_,h=>by simp at h
 | x::r,0,j,nm,_,h=>by
  cases h;unfold aI sD;rw [Fa,List.find?_cons_of_pos (by simp)];rfl
 | x::r,e+1,j,nm,nd,h=>by
  rw [Fa,Ix] at nd;have ih:=AF nd.2 (show r[e]?=some (nm,j) from h);have hm:nm∈r.map (·.1):=Cl.mpr ⟨_,FB (show r[e]?=some (nm,j) from h),rfl⟩;unfold aI sD at ih ⊢;rw [Fa,List.find?_cons_of_neg (by
   have:x.1≠nm:=fun z=>nd.1 (z ▸ hm);simp [this])]
  exact ih
def M9:∀ {l:List (Str×Nat)} {j:Nat} {nm:Str},aI (sD l) (.inr nm)=some (.int ((j:Nat):Int))->∃ e:Nat,l[e]?=some (nm,j)
 | l,j,nm,h=>by
  unfold aI at h;obtain ⟨kv,h1,h2⟩:=ZG.mp h;have h3:=List.find?_some h1;obtain ⟨x,hx,rfl⟩:=Cl.mp (List.mem_of_find?_eq_some h1);obtain ⟨e,he⟩:=Zw hx;refine ⟨e,?_⟩;have e1:x.1=nm:=by simpa using h3
  have e2:x.2=j:=by
   have:=V.int.inj h2;omega
  rw [he,<- e1,<- e2]
def kC (ts:List Th) (j i e:Nat) (nm:Str):Prop:=∃ t,ts[i]?=some t/\t.aw[e]?=some (nm,j)
def kC.pl {M:Hs} {n j i e:Nat} {nm:Str} {tj:Th} (h:kC M.ts j i e nm) (g:dX M n) (hj:M.ts[j]?=some tj):tj.bf=[(i,nm)]:=by
 obtain ⟨t,ht,he⟩:=h;obtain ⟨c,tc,ec,h1,h2⟩:=(g.g.th i t ht).ch _ _ (AF (g.nd i t ht) he);have:c=j:=by have:=V.int.inj ec; omega
 subst this;rw [hj] at h1; cases h1;exact h2
def kC.two {M:Hs} {n j i e i' e':Nat} {nm nm':Str} {tj:Th} (h:kC M.ts j i e nm) (h':kC M.ts j i' e' nm') (g:dX M n) (hj:M.ts[j]?=some tj):i=i'/\e=e':=by
 have a:=h.pl g hj;rw [h'.pl g hj] at a;cases a;obtain ⟨t,ht,he⟩:=h;obtain ⟨t',ht',he'⟩:=h';rw [ht] at ht'; cases ht';refine ⟨rfl,?_⟩;have nd:=g.nd _ t ht;obtain ⟨l1,e1⟩:=lv.mp he;obtain ⟨l2,e2⟩:=lv.mp he';rcases Nat.lt_trichotomy e e' with q | q | q
 ·exact ((Zr.mp nd) e e' (by simpa using l1) (by simpa using l2) q (by rw [TD,TD,e1,e2])).elim
 ·exact q
 ·exact ((Zr.mp nd) e' e (by simpa using l2) (by simpa using l1) q (by rw [TD,TD,e1,e2])).elim
def dI (H:Hp) (ys:List V) (fs:List (Nat×Str)):Prop:=(fs=[]/\ys=[])\/∃ f nm y,fs=[(f,nm)]/\ys=[.ref y]/\H y=some (.tup [.int ((f:Nat):Int),.str nm])
def dI.kp {H H':Hp} {ys:List V} {fs:List (Nat×Str)} (h:dI H ys fs) (k:∀ b xs,H b=some (.tup xs)->H' b=some (.tup xs)):dI H' ys fs:=h.imp id fun ⟨f,nm,y,a,b,c⟩=>⟨f,nm,y,a,b,k _ _ c⟩
def dI.len {H:Hp} {ys:List V} {fs:List (Nat×Str)} (h:dI H ys fs):ys.length<=1:=by
 rcases h with ⟨_,rfl⟩ | ⟨_,_,_,_,rfl,_⟩ <;> simp
def u6 (M:Hs) (j:Nat) (tj:Th) (i e:Nat) (fs:List (Nat×Str)):Prop :=
 (fs=[]/\∀ i' e' nm,(i' < i\/i'=i/\e' < e)->¬ kC M.ts j i' e' nm)\/(fs=tj.bf/\∃ i' e' nm,(i' < i\/i'=i/\e' < e)/\kC M.ts j i' e' nm)
def u6.end {M:Hs} {n j:Nat} {tj:Th} {fs:List (Nat×Str)} (h:u6 M j tj M.ts.length 0 fs) (g:dX M n) (hj:M.ts[j]?=some tj):fs=tj.bf:=by
 rcases h with ⟨rfl,h⟩ | ⟨rfl,_⟩
 ·rcases (g.g.th j tj hj).pl with ⟨_,e⟩ | ⟨f,nm,tf,hf,e,_,bQ,_⟩
  ·exact e.symm
  ·obtain ⟨tf',h1,h2⟩:=g.lk j tj f nm hj e;obtain ⟨e',he'⟩:=M9 h2;exact absurd ⟨tf',h1,he'⟩ (h f e' nm (.inl (lv.mp h1).1))
 ·rfl
def MU {d:Addr} {o:Obj} {kvs:List (Key×V)} {g:TG} {tb:TS} {D:Ends} {σ:St} {H:Hp} (Pv:Nat->St->Hp->Prop) (h0:Pv 0 σ H) (hd:∀ i σ H,Pv i σ H->H d=some (.bG o (.dK kvs)))
  (hs:∀ i k v p σ H,kvs[i]?=some (k,v)->Pv i σ H->H p=none->g (.ref p) σ (upd H p (.tup [kV k,v])) fun σ2 H2=>tb { D with nx:=Pv (i+1),ct:=Pv (i+1),bk:=D.nx } σ2 H2) (he:∀ σ H,Pv kvs.length σ H->D.nx σ H):vP (yg d o kvs) g tb D σ H:=by
 refine ⟨fun i m σ H=>Pv i σ H/\i<=kvs.length/\m=kvs.length - i,⟨_,h0,At _,rfl⟩,?_⟩;rintro i m σ H ⟨hp,hi,rfl⟩;by_cases h:i < kvs.length
 ·refine .inr ⟨⟨hd _ _ _ hp,h⟩,Pv (i+1),fun σ' H' q=>⟨kvs.length - (i+1),by omega,q,h,rfl⟩,?_⟩;rintro x H' ⟨p,k,v,h1,rfl,h2,rfl⟩;exact hs i k v p σ H h1 hp h2
 ·have e:i=kvs.length:=by omega
  subst e;exact .inl ⟨⟨hd _ _ _ hp,sB _⟩,he _ _ hp⟩
def PQ:Sp:=jd fun lm n H Q _=>X4 fun Is M j tj=>A5 (cD H lm Is M.ts) (dX M 50) (n=((j:Nat):Int)) (M.ts[j]?=some tj) (∀ l ys H',Kp (Is.map (·.2)) H H'->cD H' lm Is M.ts->H' l=some (.lst ys)->dI H' ys tj.bf->Q (.ref l) H')
def O1:T.oH.k P w base 1 PQ:=by
 refine T.oH.F.ok ql (fun _ _ _ _ h=>bV h fun _ _ _=>rfl) fun ax A outer s H vs Q E hr h=>bV h fun lm n h=>?_;obtain ⟨Is,M,j,tj,m,g,rfl,hj,q⟩:=h;refine bR (b:=aZ zV) ((ad (aS 2 ql.nd (db ae))
 (ad (qG P3 rfl (pa T.m9 (aa (cj (fZ (K:=K) rfl) T.f9 Op (aa (ac 0) ae)) ae)) (cU 3 ql.nd) (ao (qG P3 rfl (Qh (ci (bt (K:=K) rfl) (ci (bt (K:=K) rfl) (ac 0) (ac 3)) am)) (y9 (K:=K) (n:=2) rfl rfl (gn (cU 4 ql.nd) (gn (cU 5 ql.nd) u0))) (ao (bb (bc eA (ac 5) (ac 1)) (ao (aX (dz wP wS dR (ac 2) (aa (gl (aa (ac 3) (aa (ac 4) ae))) ae)))) ce)))))
 (ao (aL (cj (Ai (K:=K) rfl rfl) T.pQ pU (aa (ac 2) ae))))))) ?_
 refine stI [some (V.ref lm),some (V.int (j:Int)),none,none,none,none] ?_;have hn:=g.n;right;refine ⟨by simp,fun p hp=>?_⟩;have n1:p≠lm:=sw (aH m.l hp);have n2:∀ q∈Is,p≠q.1/\p≠q.2:=fun q hq=>by
  obtain ⟨k,t,h1,h2,mt⟩:=m.row hq;obtain ⟨up,hl,_⟩:=mt.l;refine ⟨sw (aH hl hp),?_⟩;rcases mt.d with h | ⟨x,h⟩
  ·exact sw (aH h hp)
  ·exact sw (aH h hp)
 have m0:cD (upd H p (.lst [])) lm Is M.ts:=m.same (ag.upd hp);have k0:Kp (Is.map (·.2)) H (upd H p (.lst [])):=Kp.of (ag.upd hp);have b0:upd H p (.lst []) p=some (.lst []):=au;generalize upd H p (.lst [])=H0 at m0 k0 b0 ⊢;refine gj (fun σ' H'=>(∃ ys,H' p=some (.lst ys)/\dI H' ys tj.bf)/\cD H' lm Is M.ts/\Kp (Is.map (·.2)) H H'/\∃ t1 t2 t3,σ'=[some (V.ref lm),some (V.int (j:Int)),some (V.ref p),t1,t2,t3]) ?_ ?_
 ·left;simp only [bC,m0.l];rw [mo,m.n];refine ⟨⟨by omega,by omega⟩,Hy (lo:=0) (n:=((M.ts.length:Nat):Int).toNat) (fun i σ' H'=>(∃ ys fs,H' p=some (.lst ys)/\dI H' ys fs/\u6 M j tj i 0 fs)/\cD H' lm Is M.ts/\Kp (Is.map (·.2)) H H'/\∃ t1 t2 t3,σ'=[some (V.ref lm),some (V.int (j:Int)),some (V.ref p),t1,t2,t3]) ⟨⟨[],[],b0,.inl ⟨rfl,rfl⟩,.inl ⟨rfl,fun i' e' nm h=>by omega⟩⟩,m0,k0,_,_,_,rfl⟩ ?_ ?_⟩
  ·rintro i σ' H1 hi ⟨⟨ys,fs,b1,iN,tW⟩,m1,k1,t1,t2,t3,rfl⟩;have hi':i < M.ts.length:=by omega
   have ht:M.ts[i]?=some M.ts[i]:=ul hi';generalize M.ts[i]=t at ht;obtain ⟨pi,tM,cN,mt⟩:=m1.at ht;obtain ⟨up,jq,_⟩:=mt.l;have e0:(0:Int)+(i:Int)=(i:Int):=by omega
   have a5:cz [V.str t.kd,V.str t.ow,V.str t.mi,V.str t.re,V.str t.tx,V.ref pi.2,up] 5=some (.ref pi.2):=eU (j:=5) rfl;left;unfold zR;left;rw [e0];simp only [bC,m1.l,cN,jq,a5];refine ⟨pi.2,_,rfl,mt.d,fun o=>?_⟩;have np:=(n2 pi (FB tM)).2;have m2:=m1.bG (o:=o) tM ht;have f2:upd H1 pi.2 (.bG o (.dK (sD t.aw))) pi.2=some (.bG o (.dK (sD t.aw))):=au;have b2:upd H1 pi.2 (.bG o (.dK (sD t.aw))) p=some (.lst ys):=by rw [ah np]; exact b1
   have kK:dI (upd H1 pi.2 (.bG o (.dK (sD t.aw)))) ys fs:=iN.kp fun b xs e=>by rw [ah (FF mt.d e)]; exact e
   have k2:Kp (Is.map (·.2)) H (upd H1 pi.2 (.bG o (.dK (sD t.aw)))):=fun b o' hb e=>by rw [ah (fun z=>hb (by rw [z]; exact Cl.mpr ⟨pi,FB tM,rfl⟩))]; exact k1 b o' hb e
   generalize upd H1 pi.2 (.bG o (.dK (sD t.aw)))=H2 at m2 f2 b2 kK k2 ⊢;clear m1 b1 iN k1;refine MU (fun e σ' H'=>H' pi.2=some (.bG o (.dK (sD t.aw)))/\(∃ ys fs,H' p=some (.lst ys)/\dI H' ys fs/\u6 M j tj i e fs)/\cD H' lm Is M.ts/\Kp (Is.map (·.2)) H H'/\∃ t2 t3,σ'=[some (V.ref lm),some (V.int (j:Int)),some (V.ref p),some (V.int (i:Int)),t2,t3]) ⟨f2,⟨ys,fs,b2,kK,tW⟩,m2,k2,_,_,rfl⟩ (fun e σ' H' h=>h.1) ?_ ?_
   ·clear f2 b2 kK k2 m2 tW;rintro e k v pt σ' H3 hkv ⟨f3,⟨ys,fs,b3,wm,sT⟩,m3,k3,t2,t3,rfl⟩ hpt;obtain ⟨nm,c,cx,rfl,rfl⟩:∃ nm c,t.aw[e]?=some (nm,c)/\k=.inr nm/\v=.int ((c:Nat):Int):=by
     unfold sD at hkv;rw [FS] at hkv;obtain ⟨x,h1,h2⟩:=ZG.mp hkv;cases h2;exact ⟨x.1,x.2,h1,rfl,rfl⟩
    have s4:=ag.upd (o:=.tup [kV (.inr nm),V.int (c:Int)]) hpt;have c4:upd H3 pt (.tup [kV (.inr nm),V.int (c:Int)]) pt=some (.tup [kV (.inr nm),V.int (c:Int)]):=au;have f4:=s4 _ _ f3;have b4:=s4 _ _ b3;have m4:=m3.same s4;have CZ:dI (upd H3 pt (.tup [kV (.inr nm),V.int (c:Int)])) ys fs:=wm.kp fun b xs e=>s4 _ _ e;have k4:=k3.trans (Kp.of (W:=Is.map (·.2)) s4);generalize upd H3 pt (.tup [kV (.inr nm),V.int (c:Int)])=H4 at s4 c4 f4 b4 m4 CZ k4 ⊢;clear f3 b3 m3 wm k3 s4;left;refine ⟨pt,_,rfl,bI.of c4,rfl,_,_,rfl,_,_,rfl,rfl,?_⟩;by_cases hc:c=j
    ·subst hc;refine dC (by simp) ?_;rw [show kV (.inr nm)=V.str nm from rfl];have hit:kC M.ts c i e nm:=⟨t,ht,cx⟩;have j4:fs=[]:=by
      rcases sT with ⟨h,_⟩ | ⟨_,i',e',nm',h1,h2⟩
      ·exact h
      ·obtain ⟨rfl,rfl⟩:=h2.two hit g hj;omega
     subst j4;have Lf:ys=[]:=by
      rcases CZ with ⟨_,h⟩ | ⟨_,_,_,h,_⟩
      ·exact h
      ·cases h
     subst Lf;simp only [b4];refine ⟨fits (by simp),fun y hy=>?_⟩;have s5:=ag.upd (o:=.tup [V.int (i:Int),V.str nm]) hy;have c5:upd H4 y (.tup [V.int (i:Int),V.str nm]) y=some (.tup [V.int (i:Int),V.str nm]):=au;have b5:=s5 _ _ b4;have m5:=m4.same s5;have f5:=s5 _ _ f4;have k5:=k4.trans (Kp.of (W:=Is.map (·.2)) s5);generalize upd H4 y (.tup [V.int (i:Int),V.str nm])=H5 at s5 c5 b5 m5 f5 k5 ⊢;simp only [b5];have ny:y≠p:=bO c5 b5 nofun;refine ⟨gR (by simp),by rw [ah (sw np)]; exact f5,⟨[.ref y],[(i,nm)],au,.inr ⟨i,nm,y,rfl,rfl,by rw [ah ny]; exact c5⟩,.inr ⟨(hit.pl g hj).symm,i,e,nm,.inr ⟨rfl,Os e⟩,hit⟩⟩,m5.upd n1 n2 (fun xs z=>by rw [b5] at z; cases z),fun b o' hb e'=>by rw [ah (fun z=>by rw [z,hp] at e'; cases e')]; exact k5 b o' hb e',_,_,rfl⟩
    ·refine bU (by simp; omega) ?_;refine ⟨f4,⟨ys,fs,b4,CZ,?_⟩,m4,k4,_,_,rfl⟩;rcases sT with ⟨h,h'⟩ | ⟨h,i',e',nm',h1,h2⟩
     ·refine .inl ⟨h,fun i' e' nm' hl hh=>?_⟩;rcases _E e' e with q | q
      ·exact h' i' e' nm' (by omega) hh
      ·rcases hl with hl | ⟨rfl,hl⟩
       ·exact h' i' e' nm' (.inl hl) hh
       ·obtain rfl:e'=e:=by omega
        obtain ⟨t',h3,h4⟩:=hh;rw [ht] at h3; cases h3;rw [cx] at h4; cases h4;exact hc rfl
     ·exact .inr ⟨h,i',e',nm',by omega,h2⟩
   ·rintro σ' H3 ⟨_,⟨ys,fs,b3,wm,sT⟩,m3,k3,t2,t3,rfl⟩;refine ⟨⟨ys,fs,b3,wm,?_⟩,m3,k3,_,_,_,rfl⟩;rw [show (sD t.aw).length=t.aw.length from mo _] at sT;rcases sT with ⟨h,h'⟩ | ⟨h,i',e',nm',h1,h2⟩
    ·refine .inl ⟨h,fun i' e' nm' hl hh=>h' i' e' nm' ?_ hh⟩;rcases _E i' i with q | q
     ·exact .inl q
     ·obtain rfl:i'=i:=by omega
      obtain ⟨t',h3,h4⟩:=hh;rw [ht] at h3; cases h3;exact .inr ⟨rfl,(lv.mp h4).1⟩
    ·exact .inr ⟨h,i',e',nm',by omega,h2⟩
  ·rintro σ' H1 ⟨⟨ys,fs,b1,iN,tW⟩,m1,k1,h⟩;rw [show ((M.ts.length:Nat):Int).toNat=M.ts.length from rfl] at tW;rw [tW.end g hj] at iN;exact ⟨⟨ys,b1,iN⟩,m1,k1,h⟩
 ·rintro σ' H1 ⟨⟨ys,b1,iN⟩,m1,k1,t1,t2,t3,rfl⟩;left;refine .inl ⟨p,ys,rfl,aE.of b1,iN.len,fun l hl=>?_⟩;have s2:=ag.upd (o:=.lst ys) hl;exact q l ys _ (k1.trans (Kp.of s2)) (m1.same s2) au (iN.kp fun b xs e=>s2 _ _ e)
def WD:T.sG.k P w mg base 3 (gH T.aK T.aQ T.aY Ad.a M5):=by
 refine T.sG.F.ok Ex (fun _ _ _ _ h=>bV h fun _ _ _=>rfl) fun ax A outer s H vs Q E hr h=>bV h fun x n h=>?_;obtain ⟨AA,L,M,k,a,t,i,rfl,rfl,ha,aP,q⟩:=h;obtain ⟨fs,c,hx,aU,sf⟩:=i.h;obtain ⟨gs,c2,ht,du,sg⟩:=i.t;have cw:=ej i ha aP;obtain ⟨ks,ho,gC,so⟩:=cw.o;refine ⟨_,((ad (aS 2 Ex.nd (dS T.cb T.cK.h (gQ T) hr.m T.cK.b .nil fG (bn T.aN T.eM (ac 0)) (aa (ac 1) ae)))
 (ao (aL (gl (aa (bn T.cW T.ze (ac 2)) (aa (bn T.cW T.xp (ac 2)) ae))))))).h,?_⟩
 refine stI [some (V.ref AA.a),some (V.int (k:Int)),none] ?_;right;refine ⟨AA.a,_,_,.ref AA.t,rfl,hx,(sf _).trans rfl,AA.t,_,_,rfl,ht,(sg _).trans rfl,iy i ha aP ?_⟩;left;exact (fI ho so rfl (fI ho so rfl ⟨fits (by simp),q⟩))
def Wl {H:Hp} {x:V} (h:cM x=true):∀ n,DE K H n x x:=by
 have e:eT x x=true:=by
  cases x <;> first | rfl | (simp [eT]; done) | exact absurd (show false=true from h) wT
 intro n;cases n with
 | zero=>exact ⟨h,h,e⟩
 | succ n=>exact .inl ⟨h,h,e⟩
def sx {H:Hp} {xs:List V} {n:Nat} (h:xs.all cM=true):∀ i (h1:i < xs.length) (h2:i < xs.length),DE K H n xs[i] xs[i]:=fun i h1 _=>Wl (Go.mp h _ (Z3 h1)) n
def dI.de {H:Hp} {ys ys':List V} {fs:List (Nat×Str)} (h:dI H ys fs) (h':dI H ys' fs):ys.length=ys'.length/\∀ i (h1:i < ys.length) (h2:i < ys'.length),DE K H 4 ys[i] ys'[i]:=by
 rcases h with ⟨e,rfl⟩ | ⟨f,nm,y,e,rfl,hy⟩ <;> rcases h' with ⟨e',rfl⟩ | ⟨f',nm',y',e',rfl,hy'⟩
 ·exact ⟨rfl,fun i h1=>absurd h1 (_v _)⟩
 ·rw [e] at e'; cases e'
 ·rw [e'] at e; cases e
 ·rw [e] at e'; cases e';refine ⟨rfl,fun i h1 h2=>?_⟩;obtain rfl:i=0:=by simpa using h1
  exact .inr ⟨y,y',_,_,rfl,rfl,.inr ⟨bI.of hy,bI.of hy'⟩,rfl,sx rfl⟩
def D5 {A:Ad} {L:List Ta} {M:Hs} {n k:Nat} {a:Ta} {t:Th} {H:Hp} {Q:VK} (g:dX M n) (ht:M.ts[k]?=some t) (q:∀ l ys,H l=none->dI H ys t.bf->Q (.ref l) (upd H l (.lst ys))):yM A L M k a t H Q:=by
 rcases (g.g.th k t ht).pl with ⟨_,e⟩ | ⟨f,nm,tf,_,e,_⟩
 ·exact .inl ⟨e,fun l hl=>q l [] hl (.inl ⟨e,rfl⟩)⟩
 ·exact .inr ⟨f,nm,e,fun y l hy hl=>q l _ hl (.inr ⟨f,nm,y,e,rfl,hy⟩)⟩
def EZ {H H':Hp} {l:Addr} {o:HO} (s:ag H H') (h:H l=none):ag H (upd H' l o):=fun b u e=>by rw [ah (aH e h)]; exact s b u e
def BV (t:Th):(sD t.aw).map (·.1)=(t.aw.map (·.1)).map Sum.inr:=by unfold sD; rw [SZ,SZ]; rfl
structure Jr (N:Cn) (H:Hp) (A:Ad) (L:List Ta) (M:Hs) (lm:Addr) (Is:List (Addr×Addr)):Prop where
 i:aR N.CH N.CS N.CT H A L M
 m:cD H lm Is M.ts
 ap:∀ p∈Is,p.2 ∉ A.w++L.flatMap Ta.l
 g:dX M 50
section
variable {N:Cn} {H H':Hp} {A:Ad} {L:List Ta} {M:Hs} {lm:Addr} {Is:List (Addr×Addr)}
def Jr.same (j:Jr N H A L M lm Is) (s:ag H H'):Jr N H' A L M lm Is:={ j with i:=j.i.same s,m:=j.m.same s }
def Jr.kp (j:Jr N H A L M lm Is) (k:Kp (Is.map (·.2)) H H') (m:cD H' lm Is M.ts):Jr N H' A L M lm Is:=⟨j.i.keep k fun b hb z=>(by
 obtain ⟨p,hp,rfl⟩:=Cl.mp z;exact j.ap p hp hb),m,j.ap,j.g⟩
end
def Yw (N:Cn):Sp:=xt fun h lm n H Q _=>X5 fun A L M Is k=>A5 (Jr N H A L M lm Is) (A.a=h) (n=((k:Nat):Int)) (k < M.ts.length) (∀ H',Jr N H' A L M lm Is->Q (.bl true) H')
def P9:T.oX.k P w base 5 (Yw T.cn):=by
 refine T.oX.F.ok iz (fun _ _ _ _ h=>uj h fun _ _ _ _=>rfl) fun ax A outer s H vs Q E hr h=>uj h fun hh lm n h=>?_;obtain ⟨AA,L,M,Is,k,j,rfl,rfl,hk,q⟩:=h;refine bR (b:=aZ zy) ((ad (vm (ci (bt (K:=K) rfl) (ac 1) (ac 2)) (Uq (K:=K) (n:=7) rfl rfl (gn (cU 3 iz.nd) (gn (cU 4 iz.nd) (gn (cU 5 iz.nd) (gn (cU 6 iz.nd) (gn (cU 7 iz.nd) (gn (cU 8 iz.nd) (gn (cU 9 iz.nd) u0)))))))))
 (ad (bb (eB (dL (bc eX (bg T.aN T.iA.h (vD T) hr.m T.iA.b .nil aA (ac 0) (aa (ac 2) ae)) (ac 3)) (gg (bc eX (bg T.aN T.rR.h (XX T) hr.m T.rR.b .nil aA (ac 0) (aa (ac 2) ae)) (ac 4))))) (ao (aL em)) ce)
 (ad (bb (eB (dL (bc (VO (K:=K) 4 rfl hr.oK) (bg T.aN T.sG.h (WD T) hr.m T.sG.b .nil aA (ac 0) (aa (ac 2) ae)) (gl (aa (ac 5) (aa (ac 6) ae)))) (gg (bc eX (bg T.aN T.lO.h (Er T) hr.m T.lO.b .nil aA (ac 0) (aa (ac 2) ae)) (ac 7))))) (ao (aL em)) ce)
 (ad (aS 10 iz.nd (bv (O1 T) hr.m T.oH.m T.oH.F.kp T.oH.b .nil aA (aa (ac 1) (aa (ac 2) ae))))
 (ad (aS 11 iz.nd (bg T.aN T.lY.h (Gb T) hr.m T.lY.b .nil aA (ac 0) (aa (ac 2) ae)))
 (ad (bb (eB (dL (dN (cX (cj ij T.gX gO (aa (ac 11) (aa (il (.ty "list") T.mf uf rfl) ae))))) (dL (bc (rk (K:=K) 4 rfl hr.oK) (ac 11) (ac 10)) (gg (bc (rk (K:=K) 4 rfl hr.oK) (bg T.aN T.iu.h (uQ T) hr.m T.iu.b .nil aA (ac 0) (aa (ac 2) ae)) (ci (bt (K:=K) rfl) (cr cR (ac 10) (db (aa aq ae))) am)))))) (ao (aL em)) ce)
 (ad (aX (dz wP wS dR (ac 11) (aa (gl (aa am (aa bi ae))) ae)))
 (ad (aS 12 iz.nd (bg T.aN T.mv.h (Hi T) hr.m T.mv.b .nil aA (ac 0) (aa (ac 2) ae)))
 (ad (bb (eB (dL (dN (cX (cj ij T.gX gO (aa (ac 12) (aa (il (.ty "list") T.mf uf rfl) ae))))) (gg (bc (rk (K:=K) 4 rfl hr.oK) (ac 12) (cj (Ai (K:=K) rfl rfl) T.pQ pU (aa (ac 8) ae)))))) (ao (aL em)) ce)
 (ad (aX (dz wP wS dR (ac 12) (aa bi ae)))
 (ad (bb (eB (dL (bc (rk (K:=K) 4 rfl hr.oK) (bg T.aN T.mv.h (Hi T) hr.m T.mv.b .nil aA (ac 0) (aa (ac 2) ae)) (cj (Ai (K:=K) rfl rfl) T.pQ pU (aa (ac 8) ae))) (gg (bc (rk (K:=K) 4 rfl hr.oK) (bg T.aN T.lY.h (Gb T) hr.m T.lY.b .nil aA (ac 0) (aa (ac 2) ae)) (ac 10))))) (ao (aL em)) ce)
 (ad (bb (eB (io (Bq (eD hr) bi (ac 8)) (sH (bc xc (bg T.aN T.gm.h (sI T) hr.m T.gm.b .nil aA (ac 0) (aa (ac 2) (aa bi ae))) aq)))) (ao (aL em)) ce)
 (ao (aL (f8 (yF (K:=K) rfl hr.oY) (nI rfl (TN:=["_law_name_here"]) (caps:=["_law_house","_law_inside","_law_number"]) (ix:=[0,8,2]) (Qu (ac 8)) (fun _ _ _ _=>by exact (yv (bc eX (bg T.aN T.gm.h (sI T) hr.m T.gm.b .nil aA (ac 1) (aa (ac 3) (aa (ac 0) ae))) (rT (eD hr) (ac 2) (ac 0))))) (fun _ _ _ _=>by exact (cU 0 (show List.Nodup (["_law_name_here","_law_house","_law_inside","_law_number"]:List Str) by decide))) (fun _ _ _ _=>by exact (ac 0)) (.of rfl (by exact ⟨rfl,rfl,rfl,trivial⟩) (by walk_at "c") rfl (by exact ⟨⟨rfl,rfl,rfl,rfl⟩,⟨rfl,rfl,rfl,rfl⟩,⟨rfl,rfl,rfl,rfl⟩,trivial⟩))) (db ae))))))))))))))))) ?_
 refine stI [some (V.ref AA.a),some (V.ref lm),some (V.int (k:Int)),none,none,none,none,none,none,none,none,none,none] ?_;have ht:M.ts[k]?=some M.ts[k]:=ul hk;generalize M.ts[k]=t at ht;obtain ⟨a,ha⟩:=adr j.i.len ht;obtain ⟨p,hp,cN,mt⟩:=j.m.at ht;obtain ⟨up,jq,_⟩:=mt.l;right;simp only [bC,j.m.l,cN];unfold Ar;refine ⟨p.1,_,rfl,aE.of jq,rfl,_,_,rfl,_,_,rfl,_,_,rfl,_,_,rfl,_,_,rfl,_,_,rfl,_,_,rfl,rfl,?_⟩;have ask:∀ {H1:Hp} {mn:Str} {fT:iY} {Q1:VK} {E1:XK},Jr T.cn H1 AA L M lm Is->(∀ c,List.lookup mn (nt c AA)=none)->fT AA L M k a t H1 Q1->MI T.aK mn (.ref AA.a) H1 (gH T.aK T.aQ T.aY Ad.a fT [.ref AA.a,.int (k:Int)] H1 Q1 E1):=fun {H1 mn fT Q1 E1} j1 hm hf=>by
  obtain ⟨iR,gc,gh,iO,dv⟩:=j1.i.h;exact .mk AA.a _ _ rfl gh ((dv _).trans (hm _)) ⟨AA,L,M,k,a,t,j1.i,rfl,rfl,ha,ht,hf⟩
 dsimp only [List.set_cons_succ,List.set_cons_zero];right;refine ask j (fun _=>rfl) ?_;dsimp only [qr];refine bU (by simp) ?_;refine ask j (fun _=>rfl) ?_;dsimp only [D3];refine bU (by simp) ?_;right;refine ask j (fun _=>rfl) fun l1 gi=>?_;refine ⟨fits (by simp),fun l2 cg=>?_⟩;have s1:=(ag.upd (o:=.tup [.str t.mi,.str t.re]) gi).trans (ag.upd (o:=.tup [.str t.mi,.str t.re]) cg);have c1:=(ag.upd (o:=.tup [.str t.mi,.str t.re]) cg) _ _ (au (a:=l1) (H:=H) (o:=.tup [.str t.mi,.str t.re]));have c2:upd (upd H l1 (.tup [.str t.mi,.str t.re])) l2 (.tup [.str t.mi,.str t.re]) l2=some (.tup [.str t.mi,.str t.re]):=au;have j1:=j.same s1;generalize upd (upd H l1 (.tup [.str t.mi,.str t.re])) l2 (.tup [.str t.mi,.str t.re])=H1 at s1 c1 c2 j1 ⊢;refine ⟨_,_,bI.of c1,bI.of c2,rfl,sx rfl,?_⟩;refine bU (by decide) ?_;clear c1 c2 s1 cg;refine ask j1 (fun _=>rfl) ?_;dsimp only [Aw];refine bU (by simp) ?_;right;refine ⟨Is,M,k,t,j1.m,j1.g,rfl,ht,fun lp yp H2 k2 m2 bp kK=>?_⟩;have j2:=j1.kp k2 m2;clear k2 m2 j1 j mt;right;refine ask j2 (fun _=>rfl) (D5 j2.g ht fun lt yt bH plt=>?_);refine ai ?_;have s3:=ag.upd (o:=.lst yt) bH;have b3:upd H2 lt (.lst yt) lt=some (.lst yt):=au;have wo:=s3 _ _ bp;have wB:dI (upd H2 lt (.lst yt)) yp t.bf:=kK.kp fun b xs e=>s3 _ _ e;have DL:dI (upd H2 lt (.lst yt)) yt t.bf:=plt.kp fun b xs e=>s3 _ _ e;generalize upd H2 lt (.lst yt)=H3 at s3 b3 wo wB DL ⊢;left;rw [JS b3];refine ⟨by simp,?_⟩;refine bU (by decide +kernel) ?_;refine ⟨.inr ⟨lt,lp,yt,yp,rfl,rfl,.inl ⟨aE.of b3,aE.of wo⟩,DL.de wB⟩,?_⟩;refine bU (by decide) ?_;have pc:uu AA L M k a t H3 (fun v H'=>H'=H3/\(t.bf=[]/\v=.aq\/∃ f nm y,t.bf=[(f,nm)]/\v=.ref y/\H3 y=some (.tup [.int ((f:Nat):Int),.str nm]))):=by
  rcases (j2.g.g.th k t ht).pl with ⟨_,e⟩ | ⟨f,nm,tf,_,e,_⟩
  ·exact .inl ⟨e,rfl,.inl ⟨e,rfl⟩⟩
  ·exact .inr ⟨f,nm,e,fun y hy=>⟨rfl,.inr ⟨f,nm,y,e,rfl,hy⟩⟩⟩
 refine ask (j2.same s3) (fun _=>rfl) ?_;have pc':∀ {Q1:VK},(∀ v,(t.bf=[]/\v=.aq\/∃ f nm y,t.bf=[(f,nm)]/\v=.ref y/\H3 y=some (.tup [.int ((f:Nat):Int),.str nm]))->Q1 v H3)->uu AA L M k a t H3 Q1:=fun {Q1} h=>by
  rcases pc with ⟨e,h1,h2⟩ | ⟨f,nm,e,h1⟩
  ·exact .inl ⟨e,h _ h2⟩
  ·exact .inr ⟨f,nm,e,fun p hp=>h _ (h1 p hp).2⟩
 refine pc' fun v hv=>?_;clear pc pc';refine ⟨fits (by simp),fun l5 fc=>?_⟩;have s5:=ag.upd (o:=.lst [V.aq]) fc;have c5:upd H3 l5 (.lst [V.aq]) l5=some (.lst [V.aq]):=au;have B9:=s5 _ _ wo;generalize upd H3 l5 (.lst [V.aq])=H5 at s5 c5 B9 ⊢;simp only [B9,c5];have KN:=kK.len;refine ⟨fits (by simp; omega),fun l6 hl6=>?_⟩;have s6:=s5.trans (ag.upd (o:=.lst (yp++[V.aq])) hl6);have c6:upd H5 l6 (.lst (yp++[V.aq])) l6=some (.lst (yp++[V.aq])):=au;generalize upd H5 l6 (.lst (yp++[V.aq]))=H6 at s6 c6 ⊢;obtain ⟨u,hu,df⟩:∃ u,cz (yp++[V.aq]) 0=some u/\((v=.aq/\u=.aq)\/∃ a b xs ys,v=.ref a/\u=.ref b/\(aE K H6 a xs/\aE K H6 b ys\/bI K H6 a xs/\bI K H6 b ys)/\xs.length=ys.length/\(∀ i (h1:i < xs.length) (h2:i < ys.length),DE K H6 4 xs[i] ys[i])):=by
  rcases wB with ⟨e,rfl⟩ | ⟨f,nm,y,e,rfl,hy⟩
  ·rcases hv with ⟨_,rfl⟩ | ⟨_,_,_,e',_⟩
   ·exact ⟨_,fv _ _,.inl ⟨rfl,rfl⟩⟩
   ·rw [e] at e'; cases e'
  ·rcases hv with ⟨e',_⟩ | ⟨f',nm',y',e',rfl,hy'⟩
   ·rw [e] at e'; cases e'
   ·rw [e] at e'; cases e';exact ⟨_,fv _ _,.inr ⟨y',y,_,_,rfl,rfl,.inr ⟨bI.of (s6 _ _ hy'),bI.of (s6 _ _ hy)⟩,rfl,sx rfl⟩⟩
 simp only [bC,c6,hu];refine ⟨df,bU (by decide) ?_⟩;have b6:=s6 _ _ b3;have KA:=s3.trans s6;clear df hu c6 c5 B9 hv wB DL b3 wo s3 s5 s6 hl6 fc;right;simp only [b6];refine ⟨fits (by simp),fun y7 hy7=>?_⟩;have b7:=(ag.upd (o:=.tup [V.int 0,V.str (Str.ofString "x")]) hy7) _ _ b6;have s7:=KA.trans (ag.upd (o:=.tup [V.int 0,V.str (Str.ofString "x")]) hy7);generalize upd H6 y7 (.tup [V.int 0,V.str (Str.ofString "x")])=H7 at b7 s7 ⊢;simp only [b7];have s8:=EZ (o:=.lst (yt++[V.ref y7])) s7 bH;refine ⟨gR (by have:=plt.len; omega),?_⟩;generalize upd H7 lt (.lst (yt++[V.ref y7]))=H8 at s8 ⊢;clear b7 s7 b6 KA hy7 plt bH;have j8:=j2.same s8;have Mc:=s8 _ _ bp;have KU:dI H8 yp t.bf:=kK.kp fun b xs e=>s8 _ _ e;clear j2 bp kK s8;have jU:t.aw.length < 64:=by have:=(j8.g.g.th k t ht).nl; have:=j8.g.n; omega
 have rd:∀ {H9:Hp},Jr T.cn H9 AA L M lm Is->Rd H9 p.2 (.dK (sD t.aw)):=fun j9=>(j9.m.t k p t hp ht).d;right;refine ask j8 (fun _=>rfl) ⟨jU,fun ln kW=>?_⟩;refine ai ?_;have s9:=ag.upd (o:=.lst ((cu (t.aw.map (·.1))).map V.str)) kW;have b9:upd H8 ln (.lst ((cu (t.aw.map (·.1))).map V.str)) ln=some (.lst ((cu (t.aw.map (·.1))).map V.str)):=au;generalize upd H8 ln (.lst ((cu (t.aw.map (·.1))).map V.str))=H9 at s9 b9 ⊢;left;rw [JS b9];refine ⟨by simp,bU (by decide +kernel) ?_⟩;have LY:((cu (t.aw.map (·.1))).map V.str).all cM=true:=Go.mpr fun x hx=>by obtain ⟨z,_,rfl⟩:=Cl.mp hx; rfl
 refine .inr ⟨p.2,_,t.aw.map (·.1),rfl,rd (j8.same s9),BV t,by rw [mo]; exact jU,fun Lx hl10=>?_⟩;have iF:=s9.trans (ag.upd (o:=.lst ((cu (t.aw.map (·.1))).map V.str)) hl10);have wq:=(ag.upd (o:=.lst ((cu (t.aw.map (·.1))).map V.str)) hl10) _ _ b9;refine ⟨.inr ⟨ln,Lx,_,_,rfl,rfl,.inl ⟨aE.of wq,aE.of au⟩,rfl,sx LY⟩,bU (by decide) ?_⟩;generalize upd H9 Lx (.lst ((cu (t.aw.map (·.1))).map V.str))=mM at iF wq ⊢;right;simp only [wq];have t9:=EZ (o:=.lst ((cu (t.aw.map (·.1))).map V.str++[V.str (Str.ofString "x")])) iF kW;refine ⟨gR (by rw [mo,qV,mo]; omega),?_⟩;generalize upd mM ln (.lst ((cu (t.aw.map (·.1))).map V.str++[V.str (Str.ofString "x")]))=H11 at t9 ⊢;have la:=j8.same t9;have Kr:=t9 _ _ Mc;have KW:dI H11 yp t.bf:=KU.kp fun b xs e=>t9 _ _ e;clear wq iF b9 s9 t9 kW hl10 j8 Mc KU;right;refine ask la (fun _=>rfl) ⟨jU,fun wu hl12=>?_⟩;have gZ:=ag.upd (o:=.lst ((cu (t.aw.map (·.1))).map V.str)) hl12;have Dp:upd H11 wu (.lst ((cu (t.aw.map (·.1))).map V.str)) wu=some (.lst ((cu (t.aw.map (·.1))).map V.str)):=au;generalize upd H11 wu (.lst ((cu (t.aw.map (·.1))).map V.str))=H12 at gZ Dp ⊢;refine .inr ⟨p.2,_,t.aw.map (·.1),rfl,rd (la.same gZ),BV t,by rw [mo]; exact jU,fun J3 hl13=>?_⟩;have tX:=gZ.trans (ag.upd (o:=.lst ((cu (t.aw.map (·.1))).map V.str)) hl13);have DB:=(ag.upd (o:=.lst ((cu (t.aw.map (·.1))).map V.str)) hl13) _ _ Dp;refine ⟨.inr ⟨wu,J3,_,_,rfl,rfl,.inl ⟨aE.of DB,aE.of au⟩,rfl,sx LY⟩,bU (by decide) ?_⟩;generalize upd H12 J3 (.lst ((cu (t.aw.map (·.1))).map V.str))=H13 at tX DB ⊢;have eN:=la.same tX;refine ask eN (fun _=>rfl) (D5 eN.g ht fun mV y14 hl14 Ln=>?_);have tu:=ag.upd (o:=.lst y14) hl14;have p14':dI (upd H13 mV (.lst y14)) y14 t.bf:=Ln.kp fun b xs e=>tu _ _ e;have K0:dI (upd H13 mV (.lst y14)) yp t.bf:=KW.kp fun b xs e=>tu _ _ (tX _ _ e);refine ⟨.inr ⟨mV,lp,_,_,rfl,rfl,.inl ⟨aE.of au,aE.of (tu _ _ (tX _ _ Kr))⟩,p14'.de K0⟩,bU (by decide) ?_⟩;have pI:=eN.same tu;generalize upd H13 mV (.lst y14)=H14 at pI ⊢;clear p14' K0 tu Ln hl14 eN tX DB gZ Dp hl12 hl13 la Kr KW;have Kh:∀ {H1:Hp} {z:Str} {Q1:VK} {E1:XK},Jr T.cn H1 AA L M lm Is->eg (.str z)=true->z.length<=1000->(∀ H2,ag H1 H2->Q1 ((aI (sD t.aw) (.inr z)).getD .aq) H2)->MI T.aK "child" (.ref AA.a) H1 (JR T.aK T.aQ T.aY [.ref AA.a,.int (k:Int),.str z] H1 Q1 E1):=fun {H1 z Q1 E1} j1 hz hl hf=>by
  obtain ⟨iR,gc,gh,iO,dv⟩:=j1.i.h;exact .mk AA.a _ _ rfl gh ((dv _).trans rfl) ⟨AA,L,M,k,a,t,j1.i,rfl,rfl,ha,ht,hz,hl,hf⟩
 refine gj (fun σ' H'=>Jr T.cn H' AA L M lm Is/\σ'=[some (V.ref AA.a),some (V.ref lm),some (V.int (k:Int)),some (V.str t.kd),some (V.str t.ow),some (V.str t.mi),some (V.str t.re),some (V.str t.tx),some (V.ref p.2),some up,some (V.ref lp),some (V.ref lt),some (V.ref ln)]) ?_ ?_
 ·left;refine ⟨p.2,_,rfl,.inl ⟨_,.inr (Str.ofString "a"),rd pI,rfl,rfl⟩,?_⟩;cases hv:aI (sD t.aw) (.inr (Str.ofString "a")) with
  | some v=>exact bU (show (!(some v).isSome)=false from rfl) (bU (by decide) ⟨pI,rfl⟩)
  | none =>
   refine dC rfl (Kh pI (by decide +kernel) (by decide +kernel) fun kS h9=>⟨rfl,?_⟩);rw [hv];exact bU (by decide) ⟨pI.same h9,rfl⟩
 ·rintro σ' kS ⟨DI,rfl⟩;clear pI;left;refine ⟨[.ref AA.a,.ref p.2,.int (k:Int)],iW rfl (iW rfl (iW rfl rb)),?_⟩;unfold BW;left;refine ⟨p.2,_,t.aw.map (·.1),rfl,rd DI,BV t,fun o=>?_⟩;have wF:=DI.m.bG (o:=o) hp ht;have LV:Jr T.cn (upd kS p.2 (.bG o (.dK (sD t.aw)))) AA L M lm Is:=DI.kp (fun b o' hb e=>by rw [ah (fun z=>hb (by rw [z]; exact Cl.mpr ⟨p,FB hp,rfl⟩))]; exact e) wF;have LN:upd kS p.2 (.bG o (.dK (sD t.aw))) p.2=some (.bG o (.dK (sD t.aw))):=au;generalize upd kS p.2 (.bG o (.dK (sD t.aw)))=H16 at LV LN ⊢;refine U3 (fun H'=>Jr T.cn H' AA L M lm Is/\H' p.2=some (.bG o (.dK (sD t.aw)))) ⟨LV,LN⟩ (fun H1 h=>h.2) ?_ ?_
  ·rintro z hz H17 ⟨kL,LC⟩ R hR;obtain ⟨e,he,rfl⟩:=Cl.mp hz;obtain ⟨n,hn⟩:=Zw he;have hv:=AF (kL.g.nd k t ht) (show t.aw[n]?=some (e.1,e.2) from hn);obtain ⟨c,tc,ec,h1,h2⟩:=(kL.g.g.th k t ht).ch _ _ hv;obtain ⟨wd,LM,L9⟩:=kL.g.nm c tc k e.1 h1 h2;left;refine Kh kL (by rw [LM]; exact rN L9) (by rw [LM,Tx.cB]; have:=(nH L9).2.2.2; omega) fun H18 tU=>?_;rw [hv];refine ⟨p.2,_,rfl,.inl ⟨_,.inr e.1,rd (kL.same tU),rfl,hv.symm⟩,?_⟩;have:=hR H18 ⟨kL.same tU,tU _ _ LC⟩
   simpa using this
  ·rintro H17 l ⟨kL,LC⟩ hl;refine ⟨by simp,fun l2 cg=>?_⟩;have tU:=ag.upd (o:=.lst []) hl;have Kd:=ag.upd (o:=.lst []) cg;exact ⟨[],[],aE.of (Kd _ _ au),aE.of au,.inl ⟨rfl,q _ (kL.same (tU.trans Kd))⟩⟩
def Tf (N:Cn):Sp:=sC fun h lm H Q _=>X4 fun A L M Is=>A3 (Jr N H A L M lm Is) (A.a=h) (∀ H',Q (.bl true) H')
def O0:T.nk.k P w base 6 (Tf T.cn):=by
 refine T.nk.F.ok Sw (fun _ _ _ _ h=>kH h fun _ _ _=>rfl) fun ax A outer s H vs Q E hr h=>kH h fun hh lm h=>?_;obtain ⟨AA,L,M,Is,j,rfl,q⟩:=h;refine bR (b:=aZ xg) ((ad (bb (bc eX (rJ T.aN T.qD.h (Ye T) hr.m T.qD.b .nil aA (ac 0)) (cj (fZ (K:=K) rfl) T.f9 Op (aa (ac 1) ae))) (ao (aL em)) ce)
 (ao (aL (cj (xJ (K:=K) rfl rfl) T.AX zE (aa (nI rfl (TN:=["_law_number"]) (caps:=["_law_house","_law_model"]) (ix:=[0,1]) (pa T.m9 (aa (cj (fZ (K:=K) rfl) T.f9 Op (aa (ac 1) ae)) ae)) (fun _ _ _ _=>by exact oJ) (fun _ _ _ _=>by exact (cU 0 (show List.Nodup (["_law_number","_law_house","_law_model"]:List Str) by decide))) (fun _ _ _ _=>by exact (bv (P9 T) hr.m T.oX.m T.oX.F.kp T.oX.b .nil aA (aa (ac 1) (aa (ac 2) (aa (ac 0) ae))))) (.of rfl (by exact ⟨rfl,rfl,trivial⟩) (by walk_at "c") rfl (by exact ⟨⟨rfl,rfl,rfl,rfl⟩,⟨rfl,rfl,rfl,rfl⟩,trivial⟩))) ae)))))) ?_
 refine stI [some (V.ref AA.a),some (V.ref lm)] ?_;obtain ⟨iR,gc,gh,iO,dv⟩:=j.i.h;have hn:=j.g.n;right;refine mI gh dv ⟨AA,L,M,j.i,rfl,?_⟩;simp only [bC,j.m.l];rw [mo,j.m.n];refine bU (by simp) ?_;refine ⟨[.ref AA.a,.ref lm],iW rfl (iW rfl rb),⟨by omega,by omega⟩,vV M.ts.length (fun i ys H'=>Jr T.cn H' AA L M lm Is/\ys=(List.replicate i true).map V.bl) (by omega) ⟨j,rfl⟩ (fun i ys H1 h=>by rw [h.2]; simp) (fun k ys H1 hk h R r=>?_) (fun ys H1 l h hl=>?_)⟩
 ·obtain ⟨j1,rfl⟩:=h;left;exact ⟨AA,L,M,Is,k,j1,rfl,rfl,hk,fun H2 j2=>r _ _ ⟨j2,by rw [List.replicate_succ',Fr]; rfl⟩⟩
 ·obtain ⟨j1,rfl⟩:=h;refine ⟨_,aE.of au,_,rfl,?_⟩;rw [show (List.replicate M.ts.length true).all id=true by simp];exact q _
def M1:Hs:={ ts:=[{ kd := "folder",ow := "own",mi := "lgw",re := "lg",tx := "",aw:=[],bf:=[] }],ro:=pT,st:=pT,tr:=[("main",0)],ov:=[],un:=[] }
def P5:dX M1 1:=by
 refine ⟨⟨rfl,rfl,rfl,fun z hz=>⟨0,0,zY z hz,zY z hz,.refl,⟨_,rfl,rfl⟩,_,rfl,rfl⟩,by decide,by decide,⟨_,rfl,rfl⟩,fun k t ht=>?_⟩,fun k t f nm ht hp=>?_,fun k t f nm ht hp=>?_,fun k t ht=>?_,rfl,rfl,⟨_,rfl,rfl,rfl,rfl,rfl⟩,sB 1⟩
 ·cases k with
  | zero =>
   cases ht;exact ⟨At _,.inl rfl,fun e=>absurd (show ("folder" : Str) = "lead" from e) (by decide +kernel),.inl ⟨rfl,rfl⟩,fun z v h=>by cases h⟩
  | succ k=>simp [M1] at ht
 ·cases k with
  | zero=>cases ht; cases hp
  | succ k=>simp [M1] at ht
 ·cases k with
  | zero=>cases ht; cases hp
  | succ k=>simp [M1] at ht
 ·cases k with
  | zero=>cases ht; exact .nil
  | succ k=>simp [M1] at ht
def yw (K:PySem.W.Frag):Sp:=gd fun a H Q _=>A3 (∃ ns:List Int,aE K H a (ns.map V.int)) (rX H) (∀ H',Q (.bl true) H')
def oz (K:PySem.W.Frag) (H:Hp) (a:Addr) (ns:List Int):Prop:=(∀ J,aE K J a (ns.map V.int))\/∃ o,H a=some (.bG o (.lst (ns.map V.int)))
def oz.sq {H:Hp} {a:Addr} {ns:List Int} (h:oz K H a ns):aE K H a (ns.map V.int):=by
 rcases h with h | h
 ·exact h H
 ·exact .inl (.inr h)
def oz.kp {H H':Hp} {a:Addr} {ns:List Int} (h:oz K H a ns) (k:fw H H'):oz K H' a ns:=by
 rcases h with h | ⟨o,h⟩
 ·exact .inl h
 ·exact .inr ⟨o,k _ _ trivial h⟩
def Nt (ns:List Int) (lo:Option Int) (k:Nat):∃ ms:List Int,eV (ns.map V.int) lo (some (k:Int))=ms.map V.int/\ms.length<=k:=by
 refine ⟨((ns.drop (HT.da (ns.map V.int).length 0 lo)).take (HT.da (ns.map V.int).length (ns.map V.int).length (some (k:Int)) - HT.da (ns.map V.int).length 0 lo)),?_,?_⟩
 ·unfold eV;rw [<- List.map_drop,<- List.map_take]
 ·rw [ZA,HT.vC];omega
def Mw.one {H:Hp} {lm it dk:Addr} {F:List Addr} {t:Th} (ht:t.bf=[]) (hn:t.aw=[]) (h1:H lm=some (.lst [.ref it])) (h2:H it=some (.lst [.str t.kd,.str t.ow,.str t.mi,.str t.re,.str t.tx,.ref dk,.aq])) (h3:H dk=some (.dK [])) (f1:lm ∉ F) (f2:it ∉ F) (f3:dk ∉ F):Mw H lm [(it,dk)] [t] F:=by
 have u:∀ (k:Nat) (p:Addr×Addr) (t':Th),[(it,dk)][k]?=some p->[t][k]?=some t'->k=0/\p=(it,dk)/\t'=t:=fun k p t' a b=>by
  cases k with
  | zero=>cases a; cases b; exact ⟨rfl,rfl,rfl⟩
  | succ k=>cases a
 have h4:H dk=some (.dK (sD t.aw)):=by rw [hn]; exact h3
 refine ⟨⟨h1,rfl,fun k p t' a b=>?_⟩,fun k p t' a b=>?_,by simp,f1,fun p hp=>?_⟩
 ·obtain ⟨rfl,rfl,rfl⟩:=u k p t' a b;exact ⟨⟨.aq,h2,.inl ⟨rfl,ht,rfl⟩⟩,.inl h4⟩
 ·obtain ⟨rfl,rfl,rfl⟩:=u k p t' a b;exact h4
 ·rw [AC.mp hp]; exact ⟨f2,f3⟩
structure jH (N:Cn) (A:Ad) (lm ll:Addr) (zs:List Int) (n:Nat) (H:Hp) (L:List Ta) (M:Hs) (Is:List (Addr×Addr)):Prop where
 i:aR N.CH N.CS N.CT H A L M
 m:Mw H lm Is M.ts (A.w++L.flatMap Ta.l)
 g:dX M n
 l:H ll=some (.lst (zs.map V.int))
section
variable {N:Cn} {A:Ad} {lm ll st:Addr} {zs:List Int} {n:Nat} {H H':Hp} {L:List Ta} {M:Hs} {Is:List (Addr×Addr)}
def jH.same (j:jH N A lm ll zs n H L M Is) (s:ag H H'):jH N A lm ll zs n H' L M Is:=⟨j.i.same s,j.m.same s,j.g,s _ _ j.l⟩
def jH.drawn (j:jH N A lm ll zs n H L M Is) (d:Dr st H) (hl:ll≠st) (k:cH st H H'):jH N A lm ll zs n H' L M Is:=⟨j.i.drawn j.g.g.ne d k,j.m.drawn d k,j.g,k _ _ hl j.l⟩
end
def Nk:aC P w K mg base (cI P w) 17 T.sU T.wC ["_law_script"] (yw K):=by
 refine T.uy.eK ik (fun vs H Q E h=>?_) (fun ax A outer s H vs Q E hr h=>?_)
 ·exact cQ h fun _ _=>rfl
 ·refine cQ h fun a h=>?_;obtain ⟨⟨ns,hS⟩,hO,q⟩:=h;refine bR (b:=aZ yJ) ((ad (aS 1 ik.nd (im T.XJ (Yn T) hr.m T.UY T.qX.b .nil aA (aa bi ae)))
  (ad (aX (bg T.aN T.lx.h (E7 T) hr.m T.lx.b .nil aA (ac 1) (aa bi ae)))
  (ad (aX (bg T.aN T.lx.h (E7 T) hr.m T.lx.b .nil aA (ac 1) (aa bi ae)))
  (ad (aS 2 ik.nd (db (aa (db (aa bi (aa bi (aa bi (aa bi (aa bi (aa e9 (aa aq ae)))))))) ae)))
  (ad (qG QD rfl (rS (K:=K) rfl (jp (nN (K:=K) rfl) (ac 0) nS (lR am))) (cU 3 ik.nd) (ad (aS 4 ik.nd (bv (NI T) hr.m T.o9.m T.o9.F.kp T.o9.b .nil aA (aa (ac 3) ae)))
  (ad (aS 5 ik.nd (ci (bt (K:=K) rfl) (db (aa bi (aa bi (aa bi ae)))) (bv (fL T) hr.m T.bJ.m T.bJ.F.kp T.bJ.b .nil aA (aa (ac 4) (aa am ae)))))
  (ad (aS 6 ik.nd (bv (Nv T) hr.m T.pd.m T.pd.F.kp T.pd.b .nil aA (aa (ac 2) (aa (ac 5) (aa (bv (fL T) hr.m T.bJ.m T.bJ.F.kp T.bJ.b .nil aA (aa (ac 4) (aa am ae))) ae)))))
  (ad (bb (bc qi (ac 6) aq) (ad (aS 5 ik.nd bi)
  (ao (aS 6 ik.nd am))) ce)
  (ad (aS 7 ik.nd (bv (Jd T) hr.m T.jM.m T.jM.F.kp T.jM.b .nil aA (aa (ac 4) ae)))
  (ao (bb (Bq (eD hr) (ac 7) (ci (bt (K:=K) rfl) (ci (bt (K:=K) rfl) (ac 2) (ac 6)) am)) (ad (aS 8 ik.nd (eG (SQ T) hr.m T.nE.m T.nE.F.kp T.nE.b .nil cY (aa (ac 1) (aa (ac 2) (aa (ac 4) (aa (ac 5) (aa (ac 6) (aa (ac 7) ae))))))))
  (ad (bb (eB (dL (cX (cj ij T.gX gO (aa (ac 8) (aa (il (.ty "bool") T.g_bool FJ rfl) ae)))) (dL (bc eX (ac 8) (cr Sk (cj (fZ (K:=K) rfl) T.f9 Op (aa (ac 2) ae)) am)) (gg (bc eX (bg T.aN T.gm.h (sI T) hr.m T.gm.b .nil aA (ac 1) (aa (ac 6) (aa (ac 7) ae))) (ac 8)))))) (ao (aL em)) ce)
  (ao (ng (eD hr) (ci (bt (K:=K) rfl) (ci (bt (K:=K) rfl) (ac 2) (ac 6)) am) (ac 7) (ac 8))))) ce))))))))
  (ao (aL (bv (O0 T) hr.m T.nk.m T.nk.F.kp T.nk.b .nil aA (aa (ac 1) (aa (ac 2) ae))))))))))) ?_
  refine stI [some (.ref a),none,none,none,none,none,none,none,none] ?_;have Ki:oz K H a ns:=by
   rcases hS with hS | hS
   ·rcases hS with hS | hS
    ·rcases hO a with z | ⟨o,xs,z⟩
     ·rw [z] at hS; cases hS
     ·rw [z] at hS; cases hS
    ·exact .inr hS
   ·exact .inl fun J=>.inr hS
  right;intro x dx hx jW df;refine ⟨⟨dx,au⟩,by decide +kernel,by decide +kernel,fun A1 L1 H2 hA1 i2 mJ hJ=>⟨rfl,?_⟩⟩;subst hA1;have k2:fw H H2:=fun b o ho e=>hJ _ _ (by rw [AC]; exact aH e hx) (by rw [ah (aH e hx),ah (aH e jW)]; exact e);obtain ⟨iR,gc,gh,iO,dv⟩:=i2.h;right;refine mI gh dv ⟨A1,L1,_,i2,rfl,by decide +kernel,by decide +kernel,by decide,by decide,by decide +kernel,by decide +kernel,fun H3 i3 k3=>?_⟩;have off:∀ b∈[A1.a,A1.ro,A1.st],b∈A1.w++L1.flatMap Ta.l:=fun b hb=>by
   simp only [ss,u8,EQ] at hb;rcases hb with rfl | rfl | rfl <;> simp [Ad.w]
  have k3':=k2.trans (i2.off (by nofun) off k3);obtain ⟨gfs3,gc3,Lr,ghl3,Kt⟩:=i3.h;right;refine mI Lr Kt ⟨A1,L1,_,i3,rfl,by decide +kernel,by decide +kernel,by decide,by decide,by decide +kernel,by decide +kernel,fun H4 i4 k4=>?_⟩;have k4':=k3'.trans (i3.off (by nofun) off k4);have i4':aR T.cn.CH T.cn.CS T.cn.CT H4 A1 L1 M1:=i4;have J9:=Ki.kp k4';clear i2 i3 i4 k2 k3 k3' k4 k4' Ki gh dv Lr Kt hJ mJ off;right;refine fun dk b8=>⟨fits (by simp),fun it hit=>⟨fits (by simp),fun lm hlm=>?_⟩⟩;have s5:=(ag.upd (o:=.dK []) b8).trans (ag.upd (o:=.lst [V.str (Str.ofString "folder"),V.str (Str.ofString "own"),V.str (Str.ofString "lgw"),V.str (Str.ofString "lg"),V.str (Str.ofString ""),V.ref dk,V.aq]) hit);have d5:=(ag.upd (o:=.lst [V.str (Str.ofString "folder"),V.str (Str.ofString "own"),V.str (Str.ofString "lgw"),V.str (Str.ofString "lg"),V.str (Str.ofString ""),V.ref dk,V.aq]) hit) _ _ (au (a:=dk) (H:=H4) (o:=.dK []));have e5:upd (upd H4 dk (.dK [])) it (.lst [V.str (Str.ofString "folder"),V.str (Str.ofString "own"),V.str (Str.ofString "lgw"),V.str (Str.ofString "lg"),V.str (Str.ofString ""),V.ref dk,V.aq]) it=some (.lst [V.str (Str.ofString "folder"),V.str (Str.ofString "own"),V.str (Str.ofString "lgw"),V.str (Str.ofString "lg"),V.str (Str.ofString ""),V.ref dk,V.aq]):=au;have J1:=qE (ag.upd b8) hit;generalize upd (upd H4 dk (.dK [])) it (.lst [V.str (Str.ofString "folder"),V.str (Str.ofString "own"),V.str (Str.ofString "lgw"),V.str (Str.ofString "lg"),V.str (Str.ofString ""),V.ref dk,V.aq])=H5 at s5 d5 e5 hlm ⊢;have KC:=qE s5 hlm;have s6:=ag.upd (o:=.lst [V.ref it]) hlm;have nF:∀ {b:Addr},H4 b=none->b ∉ A1.w++L1.flatMap Ta.l:=fun h z=>by obtain ⟨o,e⟩:=i4'.some _ z; rw [h] at e; cases e
  have m6:Mw (upd H5 lm (.lst [V.ref it])) lm [(it,dk)] M1.ts (A1.w++L1.flatMap Ta.l):=Mw.one rfl rfl au (s6 _ _ e5) (s6 _ _ d5) (nF KC) (nF J1) (nF b8);have i6:=i4'.same (s5.trans s6);have Dz:=J9.kp (fw.of (s5.trans s6));generalize upd H5 lm (.lst [V.ref it])=H6 at m6 i6 Dz ⊢;clear s5 d5 e5 hit hlm J1 KC s6 nF J9 i4' b8;refine gj (fun σ' H'=>(∃ L M Is,aR T.cn.CH T.cn.CS T.cn.CT H' A1 L M/\Mw H' lm Is M.ts (A1.w++L.flatMap Ta.l)/\dX M 50)/\∃ t1 t2 t3 t4 t5 t6,σ'=[some (.ref a),some (.ref A1.a),some (.ref lm),t1,t2,t3,t4,t5,t6]) ?_ ?_
  ·left;refine ⟨_,Dz.sq,fun ll jq=>⟨⟨_,aE.of au⟩,?_⟩⟩;obtain ⟨zs,ez,hzl⟩:=Nt ns none 40;rw [show ((40:Nat):Int)=40 from rfl] at ez;rw [ez];have s7:=ag.upd (o:=.lst (zs.map V.int)) jq;have b7:upd H6 ll (.lst (zs.map V.int)) ll=some (.lst (zs.map V.int)):=au;have j7:jH T.cn A1 lm ll zs (1+0) (upd H6 ll (.lst (zs.map V.int))) L1 M1 [(it,dk)]:=⟨i6.same s7,m6.same s7,P5,b7⟩;generalize upd H6 ll (.lst (zs.map V.int))=H7 at j7 ⊢;clear s7 b7 i6 m6 Dz jq;refine D8 (xs:=zs.map V.int) (fun i σ' H'=>(∃ L M Is,jH T.cn A1 lm ll zs (1+i) H' L M Is)/\∃ t1 t2 t3 t4 t5 t6,σ'=[some (.ref a),some (.ref A1.a),some (.ref lm),t1,t2,t3,t4,t5,t6]) ⟨⟨_,_,_,j7⟩,_,_,_,_,_,_,rfl⟩ (fun i σ' H' _ h=>let ⟨⟨_,_,_,j⟩,_⟩:=h; aE.of j.l) ?_ ?_
   ·clear j7;rintro i x σ' H8 hx ⟨⟨L,M,Is,j⟩,t1,t2,t3,t4,t5,t6,rfl⟩;obtain ⟨m,hm,rfl⟩:=Cl.mp (FB hx);have hi:=(lv.mp hx).1;rw [mo] at hi;have hn:=j.g.n;left;right;intro st a0 b0 c0 aO;have nl:ll≠st:=fun z=>by have:=j.l; rw [z,aO] at this; cases this
    have j9:=j.same (ag.upd (o:=.lst [.int a0,.int b0,.int c0]) aO);have d9:Dr st (upd H8 st (.lst [.int a0,.int b0,.int c0])):=⟨a0,b0,c0,au⟩;generalize upd H8 st (.lst [.int a0,.int b0,.int c0])=H9 at j9 d9 ⊢;clear j aO;right;refine D0 d9 rfl (by simp) (by simp) fun v mM hv d10 k10=>?_;obtain ⟨z,hz,rfl⟩:∃ z,z∈AS/\v=V.str z:=by
     simp only [ss,u8,EQ] at hv;rcases hv with rfl | rfl | rfl <;> exact ⟨_,by decide +kernel,rfl⟩
    have J2:=j9.drawn d9 nl k10;clear j9 k10 d9 hv;refine gj (fun σ' H'=>jH T.cn A1 lm ll zs (1+i) H' L M Is/\Dr st H'/\∃ v,σ'=[some (.ref a),some (.ref A1.a),some (.ref lm),some (.int m),some (.ref st),some (.str z),some v,t5,t6]/\(v=.aq\/∃ k t,v=.int ((k:Nat):Int)/\M.ts[k]?=some t/\t.kd=("folder" : Str)/\bZ ("w" : Str) (bK t z)=true/\dU M.ts z k)) ?_ ?_
    ·left;refine gb d10 (by decide) (by decide) fun n H11 hn0 hn1 LK Dd=>?_;have la:=J2.drawn d10 nl Dd;refine ⟨Is,M.ts,la.m.r,by omega,hn0,fun H12 gZ=>⟨⟨la.same gZ,LK.same gZ,_,rfl,.inl rfl⟩,fun k t h1 h2 h3 h4=>⟨la.same gZ,LK.same gZ,_,rfl,.inr ⟨k,t,rfl,h1,h2,h3,h4⟩⟩⟩⟩
    clear J2 d10;rintro σ' H12 ⟨C9,Dm,v,rfl,hv⟩;refine gj (fun σ' H'=>H'=H12/\∃ z f tf,z∈AS/\σ'=[some (.ref a),some (.ref A1.a),some (.ref lm),some (.int m),some (.ref st),some (.str z),some (.int ((f:Nat):Int)),t5,t6]/\M.ts[f]?=some tf/\tf.kd=("folder" : Str)/\bZ ("w" : Str) (bK tf z)=true/\dU M.ts z f) ?_ ?_
    ·left;refine ⟨rfl,?_⟩;rcases hv with rfl | ⟨k,t,rfl,h1,h2,h3,h4⟩
     ·refine dC (by decide) (ai ?_);left;obtain ⟨t,h1,h2,h3,h4⟩:=C9.g.Rv;exact ⟨rfl,"own",0,t,by decide +kernel,rfl,h1,h2,h3,h4⟩
     ·exact bU (by simp) ⟨rfl,z,k,t,hz,rfl,h1,h2,h3,h4⟩
    clear hv hz;rintro σ' H' ⟨rfl,z,f,tf,hz,rfl,hf,gr,hwf,hof⟩;right;refine ⟨Dm,fun wd H13 gy d13 k13=>?_⟩;have eN:=C9.drawn Dm nl k13;clear C9 Dm k13;obtain ⟨p,hp,cN,mt⟩:=eN.m.r.at hf;obtain ⟨up,jq,_⟩:=mt.l;have a5:cz [V.str tf.kd,V.str tf.ow,V.str tf.mi,V.str tf.re,V.str tf.tx,V.ref p.2,up] 5=some (.ref p.2):=eU (j:=5) rfl;left;simp only [bC,eN.m.r.l,cN,jq,a5];refine ⟨p.2,_,rfl,.inl ⟨_,.inr (Tx.S wd),mt.d,rfl,rfl⟩,?_⟩;cases hv:aI (sD tf.aw) (.inr (Tx.S wd)) with
    | some v=>exact bU (show (!(some v).isSome)=false from rfl) ⟨⟨L,M,Is,eN.i,eN.m,eN.g.le (by omega),eN.l⟩,_,_,_,_,_,_,rfl⟩
    | none =>
     refine dC rfl (ai ?_);left;refine ⟨A1,L,M,Is,f,tf,wd,rfl,rfl,rfl,⟨eN.i,eN.m,eN.g.le (by omega),hz,gy,hf,gr,hwf,hof,hv⟩,d13,fun H14 a1 it' dk' kd mi re tx cO mR tL wz k14=>?_⟩;have mV:=k14 _ _ nl (show lF (.lst (zs.map V.int)) from Fm zs) eN.l;have g14:=eN.g.make (z:=z) (mi:=mi) (re:=re) (tx:=tx) hf gr gy hv cO mR;have aU:=(lv.mp hf).1;have tf':(M.ts.set f { tf with aw:=tf.aw++[(Tx.S wd,M.ts.length)] }++[(⟨kd,z,mi,re,tx,[],[(f,Tx.S wd)]⟩:Th)])[f]?=some { tf with aw:=tf.aw++[(Tx.S wd,M.ts.length)] }:=by
      rw [zn (by rw [ZJ]; exact aU),IN aU]
     refine gj (fun σ' H'=>ag H14 H'/\σ'=[some (.ref a),some (.ref A1.a),some (.ref lm),some (.int m),some (.ref st),some (.str z),some (.int ((f:Nat):Int)),some (.str (Tx.S wd)),some (.int ((M.ts.length:Nat):Int))]) ?_ ?_
     ·left;refine ⟨by simp,bU (by decide +kernel) ?_⟩;simp only [bC,wz.r.l,BE];rw [mo,wz.r.n,ww,List.length_singleton];refine bU (by simp) ?_;obtain ⟨iR,gc,gh,iO,dv⟩:=tL.h;obtain ⟨a2,sS⟩:=adr tL.len tf';refine mI gh dv ⟨A1,L++[a1],_,f,a2,_,tL,rfl,rfl,sS,tf',rN gy,by rw [Tx.cB]; have:=(nH gy).2.2.2; omega,fun kS h9=>?_⟩;dsimp only;rw [uI,pP _ _ _ _ hv,Db rfl];exact bU (by simp) ⟨h9,by trivial⟩
     ·rintro σ' kS ⟨h9,rfl⟩;have i15:=tL.same h9;have tT:=wz.same h9;have Mh:=h9 _ _ mV;clear tL wz mV h9;have hf':(M.ts++[(⟨kd,z,mi,re,tx,[],[(f,Tx.S wd)]⟩:Th)])[f]?=some tf:=by rw [zn aU]; exact hf
      obtain ⟨p',hp',hat',mt'⟩:=tT.r.at hf';obtain ⟨up',hll',_⟩:=mt'.l;have a5':cz [V.str tf.kd,V.str tf.ow,V.str tf.mi,V.str tf.re,V.str tf.tx,V.ref p'.2,up'] 5=some (.ref p'.2):=eU (j:=5) rfl;left;simp only [bC,tT.r.l,hat',hll',a5'];have hu:=tT.u f p' tf hp' hf';have nl5:tf.aw.length<=1000:=by have:=(eN.g.g.th f tf hf).nl; omega
      refine ⟨p'.2,_,rfl,gP.k (k:=.inr (Tx.S wd)) hu (gR (by unfold sD; rw [mo]; exact nl5)),?_⟩;rw [RT _ hv,<- uI];have wF:=tT.put (ns:=tf.aw++[(Tx.S wd,M.ts.length)]) hp' hf';rw [List.set_append_left _ _ aU] at wF;have np:∀ b∈A1.w++(L++[a1]).flatMap Ta.l,b ∉ [p'.2]:=fun b hb z=>(tT.ap p' (FB hp')).2 (by rw [<- AC.mp z]; exact hb);have kp:Kp [p'.2] kS (upd kS p'.2 (.dK (sD (tf.aw++[(Tx.S wd,M.ts.length)])))):=fun b o hb e=>by rw [ah (by simpa using hb)]; exact e
      exact ⟨⟨_,_,_,i15.keep kp np,wF,g14.le (by omega),kp _ _ (by simpa using bO Mh hu nofun) Mh⟩,_,_,_,_,_,_,rfl⟩
   ·rintro σ' H8 ⟨⟨L,M,Is,j⟩,h⟩;rw [mo] at j;exact ⟨⟨L,M,Is,j.i,j.m,j.g.le (by omega)⟩,h⟩
  ·rintro σ' H7 ⟨⟨L,M,Is,i7,m7,g7⟩,t1,t2,t3,t4,t5,t6,rfl⟩;left;exact ⟨A1,L,M,Is,⟨i7,m7.r,fun p hp=>(m7.ap p hp).2,g7⟩,rfl,fun H8=>q H8⟩
end
def UK {K:PySem.W.Frag} {a:Addr} {od:Option Addr} {tk:Nat} {sl:Array (Option Value)} {t0 t1:Tok} (l:K.lookup a=some ⟨.type "tuple",od,.seq ([.str "." t0,.str ".." t1]:List Value).toArray tk,sl⟩) (H:Hp):bI K H a [.str ".",.str ".."]:=.inr ⟨_,_,_,l,rfl,rfl,fits (by simp),(.cons ⟨_,rfl⟩ (.cons ⟨_,rfl⟩ .nil))⟩
def Qd {K:PySem.W.Frag} {a:Addr} {od:Option Addr} {tk:Nat} {sl:Array (Option Value)} {t0 t1 t2 t3 t4 t5 t6 t7:Tok} (l:K.lookup a=some ⟨.type "tuple",od,.seq ([.str "" t0,.str "l" t1,.str "g" t2,.str "w" t3,.str "lg" t4,.str "lw" t5,.str "gw" t6,.str "lgw" t7]:List Value).toArray tk,sl⟩) (H:Hp):bI K H a [.str "",.str "l",.str "g",.str "w",.str "lg",.str "lw",.str "gw",.str "lgw"]:=.inr ⟨_,_,_,l,rfl,rfl,fits (by simp),(.cons ⟨_,rfl⟩ (.cons ⟨_,rfl⟩ (.cons ⟨_,rfl⟩ (.cons ⟨_,rfl⟩ (.cons ⟨_,rfl⟩ (.cons ⟨_,rfl⟩ (.cons ⟨_,rfl⟩ (.cons ⟨_,rfl⟩ .nil))))))))⟩
def XO {K:PySem.W.Frag} {a:Addr} {od:Option Addr} {tk:Nat} {sl:Array (Option Value)} {t0 t1 t2:Tok} (l:K.lookup a=some ⟨.type "tuple",od,.seq ([.str "l" t0,.str "g" t1,.str "w" t2]:List Value).toArray tk,sl⟩) (H:Hp):bI K H a [.str "l",.str "g",.str "w"]:=.inr ⟨_,_,_,l,rfl,rfl,fits (by simp),(.cons ⟨_,rfl⟩ (.cons ⟨_,rfl⟩ (.cons ⟨_,rfl⟩ .nil)))⟩
def Ux {K:PySem.W.Frag} {H:Hp} {a:Addr} {ns:List Int} (hO:rX H) (hS:aE K H a (ns.map V.int)):yw K [.ref a] H (fun v _=>v=.bl true) fun _ _ _=>False:=⟨⟨ns,hS⟩,hO,fun _=>rfl⟩
def SX {P:Program} {w:World} {outer:List Env} {H:Hp} {s s':Shared} {e:Value} (z:cI P w outer H s (fun _ _ _=>False) e s'):False:=by
 obtain ⟨_,_,_,_,_,_,z⟩:=z;exact z
def walk {l:PySem.W.OpenLaw} {q:Program} {loose:List Str} {XP:(Str->Option Value)->Heap->Prop} {YP:World->Heap->Prop} {d:DefRec} {K:Params->PySem.W.Frag} (hn:l.most=some 63) (sV:d.params.defaults=[]) (pL:d.name = "law")
  (hY:∀ (w:World) (h:Heap),YP w h->(K w.params).In h)
  (F:∀ (w:World) (mg:Str->Option Value) (h:Heap),(K w.params).In h->h.Ns mainGlobals mg->∃ T:Tx (K w.params) mg,T.sU=T.sU) :
  PySem.W.WalkO q loose XP YP l.row.toRowW d [] (fun f vs=>PySem.call f vs) :=
 L2.QJ (n:=63) (k:=17) (x := "_law_script") (CX:=fun w=>cI l.prog w) (sp:=fun w=>yw (K w.params)) hn (by decide) sV ⟨rfl,by decide,by decide⟩ hY
  (fun w mg fa h KX G hfa=>by
   obtain ⟨T,_⟩:=F w mg h KX G;rw [pL] at hfa;have e:=hfa.symm.trans T.WI;cases e;exact ⟨T.wC,fun s u=>by obtain ⟨oc,od,kV,doc,pm,an,ax,ct,dA,e,_⟩:=T.uy.ex; rw [e]; exact .of_eq rfl,fun base _ _=>Nk T⟩)
  (fun _ _ a ns _ hO hS=>Ux hO hS) fun _ _ _ _ _ z=>SX z
end L2.bL

open PySem PySem.W PyProof.Rows
local macro_rules | `(tactic| walk_at "fa")=>`(tactic| (refine' L2.FA.mk ?n ?l ?c ?k; (case n=>k_is); (case l=>k_is); (case c=>k_is); (case k=>k_is)))
local macro_rules | `(tactic| walk_at "ma")=>`(tactic| (refine' L2.MA.mk ?n ?l ?c ?k ?t; (case n=>k_is); (case l=>k_is); (case c=>k_is); (case k=>k_is); (case t=>k_is)))
local macro_rules | `(tactic| walk_at "ar")=>`(tactic| (intro _ _ _ _ _ _; first | (refine L2.GY ?_; exact fun _=>rfl) | (refine L2.Ed ?_; exact fun _ _=>rfl) | (refine L2.Bb ?_; exact fun _ _ _=>rfl) | (refine L2.vA ?_; exact fun _ _ _ _=>rfl) | (refine L2.uM ?_; exact fun _ _ _ _ _=>rfl) | (refine L2.Av ?_; exact fun _ _ _ _ _ _=>rfl) | (refine L2.WS ?_; exact fun _ _ _ _ _ _ _=>rfl) | (refine L2.JE ?_; exact rfl)))
local macro_rules | `(tactic| walk_at "mg")=>`(tactic| (refine' PySem.W.mg_of (by assumption) (by assumption) ?n; (case n=>k_is)))
local macro_rules | `(tactic| walk_at "mn")=>`(tactic| (refine' PySem.W.mg_none_of (by assumption) (by assumption) ?n; (case n=>k_is)))
local macro_rules | `(tactic| walk_at "ft")=>`(tactic| (refine' Classical.choice (L2.FA.gt (by assumption) (by assumption) ?b ?a); (case a=>walk_at "fa"); (case b=>walk_at "ar")))
local macro_rules | `(tactic| walk_at "mt")=>`(tactic| (refine' Classical.choice (L2.MA.gt ?b ?a); (case a=>walk_at "ma"); (case b=>walk_at "ar")))
local macro_rules | `(tactic| walk_at "mk")=>`(tactic| (refine' L2.U4 ?a ?b; (case a=>k_is); (case b=>k_is)))
local macro_rules | `(tactic| walk_at "xf")=>`(tactic| (refine' L2.Qm ?a ?b ?c ?d ?e ?f ?g; (case a=>kernel_rfl); (case b=>k_is); (case c=>k_is); (case d=>k_is); (case e=>k_is); (case f=>k_is); (case g=>k_is)))
local macro_rules | `(tactic| walk_at "cl")=>`(tactic| (refine' L2.cJ.mk ?a ?b ?c ?d; (case a=>k_is); (case b=>k_is); (case c=>k_is); (case d=>k_is)))
local macro_rules | `(tactic| walk_at "fu")=>`(tactic| (refine' L2.Bg ?l ?c ?k; (case l=>k_is); (case c=>k_is); (case k=>k_is)))
local macro_rules | `(tactic| walk_at "fd")=>`(tactic| (refine' L2.Od ?l ?c ?k ?d ?h; (case l=>k_is); (case c=>k_is); (case k=>k_is); (case d=>k_is); (case h=>exact rfl)))
set_option maxRecDepth 100000 in
set_option maxHeartbeats 0 in
theorem PySem.Challenge.cw_leadnames_k41_things_made_holds : PySem.Challenge.rw_leadnames_k41_things_made.Holds := by
 refine L2.bL.hd0 ?_;unfold L2.bL.eI
 k_fill
 refine L2.bL.walk (l:=PySem.Challenge.rw_leadnames_k41_things_made) rfl rfl rfl (fun w h Y=>PySem.W.kIn_of (e:=fun _=>by kernel_rfl) Y) ?F
 case F =>
  intro w mg h KX G;refine' ⟨L2.bL.Tx.mk ?_ ?_ ?_ ?_ ?_ ?_ ?_ ?_ ?_ ?_ ?_ ?_ ?_ ?_ ?_ ?_ ?_ ?_ ?_ ?_ ?_ ?_ ?_ ?_ ?_ ?_ ?_ ?kb ?_ ?Am ?Ax ?yB ?lJ ?_ ?xZ ?Hw ?y8 ?_ ?_ ?_ ?_ ?_ ?_ ?_ ?_ ?_ ?_ ?_ ?_ ?_ ?_ ?_ ?_ ?_ ?uy ?_ ?FR ?_ ?yn ?_ ?_ ?_ ?_ ?_ ?_ ?_ ?_ ?_ ?_ ?_ ?_ ?_ ?_ ?_ ?_ ?_ ?_ ?_ ?zm ?_ ?_ ?zW ?_ ?_ ?_ ?_ ?_ ?_ ?_ ?_ ?_ ?_ ?_ ?_ ?_ ?_ ?_ ?_ ?_ ?_ ?_ ?_ ?_ ?_ ?_ ?_ ?_ ?_ ?_ ?_ ?_ ?_ ?_ ?_ ?_ ?_ ?_ ?_ ?_ ?_ ?_ ?_ ?_ ?_ ?_ ?_ ?_ ?_ ?_ ?_ ?_ ?_ ?_ ?_ ?_ ?_ ?_ ?_ ?_ ?_ ?_ ?_ ?_ ?_ ?_ ?_ ?_ ?_ ?_ ?_ ?_ ?_ ?_ ?_ ?_ ?_ ?_ ?_ ?_ ?_ ?_ ?_ ?_ ?_ ?_ ?_ ?_ ?_ ?_ ?_ ?_ ?_ ?_ ?_ ?_ ?_ ?_ ?_ ?_ ?_ ?_ ?_ ?_ ?_ ?_ ?_ ?_ ?_ ?_ ?_ ?_ ?_ ?_ ?_ ?_ ?_ ?_ ?_ ?_ ?_ ?_ ?_ ?_ ?_ ?_ ?_ ?_ ?_ ?_ ?_ ?_ ?_ ?_ ?_ ?_ ?_ ?_ ?_ ?_ ?_ ?_ ?_ ?_ ?_ ?_ ?_ ?_ ?_ ?_ ?_ ?_ ?_ ?_ ?_ ?_ ?_ ?_ ?_ ?_ ?_ ?_ ?_,rfl⟩

  all_goals try (first | walk_at "mg" | walk_at "ft" | walk_at "mt" | k_is | (show PySem.W.findIn _ _ _=some none; k_is) | walk_at "mn" | kit_is | k_exc | walk_at "mk" | walk_at "cl" | walk_at "xf" | exact rfl | kernel_rfl)
  (case yn=>(refine' L2.bL.UK ?l_DOTS; (case l_DOTS=>k_is)))
  (case zm=>(refine' L2.bL.Qd ?l_RIGHTS; (case l_RIGHTS=>k_is)))
  (case zW=>(refine' L2.bL.XO ?l_SINGLE_RIGHTS; (case l_SINGLE_RIGHTS=>k_is)))
  (case kb=>walk_at "fd")
  (case Am=>exact L2.nq (x := "make_folder") (y := "make_folder") (st:=L2.bL.o8) (ds:=[.str "lgw" _,.str "" _]) 2 (by k_is) (by exact rfl) (fun _ _ _ _ _ _ _ us hl=>by (have e:us.length=5:=(by have h:=hl; rw [List.length_append] at h; simp at h; omega)); clear hl; revert us; refine L2.uM ?_; exact fun _ _ _ _ _=>⟨_,rfl,rfl⟩))
  (case Ax=>exact L2.nq (x := "make_folder") (y := "make_folder") (st:=L2.bL.o8) (ds:=[.str "lgw" _,.str "" _]) 1 (by k_is) (by exact rfl) (fun _ _ _ _ _ _ _ us hl=>by (have e:us.length=4:=(by have h:=hl; rw [List.length_append] at h; simp at h; omega)); clear hl; revert us; refine L2.vA ?_; exact fun _ _ _ _=>⟨_,rfl,rfl⟩))
  (case yB=>exact L2.nq (x := "make_folder") (y := "make_folder") (st:=L2.bL.o8) (ds:=[.str "lgw" _,.str "" _]) 0 (by k_is) (by exact rfl) (fun _ _ _ _ _ _ _ us hl=>by (have e:us.length=3:=(by have h:=hl; rw [List.length_append] at h; simp at h; omega)); clear hl; revert us; refine L2.Bb ?_; exact fun _ _ _=>⟨_,rfl,rfl⟩))
  (case lJ=>walk_at "fd")
  (case xZ=>exact L2.nq (x := "make_file") (y := "make_file") (st:=L2.bL.oN) (ds:=[.str "lgw" _,.str "" _]) 2 (by k_is) (by exact rfl) (fun _ _ _ _ _ _ _ us hl=>by (have e:us.length=6:=(by have h:=hl; rw [List.length_append] at h; simp at h; omega)); clear hl; revert us; refine L2.Av ?_; exact fun _ _ _ _ _ _=>⟨_,rfl,rfl⟩))
  (case Hw=>exact L2.nq (x := "make_file") (y := "make_file") (st:=L2.bL.oN) (ds:=[.str "lgw" _,.str "" _]) 1 (by k_is) (by exact rfl) (fun _ _ _ _ _ _ _ us hl=>by (have e:us.length=5:=(by have h:=hl; rw [List.length_append] at h; simp at h; omega)); clear hl; revert us; refine L2.uM ?_; exact fun _ _ _ _ _=>⟨_,rfl,rfl⟩))
  (case y8=>exact L2.nq (x := "make_file") (y := "make_file") (st:=L2.bL.oN) (ds:=[.str "lgw" _,.str "" _]) 0 (by k_is) (by exact rfl) (fun _ _ _ _ _ _ _ us hl=>by (have e:us.length=4:=(by have h:=hl; rw [List.length_append] at h; simp at h; omega)); clear hl; revert us; refine L2.vA ?_; exact fun _ _ _ _=>⟨_,rfl,rfl⟩))
  (case uy=>walk_at "fu")
  (case FR=>exact L2.Binds.all (fun us hl=>match us,hl with | [_],_=>rfl))
  all_goals try (first | walk_at "mg" | walk_at "ft" | walk_at "mt" | k_is | (show PySem.W.findIn _ _ _=some none; k_is) | walk_at "mn" | kit_is | k_exc | walk_at "mk" | walk_at "cl" | walk_at "xf" | exact rfl | kernel_rfl)

