import PyProof.Rows.All
import Wide.All
import OpenK.AllK
import Wide.FinOn
import Lean
import PyProof.EqAt
import PyProof.EqKinds
import PyProof.TupleCall
import PyProof.NsDelKeeps
import PyProof.InstStoreFacts
import KE.KLam
import KE.KRevIter
import PyProof.ZipIter
import KE.KUnpack
import PyProof.Conv_int_bool
import PyProof.CallStr
import PySem.Challenge.RW_leadnames_k47_read_written_looked
set_option Elab.async false
set_option linter.all false
set_option maxRecDepth 100000
namespace L2
open PySem PySem.W
def qO (tb:String->Option Builtin) (p:Program) (w:World) (n₀:Nat) (ann:Option Value):Nat->SharedT->Thread->Option SharedT
 | 0,_,_=>none
 | n+1,s,t=>match through t with
  | true=>some s
  | false=>match stepOk n₀ ann t with
   | false=>none
   | true=>match stepT (denote tb) p w s t with
    | some (s',t')=>qO tb p w n₀ ann n s' t'
    | none=>none
theorem LJ {tb:String->Option Builtin} {p:Program} {w:World} {n₀:Nat} {ann:Option Value}:∀ {n:Nat} {s s':SharedT} {t:Thread},qO tb p w n₀ ann n s t=some s'->topRun tb p w n₀ ann n s.abs t=some s'.abs
 | 0,_,_,_,h=>by cases h
 | n+1,s,s',t,h=>by
  unfold qO at h;unfold topRun;cases he:through t with
  | true=>rw [he] at h; cases h; rfl
  | false =>
   rw [he] at h;cases hk:stepOk n₀ ann t with
   | false=>rw [hk] at h; cases h
   | true =>
    rw [hk] at h;cases hs:stepT (denote tb) p w s t with
    | none=>rw [hs] at h; cases h
    | some r=>obtain ⟨s₂,t₂⟩:=r; rw [hs] at h; rw [stepT_spec hs]; exact LJ h
def treeOf:List Obj->Nat->BT->BT
 | [],_,t=>t
 | o::r,n,t=>treeOf r (n+1) (t.ins n o)
theorem LeftO.S9 {p q:Program} {loose:List Str} {Xt:Shared->Bool} {α:Type} {Yf:Shared->α} {Ya:World->α} {N:Nat} {g0:Bool} {H₀:Params->Heap} {T₀:Params->BT} {n₀:Nat} {life:Life} {ni:Array GenState} {d₀:Drawn} {k₀:Nat} {ann:Option Value}
  (F6:∀ w:World,(fencedOpening treeTable p w N).map (fun s=>(s.heap,s.gens,s.drawn,s.toks))=some (H₀ w.params,ni,d₀,k₀))
  (tr:∀ P:Params,absHeap (T₀ P) n₀ life=H₀ P)
  (size:∀ P:Params,((H₀ P).isNs mainGlobals && ni.size == 0,(H₀ P).objs.size,(H₀ P).nsMap mainGlobals "__annotations__")=(true,n₀,ann))
  (run:∀ (w:World) (os:OsState),(qO treeTable p w n₀ ann N ⟨T₀ w.params,n₀,life,ni,d₀,k₀,os⟩ (topStub p)).map (fun s=>((staticsOk (importedModules p.main.body) (H₀ w.params) s.abs.heap && namesBound p s.abs.heap && gensDone s.abs && laidKept (H₀ w.params) s.abs.heap),
    openSeen q loose (importedModules p.main.body) Xt g0 s.abs,Yf s.abs))=some (true,openGood q loose,Ya w)):LeftO p q loose Xt Yf Ya N g0:=fun w=>by
 obtain ⟨⟨h,gs,d,k,os⟩,e,e'⟩:=Option.map_eq_some_iff.mp (F6 w);obtain ⟨rfl,rfl,rfl,rfl⟩:h=H₀ w.params/\gs=ni/\d=d₀/\k=k₀:=by simpa using e'
 obtain ⟨z1,z2,z3⟩:_/\_/\_:=by simpa only [Prod.mk.injEq] using size w.params
 obtain ⟨s₁,r1,r2⟩:=Option.map_eq_some_iff.mp (run w os);obtain ⟨l1,l2,l3⟩:_/\_/\_:=by simpa only [Prod.mk.injEq] using r2
 have r:=LJ r1;have ea:SharedT.abs ⟨T₀ w.params,n₀,life,gs,d,k,os⟩=⟨H₀ w.params,gs,d,k,os⟩:=by
  unfold SharedT.abs;rw [tr]
 rw [ea] at r;have t:topFrom treeTable p w N ⟨H₀ w.params,gs,d,k,os⟩=some s₁.abs:=by
  unfold topFrom;dsimp only;rw [z1,z2,z3,r];show (match staticsOk (importedModules p.main.body) (H₀ w.params) s₁.abs.heap && namesBound p s₁.abs.heap && gensDone s₁.abs && laidKept (H₀ w.params) s₁.abs.heap with | true=>_ | false=>_)=_;rw [l1]
 unfold openEnds;rw [e];show (topFrom treeTable p w N _).map _=_;rw [t];exact congrArg some (Prod.ext l2 l3)
def eF (ok:Nat->Option Value->Thread->Bool) (st:SharedT->Thread->Option (SharedT×Thread)) (n₀:Nat) (ann:Option Value):Nat->SharedT->Thread->Option SharedT
 | 0,_,_=>none
 | n+1,s,t=>match through t with
  | true=>some s
  | false=>match ok n₀ ann t with
   | false=>none
   | true=>match st s t with
    | some (s',t')=>eF ok st n₀ ann n s' t'
    | none=>none
theorem G5 {tb:String->Option Builtin} {p:Program} {w:World} {n₀:Nat} {ann:Option Value}:∀ (n:Nat) (s:SharedT) (t:Thread),eF stepOk (stepT (denote tb) p w) n₀ ann n s t=qO tb p w n₀ ann n s t
 | 0,_,_=>rfl
 | n+1,s,t=>by
  unfold eF qO;cases through t with
  | true=>rfl
  | false =>
   cases stepOk n₀ ann t with
   | false=>rfl
   | true =>
    cases stepT (denote tb) p w s t with
    | none=>rfl
    | some r=>exact G5 n r.1 r.2
theorem LeftO.Vj {p q:Program} {loose:List Str} {Xt:Shared->Bool} {α:Type} {Yf:Shared->α} {Ya:World->α} {N:Nat} {g0:Bool} {H₀:Params->Heap} {T₀:Params->BT} {n₀:Nat} {life:Life} {ni:Array GenState} {d₀:Drawn} {k₀:Nat} {ann:Option Value}
  {ok:Nat->Option Value->Thread->Bool} {st:(Code->Sem Fin)->Program->World->SharedT->Thread->Option (SharedT×Thread)} {den:(String->Option Builtin)->Code->Sem Fin} {tb:String->Option Builtin}
  (e1:stepOk=ok) (e2:stepT=st) (e3:denote=den) (e4:treeTable=tb)
  (F6:∀ w:World,(fencedOpening treeTable p w N).map (fun s=>(s.heap,s.gens,s.drawn,s.toks))=some (H₀ w.params,ni,d₀,k₀))
  (tr:∀ P:Params,absHeap (T₀ P) n₀ life=H₀ P)
  (size:∀ P:Params,((H₀ P).isNs mainGlobals && ni.size == 0,(H₀ P).objs.size,(H₀ P).nsMap mainGlobals "__annotations__")=(true,n₀,ann))
  (run:∀ (w:World) (os:OsState),(eF ok (st (den tb) p w) n₀ ann N ⟨T₀ w.params,n₀,life,ni,d₀,k₀,os⟩ (topStub p)).map (fun s=>((staticsOk (importedModules p.main.body) (H₀ w.params) s.abs.heap && namesBound p s.abs.heap && gensDone s.abs && laidKept (H₀ w.params) s.abs.heap),
    openSeen q loose (importedModules p.main.body) Xt g0 s.abs,Yf s.abs))=some (true,openGood q loose,Ya w)):LeftO p q loose Xt Yf Ya N g0:=by
 subst e1 e2 e3 e4;refine LeftO.S9 F6 tr size fun w os=>?_;rw [<- G5];exact run w os
noncomputable def fH (P:Params):BT:=treeOf (boot_heap P).objs.toList 0 .nil
end L2

namespace L2
open PySem PySem.W PyProof.Rows
theorem aaz {α β γ:Type} {o:Option α} {F:α->β×γ} {G:β×γ} (h1:o.map (fun s=>(F s).1)=some G.1) (h2:o.map (fun s=>(F s).2)=some G.2):o.map F=some G:=by
 cases o with
 | none=>cases h1
 | some a=>injection h1 with h1; injection h2 with h2; exact congrArg some (Prod.ext h1 h2)
theorem atS {α β:Type} {o:Option α} {s:α} {f:α->β} {g:β} (hs:o=some s) (h:o.map f=some g):f s=g:=by
 subst hs; exact Option.some.inj h
theorem jP {α β:Type} {a b:α} {c d:β} (h:a=b) (k:c=d):(a,c)=(b,d):=by rw [h,k]
def F0 (p:Program) (H₀:Heap) (s:SharedT):Bool:=staticsOk (importedModules p.main.body) H₀ s.abs.heap && namesBound p s.abs.heap && gensDone s.abs && laidKept H₀ s.abs.heap
def F3 (p q:Program) (loose:List Str) (Xt:Shared->Bool) (g0:Bool) (s:SharedT):Bool:=s.abs.heap.keysOk (looseW q loose) ((recsOf q).map (·.name)) ((litsOf q).map (·.1)) ((clssOf q (looseW q loose)).map (·.name)) && s.abs.heap.accountedOkI (importedModules p.main.body) && s.abs.heap.isNs mainGlobals && s.abs.heap.isNs builtinsNs && tablesOk q s.abs.heap && Xt s.abs && (if g0 then s.abs.gens.size == 0 else !leftWithCleanup s.abs.gens)
def F1 (q:Program) (s:SharedT):=seen ((recsOf q).map (·.name)) (ownsOf q) [] { s.abs with gens:=#[] }
theorem Rm {p q:Program} {loose:List Str} {Xt:Shared->Bool} {α:Type} {Yf:Shared->α} {Ya:World->α} {g0:Bool} {H₀:Heap} {o:Option SharedT} {w:World}
  (q0:o.map (F0 p H₀)=some true) (q1:o.map (F1 q)=some (expectedOf q)) (q2:o.map (fun s:SharedT=>s.abs.heap.bltView)=some bltViewBooted)
  (q3:o.map (F3 p q loose Xt g0)=some true) (q4:o.map (fun s:SharedT=>tabsOk q s.abs)=some true) (q5:o.map (fun s:SharedT=>pinSeenD q (drecsOf q) s.abs)=some (pinGoodD (drecsOf q)))
  (q6:o.map (fun s:SharedT=>plainSeenE q (looseW q loose) s.abs)=some (plainGoodE q (looseW q loose))) (q7:o.map (fun s:SharedT=>plainSeenD q loose s.abs)=some (plainGoodD q loose))
  (q8:o.map (fun s:SharedT=>wideSeen q s.abs)=some (wideGood q)) (q9:o.map (fun s:SharedT=>clsSeenW q loose s.abs)=some (clsGoodW q loose))
  (rp:o.map (fun s:SharedT=>Yf s.abs)=some (Ya w)) :
  o.map (fun s:SharedT=>(F0 p H₀ s,openSeen q loose (importedModules p.main.body) Xt g0 s.abs,Yf s.abs))=some (true,openGood q loose,Ya w):=by
 obtain ⟨s,hs,a0⟩:=Option.map_eq_some_iff.mp q0;have a1:=atS hs q1;have a2:=atS hs q2;have a3:=atS hs q3;have a4:=atS hs q4;have a5:=atS hs q5;have a6:=atS hs q6;have a7:=atS hs q7;have a8:=atS hs q8;have a9:=atS hs q9;have a10:=atS hs rp;clear q0 q1 q2 q3 q4 q5 q6 q7 q8 q9 rp;subst hs;show some _=some _;refine congrArg some (jP a0 (jP ?_ a10));unfold openSeen openGood;exact jP a1 (jP a2 (jP a3 (jP a4 (jP a5 (jP a6 (jP a7 (jP a8 a9)))))))
theorem uR {α β γ:Type} {o:Option α} {f:α->β} {g:α->γ} {b:β} {c:γ} (h:o.map (fun s=>(f s,g s))=some (b,c)):o.map f=some b:=by
 cases o with
 | none=>cases h
 | some a=>injection h with h; exact congrArg some (congrArg Prod.fst h)
theorem f7 {α β γ:Type} {o:Option α} {f:α->β} {g:α->γ} {b:β} {c:γ} (h:o.map (fun s=>(f s,g s))=some (b,c)):o.map g=some c:=by
 cases o with
 | none=>cases h
 | some a=>injection h with h; exact congrArg some (congrArg Prod.snd h)
theorem tV {α β γ:Type} {o:Option α} {l:List β} {f:α->β->γ} {g:β->γ} (n:Nat) (h1:o.map (fun s=>(l.take n).map (f s))=some ((l.take n).map g)) (h2:o.map (fun s=>(l.drop n).map (f s))=some ((l.drop n).map g)):o.map (fun s=>l.map (f s))=some (l.map g):=by
 cases o with
 | none=>cases h1
 | some a =>
  injection h1 with h1;injection h2 with h2;refine congrArg some ?_;show l.map (f a)=l.map g;rw [<- List.take_append_drop n l,List.map_append,List.map_append];exact congr (congrArg _ h1) h2
theorem ZM {K:Params->Frag} {as:List Addr} {e:∀ P,as=(K P).map (·.1)} {ts:List Addr} {o:Option SharedT} {w:World} (h:o.map (fun s=>(K w.params).map fun p=>s.abs.heap.get? p.1)=some ((K w.params).map fun p=>some p.2)) (ht:o.map (fun s=>ts.map s.abs.heap.get?)=some (ts.map fun _=>some (tabObj #[]))) :
  o.map (fun s=>(kmHook K as e ts).obs s.abs)=some ((kmHook K as e ts).val w):=by
 refine aaz (F:=fun s:SharedT=>(kmHook K as e ts).obs s.abs) (G:=(kmHook K as e ts).val w) ?_ ht;show o.map (fun s:SharedT=>as.map s.abs.heap.get?)=some ((K w.params).map fun p=>some p.2);rw [e w.params];simp only [List.map_map];exact h
end L2

section
open PySem PySem.W PyProof.Rows
namespace L2.bN
theorem sa:(PySem.Challenge.rw_leadnames_k47_read_written_looked).row.wellSaid=true:=by kernel_rfl
theorem MN:(PySem.Challenge.rw_leadnames_k47_read_written_looked).wellSaid=true:=by
 unfold OpenLaw.wellSaid
 iterate 18 refine look_both ?_ ?_
 ·exact sa
 all_goals kernel_rfl
noncomputable def QV:Program:=view (PySem.Challenge.rw_leadnames_k47_read_written_looked).prog [0,2,3,4,5,6,7,8,9,10,12,13,14,15,17,18,19,20,21,22,23,24,25,26,27,28,29,30,31,32,33,34,35,37,38,39,40,41,43,44,45,46,47,48,49,50,51,52,55,56,57,58,59,60,61,62,63,64,65,66,67,68,71,72,73,74,75,77,78,80,81,82,83,84,85,86,87,88,89,90,91,92,93,94,95]
theorem lY:∀ w:World,(fencedOpening treeTable (PySem.Challenge.rw_leadnames_k47_read_written_looked).prog w 15878).map (fun s=>(s.heap,s.gens,s.drawn,s.toks))=some (boot_heap w.params,Array.mk [],boot_drawn,boot_toks):=boot_open rfl rfl (fun _=>rfl)
theorem cm:∀ P:Params,absHeap (L2.fH P) 11 {}=boot_heap P:=by intro P; kernel_rfl
theorem jT:∀ P:Params,((boot_heap P).isNs mainGlobals && (Array.mk ([]:List GenState)).size == 0,(boot_heap P).objs.size,(boot_heap P).nsMap mainGlobals "__annotations__")=(true,11,some (.ref 6)):=by intro P; kernel_rfl
set_option maxHeartbeats 0
theorem qL (w:World) (os:OsState):((eF PySem.W.Fast.tw6613529449190102663 (PySem.W.Fast.tw10156331382660048174 (PySem.W.Fast.tw11892475500146522536 PySem.W.Fast.tw14364793385576792824) (PySem.Challenge.rw_leadnames_k47_read_written_looked).prog w) 11 (some (.ref 6)) 15878 ⟨L2.fH w.params,11,{},Array.mk [],boot_drawn,boot_toks,os⟩ (topStub (PySem.Challenge.rw_leadnames_k47_read_written_looked).prog))).map (fun s=>(((staticsOk (importedModules (PySem.Challenge.rw_leadnames_k47_read_written_looked).prog.main.body) (boot_heap w.params) s.abs.heap && namesBound (PySem.Challenge.rw_leadnames_k47_read_written_looked).prog s.abs.heap && gensDone s.abs && laidKept (boot_heap w.params) s.abs.heap)),s.abs.heap.bltView,pinSeenD QV (drecsOf QV) s.abs,plainSeenD QV [PySem.Str.ofString "walk",PySem.Str.ofString "make_folder",PySem.Str.ofString "make_file"] s.abs,clsSeenW QV [PySem.Str.ofString "walk",PySem.Str.ofString "make_folder",PySem.Str.ofString "make_file"] s.abs,[1097,1090,1083,1050,1104].map s.abs.heap.get?))=some ((true,bltViewBooted,pinGoodD (drecsOf QV),plainGoodD QV [PySem.Str.ofString "walk",PySem.Str.ofString "make_folder",PySem.Str.ofString "make_file"],clsGoodW QV [PySem.Str.ofString "walk",PySem.Str.ofString "make_folder",PySem.Str.ofString "make_file"],[1097,1090,1083,1050,1104].map fun _=>some (tabObj #[]))):=by kernel_rfl
theorem R7 (w:World) (os:OsState):((eF PySem.W.Fast.tw6613529449190102663 (PySem.W.Fast.tw10156331382660048174 (PySem.W.Fast.tw11892475500146522536 PySem.W.Fast.tw14364793385576792824) (PySem.Challenge.rw_leadnames_k47_read_written_looked).prog w) 11 (some (.ref 6)) 15878 ⟨L2.fH w.params,11,{},Array.mk [],boot_drawn,boot_toks,os⟩ (topStub (PySem.Challenge.rw_leadnames_k47_read_written_looked).prog))).map (fun s=>seen ((recsOf QV).map (·.name)) (ownsOf QV) [] { s.abs with gens:=#[] })=some (expectedOf QV):=by kernel_rfl
theorem PN (w:World) (os:OsState):((eF PySem.W.Fast.tw6613529449190102663 (PySem.W.Fast.tw10156331382660048174 (PySem.W.Fast.tw11892475500146522536 PySem.W.Fast.tw14364793385576792824) (PySem.Challenge.rw_leadnames_k47_read_written_looked).prog w) 11 (some (.ref 6)) 15878 ⟨L2.fH w.params,11,{},Array.mk [],boot_drawn,boot_toks,os⟩ (topStub (PySem.Challenge.rw_leadnames_k47_read_written_looked).prog))).map (fun s=>wideSeen QV s.abs)=some (wideGood QV):=by kernel_rfl
theorem q3 (w:World) (os:OsState):((eF PySem.W.Fast.tw6613529449190102663 (PySem.W.Fast.tw10156331382660048174 (PySem.W.Fast.tw11892475500146522536 PySem.W.Fast.tw14364793385576792824) (PySem.Challenge.rw_leadnames_k47_read_written_looked).prog w) 11 (some (.ref 6)) 15878 ⟨L2.fH w.params,11,{},Array.mk [],boot_drawn,boot_toks,os⟩ (topStub (PySem.Challenge.rw_leadnames_k47_read_written_looked).prog))).map (fun s=>(s.abs.heap.keysOk (looseW QV [PySem.Str.ofString "walk",PySem.Str.ofString "make_folder",PySem.Str.ofString "make_file"]) ((recsOf QV).map (·.name)) ((litsOf QV).map (·.1)) ((clssOf QV (looseW QV [PySem.Str.ofString "walk",PySem.Str.ofString "make_folder",PySem.Str.ofString "make_file"])).map (·.name)) && s.abs.heap.accountedOkI (importedModules (PySem.Challenge.rw_leadnames_k47_read_written_looked).prog.main.body) && s.abs.heap.isNs mainGlobals && s.abs.heap.isNs builtinsNs && tablesOk QV s.abs.heap && (fun s=>xlAt QV [] s && recOk (RowW.records (OpenRow.toRowW (PySem.Challenge.rw_leadnames_k47_read_written_looked).row)) s) s.abs && (if true then s.abs.gens.size == 0 else !leftWithCleanup s.abs.gens)))=some (true):=by kernel_rfl
theorem q4 (w:World) (os:OsState):((eF PySem.W.Fast.tw6613529449190102663 (PySem.W.Fast.tw10156331382660048174 (PySem.W.Fast.tw11892475500146522536 PySem.W.Fast.tw14364793385576792824) (PySem.Challenge.rw_leadnames_k47_read_written_looked).prog w) 11 (some (.ref 6)) 15878 ⟨L2.fH w.params,11,{},Array.mk [],boot_drawn,boot_toks,os⟩ (topStub (PySem.Challenge.rw_leadnames_k47_read_written_looked).prog))).map (fun s=>tabsOk QV s.abs)=some (true):=by kernel_rfl
theorem Wj (w:World) (os:OsState):((eF PySem.W.Fast.tw6613529449190102663 (PySem.W.Fast.tw10156331382660048174 (PySem.W.Fast.tw11892475500146522536 PySem.W.Fast.tw14364793385576792824) (PySem.Challenge.rw_leadnames_k47_read_written_looked).prog w) 11 (some (.ref 6)) 15878 ⟨L2.fH w.params,11,{},Array.mk [],boot_drawn,boot_toks,os⟩ (topStub (PySem.Challenge.rw_leadnames_k47_read_written_looked).prog))).map (fun s=>(((plainsOf QV (looseW QV [PySem.Str.ofString "walk",PySem.Str.ofString "make_folder",PySem.Str.ofString "make_file"])).take 8).take 4).map fun c=>s.abs.heap.plainShapeAt c.withCmp)=some ((((plainsOf QV (looseW QV [PySem.Str.ofString "walk",PySem.Str.ofString "make_folder",PySem.Str.ofString "make_file"])).take 8).take 4).map fun c=>some c.withCmp.plainShape):=by kernel_rfl
theorem VP (w:World) (os:OsState):((eF PySem.W.Fast.tw6613529449190102663 (PySem.W.Fast.tw10156331382660048174 (PySem.W.Fast.tw11892475500146522536 PySem.W.Fast.tw14364793385576792824) (PySem.Challenge.rw_leadnames_k47_read_written_looked).prog w) 11 (some (.ref 6)) 15878 ⟨L2.fH w.params,11,{},Array.mk [],boot_drawn,boot_toks,os⟩ (topStub (PySem.Challenge.rw_leadnames_k47_read_written_looked).prog))).map (fun s=>(((plainsOf QV (looseW QV [PySem.Str.ofString "walk",PySem.Str.ofString "make_folder",PySem.Str.ofString "make_file"])).take 8).drop 4).map fun c=>s.abs.heap.plainShapeAt c.withCmp)=some ((((plainsOf QV (looseW QV [PySem.Str.ofString "walk",PySem.Str.ofString "make_folder",PySem.Str.ofString "make_file"])).take 8).drop 4).map fun c=>some c.withCmp.plainShape):=by kernel_rfl
theorem Ro (w:World) (os:OsState):((eF PySem.W.Fast.tw6613529449190102663 (PySem.W.Fast.tw10156331382660048174 (PySem.W.Fast.tw11892475500146522536 PySem.W.Fast.tw14364793385576792824) (PySem.Challenge.rw_leadnames_k47_read_written_looked).prog w) 11 (some (.ref 6)) 15878 ⟨L2.fH w.params,11,{},Array.mk [],boot_drawn,boot_toks,os⟩ (topStub (PySem.Challenge.rw_leadnames_k47_read_written_looked).prog))).map (fun s=>((plainsOf QV (looseW QV [PySem.Str.ofString "walk",PySem.Str.ofString "make_folder",PySem.Str.ofString "make_file"])).take 8).map fun c=>s.abs.heap.plainShapeAt c.withCmp)=some (((plainsOf QV (looseW QV [PySem.Str.ofString "walk",PySem.Str.ofString "make_folder",PySem.Str.ofString "make_file"])).take 8).map fun c=>some c.withCmp.plainShape):=L2.tV 4 (Wj w os) (VP w os)
theorem Pu (w:World) (os:OsState):((eF PySem.W.Fast.tw6613529449190102663 (PySem.W.Fast.tw10156331382660048174 (PySem.W.Fast.tw11892475500146522536 PySem.W.Fast.tw14364793385576792824) (PySem.Challenge.rw_leadnames_k47_read_written_looked).prog w) 11 (some (.ref 6)) 15878 ⟨L2.fH w.params,11,{},Array.mk [],boot_drawn,boot_toks,os⟩ (topStub (PySem.Challenge.rw_leadnames_k47_read_written_looked).prog))).map (fun s=>((plainsOf QV (looseW QV [PySem.Str.ofString "walk",PySem.Str.ofString "make_folder",PySem.Str.ofString "make_file"])).drop 8).map fun c=>s.abs.heap.plainShapeAt c.withCmp)=some (((plainsOf QV (looseW QV [PySem.Str.ofString "walk",PySem.Str.ofString "make_folder",PySem.Str.ofString "make_file"])).drop 8).map fun c=>some c.withCmp.plainShape):=by kernel_rfl
theorem q6 (w:World) (os:OsState):((eF PySem.W.Fast.tw6613529449190102663 (PySem.W.Fast.tw10156331382660048174 (PySem.W.Fast.tw11892475500146522536 PySem.W.Fast.tw14364793385576792824) (PySem.Challenge.rw_leadnames_k47_read_written_looked).prog w) 11 (some (.ref 6)) 15878 ⟨L2.fH w.params,11,{},Array.mk [],boot_drawn,boot_toks,os⟩ (topStub (PySem.Challenge.rw_leadnames_k47_read_written_looked).prog))).map (fun s=>plainSeenE QV (looseW QV [PySem.Str.ofString "walk",PySem.Str.ofString "make_folder",PySem.Str.ofString "make_file"]) s.abs)=some (plainGoodE QV (looseW QV [PySem.Str.ofString "walk",PySem.Str.ofString "make_folder",PySem.Str.ofString "make_file"])):=L2.tV 8 (Ro w os) (Pu w os)
end L2.bN
end
section
open PySem PySem.W PyProof.Rows
local macro_rules | `(tactic| o_head $H)=>`(tactic| (refine (by assumption:∀ h':PySem.W.Hook,h'=_->PySem.W.OpenRow.Holds _) $H ?_; rfl))
set_option maxHeartbeats 0 in
noncomputable def L2.bN.eZ:(h:Hook) ×' ((∀ h':Hook,h'=h->(PySem.Challenge.rw_leadnames_k47_read_written_looked).row.Holds)->(PySem.Challenge.rw_leadnames_k47_read_written_looked).row.Holds):=by
 refine' ⟨_,fun x=>_⟩
 rotate_left
 k_head
end
section
open PySem PySem.W PyProof.Rows
namespace L2.bN
set_option maxHeartbeats 0
theorem ya (w:World) (os:OsState):((eF PySem.W.Fast.tw6613529449190102663 (PySem.W.Fast.tw10156331382660048174 (PySem.W.Fast.tw11892475500146522536 PySem.W.Fast.tw14364793385576792824) (PySem.Challenge.rw_leadnames_k47_read_written_looked).prog w) 11 (some (.ref 6)) 15878 ⟨L2.fH w.params,11,{},Array.mk [],boot_drawn,boot_toks,os⟩ (topStub (PySem.Challenge.rw_leadnames_k47_read_written_looked).prog))).map (fun s=>(((eZ.heap_1 w.params).take 348).take 174).map fun p=>s.abs.heap.get? p.1)=some ((((eZ.heap_1 w.params).take 348).take 174).map fun p=>some p.2):=by kernel_rfl
theorem yb (w:World) (os:OsState):((eF PySem.W.Fast.tw6613529449190102663 (PySem.W.Fast.tw10156331382660048174 (PySem.W.Fast.tw11892475500146522536 PySem.W.Fast.tw14364793385576792824) (PySem.Challenge.rw_leadnames_k47_read_written_looked).prog w) 11 (some (.ref 6)) 15878 ⟨L2.fH w.params,11,{},Array.mk [],boot_drawn,boot_toks,os⟩ (topStub (PySem.Challenge.rw_leadnames_k47_read_written_looked).prog))).map (fun s=>(((eZ.heap_1 w.params).take 348).drop 174).map fun p=>s.abs.heap.get? p.1)=some ((((eZ.heap_1 w.params).take 348).drop 174).map fun p=>some p.2):=by kernel_rfl
theorem yc (w:World) (os:OsState):((eF PySem.W.Fast.tw6613529449190102663 (PySem.W.Fast.tw10156331382660048174 (PySem.W.Fast.tw11892475500146522536 PySem.W.Fast.tw14364793385576792824) (PySem.Challenge.rw_leadnames_k47_read_written_looked).prog w) 11 (some (.ref 6)) 15878 ⟨L2.fH w.params,11,{},Array.mk [],boot_drawn,boot_toks,os⟩ (topStub (PySem.Challenge.rw_leadnames_k47_read_written_looked).prog))).map (fun s=>(((eZ.heap_1 w.params).drop 348).take 174).map fun p=>s.abs.heap.get? p.1)=some ((((eZ.heap_1 w.params).drop 348).take 174).map fun p=>some p.2):=by kernel_rfl
theorem yd (w:World) (os:OsState):((eF PySem.W.Fast.tw6613529449190102663 (PySem.W.Fast.tw10156331382660048174 (PySem.W.Fast.tw11892475500146522536 PySem.W.Fast.tw14364793385576792824) (PySem.Challenge.rw_leadnames_k47_read_written_looked).prog w) 11 (some (.ref 6)) 15878 ⟨L2.fH w.params,11,{},Array.mk [],boot_drawn,boot_toks,os⟩ (topStub (PySem.Challenge.rw_leadnames_k47_read_written_looked).prog))).map (fun s=>(((eZ.heap_1 w.params).drop 348).drop 174).map fun p=>s.abs.heap.get? p.1)=some ((((eZ.heap_1 w.params).drop 348).drop 174).map fun p=>some p.2):=by kernel_rfl
theorem rp (w:World) (os:OsState):((eF PySem.W.Fast.tw6613529449190102663 (PySem.W.Fast.tw10156331382660048174 (PySem.W.Fast.tw11892475500146522536 PySem.W.Fast.tw14364793385576792824) (PySem.Challenge.rw_leadnames_k47_read_written_looked).prog w) 11 (some (.ref 6)) 15878 ⟨L2.fH w.params,11,{},Array.mk [],boot_drawn,boot_toks,os⟩ (topStub (PySem.Challenge.rw_leadnames_k47_read_written_looked).prog))).map (fun s=>Hook.obs eZ.1 s.abs)=some (Hook.val eZ.1 w) :=
 L2.ZM (K:=eZ.heap_1) (e:=fun _=>by kernel_rfl) (L2.tV 348 (L2.tV 174 (ya w os) (yb w os)) (L2.tV 174 (yc w os) (yd w os))) (L2.f7 (L2.f7 (L2.f7 (L2.f7 (L2.f7 (qL w os))))))
end L2.bN
local macro_rules | `(tactic| o_law)=>`(tactic| refine PySem.W.holds_law L2.bN.MN fun MN=>?_)
local macro_rules | `(tactic| k_head)=>`(tactic| (
 refine holds_open (q:=L2.bN.QV) (loose:=[PySem.Str.ofString "walk",PySem.Str.ofString "make_folder",PySem.Str.ofString "make_file"]) (Xt:=fun s=>xlAt L2.bN.QV [] s && recOk (RowW.records (OpenRow.toRowW (PySem.Challenge.rw_leadnames_k47_read_written_looked).row)) s) (XP:=XL L2.bN.QV []) (Yf:=Hook.obs L2.bN.eZ.1) (Ya:=Hook.val L2.bN.eZ.1) (YP:=Hook.says L2.bN.eZ.1) (N:=15878) ?hl (Hook.of L2.bN.eZ.1) (Hook.keeps L2.bN.eZ.1) (fun s e=>xl_of s (Bool.and_eq_true_iff.mp e).1) XL.keeps (by rfl) (by rfl) (by rfl) (fun s e=>recFacts_of (Bool.and_eq_true_iff.mp e).2) (by rfl) (by first | assumption | decide +kernel) (by decide +kernel) ⟨rfl,rfl,rfl,rfl,rfl,by decide +kernel⟩ ?hw ?hc
 case hl =>
  refine L2.LeftO.Vj PySem.W.Fast.te6613529449190102663 PySem.W.Fast.te10156331382660048174 PySem.W.Fast.te11892475500146522536 PySem.W.Fast.te14364793385576792824 L2.bN.lY L2.bN.cm L2.bN.jT (fun w os=>?_);exact L2.Rm (L2.uR (L2.bN.qL w os)) (L2.bN.R7 w os) (L2.uR (L2.f7 (L2.bN.qL w os))) (L2.bN.q3 w os) (L2.bN.q4 w os) (L2.uR (L2.f7 (L2.f7 (L2.bN.qL w os)))) (L2.bN.q6 w os) (L2.uR (L2.f7 (L2.f7 (L2.f7 (L2.bN.qL w os))))) (L2.bN.PN w os) (L2.uR (L2.f7 (L2.f7 (L2.f7 (L2.f7 (L2.bN.qL w os)))))) (L2.bN.rp w os)))
set_option maxHeartbeats 0 in
open_top L2.bN.hd0 for PySem.Challenge.rw_leadnames_k47_read_written_looked
end

namespace L2
open PySem PySem.Spec PyProof.Rows
def jp:=@wpAny_bind
def kt:=@Heap.get?_push_of_some
def li:=@List.mem_cons
def lm:=@List.getElem?_eq_some_iff
def lv:=@List.not_mem_nil
def mo:=@List.getElem?_eq_getElem
def nn:=@List.length_map
def pc:=@decide_eq_false
def pi:=@Ne.symm
def pp:=@wpAny_pure
def ss:=@Nat.le_refl
def sw:=@Heap.lt_size
def sB:=@List.size_toArray
def sK:=@List.length_append
def tz:=@Heap.get?_push_size
def ul:=@Nat.lt_of_lt_of_le
def ut:=@Bool.false_ne_true
def u8:=@decide_eq_true
def wf:=@Nat.le_trans
def wn:=@or_false
def ww:=@Nat.ne_of_lt
def wE:=@List.mem_append_right
def wP:=@Nat.zero_le
def wS:=@if_neg
def wT:=@if_pos
def xz:=@List.map_cons
def xL:=@List.getElem?_map
def zn:=@Bool.and_eq_true
def At:=@List.all_eq_true
def AC:=@List.mem_map
def AT:=@List.mem_singleton
def Ch:=@beq_eq_false_iff_ne
def Cl:=@List.nodup_cons
def Da:=@PySem.mem_of_lookup
def Db:=@List.mem_cons_of_mem
def Do:=@List.getElem?_append_right
def Ev:=@List.length_cons
def EQ:=@Option.some.inj
def Fa:=@Bool.false_eq_true
def Fk:=@List.getElem?_append_left
def Fr:=@List.getElem?_set_self
def FB:=@List.getElem?_set_ne
def FM:=@wpAny_holding
def FS:=@PySem.F.slot_list_append
def Gc:=@PySem.F.type_list_append
def Go:=@List.nodup_append
def GE:=@wpAny_Call_Name_kw
def GM:=@PySem.W.looks_findIn
def GT:=@Heap.get?_update_other
def Id:=@Nat.lt_irrefl
def Ix:=@PySem.W.kia_one
def IN:=@List.map_append
def IO:=@wpAny_mono
def IR:=@List.all_cons
def KB:=@List.mem_append
def KK:=@List.mem_of_getElem?
def KM:=@Nat.lt_succ_self
def LE:=@Array.length_toList
def LT:=@wpAny_truthy_bool
def No:=@Array.getElem?_toList
def NE:=@congrArg
def On:=@List.map_nil
def Op:=@Heap.get?_update_self
def Os:=@PySem.W.callWith_K
def Pi:=@List.mem_append_left
def Ps:=@List.flatMap_cons
def PP:=@Int.eq_ofNat_of_zero_le
def P3:=@call_meets
def Re:=@if_false
def Rs:=@List.replicate_succ
def Sc:=@List.getElem_of_mem
def SC:=@PyProof.Rows.callWith_type1
def ST:=@List.take_of_length_le
def SZ:=@List.map_map
def Tk:=@beq_iff_eq
def Tm:=@Heap.size_push
def Ty:=@Calls.spliced_cons
def TD:=@wpAny_call
def TW:=@not_or
def T0:=@List.pairwise_iff_getElem
def Uf:=@wpAny_passesOwn
def UF:=@Bool.eq_iff_iff
def UV:=@List.find?_cons
def Wp:=@PassesOwn.never
def WF:=@Heap.get?_none_of_le
def WP:=@Calls.spliced_nil
def W1:=@codeAny_call_builtin
def XV:=@List.any_cons
def ZB:=@List.filterMap_cons
def _a:=@PySem.W.looks_mroIn
def _b:=@wpAny_loadPart
def _c:=@List.length_take
def _d:=@PySem.W.Looks.ld
def _e:=@PySem.F.attr_ValueError
def _f:=@List.length_eq_zero_iff
def _g:=@PySem.boot_len
def _h:=@List.getElem_map
def _i:=@wpAny_typeNameOfWhole_keyiter
def _j:=@List.mem_cons_self
def _k:=@codeAny_mono
def _l:=@tupleKind_room_in1
def _m:=@Calls.callWith_builtin
def _n:=@Nat.lt_of_le_of_lt
def _o:=@List.append_nil
def _p:=@F.slot_dict_keyiterator_next
def _q:=@decide_eq_true_eq
def _r:=@wpAny_newObj_type
def _s:=@sizeLine_eq
def _t:=@typeIs_str
def _u:=@Calls.evalArgs_plain
def _v:=@List.getD_eq_getElem?_getD
def _w:=@PySem.F.excBase_ValueError
def _x:=@wpAny_call_entry
def _y:=@F.plain_min_loop
def _z:=@Calls.call_function_entry
def _A:=@List.getElem?_zip_eq_some
def _B:=@Bool.not_true
def _C:=@wpAny_execs_nil
def _D:=@List.length_set
def _E:=@List.length_nil
def _F:=@Int.emod_nonneg
def _G:=@List.mem_filterMap
def _H:=@Int.emod_lt_of_pos
def _I:=@PySem.F.slot_list_index
def _J:=@PySem.W.cellsFrom_some
def _K:=@List.flatten_cons
def _L:=@Option.map_eq_some_iff
def _M:=@List.nodup_nil
def _N:=@Nat.lt_succ_of_lt
def _O:=@not_false_eq_true
def _P:=@PySem.W.methodCall_KW
def _Q:=@List.length_replicate
def _R:=@PySem.F.slot_dict_get
def _S:=@List.length_filter_le
def _T:=@List.getElem?_eq_none
def _U:=@List.mem_iff_getElem?
def _V:=@PySem.F.slot_str_join
def _W:=@PySem.F.type_str_join
def _X:=@List.eq_nil_or_concat
def _Y:=@List.concat_eq_append
def _Z:=@List.getElem_mem
def _0:=@Nat.succ_le_succ
def _1:=@List.mem_flatMap
def _2:=@wpAny_standAt
def _3:=@Nat.le_succ
def _4:=@List.not_lt
def _5:=@Array.toArray_toList
def _6:=@Around.under_plainId
def _7:=@List.getElem?_of_mem
def _8:=@List.of_mem_zip
def _9:=@codeAny_builtin
def Ja0:=@wpAny_ite_split
def Ja1:=@PySem.W.hideAll_get
def Ja2:=@PySem.W.plainGet_of
def Ja3:=@ne_true_of_eq_false
def Ja4:=@PySem.W.kdu_collect
def Ja5:=@List.length_reverse
def Ja6:=@Nat.le_of_lt
def Ja7:=@Nat.ne_of_gt
def Ja8:=@Nat.sub_self
def Ja9:=@PySem.W.of_hideAll
def Jaa:=@List.mem_range
def Jab:=@Bool.false_and
def Jac:=@F.args_str_split_2
def Jad:=@Obj.data_mapFields
def Jae:=@Code.quiet_builtin
def Jaf:=@wpAny_seqItems
def Jag:=@Bool.or_false
def Jah:=@wpAny_attempt
def Jai:=@wpAny_newList
abbrev Key:=Sum Int Str
def oy:Key->Value->Bool
 | .inl k,v=>Value.isInt k v
 | .inr x,v=>Value.isStrOf x v
def aab (w:World):Key->Int
 | .inl k=>hashInt k
 | .inr x=>hashStr w x
def kZ:∀ {k:Key} {v:Value},oy k v=true->(∃ i t,k=Sum.inl i/\v=Value.int i t)\/(∃ x t,k=Sum.inr x/\v=Value.str x t)
 | .inl i,v,h=>by
  obtain ⟨t,e⟩:=Value.isInt_shape (k:=i) (v:=v) h;exact .inl ⟨i,t,rfl,e⟩
 | .inr x,v,h=>by
  obtain ⟨t,e⟩:=Value.isStrOf_shape (x:=x) (v:=v) h;exact .inr ⟨x,t,rfl,e⟩
def abN (i:Int) (t:Tok):oy (.inl i) (.int i t)=true:=by simp [oy,Value.isInt]
def aaT (x:Str) (t:Tok):oy (.inr x) (.str x t)=true:=by simp [oy,Value.isStrOf]
def RT (a b:Int):decide ((Sum.inl a:Key)=Sum.inl b)=(a == b):=by
 by_cases e:a=b
 ·subst e; simp
 ·have h:¬ (Sum.inl a:Key)=Sum.inl b:=fun q=>e (Sum.inl.inj q);rw [pc h];exact (Ch.mpr e).symm
def U1 (a b:Str):decide ((Sum.inr a:Key)=Sum.inr b)=decide (a=b):=by
 by_cases e:a=b
 ·subst e; simp
 ·have h:¬ (Sum.inr a:Key)=Sum.inr b:=fun q=>e (Sum.inr.inj q);rw [pc h,pc e]
def Sn (a:Int) (b:Str):decide ((Sum.inl a:Key)=Sum.inr b)=false:=pc (fun q=>nomatch q)
def SW (a:Str) (b:Int):decide ((Sum.inr a:Key)=Sum.inl b)=false:=pc (fun q=>nomatch q)
def eC (prog:Program) (w:World):PySem.KeyKind prog w Key where
 is:=oy
 hash:=aab w
 inj:=fun v a b ha hb=>by
  rcases kZ ha with ⟨i,t,rfl,rfl⟩ | ⟨x,t,rfl,rfl⟩
  ·rcases kZ hb with ⟨j,u,rfl,e⟩ | ⟨y,u,rfl,e⟩
   ·injection e with e1 _; rw [e1]
   ·exact nomatch e
  ·rcases kZ hb with ⟨j,u,rfl,e⟩ | ⟨y,u,rfl,e⟩
   ·exact nomatch e
   ·injection e with e1 _; rw [e1]
 byValue:=fun k v h=>by
  rcases kZ h with ⟨i,t,rfl,rfl⟩ | ⟨x,t,rfl,rfl⟩ <;> rfl
 pyHash:=fun hv h=>by
  rcases kZ hv with ⟨i,t,rfl,rfl⟩ | ⟨x,t,rfl,rfl⟩
  ·exact wpAny_pyHash_int h
  ·exact wpAny_pyHash_str h
 eqBool:=fun hu hv h=>by
  rcases kZ hu with ⟨i,t,rfl,rfl⟩ | ⟨x,t,rfl,rfl⟩
  ·rcases kZ hv with ⟨j,u,rfl,rfl⟩ | ⟨y,u,rfl,rfl⟩
   ·rw [RT] at h; exact wpAny_eqBool_int h
   ·rw [Sn] at h; exact SeqAt.EqAt.int_str i t y u _ _ _ _ h
  ·rcases kZ hv with ⟨j,u,rfl,rfl⟩ | ⟨y,u,rfl,rfl⟩
   ·rw [SW] at h; exact SeqAt.EqAt.str_int x t j u _ _ _ _ h
   ·rw [U1] at h; exact wpAny_eqBool_str h
 «strs»:=fun k x t v h=>by
  rcases kZ h with ⟨i,u,rfl,e⟩ | ⟨y,u,rfl,e⟩
  ·exact nomatch e
  ·injection e with e1 _;subst e1;cases v <;> rfl
def Rv (prog:Program) (w:World) (i:Int) (t:Tok):(eC prog w).is (.inl i) (.int i t)=true:=abN i t
def UK (prog:Program) (w:World) (x:Str) (t:Tok):(eC prog w).is (.inr x) (.str x t)=true:=aaT x t
inductive V where
 | ay | bl (b:Bool) | int (i:Int) | str (x:Str) | byt (b:Array UInt8) | n9 (b:UInt64) | ref (a:Addr) | ty (n:String)
 deriving DecidableEq
def RelV:V->Value->Prop
 | .ay,u=>u=Value.none
 | .bl b,u=>u=Value.bool b
 | .int i,u=>∃ t,u=Value.int i t
 | .str x,u=>∃ t,u=Value.str x t
 | .byt b,u=>∃ t,u=Value.bytes b t
 | .n9 b,u=>∃ t,u=Value.float b t
 | .ref a,u=>u=Value.ref a
 | .ty n,u=>u=Value.type n
abbrev Vals:List V->List Value->Prop:=Paired RelV
def Vals.length {xs:List V} {us:List Value} (r:Vals xs us):xs.length=us.length:=Paired.length r
def Vals.get:∀ {xs:List V} {us:List Value} {i:Nat} {x:V},Vals xs us->xs[i]?=some x->∃ u,us[i]?=some u/\RelV x u
 | _,_,_,_,.nil,e=>by simp at e
 | _,_,0,_,.cons r _,e=>by simp at e; subst e; exact ⟨_,rfl,r⟩
 | _,_,i+1,x,.cons _ t,e=>by
  obtain ⟨u,h1,h2⟩:=Vals.get (i:=i) (x:=x) t (by simpa using e);exact ⟨u,by simpa using h1,h2⟩
def Vals.set {x:V} {u:Value} (r:RelV x u):∀ {xs:List V} {us:List Value} (i:Nat),Vals xs us->Vals (xs.set i x) (us.set i u)
 | _,_,_,.nil=>.nil
 | _,_,0,.cons _ t=>.cons r t
 | _,_,i+1,.cons q t=>.cons q (Vals.set r i t)
def Vals.append:∀ {xs ys:List V} {us ws:List Value},Vals xs us->Vals ys ws->Vals (xs++ys) (us++ws)
 | _,_,_,_,.nil,s=>s
 | _,_,_,_,.cons r t,s=>.cons r (Vals.append t s)
def Vals.take:∀ {xs:List V} {us:List Value} (n:Nat),Vals xs us->Vals (xs.take n) (us.take n)
 | _,_,0,_=>.nil
 | _,_,_+1,.nil=>.nil
 | _,_,n+1,.cons r t=>.cons r (Vals.take n t)
def Vals.drop:∀ {xs:List V} {us:List Value} (n:Nat),Vals xs us->Vals (xs.drop n) (us.drop n)
 | _,_,0,r=>r
 | _,_,_+1,.nil=>.nil
 | _,_,n+1,.cons _ t=>Vals.drop n t
def eG:Option V->Option Value->Prop
 | some v,some u=>RelV v u
 | none,none=>True
 | _,_=>False
def KV {κ:Type}:List (κ×V)->List (κ×Value)->Prop:=Paired fun (p:κ×V) (q:κ×Value)=>p.1=q.1/\RelV p.2 q.2
def kV:Key->V
 | .inl i=>.int i
 | .inr x=>.str x
inductive HO where
 /-- a list -/
 | lst (xs:List V)
 /-- a tuple (never changes) -/
 | tup (xs:List V)
 /-- a dict whose keys are ints and texts; one whose keys are tuples of ints and texts (j6 empty one is both) -/
 | dK (kvs:List (Key×V)) | dT (kvs:List (List Key×V))
 /-- a set of ints: aj members,aj size -/
 | set (S:Int->Bool) (n:Nat)
 /-- an instance of j6 class at C,aj dict at dx,aj attributes -/
 | ins (C dx:Addr) (fs:List (Str×V))
 /-- j6 dict of j6 instance at x -/
 | own (x:Addr)
 /-- j6 dict of an exception -/
 | xd (fs:List (Str×V))
 /-- a bound method,f of x -/
 | met (f x:Addr)
 /-- a range object lo,lo+1,.. below hi -/
 | vV (lo hi:Int)
 /-- a thing that is known to j6 object (j6 script; a dict while a loop walks it): read,never written while it is so -/
 | eA (o:Obj) (u:HO)
 /-- a code object's table -/
 | mD (ps:Array Value)
 /-- any other thing,by what is true of aj one object (a def of one's own: SetO a S n:=HO.ext fun h=>..) -/
 | ext (φ:Heap->Prop)
abbrev Hp:=Addr->Option HO
def upd (H:Hp) (a:Addr) (o:HO):Hp:=fun b=>if b=a then some o else H b
def ax {H:Hp} {a:Addr} {o:HO}:upd H a o a=some o:=by unfold upd; rw [wT rfl]
def ah {H:Hp} {a b:Addr} {o:HO} (h:b≠a):upd H a o b=H b:=by unfold upd; rw [wS h]
def mr {H:Hp} {a:Addr} {o u:HO}:upd (upd H a o) a u=upd H a u:=by
 funext b; unfold upd; split <;> rfl
def XS {H:Hp} {a b:Addr} {o u:HO} (h:H a=some o) (h':H b=some u) (d:o≠u):a≠b:=by
 intro e; subst e; rw [h] at h'; exact d (EQ h')
def fW {H:Hp} {a b:Addr} {o:HO} (h:H a=some o) (h':H b=none):a≠b:=by
 intro e; subst e; rw [h] at h'; cases h'
def C6 (h:Heap) (a:Addr) (items:Array Value):Prop:=∃ o,h.get? a=some o/\o.cls=.type "tuple" /\ ∃ n,o.data=.seq items n/\o.dict=none
def C6.t {h:Heap} {a:Addr} {items:Array Value} (x:C6 h a items):IsTup h a items:=let ⟨o,e,c,n,d,_⟩:=x; ⟨o,e,c,n,d⟩
section
variable (P:Program) (w:World)
def bM (H:Hp) (h:Heap) (a:Addr):HO->Prop
 | .lst xs=>xs.length<=sizeLine/\∃ (aj:List Value) (n:Nat),Vals xs aj/\h.get? a=some { cls:=.type "list",data:=.seq aj.toArray n }
 | .tup xs=>xs.length<=sizeLine/\∃ aj:List Value,Vals xs aj/\C6 h a aj.toArray
 | .dK kvs=>kvs.length<=sizeLine/\(a == sysModules)=false/\∃ vs,KV kvs vs/\h.DictOf (eC P w) a vs
 | .dT kvs=>kvs.length<=sizeLine/\(a == sysModules)=false/\∃ xs:List (List Key×Addr×Value),
   Paired (fun (p:List Key×V) (q:List Key×Addr×Value)=>p.1=q.1/\H q.2.1=some (.tup (p.1.map kV))/\RelV p.2 q.2.2) kvs xs /\
   ∃ o es ep,h.get? a=some o/\o.ExactDict/\o.data=.dict es ep/\es.toList=xs.map (entryOfKey (tupleKind (eC P w)))/\(xs.map (·.1)).Nodup
 | .set S n=>h.SetOf (intKind P w) a S n
 | .ins C dx fs=>H dx=some (.own a)/\fs.length<=1000/\dx≠a/\h.get? a=some (PySem.W.instObj C dx) /\
   ∃ mA,h.Ns1 dx mA/\(∀ f,eG (fs.lookup f) (mA f))/\PySem.Within mA (fs.map (·.1))
 | .own _=>∃ o,h.get? a=some o
 | .xd fs=>∃ mA,h.Ns1 a mA/\∀ f,eG (fs.lookup f) (mA f)
 | .vV lo hi=>∃ t u v,h.get? a=some { cls:=.type "range",data:=.fields #[.int lo t,.int hi u,.int 1 v] }
 | .eA o u=>h.get? a=some o/\bM H h a u
 | .mD ps=>h.get? a=some { cls:=.none,data:=.fields ps }
 | .met f x=>h.get? a=some (PySem.W.methodObj (.ref f) (.ref x))
 | .ext φ=>φ h/\(∃ o,h.get? a=some o)/\∀ h1 h2:Heap,φ h1->(∀ o,h1.get? a=some o->h2.get? a=some o)->φ h2
def ck (H:Hp) (h:Heap):Prop:=∀ a o,H a=some o->bM P w H h a o
end
section
variable {P:Program} {w:World} {H H':Hp} {h h':Heap} {a:Addr} {o:HO}
def bM.lt (x:bM P w H h a o):a < h.objs.size:=by
 cases o with
 | lst xs=>obtain ⟨_,_,_,_,e⟩:=x; exact sw e
 | tup xs=>obtain ⟨_,_,_,p⟩:=x; exact p.t.lt
 | dK kvs=>obtain ⟨_,_,_,_,o,_,_,e,_⟩:=x; exact sw e
 | dT kvs=>obtain ⟨_,_,_,_,o,_,_,e,_⟩:=x; exact sw e
 | set S n=>obtain ⟨o,_,_,_,e,_⟩:=x; exact sw e
 | ins C dx fs=>obtain ⟨_,_,_,e,_⟩:=x; exact sw e
 | own y=>obtain ⟨_,e⟩:=x; exact sw e
 | xd fs=>obtain ⟨_,⟨_,_,_,e,_⟩,_⟩:=x; exact sw e
 | vV lo hi=>obtain ⟨_,_,_,e⟩:=x; exact sw e
 | eA ob u=>obtain ⟨e,_⟩:=x; exact sw e
 | mD ps=>exact sw (show h.get? a=some _ from x)
 | met f y=>exact sw (show h.get? a=some _ from x)
 | ext φ=>obtain ⟨_,⟨_,e⟩,_⟩:=x; exact sw e
def Paired.El {α β:Type} {F G:α->β->Prop}:∀ {l₁:List α} {l₂:List β},Paired F l₁ l₂->(∀ a b,F a b->G a b)->Paired G l₁ l₂
 | _,_,.nil,_=>.nil
 | _,_,.cons r t,f=>.cons (f _ _ r) (Paired.El t f)
def bM.gi (x:bM P w H h a o) (k:∀ b u,(b=a\/H b=some (.own a))->h.get? b=some u->h'.get? b=some u)
  (ho:∀ b,H b=some (.own a)->H' b=some (.own a)) (ht:∀ b xs,H b=some (.tup xs)->H' b=some (.tup xs)):bM P w H' h' a o:=by
 induction o with
 | lst xs=>obtain ⟨z,aj,n,r,e⟩:=x; exact ⟨z,aj,n,r,k _ _ (.inl rfl) e⟩
 | tup xs=>obtain ⟨z,aj,r,ob,e,c⟩:=x; exact ⟨z,aj,r,ob,k _ _ (.inl rfl) e,c⟩
 | dK kvs=>obtain ⟨z,y,vs,r,ob,es,ep,e,c⟩:=x; exact ⟨z,y,vs,r,ob,es,ep,k _ _ (.inl rfl) e,c⟩
 | dT kvs =>
  obtain ⟨z,y,xs,r,ob,es,ep,e,c⟩:=x;exact ⟨z,y,xs,Paired.El r fun p q z=>⟨z.1,ht _ _ z.2.1,z.2.2⟩,ob,es,ep,k _ _ (.inl rfl) e,c⟩
 | set S n=>obtain ⟨ob,es,ep,t,e,c⟩:=x; exact ⟨ob,es,ep,t,k _ _ (.inl rfl) e,c⟩
 | ins C dx fs =>
  obtain ⟨d,z,ne,e,mA,⟨od,es,ep,e2,c⟩,r⟩:=x;exact ⟨ho _ d,z,ne,k _ _ (.inl rfl) e,mA,⟨od,es,ep,k _ _ (.inr d) e2,c⟩,r⟩
 | own y=>obtain ⟨ob,e⟩:=x; exact ⟨ob,k _ _ (.inl rfl) e⟩
 | xd fs=>obtain ⟨mA,⟨od,es,ep,e,c⟩,r⟩:=x; exact ⟨mA,⟨od,es,ep,k _ _ (.inl rfl) e,c⟩,r⟩
 | vV lo hi=>obtain ⟨t,u,v,e⟩:=x; exact ⟨t,u,v,k _ _ (.inl rfl) e⟩
 | eA ob u ih=>obtain ⟨e,q⟩:=x; exact ⟨k _ _ (.inl rfl) e,ih q⟩
 | mD ps =>
  have e:h.get? a=some { cls:=.none,data:=.fields ps }:=x;show h'.get? a=some { cls:=.none,data:=.fields ps };exact k a _ (.inl rfl) e
 | met f y =>
  have e:h.get? a=some (PySem.W.methodObj (.ref f) (.ref y)):=x;show h'.get? a=some (PySem.W.methodObj (.ref f) (.ref y));exact k a _ (.inl rfl) e
 | ext φ=>obtain ⟨p,⟨o,e⟩,st⟩:=x; exact ⟨st _ _ p fun o q=>k _ _ (.inl rfl) q,⟨o,k _ _ (.inl rfl) e⟩,st⟩
def ck.lt (x:ck P w H h) (e:H a=some o):a < h.objs.size:=(x a o e).lt
def ck.fresh (x:ck P w H h) (e:h.objs.size<=a):H a=none:=by
 cases q:H a with
 | none=>rfl
 | some u=>exact absurd (ul (x.lt q) e) (Id _)
def ck.kept (x:ck P w H h) (k:∀ b u,h.get? b=some u->h'.get? b=some u):ck P w H h':=fun a o e =>
 (x a o e).gi (fun b u _ q=>k b u q) (fun _ q=>q) fun _ _ q=>q
def ck.laid (x:ck P w H h) (k:∀ b u,h.get? b=some u->h'.get? b=some u) (hp:h.objs.size<=a) (new:bM P w (upd H a o) h' a o):ck P w (upd H a o) h':=fun b u e=>by
 have hn:=x.fresh hp;by_cases hb:b=a
 ·subst hb; rw [ax] at e; cases e; exact new
 ·rw [ah hb] at e;exact (x b u e).gi (fun c v _ q=>k c v q) (fun c q=>by rw [ah (fW q hn)]; exact q) fun c xs q=>by rw [ah (fW q hn)]; exact q
end
def Rd (H:Hp) (a:Addr) (u:HO):Prop:=H a=some u\/∃ o,H a=some (.eA o u)
def Rd.ok {P:Program} {w:World} {H:Hp} {h:Heap} {a:Addr} {u:HO} (r:Rd H a u) (x:ck P w H h):bM P w H h a u:=by
 rcases r with r | ⟨o,r⟩
 ·exact x a u r
 ·obtain ⟨_,q⟩:=x a _ r;exact q
def ua:Option HO->Prop
 | some (.lst _)=>True
 | some (.dK _)=>True
 | some (.dT _)=>True
 | some (.set _ _)=>True
 | some (.ins _ _ _)=>True
 | some (.ext _)=>True
 | _=>False
section
variable {P:Program} {w:World} {H:Hp} {h h':Heap} {x e:Addr} {o':HO}
def ck.write (ok:ck P w H h) (mu:ua (H x)) (he:e=x\/H e=some (.own x)) (k:∀ b u,b≠e->h.get? b=some u->h'.get? b=some u) (rC:∃ u,h'.get? e=some u)
  (new:bM P w (upd H x o') h' x o'):ck P w (upd H x o') h':=fun b u q=>by
 have Nq:∀ c y,H c=some (.own y)->c≠x:=fun c y r z=>by subst z; rw [r] at mu; exact mu
 have ntup:∀ c xs,H c=some (.tup xs)->c≠x:=fun c xs r z=>by subst z; rw [r] at mu; exact mu
 by_cases hb:b=x
 ·subst hb; rw [ax] at q; cases q; exact new
 ·rw [ah hb] at q;by_cases pf:b=e
  ·have q':H b=some (.own x):=by
    rcases he with z | z
    ·exact absurd (pf.trans z) hb
    ·rw [pf]; exact z
   rw [q] at q'; cases q';obtain ⟨v,hv⟩:=rC;exact ⟨v,by rw [pf]; exact hv⟩
  ·refine (ok b u q).gi (fun c v hc r=>k c v ?_ r) (fun c r=>by rw [ah (Nq c b r)]; exact r) fun c xs r=>by rw [ah (ntup c xs r)]; exact r
   rcases hc with rfl | hc
   ·exact pf
   ·rintro rfl;rcases he with z | z
    ·exact Nq c b hc z
    ·rw [hc] at z; cases z; exact hb rfl
end
structure Un (fs ex:List Addr) (H H':Hp) (h h':Heap):Prop where
 keep:∀ b o,h.get? b=some o->H b=none->b ∉ fs->b ∉ ex->h'.get? b=some o
 slot:∀ b o,h.get? b=some o->H b=none->b∈fs->b ∉ ex->∃ sl,h'.get? b=some { o with slots:=sl }
 free:∀ b o,h.get? b=some o->H b=none->b ∉ ex->H' b=none
 there:∀ b o,h.get? b=some o->b ∉ ex->∃ o',h'.get? b=some o'
 gf:∀ b xs,H b=some (.tup xs)->H' b=some (.tup xs)
 fG:∀ b o u,H b=some (.eA o u)->H' b=some (.eA o u)
 f6:∀ b ps,H b=some (.mD ps)->∃ more,H' b=some (.mD (ps++more))
section
variable {fs fs' ex ex':List Addr} {H H1 H2:Hp} {h h1 h2 h':Heap} {a x e:Addr} {o:HO}
def Un.any (u:Un fs ex H H1 h h1) {b:Addr} {ob:Obj} (q:h.get? b=some ob) (n:H b=none) (hx:b ∉ ex):∃ sl,h1.get? b=some { ob with slots:=sl }:=by
 by_cases hb:b∈fs
 ·exact u.slot b ob q n hb hx
 ·exact ⟨ob.slots,u.keep b ob q n hb hx⟩
def Un.kept (k:∀ b u,h.get? b=some u->h'.get? b=some u):Un fs ex H H h h' :=
 ⟨fun b ob q _ _ _=>k b ob q,fun b ob q _ _ _=>⟨ob.slots,k b ob q⟩,fun _ _ _ n _=>n,fun b ob q _=>⟨ob,k b ob q⟩,fun _ _ q=>q,fun _ _ _ q=>q,fun _ ps q=>⟨#[],by rw [q]; simp⟩⟩
def Un.refl:Un fs ex H H h h:=Un.kept fun _ _ q=>q
def Un.laid (k:∀ b u,h.get? b=some u->h'.get? b=some u) (hp:h.objs.size<=a) (hn:H a=none):Un fs ex H (upd H a o) h h' where
 keep:=fun b u q _ _ _=>k b u q
 slot:=fun b u q _ _ _=>⟨u.slots,k b u q⟩
 free:=fun b u q n _=>by rw [ah (ww (ul (sw q) hp))]; exact n
 there:=fun b u q _=>⟨u,k b u q⟩
 gf:=fun b xs q=>by rw [ah (fW q hn)]; exact q
 fG:=fun b u xs q=>by rw [ah (fW q hn)]; exact q
 f6:=fun b ps q=>⟨#[],by rw [ah (fW q hn),q]; simp⟩
def Un.write (mu:ua (H x)) (he:e=x\/H e=some (.own x)) (k:∀ b u,b≠e->h.get? b=some u->h'.get? b=some u) (rC:∃ u,h'.get? e=some u):Un fs ex H (upd H x o) h h':=by
 have hx:∀ b,H b=none->b≠x:=fun b n z=>by subst z; rw [n] at mu; exact mu
 have hb:∀ b,H b=none->b≠e:=fun b n z=>by
  subst z;rcases he with r | r
  ·exact hx b n r
  ·rw [n] at r; cases r
 have hm:∀ b u,H b=some u->¬ ua (some u)->b≠x:=fun b u q nm z=>by subst z; rw [q] at mu; exact nm mu
 refine ⟨fun b u q n _ _=>k b u (hb b n) q,fun b u q n _ _=>⟨u.slots,k b u (hb b n) q⟩,fun b u q n _=>by rw [ah (hx b n)]; exact n,fun b u q _=>?_,
  fun b xs q=>by rw [ah (hm b _ q fun z=>z)]; exact q,fun b u xs q=>by rw [ah (hm b _ q fun z=>z)]; exact q,fun b ps q=>⟨#[],by rw [ah (hm b _ q fun z=>z),q]; simp⟩⟩
 by_cases pf:b=e
 ·subst pf; exact rC
 ·exact ⟨u,k b u pf q⟩
end
def vU (h:Heap) (H:Hp):List Addr:=(List.range h.objs.size).filter fun a=>(H a).isSome
def iZ (h:Heap) (H:Hp):Heap:=PySem.W.hideAll h (vU h H)
def UT (h:Heap) (H:Hp):(iZ h H).objs.size=h.objs.size:=PySem.W.hideAll_size _ _
def aaF {h:Heap} {H:Hp} {b:Addr} {o:Obj} (e:h.get? b=some o) (n:H b=none):(iZ h H).get? b=some o :=
 Ja1 _ e fun hm=>by
  have q:(H b).isSome=true:=(List.mem_filter.mp hm).2;rw [n] at q; simp at q
def abu {h:Heap} {H:Hp} {b:Addr} {o:Obj} (e:(iZ h H).get? b=some o):h.get? b=some o/\H b=none:=by
 have e':h.get? b=some o:=Ja9 (vU h H) e;refine ⟨e',?_⟩;cases q:H b with
 | none=>rfl
 | some x =>
  have hm:b∈vU h H:=List.mem_filter.mpr ⟨Jaa.mpr (sw e'),by simp [q]⟩;have z:(iZ h H).get? b=none:=PySem.W.hideAll_none (vU h H) hm;rw [z] at e; cases e
def YZ (g h:Heap) (L:Addr):List (Addr×Obj):=(List.range h.objs.size).filterMap fun a=>if a=L\/(g.get? a).isSome=true then none else (h.get? a).map fun o=>(a,o)
def rest (g h:Heap) (L d:Addr):List (Addr×Obj):=(YZ g h L).filter fun p=>decide (p.1≠d)
structure Mod (K:PySem.W.Frag) (mg:Str->Option Value) (base:Heap):Prop where
 ia:K.In base
 glob:base.Ns mainGlobals mg
 blt:∃ mb,base.Ns builtinsNs mb/\∀ x:Str,x ≠ "__name__" -> mb x=bootBuiltins x
 nolimit:base.NoLimit
structure Cx where
 prog:Program
 w:World
 K:PySem.W.Frag
 mg:Str->Option Value
 base:Heap
 A:Around
 N:List Str
 s₀:Shared
 H₀:Hp
 env:Env
 outer:List Env
 stack:List Env
 ex:List Addr
 fn:Str->Bool
 calm:Bool
 pn:List (Addr×Obj)
 xe:Value->Shared->Prop
def bQ (l:List Env):List Addr:=l.filterMap (·.frame)
abbrev Cx.fs (X:Cx):List Addr:=bQ X.outer
def mj (sc:Scope) (x:Str):Prop:=sc.names.lookup x=some .local\/sc.names.lookup x=some .cell\/sc.names.lookup x=some .free
def Loc (sc:Scope) (x:Str):Prop:=sc.names.lookup x=some .local\/sc.names.lookup x=some .cell
def Look (env:Env) (h:Heap) (m:Str->Option Value) (x:Str) (u:Value):Prop :=
 (env.kindOf x=some .local/\m x=some u)\/((env.kindOf x=some .cell\/env.kindOf x=some .free)/\∃ c,env.cells.lookup x=some c/\h.IsCell c (some u))
structure Cx.Ok (X:Cx):Prop where
 mod:Mod X.K X.mg X.base
 kind:X.env.scope.kind=.function
 glob:X.env.globals=mainGlobals
 blt:X.env.builtins=builtinsNs
 above:X.s₀.heap.objs.size<=X.env.locals
 inj:∀ x y c,X.env.cells.lookup x=some c->X.env.cells.lookup y=some c->x=y
 has:∀ x,(X.env.kindOf x=some .cell\/X.env.kindOf x=some .free)->∃ c,X.env.cells.lookup x=some c
 ku:∀ x c,X.fn x=true->X.env.cells.lookup x=some c->X.s₀.heap.objs.size<=c
 hd:X.calm=true->X.A.handled=none
 frames:X.A.frames=some X.stack
 dA:X.stack=X.outer\/(X.stack=X.env::X.outer/\X.env.frame=some X.env.locals)
 uz:∀ b∈X.ex,b≠X.env.locals/\∀ x c,X.env.cells.lookup x=some c->c≠b
 bs:∀ b o,X.base.get? b=some o->X.s₀.heap.get? b=some o/\X.H₀ b=none
 gI:X.base.objs.size<=X.s₀.heap.objs.size
 lX:∀ b o,X.base.get? b=some o->b ∉ X.ex
 lZ:∀ b∈X.ex,b ∉ X.fs
 eY:X.s₀.heap.FunFrames X.base X.outer
 iV:∀ b∈X.fs,X.H₀ b=none
structure Inv (X:Cx) (pins:List (Addr×Obj)) (σ:List (Option V)) (H:Hp) (s:Shared):Prop where
 ok:X.Ok
 os:s.os=X.s₀.os
 bare:AllBare s.gens
 base:Un X.fs X.ex X.H₀ H X.s₀.heap s.heap
 loc:∃ m,s.heap.Ns X.env.locals m/\∀ (i:Nat) (x:Str) (v:V),X.N[i]?=some x->σ[i]?=some (some v)->mj X.env.scope x->∃ u,RelV v u/\Look X.env s.heap m x u
 cell:∀ x c,X.env.cells.lookup x=some c->∃ v,s.heap.IsCell c v
 free:H X.env.locals=none
 e9:∀ x c,X.env.cells.lookup x=some c->H c=none
 pin:∀ p∈X.pn++pins,s.heap.get? p.1=some p.2/\H p.1=none/\p.1≠X.env.locals/\p.1 ∉ X.fs/\∀ v,p.2.data≠.cell v
 aB:ck X.prog X.w H s.heap
 len:σ.length=X.N.length
section
variable {X:Cx} {pins:List (Addr×Obj)} {σ:List (Option V)} {H H':Hp} {s:Shared} {h':Heap}
def Cx.Ok.abl (ok:X.Ok) {b:Addr} {o:Obj} (e:X.base.get? b=some o):b ∉ X.fs:=fun hb=>by
 have:=(ok.eY.mem hb).1;rw [e] at this; cases this
def Inv.bs (I:Inv X pins σ H s):∀ b o,X.base.get? b=some o->s.heap.get? b=some o/\H b=none:=fun b o e =>
 ⟨I.base.keep b o (I.ok.bs b o e).1 (I.ok.bs b o e).2 (I.ok.abl e) (I.ok.lX b o e),I.base.free b o (I.ok.bs b o e).1 (I.ok.bs b o e).2 (I.ok.lX b o e)⟩
def Inv.bk (I:Inv X pins σ H s):∀ b o,X.base.get? b=some o->s.heap.get? b=some o:=fun b o e=>(I.bs b o e).1
def Inv.mod (I:Inv X pins σ H s):Mod X.K X.mg X.base:=I.ok.mod
def Inv.bV (I:Inv X pins σ H s):X.K.In s.heap:=I.ok.mod.ia.keeps I.bk
def Inv.lt (I:Inv X pins σ H s):X.env.locals < s.heap.objs.size:=let ⟨_,hn,_⟩:=I.loc; hn.lt
def Inv.sz (I:Inv X pins σ H s):X.s₀.heap.objs.size<=s.heap.objs.size:=wf I.ok.above (Ja6 I.lt)
def Inv.Hf (I:Inv X pins σ H s) {a:Addr} (h:s.heap.objs.size<=a):a ∉ X.fs:=fun hb=>by
 obtain ⟨_,o,ho,_⟩:=I.ok.eY.mem hb;exact absurd (ul (sw ho) (wf I.sz h)) (Id _)
def Inv.jN (I:Inv X pins σ H s):∀ x c,X.env.cells.lookup x=some c->c≠X.env.locals:=fun x c e z=>by
 obtain ⟨v,o,ho,hd⟩:=I.cell x c e;obtain ⟨m,⟨o',es,ep,ho',hd',_⟩,_⟩:=I.loc;rw [z,ho'] at ho; cases ho; rw [hd'] at hd; cases hd
def Inv.eY (I:Inv X pins σ H s):s.heap.FunFrames X.base X.outer:=by
 have all:∀ (l:List Env),(∀ b∈bQ l,b∈X.fs)->X.s₀.heap.FunFrames X.base l->s.heap.FunFrames X.base l:=by
  intro l
  induction l with
  | nil=>intro _ _; trivial
  | cons env r ih =>
   intro hs hl;obtain ⟨hk,⟨L,o,hf,hn,ho,hd⟩,hr⟩:=hl;have hL:L∈X.fs:=hs L (by unfold bQ; rw [ZB,hf]; exact _j);obtain ⟨sl,e⟩:=I.base.slot L o ho (I.ok.iV L hL) hL fun z=>I.ok.lZ L z hL;exact ⟨hk,⟨L,_,hf,hn,e,hd⟩,ih (fun b hb=>hs b (by unfold bQ; rw [ZB,hf]; exact Db _ hb)) hr⟩
 exact all X.outer (fun _ hb=>hb) I.ok.eY
def Inv.stack (I:Inv X pins σ H s):s.heap.FunFrames X.base X.stack:=by
 rcases I.ok.dA with e | ⟨e,hf⟩
 ·rw [e]; exact I.eY
 ·rw [e];obtain ⟨m,hn,_⟩:=I.loc;refine .cons (by rw [I.ok.kind]; decide) hf hn ?_ I.eY;exact WF (wf I.ok.gI I.ok.above)
def Inv.va (I:Inv X pins σ H s):∀ b∈bQ X.stack,b∈X.env.locals::X.fs:=fun b hb=>by
 rcases I.ok.dA with e | ⟨e,hf⟩
 ·rw [e] at hb; exact Db _ hb
 ·rw [e] at hb;unfold bQ at hb;rw [ZB,hf] at hb;exact hb
def Inv.wm (I:Inv X pins σ H s):∀ b∈bQ X.stack,H b=none:=fun b hb=>by
 rcases li.mp (I.va b hb) with e | hb
 ·rw [e]; exact I.free
 ·obtain ⟨_,o,ho,_⟩:=I.ok.eY.mem hb;exact I.base.free b o ho (I.ok.iV b hb) fun z=>I.ok.lZ b z hb
def Inv.step {g':Array GenState} {t':Nat} {d':Drawn} {ch:List Addr} (I:Inv X pins σ H s)
  (j5:∀ b∈ch,(b∈X.ex\/X.s₀.heap.objs.size<=b)/\b≠X.env.locals/\(∀ x c,X.env.cells.lookup x=some c->c≠b)/\∀ p∈X.pn++pins,p.1≠b)
  (keep:∀ b o,b≠X.env.locals->b ∉ X.fs->b ∉ ch->s.heap.get? b=some o->H b=none->h'.get? b=some o)
  (slot:∀ b o,b≠X.env.locals->b∈X.fs->b ∉ ch->s.heap.get? b=some o->H b=none->∃ sl,h'.get? b=some { o with slots:=sl }) (free:∀ b o,b ∉ ch->s.heap.get? b=some o->H b=none->H' b=none)
  (there:∀ b o,b ∉ ch->s.heap.get? b=some o->∃ o',h'.get? b=some o')
  (gf:∀ b xs,H b=some (.tup xs)->H' b=some (.tup xs)) (fG:∀ b o u,H b=some (.eA o u)->H' b=some (.eA o u)) (f6:∀ b ps,H b=some (.mD ps)->∃ more,H' b=some (.mD (ps++more)))
  (ns:∀ m,s.heap.Ns X.env.locals m->h'.Ns X.env.locals m) (aB:ck X.prog X.w H' h') (hg:AllBare g') :
  Inv X pins σ H' { s with heap:=h',gens:=g',drawn:=d',toks:=t' }:=by
 have vm:∀ b o,X.s₀.heap.get? b=some o->b≠X.env.locals:=fun b o e=>ww (ul (sw e) I.ok.above);have yG:∀ b o,X.s₀.heap.get? b=some o->b ∉ X.ex->b ∉ ch:=fun b o e hx hb=>by
  rcases (j5 b hb).1 with z | z
  ·exact hx z
  ·exact absurd (ul (sw e) z) (Id _)
 have cellK:∀ x c,X.env.cells.lookup x=some c->∀ v,s.heap.IsCell c v->h'.IsCell c v:=fun x c e v ⟨o,ho,hd⟩=>by
  have vE:c ∉ ch:=fun z=>(j5 c z).2.2.1 x c e rfl;by_cases hc:c∈X.fs
  ·obtain ⟨sl,q⟩:=slot c o (I.jN x c e) hc vE ho (I.e9 x c e);exact ⟨_,q,hd⟩
  ·exact ⟨o,keep c o (I.jN x c e) hc vE ho (I.e9 x c e),hd⟩
 refine ⟨I.ok,I.os,hg,⟨fun b o e n hb hx=>?_,fun b o e n hb hx=>?_,fun b o e n hx=>?_,fun b o e hx=>?_,fun b xs e=>gf b xs (I.base.gf b xs e),fun b o xs e=>fG b o xs (I.base.fG b o xs e),fun b ps e=>?_⟩,?_,fun x c e=>?_,?_,fun x c e=>?_,fun p hp=>?_,aB,I.len⟩
 ·exact keep b o (vm b o e) hb (yG b o e hx) (I.base.keep b o e n hb hx) (I.base.free b o e n hx)
 ·obtain ⟨sl,e1⟩:=I.base.slot b o e n hb hx;obtain ⟨sl',e2⟩:=slot b _ (vm b o e) hb (yG b o e hx) e1 (I.base.free b o e n hx);exact ⟨sl',e2⟩
 ·obtain ⟨o',e1⟩:=I.base.there b o e hx;exact free b o' (yG b o e hx) e1 (I.base.free b o e n hx)
 ·obtain ⟨o',e1⟩:=I.base.there b o e hx;exact there b o' (yG b o e hx) e1
 ·obtain ⟨m1,e1⟩:=I.base.f6 b ps e;obtain ⟨m2,e2⟩:=f6 b _ e1;exact ⟨m1++m2,by rw [e2,Array.append_assoc]⟩
 ·obtain ⟨m,hn,hl⟩:=I.loc;refine ⟨m,ns m hn,fun i x v e1 e2 e3=>?_⟩;obtain ⟨u,r,l⟩:=hl i x v e1 e2 e3;refine ⟨u,r,?_⟩;rcases l with l | ⟨k,c,e,z⟩
  ·exact .inl l
  ·exact .inr ⟨k,c,e,cellK x c e _ z⟩
 ·obtain ⟨v,z⟩:=I.cell x c e;exact ⟨v,cellK x c e v z⟩
 ·obtain ⟨m,⟨o,_,_,ho,_⟩,_⟩:=I.loc;exact free _ o (fun z=>(j5 _ z).2.1 rfl) ho I.free
 ·obtain ⟨v,o,ho,hd⟩:=I.cell x c e;exact free c o (fun z=>(j5 c z).2.2.1 x c e rfl) ho (I.e9 x c e)
 ·obtain ⟨e,n,ne,nf,d⟩:=I.pin p hp;have vE:p.1 ∉ ch:=fun z=>(j5 p.1 z).2.2.2 p hp rfl;exact ⟨keep p.1 p.2 ne nf vE e n,free p.1 p.2 vE e n,ne,nf,d⟩
def Inv.un {t':Nat} (I:Inv X pins σ H s) (u:Un X.fs [] H H' s.heap h') (aB:ck X.prog X.w H' h'):Inv X pins σ H' { s with heap:=h',toks:=t' }:=by
 obtain ⟨m,⟨o,es,ep,ho,r⟩,_⟩:=id I.loc;obtain ⟨sl,hL⟩:=u.any ho I.free (by simp);exact I.step (g':=s.gens) (d':=s.drawn) (ch:=[]) (fun _ z=>nomatch z) (fun b o _ hb _ e n=>u.keep b o e n hb (by simp)) (fun b o _ hb _ e n=>u.slot b o e n hb (by simp)) (fun b o _ e n=>u.free b o e n (by simp)) (fun b o _ e=>u.there b o e (by simp)) u.gf u.fG u.f6 (fun m' hm=>by
  obtain ⟨o',es',ep',ho',r'⟩:=hm;rw [ho] at ho'; cases ho';exact ⟨_,es',ep',hL,r'⟩) aB I.bare
def Inv.call {g':Array GenState} {t':Nat} {d':Drawn} {ch:List Addr} (I:Inv X pins σ H s) (u:Un (bQ X.stack) ch H H' s.heap h') (aB:ck X.prog X.w H' h') (hg:AllBare g')
  (j5:∀ b∈ch,(b∈X.ex\/X.s₀.heap.objs.size<=b)/\b≠X.env.locals/\(∀ x c,X.env.cells.lookup x=some c->c≠b)/\∀ p∈X.pn++pins,p.1≠b) :
  Inv X pins σ H' { s with heap:=h',gens:=g',drawn:=d',toks:=t' }:=by
 obtain ⟨m,⟨o,es,ep,ho,r⟩,_⟩:=id I.loc;obtain ⟨sl,hL⟩:=u.any ho I.free fun z=>(j5 _ z).2.1 rfl;exact I.step (ch:=ch) j5 (fun b o hL hb hc e n=>u.keep b o e n (fun z=>(li.mp (I.va b z)).elim hL hb) hc) (fun b o _ _ hc e n=>u.any e n hc) (fun b o hc e n=>u.free b o e n hc) (fun b o hc e=>u.there b o e hc) u.gf u.fG u.f6 (fun m' hm=>by
  obtain ⟨o',es',ep',ho',r'⟩:=hm;rw [ho] at ho'; cases ho';exact ⟨_,es',ep',hL,r'⟩) aB hg
def Inv.turned {t':Nat} {it:Addr} (I:Inv X pins σ H s) (k:∀ b o,b≠it->s.heap.get? b=some o->h'.get? b=some o) (hn:H it=none) (hL:it≠X.env.locals)
  (h1:it∈X.ex\/X.s₀.heap.objs.size<=it) (h2:∀ x c,X.env.cells.lookup x=some c->c≠it) (h3:∀ p∈X.pn++pins,p.1≠it):Inv X pins σ H { s with heap:=h',toks:=t' }:=by
 have O1:∀ b u,H b=some u->b≠it:=fun b u e z=>by rw [z,hn] at e; cases e
 refine I.step (g':=s.gens) (d':=s.drawn) (ch:=[it]) (fun b hb=>?_) (fun b o _ _ hc e _=>k b o (fun z=>hc (by simp [z])) e) (fun b o _ _ hc e _=>⟨o.slots,k b o (fun z=>hc (by simp [z])) e⟩) (fun _ _ _ _ n=>n)
  (fun b o hc e=>⟨o,k b o (fun z=>hc (by simp [z])) e⟩) (fun _ _ e=>e) (fun _ _ _ e=>e) (fun b ps e=>⟨#[],by rw [e]; simp⟩) (fun m hm=>?_) (fun b u e=>?_) I.bare
 ·have e:b=it:=by simpa using hb
  subst e;exact ⟨h1,hL,h2,h3⟩
 ·obtain ⟨o,es,ep,ho,r⟩:=hm;exact ⟨o,es,ep,k _ o (pi hL) ho,r⟩
 ·refine (I.aB b u e).gi (fun c v hc q=>k c v ?_ q) (fun _ q=>q) fun _ _ q=>q;rcases hc with z | z
  ·rw [z]; exact O1 b u e
  ·exact O1 c _ z
def Inv.tok (I:Inv X pins σ H s) (t:Nat):Inv X pins σ H { s with toks:=t }:=I.un (h':=s.heap) (t':=t) Un.refl I.aB
def Inv.kept {t':Nat} (I:Inv X pins σ H s) (k:∀ b u,s.heap.get? b=some u->h'.get? b=some u):Inv X pins σ H { s with heap:=h',toks:=t' }:=I.un (Un.kept k) (I.aB.kept k)
def Inv.laid {a:Addr} {o:HO} {t':Nat} (I:Inv X pins σ H s) (k:∀ b u,s.heap.get? b=some u->h'.get? b=some u) (hp:s.heap.objs.size<=a) (new:bM X.prog X.w (upd H a o) h' a o) :
  Inv X pins σ (upd H a o) { s with heap:=h',toks:=t' }:=I.un (Un.laid k hp (I.aB.fresh hp)) (I.aB.laid k hp new)
def Inv.write {x e:Addr} {o:HO} {t':Nat} (I:Inv X pins σ H s) (mu:ua (H x)) (he:e=x\/H e=some (.own x)) (k:∀ b u,b≠e->s.heap.get? b=some u->h'.get? b=some u) (rC:∃ u,h'.get? e=some u)
  (new:bM X.prog X.w (upd H x o) h' x o):Inv X pins σ (upd H x o) { s with heap:=h',toks:=t' }:=I.un (Un.write mu he k rC) (I.aB.write mu he k rC new)
def Inv.sO {pins':List (Addr×Obj)} (I:Inv X pins σ H s) (h:∀ p∈pins',s.heap.get? p.1=some p.2/\H p.1=none/\p.1≠X.env.locals/\p.1 ∉ X.fs/\∀ v,p.2.data≠.cell v):Inv X pins' σ H s :=
 ⟨I.ok,I.os,I.bare,I.base,I.loc,I.cell,I.free,I.e9,fun p hp=>(KB.mp hp).elim (fun z=>I.pin p (Pi _ z)) (h p),I.aB,I.len⟩
def zK {N:List Str} (hN:N.Nodup) {i j:Nat} {x:Str} (a:N[i]?=some x) (b:N[j]?=some x):i=j:=by
 obtain ⟨h1,e1⟩:=lm.mp a;obtain ⟨h2,e2⟩:=lm.mp b;exact (List.getElem_inj hN).mp (e1.trans e2.symm)
def LI {M:Model} {A:Around} {E:Value->Shared->Prop} {i:Nat} {x:Str} {v:V} {u:Value} {Q:Unit->Shared->Prop} (I:Inv X pins σ H s) (hN:X.N.Nodup) (hi:X.N[i]?=some x) (hx:Loc X.env.scope x) (r:RelV v u)
  (h:∀ s',Inv X pins (σ.set i (some v)) H s'->(∃ a,Heap.SameBut a s.heap s'.heap/\(a=X.env.locals\/X.env.cells.lookup x=some a))->Q () s') (hf:X.fn x=true\/X.env.scope.names.lookup x=some .local:=by first | exact .inl rfl | exact .inr rfl | assumption):wpAny M A (storeName X.env x u) Q E s:=by
 obtain ⟨m,hn,hl⟩:=id I.loc;have GI:(X.env.scope.kind == .class || (X.env.scope.kind == .module && X.env.locals != X.env.globals))=false:=by rw [I.ok.kind]; rfl
 have NT:i < σ.length:=by rw [I.len]; exact (lm.mp hi).1
 have jN:=I.jN;have tracked:∀ {a:Addr} {h':Heap},(∃ o,s.heap.get? a=some o/\H a=none)->Heap.SameBut a s.heap h'->ck X.prog X.w H h':=fun {a h'} ha hs b ob e=>by
  obtain ⟨_,_,ny⟩:=ha;refine (I.aB b ob e).gi (fun c w' hc q=>(hs.2 c ?_).trans q) (fun _ q=>q) fun _ _ q=>q;rintro rfl;rcases hc with rfl | hc
  ·rw [ny] at e; cases e
  ·rw [ny] at hc; cases hc
 rcases hx with hk | hk
 ·refine wpAny_storeName_local hk hn (fun h' hn' hs=>?_) GI;obtain ⟨oL,_,_,gP,_⟩:=id hn;refine h _ ⟨I.ok,I.os,I.bare,⟨fun b o e n hb hx=>?_,fun b o e n hb hx=>?_,I.base.free,fun b o e hx=>?_,I.base.gf,I.base.fG,I.base.f6⟩,⟨_,hn',fun j y v' e1 e2 e3=>?_⟩,fun y c e=>?_,I.free,I.e9,fun p hp=>?_,tracked ⟨oL,gP,I.free⟩ hs,by simpa using I.len⟩ ⟨_,hs,.inl rfl⟩
  ·exact (hs.2 b (ww (ul (sw e) I.ok.above))).trans (I.base.keep b o e n hb hx)
  ·obtain ⟨sl,e1⟩:=I.base.slot b o e n hb hx;exact ⟨sl,(hs.2 b (ww (ul (sw e) I.ok.above))).trans e1⟩
  ·obtain ⟨o',e1⟩:=I.base.there b o e hx;exact ⟨o',(hs.2 b (ww (ul (sw e) I.ok.above))).trans e1⟩
  ·by_cases hj:j=i
   ·subst hj;rw [hi] at e1; cases e1;rw [Fr NT] at e2;cases e2;exact ⟨u,r,.inl ⟨hk,by simp⟩⟩
   ·rw [FB (pi hj)] at e2;obtain ⟨u',r',q⟩:=hl j y v' e1 e2 e3;refine ⟨u',r',?_⟩;rcases q with ⟨k,e⟩ | ⟨k,c,e,z⟩
    ·refine .inl ⟨k,?_⟩;have:y≠x:=fun e=>hj (zK hN e1 (e ▸ hi));simp [this,e]
    ·exact .inr ⟨k,c,e,z.sameBut hs (jN y c e)⟩
  ·obtain ⟨w',z⟩:=I.cell y c e;exact ⟨w',z.sameBut hs (jN y c e)⟩
  ·obtain ⟨e,n,ne,nf,d⟩:=I.pin p hp;exact ⟨(hs.2 p.1 ne).trans e,n,ne,nf,d⟩
 ·have pH:X.fn x=true:=by
   rcases hf with z | z
   ·exact z
   ·rw [z] at hk; cases hk
  obtain ⟨c,hc⟩:=I.ok.has x (.inl hk);obtain ⟨w',z⟩:=I.cell x c hc;refine wpAny_storeName_cell I.ok.kind hk hc z (fun h' hc' hs=>?_);obtain ⟨oc,Ox,hocd⟩:=id z;refine h { s with heap:=h' } ⟨I.ok,I.os,I.bare,⟨fun b o e n hb hx=>?_,fun b o e n hb hx=>?_,I.base.free,fun b o e hx=>?_,I.base.gf,I.base.fG,I.base.f6⟩,⟨m,hn.sameBut hs (pi (jN x c hc)),fun j y v' e1 e2 e3=>?_⟩,fun y c' e=>?_,I.free,I.e9,fun p hp=>?_,tracked ⟨oc,Ox,I.e9 x c hc⟩ hs,by simpa using I.len⟩ ⟨c,hs,.inr hc⟩
  ·exact (hs.2 b (ww (ul (sw e) (I.ok.ku x c pH hc)))).trans (I.base.keep b o e n hb hx)
  ·obtain ⟨sl,e1⟩:=I.base.slot b o e n hb hx;exact ⟨sl,(hs.2 b (ww (ul (sw e) (I.ok.ku x c pH hc)))).trans e1⟩
  ·obtain ⟨o',e1⟩:=I.base.there b o e hx;exact ⟨o',(hs.2 b (ww (ul (sw e) (I.ok.ku x c pH hc)))).trans e1⟩
  ·by_cases hj:j=i
   ·subst hj;rw [hi] at e1; cases e1;rw [Fr NT] at e2;cases e2;exact ⟨u,r,.inr ⟨.inl hk,c,hc,hc'⟩⟩
   ·rw [FB (pi hj)] at e2;obtain ⟨u',r',q⟩:=hl j y v' e1 e2 e3;refine ⟨u',r',?_⟩;rcases q with q | ⟨k,c',e,z'⟩
    ·exact .inl q
    ·refine .inr ⟨k,c',e,z'.sameBut hs ?_⟩;rintro rfl;exact hj (zK hN e1 (I.ok.inj _ _ _ e hc ▸ hi))
  ·by_cases yP:c'=c
   ·subst yP; exact ⟨_,hc'⟩
   ·obtain ⟨w2,z2⟩:=I.cell y c' e;exact ⟨w2,z2.sameBut hs yP⟩
  ·obtain ⟨e,n,ne,nf,d⟩:=I.pin p hp;refine ⟨(hs.2 p.1 ?_).trans e,n,ne,nf,d⟩;intro q;rw [q,Ox] at e;have q':oc=p.2:=EQ e;exact d w' (by rw [<- q']; exact hocd)
def AX {M:Model} {A:Around} {E:Value->Shared->Prop} {i:Nat} {x:Str} {v:V} {u:Value} {Q:Unit->Shared->Prop} (I:Inv X pins σ H s) (hN:X.N.Nodup) (hi:X.N[i]?=some x) (hx:Loc X.env.scope x) (r:RelV v u)
  (h:∀ s',Inv X pins (σ.set i (some v)) H s'->Q () s') (hf:X.fn x=true\/X.env.scope.names.lookup x=some .local:=by first | exact .inl rfl | exact .inr rfl | assumption):wpAny M A (storeName X.env x u) Q E s :=
 LI I hN hi hx r (fun s' I' _=>h s' I') hf
def Inv.KU {s':Shared} {ch:List Addr} (I:Inv X pins σ H s) (ho:s'.os=s.os) (u:Un (bQ X.stack) ch H H' s.heap s'.heap) (aB:ck X.prog X.w H' s'.heap) (hg:AllBare s'.gens)
  (j5:∀ b∈ch,(b∈X.ex\/X.s₀.heap.objs.size<=b)/\b≠X.env.locals/\(∀ x c,X.env.cells.lookup x=some c->c≠b)/\∀ p∈X.pn++pins,p.1≠b):Inv X pins σ H' s':=by
 obtain ⟨h',g',d',t',o'⟩:=s';have e:o'=s.os:=ho;subst e;exact I.call (g':=g') (t':=t') (d':=d') u aB hg j5
end
abbrev XK:=Value->Option Addr->Hp->Prop
abbrev St:=List (Option V)
abbrev VK:=V->Hp->Prop
abbrev TE:=St->Hp->VK->Prop
abbrev TT:=St->Hp->(Bool->Hp->Prop)->Prop
abbrev TA:=St->Hp->(List V->Hp->Prop)->Prop
structure Ends where
 nx:St->Hp->Prop
 rt:VK
 bk:St->Hp->Prop:=fun _ _=>False
 ct:St->Hp->Prop:=fun _ _=>False
abbrev TS:=Ends->St->Hp->Prop
def EP (X:Cx) (pins:List (Addr×Obj)) (σ:St) (Q:VK) (u:Value) (s':Shared):Prop:=∃ v H',Inv X pins σ H' s'/\RelV v u/\Q v H'
def TP (X:Cx) (pins:List (Addr×Obj)) (σ:St) (Q:Bool->Hp->Prop) (b:Bool) (s':Shared):Prop:=∃ H',Inv X pins σ H' s'/\Q b H'
def AP (X:Cx) (pins:List (Addr×Obj)) (σ:St) (Q:List V->Hp->Prop) (us:List Value) (s':Shared):Prop:=∃ vs H',Inv X pins σ H' s'/\Vals vs us/\Q vs H'
def SP (X:Cx) (pins:List (Addr×Obj)) (D:Ends) (f:Flow) (s':Shared):Prop :=
 match f with
 | .next=>∃ σ' H',Inv X pins σ' H' s'/\D.nx σ' H'
 | .brk=>∃ σ' H',Inv X pins σ' H' s'/\D.bk σ' H'
 | .cont=>∃ σ' H',Inv X pins σ' H' s'/\D.ct σ' H'
 | .ret u=>∃ v σ' H',Inv X pins σ' H' s'/\RelV v u/\D.rt v H'
def PE (X:Cx) (e:Expr) (t:TE):Prop :=
 ∀ (pins:List (Addr×Obj)) (s:Shared) (σ:St) (H:Hp) (Q:VK),Inv X pins σ H s->t σ H Q->wpAny (model X.prog X.w) X.A (eval e X.env) (EP X pins σ Q) X.xe s
def PT (X:Cx) (e:Expr) (t:TT):Prop :=
 ∀ (pins:List (Addr×Obj)) (s:Shared) (σ:St) (H:Hp) (Q:Bool->Hp->Prop),Inv X pins σ H s->t σ H Q->wpAny (model X.prog X.w) X.A (isTrue e X.env (eval e X.env)) (TP X pins σ Q) X.xe s
def PW (X:Cx) (e:Expr) (t:TT):Prop :=
 ∀ (whole:Sem Value) (pins:List (Addr×Obj)) (s:Shared) (σ:St) (H:Hp) (Q:Bool->Hp->Prop),Inv X pins σ H s->t σ H Q->wpAny (model X.prog X.w) X.A (isTrue e X.env whole) (TP X pins σ Q) X.xe s
def PW.pt {X:Cx} {e:Expr} {t:TT} (h:PW X e t):PT X e t:=h _
def PA (X:Cx) (es:List Expr) (t:TA):Prop :=
 ∀ (pos:Pos) (pins:List (Addr×Obj)) (s:Shared) (σ:St) (H:Hp) (Q:List V->Hp->Prop),Inv X pins σ H s->t σ H Q->wpAny (model X.prog X.w) X.A (spliced (backTo pos (starEach es X.env))) (AP X pins σ Q) X.xe s
def PS (X:Cx) (st:Stmt) (t:TS):Prop :=
 ∀ (pins:List (Addr×Obj)) (s:Shared) (σ:St) (H:Hp) (D:Ends),Inv X pins σ H s->t D σ H->wpAny (model X.prog X.w) X.A (exec st X.env) (SP X pins D) X.xe s
def c8 (X:Cx) (st:List Stmt) (t:TS):Prop :=
 ∀ (pins:List (Addr×Obj)) (s:Shared) (σ:St) (H:Hp) (D:Ends),Inv X pins σ H s->t D σ H->wpAny (model X.prog X.w) X.A (execs st X.env) (SP X pins D) X.xe s
def aF {α:Type} {t:Sem α} {Q Q':α->Shared->Prop} {M:Model} {A:Around} {E:Value->Shared->Prop} {s:Shared} (h:wpAny M A t Q E s) (hQ:∀ a s,Q a s->Q' a s):wpAny M A t Q' E s:=IO h hQ fun _ _ x=>x
section
variable {X:Cx}
def Hj (i:Nat):TE:=fun σ H Q=>∃ v,σ[i]?=some (some v)/\Q v H
def tC (v:V):TE:=fun _ H Q=>Q v H
def Bo {i:Nat} {x:Str} {pos:Pos} (hN:X.N[i]?=some x) (hv:mj X.env.scope x) (hd:(x == ("__debug__" : Str))=false:=by decide) (bL:(x == ("__classdict__" : Str))=false:=by decide):PE X (.Name x pos) (Hj i):=by
 intro pins s σ H Q I h;obtain ⟨v,e,h⟩:=h;obtain ⟨m,hn,hl⟩:=I.loc;obtain ⟨u,r,l⟩:=hl i x v hN e hv;have fin:EP X pins σ Q u s:=⟨v,H,I,r,h⟩;rcases l with ⟨hk,hm⟩ | ⟨hk,c,hc,Ph⟩
 ·exact wpAny_Name (wpAny_loadName_local I.ok.kind hk hn hm fin) hd
 ·rcases hk with hk | hk
  ·exact wpAny_Name (wpAny_loadName_cell I.ok.kind hk hc Ph fin) hd
  ·exact wpAny_Name (wpAny_loadName_free I.ok.kind hk hc Ph fin bL) hd
def YQ {i j pos}:PE X (.Constant (.int i) j pos) (tC (.int i)):=fun _ _ _ H _ I h=>wpAny_Constant_int ⟨.int i,H,I.tok _,⟨_,rfl⟩,h⟩
def YL {b j pos}:PE X (.Constant (.bool b) j pos) (tC (.bl b)):=fun _ _ _ H _ I h=>Constant_bool ⟨.bl b,H,I,rfl,h⟩
def Tn {j pos}:PE X (.Constant .none j pos) (tC .ay):=fun _ _ _ H _ I h=>Constant_none ⟨.ay,H,I,rfl,h⟩
def YK {x j pos}:PE X (.Constant (.str x) j pos) (tC (.str x)):=fun _ _ _ H _ I h=>Calls.Constant_str ⟨.str x,H,I.tok _,⟨_,rfl⟩,h⟩
def Gl (X:Cx) (x:Str):Prop:=X.env.kindOf x=some .globalImplicit
def lA {E:Value->Shared->Prop} {pins:List (Addr×Obj)} {s:Shared} {σ:St} {H:Hp} {x:Str} {u:Value} {pos:Pos} {Q:Value->Shared->Prop} (I:Inv X pins σ H s) (hg:Gl X x) (hm:X.mg x=some u) (h:Q u s)
  (hd:(x == ("__debug__" : Str))=false:=by decide):wpAny (model X.prog X.w) X.A (eval (.Name x pos) X.env) Q E s :=
 Calls.Name_function_global I.ok.kind hg (Calls.loadGlobal_global (by rw [I.ok.glob]; exact I.mod.glob.keeps I.bk) hm h) hd
def oU {E:Value->Shared->Prop} {pins:List (Addr×Obj)} {s:Shared} {σ:St} {H:Hp} {x:Str} {u:Value} {pos:Pos} {Q:Value->Shared->Prop} (I:Inv X pins σ H s) (hg:Gl X x) (hm:X.mg x=none) (hv:bootBuiltins x=some u) (h:Q u s)
  (hn:x ≠ "__name__" := by decide) (hd:(x == ("__debug__" : Str))=false:=by decide):wpAny (model X.prog X.w) X.A (eval (.Name x pos) X.env) Q E s:=by
 obtain ⟨mb,h1,h2⟩:=I.mod.blt;exact Calls.Name_function_global I.ok.kind hg (Calls.loadGlobal_builtin (by rw [I.ok.glob]; exact I.mod.glob.keeps I.bk) hm (by rw [I.ok.blt]; exact h1.keeps I.bk) ((h2 x hn).trans hv) h) hd
def QQ {x:Str} {v:V} {u:Value} {pos:Pos} (hg:Gl X x) (hm:X.mg x=some u) (r:RelV v u) (hd:(x == ("__debug__" : Str))=false:=by decide):PE X (.Name x pos) (tC v) :=
 fun _ _ _ H _ I h=>lA I hg hm ⟨v,H,I,r,h⟩ hd
def SE {x:Str} {v:V} {u:Value} {pos:Pos} (hg:Gl X x) (hm:X.mg x=none) (hv:bootBuiltins x=some u) (r:RelV v u) (hn:x ≠ "__name__" := by decide) (hd:(x == ("__debug__" : Str))=false:=by decide):PE X (.Name x pos) (tC v) :=
 fun _ _ _ H _ I h=>oU I hg hm hv ⟨v,H,I,r,h⟩ hn hd
def t2I (ta tb:TE) (k:Int->Int->Hp->Prop):St->Hp->Prop:=fun σ H=>ta σ H fun x H1=>tb σ H1 fun y H2=>∃ i j,x=.int i/\y=.int j/\k i j H2
variable {a b:Expr} {ta tb:TE} {pos:Pos}
def PC (X:Cx) (op:CmpOp) (a b:Expr) (t:TE):Prop :=
 ∀ (pins:List (Addr×Obj)) (s:Shared) (σ:St) (H:Hp) (Q:VK),Inv X pins σ H s->t σ H Q ->
  wpAny (model X.prog X.w) X.A (eval a X.env) (fun v s₁=>wpAny (model X.prog X.w) X.A (eval b X.env) (fun u s₂=>wpAny (model X.prog X.w) X.A (compareOp op v u) (EP X pins σ Q) X.xe s₂) X.xe s₁) X.xe s
def xB (b:Expr) {op:CmpOp} (h:op≠.In) (h2:op≠.NotIn):behindInMarks op b=false:=by
 have e1:(op == CmpOp.In)=false:=by cases op <;> first | rfl | exact absurd rfl h
 have e2:(op == CmpOp.NotIn)=false:=by cases op <;> first | rfl | exact absurd rfl h2
 cases b <;> simp [behindInMarks,e1,e2]
def qP (p:Int->Int->Bool) (ta tb:TE):TE:=fun σ H Q=>t2I ta tb (fun i j H2=>Q (.bl (p i j)) H2) σ H
abbrev tLt:TE->TE->TE:=qP fun i j=>decide (i < j)
abbrev tLe:TE->TE->TE:=qP fun i j=>decide (i<=j)
abbrev tGt:TE->TE->TE:=qP fun i j=>decide (j < i)
abbrev tGe:TE->TE->TE:=qP fun i j=>decide (j<=i)
abbrev acf:TE->TE->TE:=qP fun i j=>decide (i=j)
abbrev ace:TE->TE->TE:=qP fun i j=>!decide (i=j)
def YF (ta:TE):TE:=fun σ H Q=>ta σ H fun x H1=>Q (.bl (decide (x=.ay))) H1
def tB (t:TE):TT:=fun σ H Q=>t σ H fun x H1=>∃ c,x=.bl c/\Q c H1
variable {tA tB':TT} {rest:List Expr}
def Ac (t u:TT):TT:=fun σ H Q=>t σ H fun c H1=>if c=true then u σ H1 Q else Q false H1
def Ce (t u:TT):TT:=fun σ H Q=>t σ H fun c H1=>if c=true then Q true H1 else u σ H1 Q
def EE (t:TT):TT:=fun σ H Q=>t σ H fun c H1=>Q (!c) H1
def XB (ha:PT X a tA):PW X (.BoolOp .And [a] pos) tA:=by
 intro wh pins s σ H Q I h;refine isTrue_and (aF (ha pins s σ H Q I h) fun c s1 e=>?_);cases c with
 | true=>exact isTrue_and_nil e
 | false=>exact e
def Qe (ha:PT X a tA):PW X (.BoolOp .Or [a] pos) tA:=by
 intro wh pins s σ H Q I h;refine isTrue_or (aF (ha pins s σ H Q I h) fun c s1 e=>?_);cases c with
 | false=>exact isTrue_or_nil e
 | true=>exact e
def Ze (ha:PT X a tA) (hb:PW X (.BoolOp .And (b::rest) pos) tB'):PW X (.BoolOp .And (a::b::rest) pos) (Ac tA tB'):=by
 intro wh pins s σ H Q I h;refine isTrue_and (aF (ha pins s σ H _ I h) fun c s1 ⟨H1,I1,q1⟩=>?_);cases c with
 | true=>exact hb wh pins s1 σ H1 Q I1 q1
 | false=>exact ⟨H1,I1,q1⟩
def Qc (ha:PT X a tA) (hb:PW X (.BoolOp .Or (b::rest) pos) tB'):PW X (.BoolOp .Or (a::b::rest) pos) (Ce tA tB'):=by
 intro wh pins s σ H Q I h;refine isTrue_or (aF (ha pins s σ H _ I h) fun c s1 ⟨H1,I1,q1⟩=>?_);cases c with
 | true=>exact ⟨H1,I1,q1⟩
 | false=>exact hb wh pins s1 σ H1 Q I1 q1
def UZ (ha:PT X a tA):PT X (.UnaryOp .Not a pos) (EE tA):=by
 intro pins s σ H Q I h;exact isTrue_not (ha pins s σ H (fun c H1=>Q (!c) H1) I h)
def Wg {op} {t:TE} (h:PE X a t):PE X (.BoolOp op [a] pos) t:=fun pins s σ H Q I hw=>BoolOp_one (h pins s σ H Q I hw)
def zM (t:TT) (ta tb:TE):TE:=fun σ H Q=>t σ H fun c H1=>if c=true then ta σ H1 Q else tb σ H1 Q
def Ub {c:Expr} (hc:PT X c tA) (ha:PE X a ta) (hb:PE X b tb):PE X (.IfExp c a b pos) (zM tA ta tb):=by
 intro pins s σ H Q I h;refine wpAny_IfExp (aF (hc pins s σ H _ I h) fun d s1 ⟨H1,I1,q1⟩=>?_);cases d with
 | true=>exact ha pins s1 σ H1 Q I1 q1
 | false=>exact hb pins s1 σ H1 Q I1 q1
end
def aD (K:PySem.W.Frag) (H:Hp) (a:Addr) (xs:List V):Prop :=
 Rd H a (.lst xs) \/
  ∃ (o:Obj) (aj:Array Value) (n:Nat),K.lookup a=some o/\o.cls=.type "list" /\ o.dict=none/\o.data=.seq aj n/\aj.size<=sizeLine/\Vals xs aj.toList
def bw (K:PySem.W.Frag) (H:Hp) (a:Addr) (xs:List V):Prop :=
 Rd H a (.tup xs) \/
  ∃ (o:Obj) (aj:Array Value) (n:Nat),K.lookup a=some o/\o.cls=.type "tuple" /\ o.data=.seq aj n/\aj.size<=sizeLine/\Vals xs aj.toList
def Xh:Value->Option V
 | .none=>some .ay
 | .bool b=>some (.bl b)
 | .int i _=>some (.int i)
 | .str x _=>some (.str x)
 | .bytes b _=>some (.byt b)
 | .float b _=>some (.n9 b)
 | .ref a=>some (.ref a)
 | .type n=>some (.ty n)
 | _=>none
def RelV.abs {x:V} {u:Value} (r:RelV x u):Xh u=some x:=by
 cases x with
 | ay=>cases r; rfl
 | bl _=>cases r; rfl
 | int _=>obtain ⟨t,rfl⟩:=r; rfl
 | str _=>obtain ⟨t,rfl⟩:=r; rfl
 | byt _=>obtain ⟨t,rfl⟩:=r; rfl
 | n9 _=>obtain ⟨t,rfl⟩:=r; rfl
 | ref _=>cases r; rfl
 | ty _=>cases r; rfl
def RelV.inj {x y:V} {u:Value} (r:RelV x u) (q:RelV y u):x=y:=EQ (r.abs.symm.trans q.abs)
def Vals.inj:∀ {xs ys:List V} {us:List Value},Vals xs us->Vals ys us->xs=ys
 | _,_,_,.nil,.nil=>rfl
 | _,_,_,.cons r t,.cons r' t'=>by rw [r.inj r',Vals.inj t t']
section
variable {X:Cx} {pins:List (Addr×Obj)} {σ:St} {H:Hp} {s:Shared} {a:Addr} {xs ys:List V}
def aD.of {K:PySem.W.Frag} (h:H a=some (.lst xs)):aD K H a xs:=.inl (.inl h)
def bw.of {K:PySem.W.Frag} (h:H a=some (.tup xs)):bw K H a xs:=.inl (.inl h)
def Inv.list (I:Inv X pins σ H s) (h:aD X.K H a xs):∃ aj:List Value,Vals xs aj/\PlainL s.heap a aj.toArray/\xs.length<=sizeLine:=by
 rcases h with h | ⟨o,aj,n,hk,hc,hd,hs,hz,r⟩
 ·obtain ⟨z,aj,n,r,e⟩:=h.ok I.aB;exact ⟨aj,r,⟨_,n,e,rfl,rfl,rfl⟩,z⟩
 ·refine ⟨aj.toList,r,⟨o,n,I.bV a o hk,hc,hd,by simpa using hs⟩,?_⟩;have e:=r.length;simp only [LE] at e;omega
def Inv.tuple (I:Inv X pins σ H s) (h:bw X.K H a xs):∃ aj:List Value,Vals xs aj/\IsTup s.heap a aj.toArray/\xs.length<=sizeLine:=by
 rcases h with h | ⟨o,aj,n,hk,hc,hs,hz,r⟩
 ·obtain ⟨z,aj,r,p⟩:=h.ok I.aB;exact ⟨aj,r,p.t,z⟩
 ·refine ⟨aj.toList,r,⟨o,I.bV a o hk,hc,n,by simpa using hs⟩,?_⟩;have e:=r.length;simp only [LE] at e;omega
def Inv.YS (I:Inv X pins σ H s) (h:aD X.K H a xs) (h':aD X.K H a ys):xs=ys:=by
 obtain ⟨aj,r,⟨o,n,e,_,_,d⟩,_⟩:=I.list h;obtain ⟨its',r',⟨o',n',e',_,_,d'⟩,_⟩:=I.list h';rw [e] at e'; cases e';rw [d] at d';injection d' with d1 _;have:aj=its':=by simpa using NE Array.toList d1
 subst this;exact r.inj r'
end
abbrev Cx.cu (X:Cx) (E:Value->Shared->Prop):Cx:={ X with xe:=E }
abbrev Cx.qX (X:Cx):Cx:=X.cu fun _ _=>False
def Cx.Ok.cu {X:Cx} (ok:X.Ok) (E:Value->Shared->Prop):(X.cu E).Ok :=
 ⟨ok.mod,ok.kind,ok.glob,ok.blt,ok.above,ok.inj,ok.has,ok.ku,ok.hd,ok.frames,ok.dA,ok.uz,ok.bs,ok.gI,ok.lX,ok.lZ,ok.eY,ok.iV⟩
def Cx.Ok.l6 {X:Cx} {E:Value->Shared->Prop} (ok:(X.cu E).Ok):X.Ok :=
 ⟨ok.mod,ok.kind,ok.glob,ok.blt,ok.above,ok.inj,ok.has,ok.ku,ok.hd,ok.frames,ok.dA,ok.uz,ok.bs,ok.gI,ok.lX,ok.lZ,ok.eY,ok.iV⟩
section
variable {X:Cx} {pins:List (Addr×Obj)} {σ:St} {H:Hp} {s:Shared} {E:Value->Shared->Prop}
def Inv.cu (I:Inv X pins σ H s) (E:Value->Shared->Prop):Inv (X.cu E) pins σ H s:=⟨I.ok.cu E,I.os,I.bare,I.base,I.loc,I.cell,I.free,I.e9,I.pin,I.aB,I.len⟩
def Inv.l6 (I:Inv (X.cu E) pins σ H s):Inv X pins σ H s:=⟨I.ok.l6,I.os,I.bare,I.base,I.loc,I.cell,I.free,I.e9,I.pin,I.aB,I.len⟩
def SP.l6 {D:Ends} {f:Flow} {s':Shared} (h:SP (X.cu E) pins D f s'):SP X pins D f s':=by
 cases f with
 | next=>obtain ⟨σ',H',I,q⟩:=h; exact ⟨σ',H',I.l6,q⟩
 | brk=>obtain ⟨σ',H',I,q⟩:=h; exact ⟨σ',H',I.l6,q⟩
 | cont=>obtain ⟨σ',H',I,q⟩:=h; exact ⟨σ',H',I.l6,q⟩
 | ret u=>obtain ⟨v,σ',H',I,r,q⟩:=h; exact ⟨v,σ',H',I.l6,r,q⟩
def c8.qX {st:List Stmt} {t:TS} (h:c8 X.qX st t):c8 X st t:=fun pins s σ H D I hw =>
 IO (h pins s σ H D (I.cu _) hw) (fun _ _ q=>q.l6) fun _ _ z=>False.elim z
end
section
variable {X:Cx} {st:Stmt} {rest:List Stmt} {t u:TS} {e:Expr} {te:TE} {pos:Pos}
def BX:TS:=fun D σ H=>D.nx σ H
def Rq (t u:TS):TS:=fun D σ H=>t { D with nx:=u D } σ H
def Xs:c8 X [] BX:=fun _ _ σ H _ I h=>_C ⟨σ,H,I,h⟩
def abA (h1:PS X st t) (h2:c8 X rest u):c8 X (st::rest) (Rq t u):=by
 intro pins s σ H D I h;refine wpAny_execs_cons (aF (h1 pins s σ H { D with nx:=u D } I h) fun f s1 q=>?_);cases f with
 | next =>
  obtain ⟨σ',H',I',q⟩:=q;exact h2 pins s1 σ' H' D I' q
 | ret v=>exact q
 | brk=>exact q
 | cont=>exact q
def Xe (h1:PS X st t):c8 X [st] t:=by
 intro pins s σ H D I h;refine wpAny_execs_cons (aF (h1 pins s σ H D I h) fun f s1 q=>?_);cases f with
 | next=>exact _C q
 | ret v=>exact q
 | brk=>exact q
 | cont=>exact q
def Inv.quiet {pins:List (Addr×Obj)} {σ:St} {H:Hp} {s:Shared} (I:Inv X pins σ H s):interactive X.env=false:=by simp [interactive,I.ok.kind]
def Ak (te:TE):TS:=fun D σ H=>te σ H fun _ H1=>D.nx σ H1
def Qg (he:PE X e te) (hs:swapsWith e none pos.line X.env=pure false:=by rfl):PS X (.Expr e pos) (Ak te):=by
 intro pins s σ H D I h;exact wpAny_Expr_any (aF (he pins s σ H _ I h) fun v s1 ⟨x,H1,I1,r1,q1⟩=>⟨σ,H1,I1,q1⟩) I.quiet hs
def Ae (te:TE):TS:=fun D σ H=>te σ H D.rt
def T7 (he:PE X e te):PS X (.Return (some e) pos) (Ae te):=by
 intro pins s σ H D I h;exact wpAny_Return_some (aF (he pins s σ H _ I h) fun v s1 ⟨x,H1,I1,r1,q1⟩=>⟨x,σ,H1,I1,r1,q1⟩)
def B3:TS:=fun D _ H=>D.rt .ay H
def abr:PS X (.Return none pos) B3:=fun _ _ σ H _ I h=>wpAny_Return_none ⟨.ay,σ,H,I,rfl,h⟩
def Ex (c:TT) (t u:TS):TS:=fun D σ H=>c σ H fun b H1=>if b=true then t D σ H1 else u D σ H1
def WU {c:Expr} {a b:List Stmt} {tc:TT} (hc:PT X c tc) (ha:c8 X a t) (hb:c8 X b u):PS X (.If c a b pos) (Ex tc t u):=by
 intro pins s σ H D I h;refine wpAny_If (aF (hc pins s σ H _ I h) fun d s1 ⟨H1,I1,q1⟩=>?_);cases d with
 | true=>exact ha pins s1 σ H1 D I1 q1
 | false=>exact hb pins s1 σ H1 D I1 q1
def AO:TS:=fun _ _ _=>False
def YN:PS X st AO:=fun _ _ _ _ _ _ h=>h.elim
end
abbrev TG:=V->St->Hp->(St->Hp->Prop)->Prop
abbrev jK:=List V->St->Hp->(St->Hp->Prop)->Prop
def PG (X:Cx) (target:Expr) (t:TG):Prop :=
 ∀ (pins:List (Addr×Obj)) (s:Shared) (σ:St) (H:Hp) (v:V) (u:Value) (Q:St->Hp->Prop),Inv X pins σ H s->RelV v u->t v σ H Q ->
  wpAny (model X.prog X.w) X.A (assign target X.env u) (fun _ s'=>∃ σ' H',Inv X pins σ' H' s'/\Q σ' H') X.xe s
def sx (X:Cx) (ts:List Expr) (t:jK):Prop :=
 ∀ (pins:List (Addr×Obj)) (s:Shared) (σ:St) (H:Hp) (vs:List V) (us:List Value) (Q:St->Hp->Prop),Inv X pins σ H s->Vals vs us->t vs σ H Q ->
  wpAny (model X.prog X.w) X.A (assignInOrder ((assignEach ts X.env).map (·.2)) us) (fun _ s'=>∃ σ' H',Inv X pins σ' H' s'/\Q σ' H') X.xe s
abbrev uk:=V->V->V->Hp->(Hp->Prop)->Prop
def wj (X:Cx) (t:uk):Prop :=
 ∀ (pins:List (Addr×Obj)) (s:Shared) (σ:St) (H:Hp) (o i v:V) (ov iv u:Value) (Q:Hp->Prop),Inv X pins σ H s->RelV o ov->RelV i iv->RelV v u->t o i v H Q ->
  wpAny (model X.prog X.w) X.A (setItem ov iv u) (fun _ s'=>∃ H',Inv X pins σ H' s'/\Q H') X.xe s
abbrev TIp:=V->V->Hp->VK->Prop
section
variable {X:Cx} {pos:Pos}
def fV (i:Nat):TG:=fun v σ H Q=>Q (σ.set i (some v)) H
def Ym {i:Nat} {x:Str} (hN:X.N.Nodup) (hi:X.N[i]?=some x) (hx:Loc X.env.scope x) (hf:X.fn x=true\/X.env.scope.names.lookup x=some .local:=by first | exact .inl rfl | exact .inr rfl | assumption):PG X (.Name x pos) (fV i):=by
 intro pins s σ H v u Q I r h;exact wpAny_assign_Name (AX I hN hi hx r (fun s' I'=>⟨_,H,I',h⟩) hf)
def DF:jK:=fun vs σ H Q=>vs=[]/\Q σ H
def zT (t:TG) (u:jK):jK:=fun vs σ H Q=>∃ v r,vs=v::r/\t v σ H fun σ' H'=>u r σ' H' Q
def WN:sx X [] DF:=by
 intro pins s σ H vs us Q I r h;obtain ⟨e,h⟩:=h;subst e;cases r;exact assignInOrder_nil ⟨σ,H,I,h⟩
def Uc {e:Expr} {es:List Expr} {t:TG} {u:jK} (h1:PG X e t) (h2:sx X es u)
  (hs:(assignEach (e::es) X.env).map (·.2)=assign e X.env::(assignEach es X.env).map (·.2):=by rfl):sx X (e::es) (zT t u):=by
 intro pins s σ H vs us Q I r h;obtain ⟨v,vr,e1,h⟩:=h;subst e1;cases r with
 | cons r rr =>
  rw [hs];refine assignInOrder_cons (aF (h1 pins s σ H _ _ _ I r h) fun _ s1 ⟨σ1,H1,I1,q1⟩=>?_);exact h2 pins s1 σ1 H1 _ _ Q I1 rr q1
def D9 (K:PySem.W.Frag) (n:Nat) (t:jK):TG:=fun v σ H Q=>∃ a xs,v=.ref a/\bw K H a xs/\xs.length=n/\t xs σ H Q
def SG {es:List Expr} {k:Nat} {t:jK} {n:Nat} (hc:X.calm=true) (h:sx X es t)
  (hn:(assignEach es X.env).length=n:=by rfl) (aU:(assignEach es X.env).findIdx? (·.1)=none:=by rfl):PG X (.Tuple es k pos) (D9 X.K n t):=by
 intro pins s σ H v u Q I r hw;obtain ⟨a,xs,e1,hq,hl,hw⟩:=hw;subst e1;cases r;obtain ⟨aj,rv,ht,hz⟩:=I.tuple hq;refine assign_Tuple_tuple (I.ok.hd hc) ht (by simp [hn,<- hl,rv.length]) aU fun h' hx=>?_;have I1:Inv X pins σ H { s with heap:=h' }:=I.kept (t':=s.toks) fun b o e=>hx b o (ww (sw e)) e;exact h pins _ σ H xs _ Q I1 (by simpa using rv) hw
def Cd (to ti:TE) (t:uk):TG:=fun v σ H Q=>to σ H fun o H1=>ti σ H1 fun i H2=>t o i v H2 fun H3=>Q σ H3
def Vn {o i:Expr} {to ti:TE} {t:uk} (ho:PE X o to) (hi:PE X i ti) (hs:wj X t)
  (ha:∀ v,assign (.Subscript o i pos) X.env v=(do
   let ov <- holding [v] (eval o X.env)
   let iv <- holding [v,ov] (eval i X.env)
   standAt pos
   holding [v,ov,iv] (setItem ov iv v)
   release [v,ov,iv] []):=by intro _; rfl):PG X (.Subscript o i pos) (Cd to ti t):=by
 intro pins s σ H v u Q I r h;rw [ha];refine jp (FM (aF (ho pins s σ H _ I h) fun ov s1 ⟨x,H1,I1,r1,q1⟩=>?_));refine jp (FM (aF (hi pins s1 σ H1 _ I1 q1) fun iv s2 ⟨y,H2,I2,r2,q2⟩=>?_));refine jp (_2 (jp (FM (aF (hs pins s2 σ H2 x y v ov iv u _ I2 r1 r2 r q2) fun _ s3 ⟨H3,I3,q3⟩=>?_))));exact wpAny_release ⟨σ,H3,I3,q3⟩
def mR (te:TE) (g:TG):TS:=fun D σ H=>te σ H fun x H1=>g x σ H1 D.nx
def SS {tg e:Expr} {te:TE} {g:TG} (he:PE X e te) (hg:PG X tg g) (hs:swapsWithSole [tg] e pos.line X.env=pure false:=by rfl) (hw:swappedStores [tg] e X.env=pure none:=by rfl)
  (h1:(assignEach [tg] X.env).map (·.2)=[assign tg X.env]:=by rfl):PS X (.Assign [tg] e pos) (mR te g):=by
 intro pins s σ H D I h;refine wpAny_Assign_stores (aF (he pins s σ H _ I h) fun v s1 ⟨x,H1,I1,r1,q1⟩=>?_) hs hw;rw [h1];exact aF (hg pins s1 σ H1 x v _ I1 r1 q1) fun _ s2 q=>q
def YM {i:Nat} {x:Str} {e:Expr} {te:TE} {pos':Pos} (hN:X.N.Nodup) (hi:X.N[i]?=some x) (hx:Loc X.env.scope x) (he:PE X e te) (hs:swapsWith e (some (.Name x pos')) pos.line X.env=pure false:=by rfl) (hf:X.fn x=true\/X.env.scope.names.lookup x=some .local:=by first | exact .inl rfl | exact .inr rfl | assumption) :
  PS X (.Assign [.Name x pos'] e pos) (mR te (fV i)):=by
 intro pins s σ H D I h;refine wpAny_Assign_Name (aF (he pins s σ H _ I h) fun v s1 ⟨y,H1,I1,r1,q1⟩=>?_) hs;exact AX I1 hN hi hx r1 (fun s2 I2=>⟨_,H1,I2,q1⟩) hf
end
section
variable {X:Cx} {pos:Pos}
def Jc (c:TT) (tb:TS):TS:=fun D σ H=>∃ W:Nat->St->Hp->Prop,(∃ m,W m σ H)/\∀ m σ H,W m σ H ->
 c σ H fun b H1=>if b=true then ∃ N:St->Hp->Prop,(∀ σ' H',N σ' H'->∃ m',m' < m/\W m' σ' H')/\tb { D with nx:=N,ct:=N,bk:=D.nx } σ H1 else D.nx σ H1
def U5 {c:Expr} {body:List Stmt} {tc:TT} {tb:TS} (hp:PassesOwn (model X.prog X.w) X.A X.env X.xe) (hc:PT X c tc) (hb:c8 X body tb):PS X (.While c body [] pos) (Jc tc tb):=by
 intro pins s σ H D I h;obtain ⟨W,⟨m0,w0⟩,turn⟩:=h;refine wpAny_While (codeAny_whileLoop (fun n s'=>∃ σ' H',Inv X pins σ' H' s'/\W n σ' H') ?_ m0 ⟨σ,H,I,w0⟩);rintro n s1 ⟨σ1,H1,I1,w1⟩;refine Uf hp (aF (hc pins s1 σ1 H1 _ I1 (turn n σ1 H1 w1)) fun b s2 ⟨H2,I2,q2⟩=>?_);cases b with
 | true =>
  obtain ⟨N,hN,q2⟩:=q2;rw [wT rfl];refine Uf hp (aF (hb pins s2 σ1 H2 _ I2 q2) fun f s3 q3=>?_);cases f with
  | next =>
   obtain ⟨σ3,H3,I3,n3⟩:=q3;obtain ⟨m',hm,w3⟩:=hN σ3 H3 n3;exact ⟨m',hm,σ3,H3,I3,w3⟩
  | cont =>
   obtain ⟨σ3,H3,I3,n3⟩:=q3;obtain ⟨m',hm,w3⟩:=hN σ3 H3 n3;exact ⟨m',hm,σ3,H3,I3,w3⟩
  | brk=>exact q3
  | ret v=>exact q3
 | false =>
  rw [wS ut];exact _C ⟨σ1,H2,I2,q2⟩
end
structure It where
 go:Nat->Hp->Prop
 k8:Nat->Hp->V->Hp->Prop
 stop:Nat->Hp->Prop
def kD (X:Cx) (pins:List (Addr×Obj)) (H:Hp) (b:Addr):Prop :=
 H b=none/\b≠X.env.locals/\b ∉ X.fs/\(b∈X.ex\/X.s₀.heap.objs.size<=b)/\(∀ x c,X.env.cells.lookup x=some c->c≠b)/\∀ p∈X.pn++pins,p.1≠b
def Inv.CY {X:Cx} {pins:List (Addr×Obj)} {σ:St} {H H':Hp} {s:Shared} {b:Addr} (I:Inv X pins σ H s) (hb:s.heap.objs.size<=b) (hn:H' b=none):kD X pins H' b:=by
 refine ⟨hn,Ja7 (ul I.lt hb),I.Hf hb,.inr (wf I.sz hb),fun x c e z=>?_,fun p hp z=>?_⟩
 ·obtain ⟨v,q⟩:=I.cell x c e;exact absurd (ul q.lt (by rw [z]; exact hb)) (Id _)
 ·exact absurd (ul (sw (I.pin p hp).1) (by rw [z]; exact hb)) (Id _)
structure Turn (P:Program) (w:World) (K:PySem.W.Frag) (tg:Expr) (J:It) (fp:List Addr) (it:Addr) (tn:Nat->Heap->Prop):Prop where
 mem:it∈fp
 obj:∀ i h,tn i h->∀ b∈fp,∃ o,h.get? b=some o/\∀ v,o.data≠.cell v
 keep:∀ i h h',tn i h->(∀ b∈fp,∀ o,h.get? b=some o->h'.get? b=some o)->tn i h'
 item:∀ (X:Cx),X.prog=P->X.w=w->X.K=K->X.calm=true->∀ (i:Nat) (pins:List (Addr×Obj)) (s:Shared) (σ:St) (H:Hp) (E:Value->Shared->Prop),Inv X pins σ H s->(∀ b∈fp,kD X pins H b)->tn i s.heap->J.go i H ->
  wpAny (model P w) X.A (pyNext (.ref it)) (fun r s1=>∃ u,r=some u /\
   wpAny (model P w) X.A (letOwnedTupleGo tg (.ref it) u) (fun _ s2=>∃ x H',Inv X pins σ H' s2/\RelV x u/\J.k8 i H x H'/\tn (i+1) s2.heap/\∀ b∈fp,H' b=none) E s1) E s
 done:∀ (X:Cx),X.prog=P->X.w=w->X.K=K->X.calm=true->∀ (i:Nat) (pins:List (Addr×Obj)) (s:Shared) (σ:St) (H:Hp) (E:Value->Shared->Prop),Inv X pins σ H s->(∀ b∈fp,kD X pins H b)->tn i s.heap->J.stop i H ->
  wpAny (model P w) X.A (pyNext (.ref it)) (fun r s1=>r=none/\Inv X pins σ H s1) E s
 self:∀ (A:Around) (i:Nat) (s:Shared) (Q:Value->Shared->Prop) (E:Value->Shared->Prop),tn i s.heap->Q (.ref it) s->wpAny (model P w) A (pyIter (.ref it)) Q E s
abbrev TI:=St->Hp->(It->Hp->Prop)->Prop
def GZ (X:Cx) (pins:List (Addr×Obj)) (σ:St) (tg:Expr) (R:It->Hp->Prop) (Fe:Value) (s2:Shared):Prop :=
 ∃ (it:Addr) (fp:List Addr) (tn:Nat->Heap->Prop) (J:It) (H':Hp),Fe=.ref it/\Inv X pins σ H' s2/\Turn X.prog X.w X.K tg J fp it tn/\tn 0 s2.heap/\(∀ b∈fp,kD X pins H' b)/\R J H'
def PI (X:Cx) (tg iter:Expr) (wi:TI):Prop :=
 ∀ (pins:List (Addr×Obj)) (s:Shared) (σ:St) (H:Hp) (R:It->Hp->Prop),Inv X pins σ H s->wi σ H R ->
  wpAny (model X.prog X.w) X.A (eval iter X.env) (fun v s1=>wpAny (model X.prog X.w) X.A (pyIter v) (GZ X pins σ tg R) X.xe s1) X.xe s
def Dq {M:Model} {A:Around} {E:Value->Shared->Prop} {s:Shared} {tg:Expr} {it:Addr} {u:Value} {o:Obj} {n:String} {vs:Array Value} {Q:Unit->Shared->Prop} (ho:s.heap.get? it=some o) (hc:o.cls=.type n) (hd:o.data=.fields vs)
  (hn:["enumerate","zip","dict_itemiterator","dict_reverseitemiterator","odict_iterator","itertools.zip_longest","itertools.pairwise"].contains n=false) (hQ:Q () s):wpAny M A (letOwnedTupleGo tg (.ref it) u) Q E s:=by
 unfold letOwnedTupleGo;cases tg <;> first
  | exact pp hQ
  | (cases u <;> first
    | exact pp hQ
    | (refine jp (wpAny_load ho ?_)
       rw [hc,hd];show wpAny M A (if (["enumerate","zip","dict_itemiterator","dict_reverseitemiterator","odict_iterator","itertools.zip_longest","itertools.pairwise"].contains n && vs[0]? == some (rawInt _))=true then _ else _) Q E s;rw [wS (by intro h; rw [hn,Jab] at h; cases h)];exact pp hQ))
def md (K:PySem.W.Frag) (a:Addr):It :=
 ⟨fun i H=>∃ xs x,aD K H a xs/\xs[i]?=some x,fun i H x H'=>H'=H/\∀ xs,aD K H a xs->xs[i]?=some x,fun i H=>∃ xs,aD K H a xs/\xs.length<=i⟩
def jF (lo:Int) (n:Nat):It:=⟨fun i _=>i < n,fun i H x H'=>H'=H/\x=.int (lo+i),fun i _=>n<=i⟩
def Ys {P:Program} {w:World} {K:PySem.W.Frag} {tg:Expr} (a it:Addr):Turn P w K tg (md K a) [it] it (fun i h=>h.IsListIter it a i) where
 mem:=by simp
 obj:=fun i h st b hb=>by
  have e:b=it:=by simpa using hb
  subst e;obtain ⟨o,e,c,d⟩:=st;exact ⟨o,e,fun v z=>by rw [d] at z; cases z⟩
 keep:=fun i h h' st k=>st.at fun o e=>k it (by simp) o e
 item:=by
  intro X hP hw hK hc i pins s σ H E I hf st hg;subst hP hw hK;obtain ⟨xs,x,hq,hx⟩:=hg;obtain ⟨aj,rv,p,hz⟩:=I.list hq;obtain ⟨u,hu,ru⟩:=rv.get hx;obtain ⟨f0,f1,f2,f3,f4,f5⟩:=hf it (by simp);refine wpAny_pyNext_list_item st p.isList (x:=u) (by simpa using hu) fun h' st' sb=>?_;have I1:Inv X pins σ H { s with heap:=h' }:=I.turned (t':=s.toks) (fun b o hb e=>(sb.2 b hb).trans e) f0 f1 f3 f4 f5;obtain ⟨o,e,c,d⟩:=id st';exact ⟨u,rfl,Dq (s:={ s with heap:=h' }) e c d (by decide) ⟨x,H,I1,ru,⟨rfl,fun ys hy=>by rw [I.YS hy hq]; exact hx⟩,st',fun b hb=>(hf b hb).1⟩⟩
 done:=by
  intro X hP hw hK hc i pins s σ H E I hf st hg;subst hP hw hK;obtain ⟨xs,hq,hx⟩:=hg;obtain ⟨aj,rv,p,hz⟩:=I.list hq;obtain ⟨f0,f1,f2,f3,f4,f5⟩:=hf it (by simp);have hl:=rv.length;exact wpAny_pyNext_list_end (I.ok.hd hc) st p.isList (by simp; omega) fun h' eb=>⟨rfl,I.turned (t':=s.toks) (fun b o hb e=>eb b o hb e) f0 f1 f3 f4 f5⟩
 self:=fun _ _ _ _ _ st h=>wpAny_pyIter_listiter st h
def TQ {P:Program} {w:World} {K:PySem.W.Frag} {tg:Expr} (it:Addr) (lo:Int) (n:Nat):Turn P w K tg (jF lo n) [it] it (fun i h=>IsRangeIter h it (lo+(i:Nat) * 1) ((n:Int) - (i:Nat)) 1) where
 mem:=by simp
 obj:=fun i h st b hb=>by
  have e:b=it:=by simpa using hb
  subst e;exact ⟨_,st,fun v z=>by
   have z':Data.fields _=Data.cell v:=z;cases z'⟩
 keep:=fun i h h' st k=>k it (by simp) _ st
 item:=by
  intro X hP hw hK hc i pins s σ H E I hf st hg;subst hP hw hK;obtain ⟨f0,f1,f2,f3,f4,f5⟩:=hf it (by simp);have W:=Walks.range (prog:=X.prog) (w:=X.w) (I.ok.hd hc) it lo 1 n;refine W.item i s _ _ hg st fun v h' tk hv st' kk=>?_;obtain ⟨t,rfl⟩:=hv;have I1:Inv X pins σ H { s with heap:=h',toks:=tk }:=I.turned (fun b o hb e=>kk b o (by simpa using hb) e) f0 f1 f3 f4 f5;refine ⟨_,rfl,Dq (s:={ s with heap:=h',toks:=tk }) (n := "range_iterator") st' rfl rfl (by decide) ⟨.int (lo+i),H,I1,⟨t,?_⟩,⟨rfl,rfl⟩,st',fun b hb=>(hf b hb).1⟩⟩;rw [Int.mul_one]
 done:=by
  intro X hP hw hK hc i pins s σ H E I hf st hg;subst hP hw hK;obtain ⟨f0,f1,f2,f3,f4,f5⟩:=hf it (by simp);exact wpAny_pyNext_range_end (I.ok.hd hc) st (by have:n<=i:=hg; omega) fun h' eb=>⟨rfl,I.turned (t':=s.toks) (fun b o hb e=>eb b o hb e) f0 f1 f3 f4 f5⟩
 self:=fun _ _ _ _ _ st h=>wpAny_pyIter_rangeiter st h
section
variable {X:Cx} {tg:Expr}
def Qn (K:PySem.W.Frag) (tl:TE):TI:=fun σ H R=>tl σ H fun x H1=>∃ a,x=.ref a/\(∃ xs,aD K H1 a xs)/\R (md K a) H1
def Yh {l:Expr} {tl:TE} (hl:PE X l tl):PI X tg l (Qn X.K tl):=by
 intro pins s σ H R I h;refine aF (hl pins s σ H _ I h) fun v s1 ⟨x,H1,I1,r1,q1⟩=>?_;obtain ⟨a,e,⟨xs,hq⟩,q⟩:=q1;subst e;cases r1;obtain ⟨aj,rv,p,hz⟩:=I1.list hq;refine wpAny_pyIter_list p.isList ?_;refine ⟨s1.heap.objs.size,[s1.heap.objs.size],_,_,H1,rfl,I1.kept (t':=s1.toks) fun b o e=>kt _ e,Ys a _,⟨_,tz _ rfl,rfl,rfl⟩,fun b hb=>?_,q⟩;have e:b=s1.heap.objs.size:=by simpa using hb
 subst e;exact I1.CY (ss _) (I1.aB.fresh (ss _))
def WT {pins:List (Addr×Obj)} {σ:St} {H:Hp} {s:Shared} {R:It->Hp->Prop} {E:Value->Shared->Prop} {lo hi:Int} {t u v:Tok} {tk:Nat} (I:Inv X pins σ H s) (h1:-(2 ^ 62)<=lo) (h2:lo < 2 ^ 62) (h3:-(2 ^ 62)<=hi) (h4:hi < 2 ^ 62)
  (q:R (jF lo (hi - lo).toNat) H):wpAny (model X.prog X.w) X.A (pyIter (.ref s.heap.objs.size)) (GZ X pins σ tg R) E { s with heap:=s.heap.push { cls:=.type "range",data:=.fields #[.int lo t,.int hi u,.int 1 v] },toks:=tk }:=by
 refine wpAny_pyIter_range (IsRange.new ..) (small_one h1 h2 h3 h4) ?_;have I1:Inv X pins σ H { s with heap:=s.heap.push { cls:=.type "range",data:=.fields #[.int lo t,.int hi u,.int 1 v] },toks:=tk }:=I.kept fun b o e=>kt _ e;refine ⟨(s.heap.push { cls:=.type "range",data:=.fields #[.int lo t,.int hi u,.int 1 v] }).objs.size,[(s.heap.push { cls:=.type "range",data:=.fields #[.int lo t,.int hi u,.int 1 v] }).objs.size],_,_,H,rfl,
  I1.kept (t':=tk) fun b o e=>kt _ e,TQ _ lo (hi - lo).toNat,?_,fun b hb=>?_,q⟩
 ·have e1:lo+((0:Nat):Int) * 1=lo:=by simp
  have e2:(((hi - lo).toNat:Nat):Int) - ((0:Nat):Int)=Builtin.Range.rangeSize lo hi 1:=by rw [rangeSize_one]; split <;> omega
  show IsRangeIter _ _ (lo+((0:Nat):Int) * 1) ((((hi - lo).toNat:Nat):Int) - ((0:Nat):Int)) 1;rw [e1,e2];exact tz _ rfl
 ·have e:b=(s.heap.push { cls:=.type "range",data:=.fields #[.int lo t,.int hi u,.int 1 v] }).objs.size:=by simpa using hb
  subst e;exact I1.CY (ss _) (I1.aB.fresh (ss _))
def Xo (ta:TA):TI:=fun σ H R=>ta σ H fun vs H1=>∃ j:Int,vs=[.int j]/\-(2 ^ 62)<=j/\j < 2 ^ 62/\R (jF 0 j.toNat) H1
def P5 {a:Expr} {ta:TA} {p pos:Pos} (hg:Gl X "range") (hm:X.mg "range" = none) (ha:PA X [a] ta) (hs:starEach [a] X.env=[(false,eval a X.env)]:=by rfl):PI X tg (.Call (.Name "range" p) [a] [] pos) (Xo ta):=by
 intro pins s σ H R I h;refine Call_ (oU I hg hm boot_range (SC (aF (ha pos pins s σ H _ I h) fun us s1 ⟨vs,H1,I1,r1,q1⟩=>?_) hs rfl));obtain ⟨j,e,q1,q2,q⟩:=q1;subst e;cases r1 with
 | cons r rr =>
  cases rr;obtain ⟨t,rfl⟩:=r;exact call_range_1 (WT I1 (by omega) (by omega) q1 q2 (by simpa using q))
def AW (wi:TI) (g:TG) (tb:TS):TS:=fun D σ H=>wi σ H fun J H1=>∃ W:Nat->Nat->St->Hp->Prop,(∃ m,W 0 m σ H1)/\∀ i m σ H,W i m σ H ->
 (J.stop i H/\D.nx σ H)\/(J.go i H/\∃ N:St->Hp->Prop,(∀ σ' H',N σ' H'->∃ m',m' < m/\W (i+1) m' σ' H')/\∀ x H',J.k8 i H x H'->g x σ H' fun σ2 H2=>tb { D with nx:=N,ct:=N,bk:=D.nx } σ2 H2)
def ug (fp:List Addr) (h:Heap):List (Addr×Obj):=fp.filterMap fun b=>(h.get? b).map fun o=>(b,o)
def yg {fp:List Addr} {h:Heap} {b:Addr} {o:Obj} (hb:b∈fp) (e:h.get? b=some o):(b,o)∈ug fp h:=_G.mpr ⟨b,hb,by rw [e]; rfl⟩
def Vm {fp:List Addr} {h:Heap} {p:Addr×Obj} (hp:p∈ug fp h):p.1∈fp/\h.get? p.1=some p.2:=by
 obtain ⟨b,hb,e⟩:=_G.mp hp;cases q:h.get? b with
 | none=>rw [q] at e; cases e
 | some o =>
  rw [q] at e;have e':(b,o)=p:=EQ e;subst e';exact ⟨hb,q⟩
def Inv.pinned {pins:List (Addr×Obj)} {σ:St} {H:Hp} {s:Shared} {fp:List Addr} (I:Inv X pins σ H s) (hf:∀ b∈fp,kD X pins H b) (ho:∀ b∈fp,∃ o,s.heap.get? b=some o/\∀ v,o.data≠.cell v):Inv X (pins++ug fp s.heap) σ H s :=
 I.sO fun p hp=>(KB.mp hp).elim (fun z=>I.pin p (wE _ z)) fun z=>by
  obtain ⟨hb,e⟩:=Vm z;obtain ⟨f0,f1,f2,_⟩:=hf p.1 hb;obtain ⟨o,e',d⟩:=ho p.1 hb;rw [e] at e'; cases e';exact ⟨e,f0,f1,f2,d⟩
def Inv.Aw {pins pl:List (Addr×Obj)} {σ:St} {H:Hp} {s:Shared} (I:Inv X (pins++pl) σ H s):Inv X pins σ H s:=I.sO fun p hp=>I.pin p (wE _ (Pi _ hp))
def Sg {iter:Expr} {body:List Stmt} {wi:TI} {g:TG} {tb:TS} {pos:Pos} (hp:PassesOwn (model X.prog X.w) X.A X.env X.xe) (hc:X.calm=true) (hi:PI X tg iter wi) (hg:PG X tg g) (hb:c8 X body tb)
  (hs:∀ x,foldedSetIterable iter X.env x=pure x:=by intro _; rfl):PS X (.For tg iter body [] pos) (AW wi g tb):=by
 intro pins s σ H D I h;refine wpAny_For (aF (hi pins s σ H _ I h) fun v s1 h1=>aF h1 fun Fe s2 h2=>?_) hs;obtain ⟨it,fp,tn,J,H2,e,I2,T,j4,f2,W,⟨m0,w0⟩,turn⟩:=h2;subst e
 -- what stays true of j6 iterator's objects through j6 loop
 have FD:∀ {H':Hp},(∀ b∈fp,H' b=none)->∀ b∈fp,kD X pins H' b:=fun hn b hb=>⟨hn b hb,(f2 b hb).2⟩;refine codeAny_forLoop_any (fun n s'=>∃ i σ' H',Inv X pins σ' H' s'/\tn i s'.heap/\(∀ b∈fp,H' b=none)/\W i n σ' H') ?_ m0 ⟨0,σ,H2,I2,j4,fun b hb=>(f2 b hb).1,w0⟩;rintro n s3 ⟨i,σ3,H3,I3,Ou,yT,w3⟩;rcases turn i n σ3 H3 w3 with ⟨stop,qn⟩ | ⟨go,N,hN,step⟩
 ·refine Uf hp (aF (T.done X rfl rfl rfl hc i pins s3 σ3 H3 X.xe I3 (FD yT) Ou stop) fun r s4 ⟨hr,I4⟩=>?_);subst hr;exact _C ⟨σ3,H3,I4,qn⟩
 ·refine Uf hp (aF (T.item X rfl rfl rfl hc i pins s3 σ3 H3 X.xe I3 (FD yT) Ou go) fun r s4 ⟨u,hr,h4⟩=>?_);subst hr;refine Uf hp (aF h4 fun _ s5 ⟨x,H5,I5,r5,y5,rR,yx⟩=>?_);have I5':=I5.pinned (FD yx) (T.obj _ _ rR);refine Uf hp (aF (hg _ s5 σ3 H5 x u _ I5' r5 (step x H5 y5)) fun _ s6 ⟨σ6,H6,I6,q6⟩=>?_);refine Uf hp (aF (hb _ s6 σ6 H6 _ I6 q6) fun f s7 q7=>?_);have again:∀ {σ7:St} {H7:Hp},Inv X (pins++ug fp s5.heap) σ7 H7 s7->N σ7 H7->∃ m,m < n/\∃ i σ' H',Inv X pins σ' H' s7/\tn i s7.heap/\(∀ b∈fp,H' b=none)/\W i m σ' H':=fun {σ7 H7} I7 n7=>by
   obtain ⟨m',hm,w7⟩:=hN σ7 H7 n7;refine ⟨m',hm,i+1,σ7,H7,I7.Aw,T.keep _ _ _ rR fun b hb o e=>(I7.pin (b,o) (wE _ (wE _ (yg hb e)))).1,fun b hb=>?_,w7⟩;obtain ⟨o,e,d⟩:=T.obj _ _ rR b hb;exact (I7.pin (b,o) (wE _ (wE _ (yg hb e)))).2.1
  cases f with
  | next=>obtain ⟨σ7,H7,I7,n7⟩:=q7; exact again I7 n7
  | cont=>obtain ⟨σ7,H7,I7,n7⟩:=q7; exact again I7 n7
  | brk=>obtain ⟨σ7,H7,I7,q7⟩:=q7; exact ⟨σ7,H7,I7.Aw,q7⟩
  | ret v=>obtain ⟨x7,σ7,H7,I7,r7,q7⟩:=q7; exact ⟨x7,σ7,H7,I7.Aw,r7,q7⟩
end
def PJ {K:PySem.W.Frag} {a:Addr} {xs:List V} {g:TG} {tb:TS} {D:Ends} {σ:St} {H:Hp} (Pv:Nat->St->Hp->Prop) (h0:Pv 0 σ H) (hl:∀ i σ H,i<=xs.length->Pv i σ H->aD K H a xs)
  (hs:∀ i x σ H,xs[i]?=some x->Pv i σ H->g x σ H fun σ2 H2=>tb { D with nx:=Pv (i+1),ct:=Pv (i+1),bk:=D.nx } σ2 H2) (hd:∀ σ H,Pv xs.length σ H->D.nx σ H) :
  ∃ W:Nat->Nat->St->Hp->Prop,(∃ m,W 0 m σ H)/\∀ i m σ H,W i m σ H ->
   ((md K a).stop i H/\D.nx σ H)\/((md K a).go i H/\∃ N:St->Hp->Prop,(∀ σ' H',N σ' H'->∃ m',m' < m/\W (i+1) m' σ' H')/\∀ x H',(md K a).k8 i H x H'->g x σ H' fun σ2 H2=>tb { D with nx:=N,ct:=N,bk:=D.nx } σ2 H2):=by
 refine ⟨fun i m σ H=>m=xs.length - i/\i<=xs.length/\Pv i σ H,⟨xs.length,by simp,wP _,h0⟩,?_⟩;rintro i m σ H ⟨rfl,hi,p⟩;have q:=hl i σ H hi p;by_cases bD:i < xs.length
 ·refine .inr ⟨⟨xs,xs[i],q,by simp [bD]⟩,Pv (i+1),fun σ' H' p'=>⟨xs.length - (i+1),by omega,rfl,bD,p'⟩,fun x H' y=>?_⟩;obtain ⟨e,y⟩:=y;subst e;exact hs i x σ _ (y xs q) p
 ·have e:i=xs.length:=by omega
  subst e;exact .inl ⟨⟨xs,q,ss _⟩,hd σ H p⟩
def aaN {lo:Int} {n:Nat} {g:TG} {tb:TS} {D:Ends} {σ:St} {H:Hp} (Pv:Nat->St->Hp->Prop) (h0:Pv 0 σ H)
  (hs:∀ i σ H,i < n->Pv i σ H->g (.int (lo+i)) σ H fun σ2 H2=>tb { D with nx:=Pv (i+1),ct:=Pv (i+1),bk:=D.nx } σ2 H2) (hd:∀ σ H,Pv n σ H->D.nx σ H) :
  ∃ W:Nat->Nat->St->Hp->Prop,(∃ m,W 0 m σ H)/\∀ i m σ H,W i m σ H ->
   ((jF lo n).stop i H/\D.nx σ H)\/((jF lo n).go i H/\∃ N:St->Hp->Prop,(∀ σ' H',N σ' H'->∃ m',m' < m/\W (i+1) m' σ' H')/\∀ x H',(jF lo n).k8 i H x H'->g x σ H' fun σ2 H2=>tb { D with nx:=N,ct:=N,bk:=D.nx } σ2 H2):=by
 refine ⟨fun i m σ H=>m=n - i/\i<=n/\Pv i σ H,⟨n,by simp,wP _,h0⟩,?_⟩;rintro i m σ H ⟨rfl,hi,p⟩;by_cases bD:i < n
 ·refine .inr ⟨bD,Pv (i+1),fun σ' H' p'=>⟨n - (i+1),by omega,rfl,bD,p'⟩,fun x H' y=>?_⟩;obtain ⟨e,y⟩:=y;subst e y;exact hs i σ _ bD p
 ·have e:i=n:=by omega
  subst e;exact .inl ⟨ss _,hd σ H p⟩
abbrev R2:=V->V->Hp->VK->Prop
def bb (X:Cx) (f:Value->Value->Sem Value) (r:R2):Prop :=
 ∀ (pins:List (Addr×Obj)) (s:Shared) (σ:St) (H:Hp) (x y:V) (v u:Value) (Q:VK),Inv X pins σ H s->RelV x v->RelV y u->r x y H Q ->
  wpAny (model X.prog X.w) X.A (f v u) (EP X pins σ Q) X.xe s
def uD (X:Cx) (f:Value->Sem Value) (r:V->Hp->VK->Prop):Prop :=
 ∀ (pins:List (Addr×Obj)) (s:Shared) (σ:St) (H:Hp) (x:V) (v:Value) (Q:VK),Inv X pins σ H s->RelV x v->r x H Q ->
  wpAny (model X.prog X.w) X.A (f v) (EP X pins σ Q) X.xe s
def cM (X:Cx) (f:Value) (r:List V->Hp->VK->Prop):Prop :=
 ∀ (pins:List (Addr×Obj)) (s:Shared) (σ:St) (H:Hp) (xs:List V) (us:List Value) (Q:VK),Inv X pins σ H s->Vals xs us->r xs H Q ->
  wpAny (model X.prog X.w) X.A (call f us) (EP X pins σ Q) X.xe s
def lz (r:R2) (ta tb:TE):TE:=fun σ H Q=>ta σ H fun x H1=>tb σ H1 fun y H2=>r x y H2 Q
def B1 (r:V->Hp->VK->Prop) (ta:TE):TE:=fun σ H Q=>ta σ H fun x H1=>r x H1 Q
def rI (C:Int->Int->Prop) (g:Int->Int->V):R2:=fun x y H Q=>∃ i j,x=.int i/\y=.int j/\C i j/\Q (g i j) H
def nI (g:Int->Int->V):R2:=fun x y H Q=>∃ i j,x=.int i/\y=.int j/\Q (g i j) H
def rU (g:Int->V):V->Hp->VK->Prop:=fun x H Q=>∃ i,x=.int i/\Q (g i) H
section
variable {X:Cx} {a b c:Expr} {ta tb tc:TE} {pos:Pos}
def Eg (ha:PE X a ta) (hb:PE X b tb) {pins:List (Addr×Obj)} {s:Shared} {σ:St} {H:Hp} {R:V->V->Hp->Prop} (I:Inv X pins σ H s)
  (h:ta σ H fun x H1=>tb σ H1 fun y H2=>R x y H2) {Q:Value->Shared->Prop} {f:Value->Value->Sem Value}
  (hf:∀ v u s2 x y H2,Inv X pins σ H2 s2->RelV x v->RelV y u->R x y H2->wpAny (model X.prog X.w) X.A (f v u) Q X.xe s2) :
  wpAny (model X.prog X.w) X.A (eval a X.env) (fun v s₁=>wpAny (model X.prog X.w) X.A (eval b X.env) (fun u s₂=>wpAny (model X.prog X.w) X.A (f v u) Q X.xe s₂) X.xe s₁) X.xe s:=by
 refine aF (ha pins s σ H _ I h) fun v s1 ⟨x,H1,I1,r1,q1⟩=>?_;refine aF (hb pins s1 σ H1 _ I1 q1) fun u s2 ⟨y,H2,I2,r2,q2⟩=>?_;exact hf v u s2 x y H2 I2 r1 r2 q2
def Wr {op:Operator} {r:R2} (ho:bb X (binaryOp op) r) (ha:PE X a ta) (hb:PE X b tb):PE X (.BinOp a op b pos) (lz r ta tb):=by
 intro pins s σ H Q I h;exact wpAny_BinOp (Eg ha hb I h fun v u s2 x y H2 I2 rx ry q=>ho pins s2 σ H2 x y v u Q I2 rx ry q)
def Ug {op:UnaryOp} {r:V->Hp->VK->Prop} (ho:uD X (unaryOp op) r) (ha:PE X a ta):PE X (.UnaryOp op a pos) (B1 r ta):=by
 intro pins s σ H Q I h;exact UnaryOp_ (aF (ha pins s σ H _ I h) fun v s1 ⟨x,H1,I1,r1,q1⟩=>ho pins s1 σ H1 x v Q I1 r1 q1)
def xU {f:Value->Value->Sem Value} {C:Int->Int->Prop} {g:Int->Int->Int}
  (rule:∀ (i j:Int) (t u:Tok) (s:Shared) (Q:Value->Shared->Prop) (E:Value->Shared->Prop),C i j->Q (.int (g i j) s.toks) { s with toks:=s.toks+1 }->wpAny (model X.prog X.w) X.A (f (.int i t) (.int j u)) Q E s) :
  bb X f (rI C fun i j=>.int (g i j)):=by
 intro pins s σ H x y v u Q I rx ry h;obtain ⟨i,j,rfl,rfl,hc,q⟩:=h;obtain ⟨t,rfl⟩:=rx;obtain ⟨t',rfl⟩:=ry;exact rule i j t t' s _ _ hc ⟨.int (g i j),H,I.tok _,⟨_,rfl⟩,q⟩
def aaL {f:Value->Value->Sem Value} {g:Int->Int->Int}
  (rule:∀ (i j:Int) (t u:Tok) (s:Shared) (Q:Value->Shared->Prop) (E:Value->Shared->Prop),Q (.int (g i j) s.toks) { s with toks:=s.toks+1 }->wpAny (model X.prog X.w) X.A (f (.int i t) (.int j u)) Q E s) :
  bb X f (nI fun i j=>.int (g i j)):=by
 intro pins s σ H x y v u Q I rx ry h;obtain ⟨i,j,rfl,rfl,q⟩:=h;obtain ⟨t,rfl⟩:=rx;obtain ⟨t',rfl⟩:=ry;exact rule i j t t' s _ _ ⟨.int (g i j),H,I.tok _,⟨_,rfl⟩,q⟩
def zk {f:Value->Value->Sem Value} {g:Int->Int->Bool}
  (rule:∀ (i j:Int) (t u:Tok) (s:Shared) (Q:Value->Shared->Prop) (E:Value->Shared->Prop),Q (.bool (g i j)) s->wpAny (model X.prog X.w) X.A (f (.int i t) (.int j u)) Q E s) :
  bb X f (nI fun i j=>.bl (g i j)):=by
 intro pins s σ H x y v u Q I rx ry h;obtain ⟨i,j,rfl,rfl,q⟩:=h;obtain ⟨t,rfl⟩:=rx;obtain ⟨t',rfl⟩:=ry;exact rule i j t t' s _ _ ⟨.bl (g i j),H,I,rfl,q⟩
def Hv (i j:Int):Prop:=0 < j/\j < 1073741824
def Nc (i j:Int):Prop:=0<=j/\j<=1000000/\i.natAbs < 2 ^ 64
def wY (i j:Int):Prop:=(-(2 ^ 64) < i/\i < 2 ^ 64)\/(-(2 ^ 64) < j/\j < 2 ^ 64)
def wY.ok {i j:Int} (h:wY i j):IntMulOk i j:=by
 rcases h with ⟨h1,h2⟩ | ⟨h1,h2⟩
 ·exact .of_left (intBits_le_64 h1 h2)
 ·exact .of_right (intBits_le_64 h1 h2)
def PD:bb X (binaryOp .Add) (nI fun i j=>.int (i+j)):=aaL fun _ _ _ _ _ _ _ q=>add_int q
def Y6:bb X (binaryOp .Mult) (rI wY fun i j=>.int (i * j)):=xU fun _ _ _ _ _ _ _ hc q=>mul_int q hc.ok
def Yy:bb X (binaryOp .FloorDiv) (rI Hv fun i j=>.int (i / j)):=xU fun i j _ _ _ _ _ hc q=>by
 have h1:(0:Int) < j:=hc.1;have h2:j < 1073741824:=hc.2;exact floordiv_int (by omega) (by rw [Int.fdiv_eq_ediv_of_nonneg i (by omega)]; exact q) (.inl (PyProof.noPylong_small (by omega)))
def ZX:bb X (binaryOp .Mod) (rI (fun _ j=>0 < j) fun i j=>.int (i % j)):=xU fun i j _ _ _ _ _ hc q=>by
 have h1:(0:Int) < j:=hc;exact mod_int' (by omega) (by rw [Int.fmod_eq_emod_of_nonneg i (by omega)]; exact q)
def Wn:bb X (binaryOp .Pow) (rI Nc fun i j=>.int (i ^ j.toNat)):=xU fun _ _ _ _ _ _ _ hc q=>pow_int_small hc.1 hc.2.1 hc.2.2 q
def UQ {f:Value->Sem Value} {g:Int->Int}
  (rule:∀ (i:Int) (t:Tok) (s:Shared) (Q:Value->Shared->Prop) (E:Value->Shared->Prop),Q (.int (g i) s.toks) { s with toks:=s.toks+1 }->wpAny (model X.prog X.w) X.A (f (.int i t)) Q E s) :
  uD X f (rU fun i=>.int (g i)):=by
 intro pins s σ H x v Q I rx h;obtain ⟨i,rfl,q⟩:=h;obtain ⟨t,rfl⟩:=rx;exact rule i t s _ _ ⟨.int (g i),H,I.tok _,⟨_,rfl⟩,q⟩
def Sl:uD X (unaryOp .USub) (rU fun i=>.int (-i)):=UQ fun _ _ _ _ _ q=>neg_int q
end
def ym:V->V->Bool
 | .ay,.ay=>true | .ay,.int _=>true | .int _,.ay=>true | .ay,.bl _=>true | .bl _,.ay=>true | .ay,.str _=>true | .str _,.ay=>true
 | .int _,.int _=>true | .bl _,.bl _=>true | .str _,.str _=>true | .byt _,.byt _=>true
 | .int _,.str _=>true | .str _,.int _=>true | .bl _,.str _=>true | .str _,.bl _=>true
 | _,_=>false
def VJ:R2:=fun x y H Q=>ym x y=true/\Q (.bl (decide (x=y))) H
def RK:R2:=fun x y H Q=>ym x y=true/\Q (.bl (!decide (x=y))) H
def Hi {i j:Int}:decide (V.int i=V.int j)=(i == j):=by
 rw [UF];simp
def JD {i j:Bool}:decide (V.bl i=V.bl j)=(i == j):=by
 rw [UF];simp
def K4 {i j:Str}:decide (V.str i=V.str j)=(i == j):=by
 rw [UF];simp
def LO {i j:Array UInt8}:decide (V.byt i=V.byt j)=(i.toList == j.toList):=by
 rw [UF];cases i;cases j;simp
section
variable {X:Cx} {a b c:Expr} {ta tb tc:TE} {pos:Pos}
def cx {pins:List (Addr×Obj)} {σ:St} {H:Hp} {s:Shared} {Q:VK} {k k':Bool} (I:Inv X pins σ H s) (q:Q (.bl k) H) (e:k=k'):EP X pins σ Q (.bool k') s:=by
 subst e;exact ⟨.bl k,H,I,rfl,q⟩
def aaf:bb X (compareOp .Eq) VJ:=by
 intro pins s σ H x y v u Q I rx ry h;obtain ⟨hs,q⟩:=h;cases x with
 | ay =>
  cases rx;cases y with
  | ay=>cases ry; exact PySem.EqNone.eq_none_none (cx I q (by simp))
  | bl j=>cases ry; exact PySem.EqNone.eq_none_bool (cx I q (by simp))
  | int j=>obtain ⟨t',rfl⟩:=ry; exact PySem.EqNone.eq_none_int (cx I q (by simp))
  | str j=>obtain ⟨t',rfl⟩:=ry; exact PySem.EqNone.eq_none_str (cx I q (by simp))
  | _=>exact absurd (show false=true from hs) ut
 | bl i =>
  cases rx;cases y with
  | ay=>cases ry; exact PySem.EqNone.eq_bool_none (cx I q (by simp))
  | bl j=>cases ry; exact eq_bool (cx I q JD)
  | str j=>obtain ⟨t',rfl⟩:=ry; exact PySem.EqMixed.eq_bool_str (cx I q (by simp))
  | _=>exact absurd (show false=true from hs) ut
 | int i =>
  obtain ⟨t,rfl⟩:=rx;cases y with
  | ay=>cases ry; exact PySem.EqNone.eq_int_none (cx I q (by simp))
  | int j=>obtain ⟨t',rfl⟩:=ry; exact eq_int (cx I q Hi)
  | str j=>obtain ⟨t',rfl⟩:=ry; exact PySem.EqMixed.eq_int_str (cx I q (by simp))
  | _=>exact absurd (show false=true from hs) ut
 | str i =>
  obtain ⟨t,rfl⟩:=rx;cases y with
  | ay=>cases ry; exact PySem.EqNone.eq_str_none (cx I q (by simp))
  | bl j=>cases ry; exact PySem.EqMixed.eq_str_bool (cx I q (by simp))
  | int j=>obtain ⟨t',rfl⟩:=ry; exact PySem.EqMixed.eq_str_int (cx I q (by simp))
  | str j=>obtain ⟨t',rfl⟩:=ry; exact eq_str (cx I q K4)
  | _=>exact absurd (show false=true from hs) ut
 | byt i =>
  obtain ⟨t,rfl⟩:=rx;cases y with
  | byt j=>obtain ⟨t',rfl⟩:=ry; exact PySem.W.eq_bytes (cx I q LO)
  | _=>exact absurd (show false=true from hs) ut
 | _=>cases y <;> exact absurd (show false=true from hs) ut
def Ry:bb X (compareOp .NotEq) RK:=by
 intro pins s σ H x y v u Q I rx ry h;obtain ⟨hs,q⟩:=h;cases x with
 | ay =>
  cases rx;cases y with
  | ay=>cases ry; exact PySem.EqNone.ne_none_none (cx I q (by simp))
  | bl j=>cases ry; exact PySem.EqNone.ne_none_bool (cx I q (by simp))
  | int j=>obtain ⟨t',rfl⟩:=ry; exact PySem.EqNone.ne_none_int (cx I q (by simp))
  | str j=>obtain ⟨t',rfl⟩:=ry; exact PySem.EqNone.ne_none_str (cx I q (by simp))
  | _=>exact absurd (show false=true from hs) ut
 | bl i =>
  cases rx;cases y with
  | ay=>cases ry; exact PySem.EqNone.ne_bool_none (cx I q (by simp))
  | bl j=>cases ry; exact ne_bool (cx I q (NE not JD))
  | str j=>obtain ⟨t',rfl⟩:=ry; exact PySem.EqMixed.ne_bool_str (cx I q (by simp))
  | _=>exact absurd (show false=true from hs) ut
 | int i =>
  obtain ⟨t,rfl⟩:=rx;cases y with
  | ay=>cases ry; exact PySem.EqNone.ne_int_none (cx I q (by simp))
  | int j=>obtain ⟨t',rfl⟩:=ry; exact ne_int (cx I q (NE not Hi))
  | str j=>obtain ⟨t',rfl⟩:=ry; exact PySem.EqMixed.ne_int_str (cx I q (by simp))
  | _=>exact absurd (show false=true from hs) ut
 | str i =>
  obtain ⟨t,rfl⟩:=rx;cases y with
  | ay=>cases ry; exact PySem.EqNone.ne_str_none (cx I q (by simp))
  | bl j=>cases ry; exact PySem.EqMixed.ne_str_bool (cx I q (by simp))
  | int j=>obtain ⟨t',rfl⟩:=ry; exact PySem.EqMixed.ne_str_int (cx I q (by simp))
  | str j=>obtain ⟨t',rfl⟩:=ry; exact ne_str (cx I q (NE not K4))
  | _=>exact absurd (show false=true from hs) ut
 | byt i =>
  obtain ⟨t,rfl⟩:=rx;cases y with
  | byt j=>obtain ⟨t',rfl⟩:=ry; exact PySem.W.ne_bytes (cx I q (NE not LO))
  | _=>exact absurd (show false=true from hs) ut
 | _=>cases y <;> exact absurd (show false=true from hs) ut
def UC:bb X (compareOp .Lt) (nI fun i j=>.bl (decide (i < j))):=zk fun _ _ _ _ _ _ _ q=>lt_int q
def Xk:bb X (compareOp .LtE) (nI fun i j=>.bl (decide (i<=j))):=zk fun _ _ _ _ _ _ _ q=>le_int q
def Xm:bb X (compareOp .Gt) (nI fun i j=>.bl (decide (j < i))):=zk fun _ _ _ _ _ _ _ q=>gt_int q
def Ut:bb X (compareOp .In) (fun x y H Q=>∃ i j,x=.str i/\y=.str j/\Q (.bl (!(Builtin.Str.occurrences j i 0 j.length 1).isEmpty)) H):=by
 intro pins s σ H x y v u Q I rx ry h;obtain ⟨i,j,rfl,rfl,q⟩:=h;obtain ⟨t,rfl⟩:=rx;obtain ⟨t',rfl⟩:=ry;exact in_str (cx I q rfl)
def xN:bb X (compareOp .Is) (fun x y H Q=>y=.ay/\Q (.bl (decide (x=.ay))) H):=by
 intro pins s σ H x y v u Q I rx ry h;obtain ⟨rfl,q⟩:=h;cases ry;refine is_none_gen (cx I q ?_);cases x <;> first
  | (cases rx; rfl)
  | (obtain ⟨t,rfl⟩:=rx; rfl)
def MQ:bb X (compareOp .IsNot) (fun x y H Q=>y=.ay/\Q (.bl (!decide (x=.ay))) H):=by
 intro pins s σ H x y v u Q I rx ry h;obtain ⟨rfl,q⟩:=h;cases ry;refine isnot_none_gen (cx I q ?_);cases x <;> first
  | (cases rx; rfl)
  | (obtain ⟨t,rfl⟩:=rx; rfl)
def bb.or {f:Value->Value->Sem Value} {r r':R2} (h:bb X f r) (h':bb X f r'):bb X f (fun x y H Q=>r x y H Q\/r' x y H Q):=by
 intro pins s σ H x y v u Q I rx ry q;rcases q with q | q
 ·exact h pins s σ H x y v u Q I rx ry q
 ·exact h' pins s σ H x y v u Q I rx ry q
def Zo {op:CmpOp} {r:R2} (ho:bb X (compareOp op) r) (ha:PE X a ta) (hb:PE X b tb) (hm:behindInMarks op b=false):PE X (.Compare a [op] [b] pos) (lz r ta tb):=by
 intro pins s σ H Q I h;exact wpAny_Compare1 (Eg ha hb I h fun v u s2 x y H2 I2 rx ry q=>ho pins s2 σ H2 x y v u Q I2 rx ry q) hm
def uw:(sizeLine:Nat) < 2 ^ 63:=by rw [_s]; decide
def Ra:bb X (binaryOp .Add) (fun x y H Q=>∃ i j,x=.str i/\y=.str j/\i.length+j.length<=sizeLine/\Q (.str (i++j)) H):=by
 intro pins s σ H x y v u Q I rx ry h;obtain ⟨i,j,rfl,rfl,hz,q⟩:=h;obtain ⟨t,rfl⟩:=rx;obtain ⟨t',rfl⟩:=ry;exact add_str (fun t' tk=>⟨.str (i++j),H,I.tok _,⟨_,rfl⟩,q⟩) hz
def vals1 {x:V} {us:List Value} (r:Vals [x] us):∃ u,us=[u]/\RelV x u:=by
 cases r with
 | cons r1 r2=>cases r2; exact ⟨_,rfl,r1⟩
def vals2 {x y:V} {us:List Value} (r:Vals [x,y] us):∃ u w',us=[u,w']/\RelV x u/\RelV y w':=by
 cases r with
 | cons r1 r2 =>
  cases r2 with
  | cons r3 r4=>cases r4; exact ⟨_,_,rfl,r1,r3⟩
def ZG (K:PySem.W.Frag) (x:V) (H:Hp) (n:Nat):Prop :=
 match x with
 | .str y=>y.length<=sizeLine/\n=y.length
 | .byt y=>y.size<=sizeLine/\n=y.size
 | .ref p=>(∃ xs,aD K H p xs/\n=xs.length)\/∃ xs,bw K H p xs/\n=xs.length
 | _=>False
def XH:cM X (.builtin "len") (fun xs H Q=>∃ x n,xs=[x]/\ZG X.K x H n/\Q (.int n) H):=by
 intro pins s σ H xs us Q I r h;obtain ⟨x,n,rfl,e,q⟩:=h;obtain ⟨u,rfl,rx⟩:=vals1 r;have hl:=uw;have hs:sizeLine=16777216:=_s;cases x with
 | str y =>
  obtain ⟨t,rfl⟩:=rx;obtain ⟨hy,e'⟩:y.length<=sizeLine/\n=y.length:=e;subst e';exact len_str (by omega) ⟨.int _,H,I.tok _,⟨_,rfl⟩,q⟩
 | byt y =>
  obtain ⟨t,rfl⟩:=rx;obtain ⟨hy,e'⟩:y.size<=sizeLine/\n=y.size:=e;subst e';exact PySem.W.len_bytes (by omega) ⟨.int _,H,I.tok _,⟨_,rfl⟩,q⟩
 | ref p =>
  cases rx;have e':(∃ xs,aD X.K H p xs/\n=xs.length)\/∃ xs,bw X.K H p xs/\n=xs.length:=e;rcases e' with ⟨xs,hx,e'⟩ | ⟨xs,hx,e'⟩
  ·subst e';obtain ⟨aj,r',pl,hz⟩:=I.list hx;have hlen:=r'.length;exact Calls.call_len_list pl.isList (by simp only [sB]; omega) ⟨.int xs.length,H,I.tok _,⟨_,by simp only [sB]; rw [hlen]⟩,q⟩
  ·subst e';obtain ⟨aj,r',pl,hz⟩:=I.tuple hx;have hlen:=r'.length;exact len_tuple pl (by simp only [sB]; omega) ⟨.int xs.length,H,I.tok _,⟨_,by simp only [sB]; rw [hlen]⟩,q⟩
 | _=>exact (show False from e).elim
end
structure oq (h:Heap) (x dx C:Addr) (mA:Str->Option Value):Prop where
 obj:h.get? x=some (PySem.W.instObj C dx)
 ns:h.Ns1 dx mA
 ne:dx≠x
def abP {h:Heap} {dx:Addr} {mA:Str->Option Value} (n:h.Ns1 dx mA):∃ od,h.get? dx=some od/\∀ name,PySem.W.lookIn name od=some (mA name):=by
 obtain ⟨o,es,ep,ho,hd,hk,_,hm⟩:=n;refine ⟨o,ho,fun name=>?_⟩;have e:=hm name;unfold nsFind findBy at e;rw [<- Array.find?_toList] at e;unfold PySem.W.lookIn;rw [hd];dsimp only;split
 ·rename_i y q;rw [q] at e;exact NE some e
 ·rename_i q;rw [q] at e;have a:es.toList.any (·.refKey)=false:=by
   rw [List.any_eq_false];intro y hy;obtain ⟨z,t,hkey⟩:=hk y (Array.mem_toList_iff.mp hy);simp [DictEntry.refKey,hkey]
  have a':¬ es.toList.any (·.refKey)=true:=by rw [a]; exact ut
  rw [wS a'];exact NE some e
def oq.look {h:Heap} {x dx C:Addr} {mA:Str->Option Value} (I:oq h x dx C mA):∃ od,PySem.W.InstAt h x (PySem.W.instObj C dx) C (some od)/\∀ name,PySem.W.lookIn name od=some (mA name) :=
 let ⟨od,ho,hl⟩:=abP I.ns
 ⟨od,⟨I.obj,rfl,rfl,ho⟩,hl⟩
section
variable {prog:Program} {w:World} {A:Around} {E:Value->Shared->Prop} {s:Shared} {K:PySem.W.Frag} {x dx C f:Addr} {mA:Str->Option Value} {name:Str} {v:Value}
def get_map {expr:Bool} {Q:Value->Shared->Prop} (X:K.In s.heap) (I:oq s.heap x dx C mA) (hg:PySem.W.plainGet K C name=true) (hh:PySem.W.hasDictIn K C=true)
  (ha:PySem.W.findIn K (.ref C) name=some none) (hv:mA name=some v) (hv':PySem.W.handedIn v=true) (h:Q v { s with toks:=s.toks+1 }) :
  wpAny (model prog w) A (getAttr (.ref x) name expr) Q E s:=by
 obtain ⟨od,J,hl⟩:=I.look;exact PySem.W.get_value X J (Ja2 hg).1 (PySem.W.findObj_own hh ha rfl (by rw [hl,hv])) hv' h
def RF {pl:Sem Bool} {Q:Value×List Value->Shared->Prop} (X:K.In s.heap) (I:oq s.heap x dx C mA) (hg:PySem.W.plainGet K C name=true)
  (hf:PySem.W.findIn K (.ref C) name=some (some (.ref f))) (ht:PySem.W.isFn K (.ref f)=true) (hv:mA name=none) (h:Q (.ref f,[.ref x]) s) :
  wpAny (model prog w) A (getMethod (.ref x) name pl) Q E s:=by
 obtain ⟨od,J,hl⟩:=I.look;exact PySem.W.method_fn X J (Ja2 hg).1 (Ja2 hg).2 hf (Tk.mp ht) (by show (PySem.W.lookIn name od).map (·.isSome)=some false; rw [hl,hv]; rfl) h
def Yn {ns:List Str} {Q:Unit->Shared->Prop} (X:K.In s.heap) (I:oq s.heap x dx C mA)
  (hs:PySem.W.findIn K (.ref C) "__setattr__" = some (some (.builtin "object.__setattr__"))) (hp:PySem.W.plainOver K C=true) (ht:PySem.W.takerIn K C name=some none) (hh:PySem.W.hasDictIn K C=true)
  (hw:PySem.Within mA ns) (hsz:ns.length<=sizeLine)
  (h:∀ h',oq h' x dx C (fun y=>if y=name then some v else mA y)->Heap.SameBut dx s.heap h'->Q () { s with heap:=h',toks:=s.toks+2 }) :
  wpAny (model prog w) A (setAttr (.ref x) name v) Q E s:=by
 obtain ⟨od,J,hl⟩:=I.look;refine PySem.W.set_plain X J hs (PySem.W.osa_open (s:={ s with toks:=s.toks+1 }) (r:=none) X J hp ht fun b=>?_);obtain ⟨cd,hc,hd'⟩:=PySem.W.any_some hh;have hx:s.heap.get? x=some ⟨.ref C,some dx,.plain,#[]⟩:=I.obj;refine jp (pp (jp (jp (_b hx (jp (PySem.W.Looks.here (s:={ s with toks:=s.toks+1 }) (PySem.W.looks_clsIn X hc) ?_))))));rw [hd'];refine pp (a:=some dx) (jp (pp (jp ?_)));refine wpAny_nsSet1 (s:={ s with toks:=s.toks+1 }) I.ns fun h' iM yw=>?_;obtain ⟨oD,esD,epD,F9,Gf,Gx⟩:=iM.count (PySem.Within.cons name v hw);refine jp (wpAny_lookBehind F9 (by rw [Gf]; exact pastItsLine_dict (wf Gx (by rw [Ev]; omega))) ?_);exact pp (h _ ⟨(yw.2 _ (pi I.ne)).trans I.obj,iM,I.ne⟩ yw)
def VQ {R:Result->Shared->Prop} {vs:List Value} {kw:List (Str×Value)} (X:K.In s.heap) (hm:PySem.W.makesIn K C=true)
  (hi:PySem.W.findIn K (.ref C) "__init__" = some (some (.ref f))) (hf:PySem.W.typeIn K (.ref f)=some (.type "function"))
  (h:codeAny (model prog w) (A.under (.builtin "type.__call__" ⟨.ref C::vs,kw⟩)) (.call (.ref f) ⟨.ref (s.heap.objs.size+1)::vs,kw⟩) (PySem.W.InitBack (s.heap.objs.size+1) R)
   { s with heap:=(s.heap.push PySem.W.emptyDict).push (PySem.W.instObj C s.heap.objs.size) }) :
  codeAny (model prog w) A (.call (.ref C) ⟨vs,kw⟩) R s:=by
 obtain ⟨hh,g,d,t,os⟩:=s;exact PySem.W.make_core (PySem.W.makes_of X hm) (GM X hi) (fun self=>PySem.W.bind_fn X self hf) (.inl rfl) h
end
def aA (f:Str) (v:V):List (Str×V)->List (Str×V)
 | []=>[(f,v)]
 | (g,x)::r=>if g=f then (g,v)::r else (g,x)::aA f v r
def ef (f g:Str) (v:V):∀ fs:List (Str×V),(aA f v fs).lookup g=if g=f then some v else fs.lookup g
 | []=>by
  show List.lookup g [(f,v)]=_;by_cases h:g=f
  ·have hb:(g == f)=true:=Tk.mpr h;simp only [List.lookup,hb,wT h]
  ·have hb:(g == f)=false:=Ch.mpr h;simp only [List.lookup,hb,wS h]
 | (k,x)::r=>by
  have ih:=ef f g v r;rw [show aA f v ((k,x)::r)=(if k=f then (k,v)::r else (k,x)::aA f v r) from rfl];by_cases hk:k=f
  ·rw [wT hk];by_cases h:g=k
   ·have hb:(g == k)=true:=Tk.mpr h;simp only [List.lookup,hb,wT (h.trans hk)]
   ·have hb:(g == k)=false:=Ch.mpr h;simp only [List.lookup,hb,wS (fun e:g=f=>h (e.trans hk.symm))]
  ·rw [wS hk];by_cases h:g=k
   ·have hb:(g == k)=true:=Tk.mpr h;simp only [List.lookup,hb,wS (fun e:g=f=>hk (h.symm.trans e))]
   ·have hb:(g == k)=false:=Ch.mpr h;simp only [List.lookup,hb];exact ih
def zl (f:Str) (v:V):∀ fs:List (Str×V),f∈(aA f v fs).map (·.1)/\∀ g,g∈fs.map (·.1)->g∈(aA f v fs).map (·.1)
 | []=>⟨by simp [aA],fun g h=>by simp at h⟩
 | (k,x)::r=>by
  obtain ⟨i1,i2⟩:=zl f v r;rw [show aA f v ((k,x)::r)=(if k=f then (k,v)::r else (k,x)::aA f v r) from rfl];by_cases hk:k=f
  ·rw [wT hk];subst hk;exact ⟨by simp,fun g h=>by simpa using h⟩
  ·rw [wS hk];refine ⟨?_,fun g h=>?_⟩
   ·rw [xz];exact Db _ i1
   ·rw [xz] at h ⊢;rcases li.mp h with e | e
    ·exact li.mpr (.inl e)
    ·exact Db _ (i2 g e)
def Ej (f:Str) (v:V):∀ fs:List (Str×V),(aA f v fs).length<=fs.length+1
 | []=>by simp [aA]
 | (k,x)::r=>by
  have ih:=Ej f v r;rw [show aA f v ((k,x)::r)=(if k=f then (k,v)::r else (k,x)::aA f v r) from rfl];by_cases hk:k=f
  ·rw [wT hk,Ev,Ev]; omega
  ·rw [wS hk,Ev,Ev]; omega
def eG.some_of {v:V} {o:Option Value} (r:eG (some v) o):∃ u,o=some u/\RelV v u:=by
 cases o with
 | none=>exact (show False from r).elim
 | some u=>exact ⟨u,rfl,r⟩
def eG.none_of {o:Option Value} (r:eG none o):o=none:=by
 cases o with
 | none=>rfl
 | some u=>exact (show False from r).elim
def QJ {v:V} {u:Value} (r:RelV v u):PySem.W.handedIn u=true:=by
 cases v with
 | ay=>cases (show u=Value.none from r); rfl
 | bl b=>cases (show u=Value.bool b from r); rfl
 | int i=>obtain ⟨t,e⟩:=(show ∃ t,u=Value.int i t from r); cases e; rfl
 | str x=>obtain ⟨t,e⟩:=(show ∃ t,u=Value.str x t from r); cases e; rfl
 | byt b=>obtain ⟨t,e⟩:=(show ∃ t,u=Value.bytes b t from r); cases e; rfl
 | n9 b=>obtain ⟨t,e⟩:=(show ∃ t,u=Value.float b t from r); cases e; rfl
 | ref a=>cases (show u=Value.ref a from r); rfl
 | ty n=>cases (show u=Value.type n from r); rfl
section
variable {P:Program} {w:World} {H H':Hp} {h h':Heap} {a C dx:Addr} {fs fs':List (Str×V)}
def xR (aB:ck P w H h) (e:H a=some (.ins C dx fs)):∃ mA,oq h a dx C mA/\(∀ f,eG (fs.lookup f) (mA f))/\PySem.Within mA (fs.map (·.1))/\fs.length<=1000/\H dx=some (.own a):=by
 obtain ⟨d,z,ne,ob,mA,n,r,q⟩:=(show bM P w H h a (.ins C dx fs) from aB a _ e);exact ⟨mA,⟨ob,n,ne⟩,r,q,z,d⟩
end
structure cS (K:PySem.W.Frag) (C:Addr):Prop where
 pg:PySem.W.plainGet K C Str.empty=true
 hd:PySem.W.hasDictIn K C=true
 po:PySem.W.plainOver K C=true
 sa:PySem.W.findIn K (.ref C) "__setattr__" = some (some (.builtin "object.__setattr__"))
def cS.get {K:PySem.W.Frag} {C:Addr} (c:cS K C) (f:Str):PySem.W.plainGet K C f=true:=c.pg
def bI (K:PySem.W.Frag) (C:Addr) (f:Str):Prop:=PySem.W.findIn K (.ref C) f=some none
def bI.V4 {K:PySem.W.Frag} {C:Addr} {f:Str} (n:bI K C f):PySem.W.takerIn K C f=some none:=by
 unfold PySem.W.takerIn;rw [show PySem.W.findIn K (.ref C) f=some none from n];rfl
structure Con (K:PySem.W.Frag) (C:Addr) (f:Str) (v:V) (u:Value):Prop where
 at_:PySem.W.findIn K (.ref C) f=some (some u)
 rel:RelV v u
 get:PySem.W.specialIn K u "__get__" = some none
 cp:PySem.W.copiedNames.contains f=false
structure Meth (K:PySem.W.Frag) (C:Addr) (m:Str) (f:Addr):Prop where
 at_:PySem.W.findIn K (.ref C) m=some (some (.ref f))
 fn:PySem.W.isFn K (.ref f)=true
 kp:PySem.W.keepIn K (.ref f)=true
section
variable {X:Cx} {pins:List (Addr×Obj)} {σ:St} {H:Hp} {s:Shared} {a C dx:Addr} {fs:List (Str×V)} {f:Str} {v:V} {A:Around} {E:Value->Shared->Prop}
def Jt {b:Bool} {Q:Value->Shared->Prop} (I:Inv X pins σ H s) (e:H a=some (.ins C dx fs)) (c:cS X.K C) (n:bI X.K C f) (l:fs.lookup f=some v)
  (h:∀ u s',Inv X pins σ H s'->RelV v u->Q u s'):wpAny (model X.prog X.w) A (getAttr (.ref a) f b) Q E s:=by
 obtain ⟨mA,O,r,_,_,_⟩:=xR I.aB e;obtain ⟨u,hu,ru⟩:=eG.some_of (v:=v) (o:=mA f) (by rw [<- l]; exact r f);exact get_map I.bV O (c.get f) c.hd n hu (QJ ru) (h u _ (I.tok _) ru)
def Aa {m:Str} {g:Addr} {pl:Sem Bool} {Q:Value×List Value->Shared->Prop} (I:Inv X pins σ H s) (e:H a=some (.ins C dx fs)) (c:cS X.K C) (k:Meth X.K C m g) (l:fs.lookup m=none)
  (h:Q (.ref g,[.ref a]) s):wpAny (model X.prog X.w) A (getMethod (.ref a) m pl) Q E s:=by
 obtain ⟨mA,O,r,_,_,_⟩:=xR I.aB e;have hn:mA m=none:=eG.none_of (by rw [<- l]; exact r m);exact RF I.bV O (c.get m) k.at_ k.fn hn h
def Ld {y:V} {u:Value} {Q:Unit->Shared->Prop} (I:Inv X pins σ H s) (e:H a=some (.ins C dx fs)) (c:cS X.K C) (n:bI X.K C f) (hl:fs.length < 1000) (ry:RelV y u)
  (h:∀ s',Inv X pins σ (upd H a (.ins C dx (aA f y fs))) s'->Q () s'):wpAny (model X.prog X.w) A (setAttr (.ref a) f u) Q E s:=by
 obtain ⟨mA,O,r,wi,_,ho⟩:=xR I.aB e;have hz:(fs.map (·.1)).length<=sizeLine:=by rw [nn,_s]; omega
 refine Yn I.bV O c.sa c.po n.V4 c.hd wi hz fun h' O' sb=>h _ ?_;have hd:∃ o,h'.get? dx=some o:=let ⟨o,_,_,e',_⟩:=O'.ns; ⟨o,e'⟩
 refine I.write (x:=a) (e:=dx) (by rw [e]; exact True.intro) (.inr ho) (fun b q hb z=>(sb.2 b hb).trans z) hd ?_;refine ⟨by rw [ah O.ne]; exact ho,?_,O.ne,O'.obj,_,O'.ns,fun g=>?_,fun g hg=>?_⟩
 ·have:=Ej f y fs; omega
 ·show eG ((aA f y fs).lookup g) (if g=f then some u else mA g);rw [ef];by_cases q:g=f
  ·rw [wT q,wT q]; exact ry
  ·rw [wS q,wS q]; exact r g
 ·by_cases q:g=f
  ·rw [q]; exact (zl f y fs).1
  ·refine (zl f y fs).2 g (wi g fun z=>hg ?_);show (if g=f then some u else mA g)=none;rw [wS q]; exact z
def Inv.made (I:Inv X pins σ H s):Inv X pins σ (upd (upd H s.heap.objs.size (.own (s.heap.objs.size+1))) (s.heap.objs.size+1) (.ins C s.heap.objs.size []))
  { s with heap:=(s.heap.push PySem.W.emptyDict).push (PySem.W.instObj C s.heap.objs.size) }:=by
 have e1:(s.heap.push PySem.W.emptyDict).get? s.heap.objs.size=some PySem.W.emptyDict:=tz s.heap rfl;have e2:((s.heap.push PySem.W.emptyDict).push (PySem.W.instObj C s.heap.objs.size)).get? (s.heap.objs.size+1)=some (PySem.W.instObj C s.heap.objs.size):=by
  have:=tz (s.heap.push PySem.W.emptyDict) (o:=PySem.W.instObj C s.heap.objs.size) rfl
  rwa [Tm] at this
 have e3:(s.heap.push PySem.W.emptyDict).Ns s.heap.objs.size (fun _=>none):=⟨PySem.W.emptyDict,#[],_,e1,rfl,(fun e he=>absurd he (by simp)),fun _=>rfl⟩;have I1:=I.laid (a:=s.heap.objs.size) (o:=.own (s.heap.objs.size+1)) (h':=s.heap.push PySem.W.emptyDict) (t':=s.toks) (fun b u q=>kt _ q) (ss _) ⟨_,e1⟩;refine I1.laid (a:=s.heap.objs.size+1) (o:=.ins C s.heap.objs.size []) (t':=s.toks) (fun b u q=>kt _ q) (Nat.le_of_eq (Tm _ _)) ?_;have ne:s.heap.objs.size≠s.heap.objs.size+1:=ww (KM _);refine ⟨by rw [ah ne,ax],wP _,ne,e2,fun _=>none,(Heap.Ns1.of_empty e3).at fun o q=>kt _ q,fun _=>True.intro,fun y hy=>absurd rfl hy⟩
def HL {prog:Program} {w:World} {env:Env} {e:Expr} {f:Str} {pos:Pos} {s:Shared} {Q:Value->Shared->Prop} (hb:attributeBase e f env (eval e env)=eval e env)
  (h:wpAny (model prog w) A (eval e env) (fun o s₁=>wpAny (model prog w) A (getAttr o f true) Q E s₁) E s):wpAny (model prog w) A (eval (.Attribute e f pos) env) Q E s :=
 Attribute_any_ h (by rw [arm_eval_Attribute,hb])
end
def z0 (X:Cx) (op:Operator) (rd:V->V->Hp->VK->Prop):Prop :=
 ∀ (pins:List (Addr×Obj)) (s:Shared) (σ:St) (H:Hp) (x y:V) (u v:Value) (Q:VK),Inv X pins σ H s->RelV x u->RelV y v->rd x y H Q->wpAny (model X.prog X.w) X.A (inplaceOp op u v) (EP X pins σ Q) X.xe s
section
variable {X:Cx} {o e value:Expr} {f:Str} {pos pos' tpos:Pos} {ta tv:TE}
def Jg:V->V->Hp->VK->Prop:=fun x y H Q=>∃ i j,x=.int i/\y=.int j/\Q (.int (i+j)) H
def jE:z0 X .Add Jg:=by
 rintro pins s σ H x y u v Q I rx ry ⟨i,j,rfl,rfl,q⟩;obtain ⟨t,rfl⟩:=(show ∃ t,u=Value.int i t from rx);obtain ⟨t',rfl⟩:=(show ∃ t',v=Value.int j t' from ry);exact PyProof.Rows.iadd_int ⟨.int (i+j),H,I.tok _,⟨_,rfl⟩,q⟩
end
section
variable {X:Cx} {pins:List (Addr×Obj)} {σ:St} {H:Hp} {s:Shared} {A:Around} {E:Value->Shared->Prop} {Q:Value->Shared->Prop} {c:Value} {b:Bool}
inductive fF (K:PySem.W.Frag) (H:Hp):V->Value->Prop where
 | ay:fF K H .ay (.type "NoneType")
 | bl (x:Bool):fF K H (.bl x) (.type "bool")
 | int (i:Int):fF K H (.int i) (.type "int")
 | str (x:Str):fF K H (.str x) (.type "str")
 | n9 (x:UInt64):fF K H (.n9 x) (.type "float")
 | lst {a:Addr} {xs:List V} (e:H a=some (.lst xs)):fF K H (.ref a) (.type "list")
 | eA {a:Addr} {o:Obj} {xs:List V} (e:H a=some (.eA o (.lst xs))):fF K H (.ref a) (.type "list")
 | tup {a:Addr} {xs:List V} (e:H a=some (.tup xs)):fF K H (.ref a) (.type "tuple")
 | dK {a:Addr} {kvs:List (Key×V)} (e:H a=some (.dK kvs)):fF K H (.ref a) (.type "dict")
 | dT {a:Addr} {kvs:List (List Key×V)} (e:H a=some (.dT kvs)):fF K H (.ref a) (.type "dict")
 | ins {a C dx:Addr} {fs:List (Str×V)} (e:H a=some (.ins C dx fs)) (cl:cS K C) (ha:PySem.W.findIn K (.ref C) "__class__" = some (some (.builtin "object.__class__")))
   (hn:PySem.W.specialIn K (.builtin "object.__class__") "__get__" = some (some (.builtin "getset_descriptor.__get__"))) (f9:PySem.W.takesIn K (.builtin "object.__class__")=some true)
   (hm:PySem.W.mroIn K C (.type "object")=some true):fF K H (.ref a) (.ref C)
def Em {x:V} {u t:Value} (I:Inv X pins σ H s) (rx:RelV x u) (ty:fF X.K H x t) (e:PySem.W.kitOne X.K t c=some b) (h:∀ tk,Q (.bool b) { s with toks:=tk }) :
  wpAny (model X.prog X.w) A (call (.builtin "isinstance") [u,c]) Q E s:=by
 cases ty with
 | ay=>cases (show u=Value.none from rx); exact Ix PySem.W.kitx_none I.bV True.intro e (fun z=>nomatch z) h
 | bl y=>cases (show u=Value.bool y from rx); exact Ix PySem.W.kitx_bool I.bV True.intro e (fun z=>nomatch z) h
 | int i=>obtain ⟨t,q⟩:=(show ∃ t,u=Value.int i t from rx); cases q; exact Ix PySem.W.kitx_int I.bV True.intro e (fun z=>nomatch z) h
 | str y=>obtain ⟨t,q⟩:=(show ∃ t,u=Value.str y t from rx); cases q; exact Ix PySem.W.kitx_str I.bV True.intro e (fun z=>nomatch z) h
 | n9 y=>obtain ⟨t,q⟩:=(show ∃ t,u=Value.float y t from rx); cases q; exact Ix PySem.W.kitx_float I.bV True.intro e (fun z=>nomatch z) h
 | @lst a xs ea =>
  cases (show u=Value.ref a from rx);obtain ⟨_,_,n,_,h1⟩:=(show bM X.prog X.w H s.heap a (.lst xs) from I.aB a _ ea);exact Ix PySem.W.kitx_list I.bV ⟨_,h1,rfl⟩ e (fun z=>nomatch z) h
 | @eA a ob xs ea =>
  cases (show u=Value.ref a from rx);obtain ⟨_,_,_,n,_,h1⟩:=(show bM X.prog X.w H s.heap a (.eA ob (.lst xs)) from I.aB a _ ea);exact Ix PySem.W.kitx_list I.bV ⟨_,h1,rfl⟩ e (fun z=>nomatch z) h
 | @tup a xs ea =>
  cases (show u=Value.ref a from rx);obtain ⟨_,_,_,p⟩:=(show bM X.prog X.w H s.heap a (.tup xs) from I.aB a _ ea);obtain ⟨o,h1,h2,_⟩:=p;exact Ix PySem.W.kitx_tuple I.bV ⟨o,h1,h2⟩ e (fun z=>nomatch z) h
 | @dK a kvs ea =>
  cases (show u=Value.ref a from rx);obtain ⟨_,_,vs,_,p⟩:=(show bM X.prog X.w H s.heap a (.dK kvs) from I.aB a _ ea);obtain ⟨o,es,ep,h1,h2,_⟩:=p;exact Ix PySem.W.kitx_dict I.bV ⟨o,h1,h2.1⟩ e (fun z=>nomatch z) h
 | @dT a kvs ea =>
  cases (show u=Value.ref a from rx);obtain ⟨_,_,xs,_,o,es,ep,h1,h2,_⟩:=(show bM X.prog X.w H s.heap a (.dT kvs) from I.aB a _ ea);exact Ix PySem.W.kitx_dict I.bV ⟨o,h1,h2.1⟩ e (fun z=>nomatch z) h
 | @ins a C dx fs ea cl ha hn f9 hm =>
  cases (show u=Value.ref a from rx);obtain ⟨mA,O,_⟩:=xR I.aB ea;obtain ⟨od,J,_⟩:=O.look;exact Ix (PySem.W.kitx_own (cl.get _) cl.hd ha hn f9 hm) I.bV J e (fun z=>nomatch z) h
end
structure bc (k:Nat) (A:Around):Prop where
 hd:A.handled=none
 dp:A.depth+3 * k+5 < recursionLimit
 un:A.units+16 * k+200 < cLine
def bc.mono {j k:Nat} {A:Around} (r:bc k A) (h:j<=k):bc j A:=⟨r.hd,by have:=r.dp; omega,by have:=r.un; omega⟩
def bc.deeper {k:Nat} {A:Around} (r:bc (k+1) A) (env:Env):bc k (A.deeper env) :=
 ⟨r.hd,by have:=r.dp; show A.depth+1+3 * k+5 < _; omega,by have:=r.un; show A.units+3+16 * k+200 < _; omega⟩
def aaq {A:Around} {C:Addr} {us:List Value} {kw:List (Str×Value)}:(A.under (.builtin "type.__call__" ⟨.ref C::us,kw⟩)).depth=A.depth+1:=by
 first | rfl | simp [Around.under,Code.weight,Code.isCreation,Code.isGuard,Code.isCaller,Code.frames,Code.isFrame,guardIds]
def XY {A:Around} {C:Addr} {us:List Value} {kw:List (Str×Value)}:(A.under (.builtin "type.__call__" ⟨.ref C::us,kw⟩)).units=A.units+1:=by
 first | rfl | simp [Around.under,Code.cUnits,Code.frames,Code.isFrame]
def bc.make {k:Nat} {A:Around} (r:bc (k+1) A) (C:Addr) (us:List Value) (kw:List (Str×Value)):bc k (A.under (.builtin "type.__call__" ⟨.ref C::us,kw⟩)) :=
 ⟨r.hd,by have:=r.dp; rw [aaq]; omega,by have:=r.un; rw [XY]; omega⟩
def bc.depth {k:Nat} {A:Around} (r:bc k A):A.depth < recursionLimit:=by have:=r.dp; omega
def bc.units {k:Nat} {A:Around} (r:bc k A):A.units+64 < cLine:=by have:=r.un; omega
def bc.xp {k:Nat} {A:Around} (r:bc k A):A.units < cLine:=by have:=r.un; omega
def kO:TA:=fun _ H Q=>Q [] H
def oQ (ta:TE) (tr:TA):TA:=fun σ H Q=>ta σ H fun x H1=>tr σ H1 fun xs H2=>Q (x::xs) H2
section
variable {X:Cx} {e:Expr} {es:List Expr} {te:TE} {t:TA} {pos:Pos}
def VW:PA X [] kO:=fun _ _ _ _ H Q I h=>WP ⟨[],H,I,.nil,h⟩
def UA (ha:PE X e te) (hr:PA X es t) (hs:starEach (e::es) X.env=(false,eval e X.env)::starEach es X.env:=by rfl):PA X (e::es) (oQ te t):=by
 intro pos pins s σ H Q I h;rw [hs];show wpAny _ _ (spliced ((false,eval e X.env)::backTo pos (starEach es X.env))) _ _ s;refine Ty (aF (ha pins s σ H _ I h) fun u s1 ⟨x,H1,I1,r1,q1⟩=>?_);exact aF (hr pos pins s1 σ H1 _ I1 q1) fun us s2 ⟨xs,H2,I2,r2,q2⟩=>⟨x::xs,H2,I2,.cons r1 r2,q2⟩
def xT (t:TA):TE:=fun σ H Q=>t σ H fun xs H1=>xs.length<=sizeLine/\∀ p,H1 p=none->Q (.ref p) (upd H1 p (.tup xs))
def zo (t:TA):TE:=fun σ H Q=>t σ H fun xs H1=>xs.length<=sizeLine/\∀ p,H1 p=none->Q (.ref p) (upd H1 p (.lst xs))
def abC {x1} (h:PA X es t):PE X (.Tuple es x1 pos) (xT t):=by
 intro pins s σ H Q I hq;refine wpAny_Tuple_spliced (aF (h pos pins s σ H _ I hq) fun us s1 ⟨xs,H1,I1,r,z,q⟩=>⟨by rw [<- r.length]; exact z,?_⟩);have hf:H1 s1.heap.objs.size=none:=I1.aB.fresh (ss _);refine ⟨.ref s1.heap.objs.size,upd H1 s1.heap.objs.size (.tup xs),I1.laid (t':=s1.toks) (fun b u e=>kt _ e) (ss _) ?_,rfl,q _ hf⟩;exact ⟨z,us,r,⟨_,tz _ rfl,rfl,_,rfl,rfl⟩⟩
def P9 (h:PA X es t):PE X (.List es pos) (zo t):=by
 intro pins s σ H Q I hq;refine wpAny_List_spliced (aF (h pos pins s σ H _ I hq) fun us s1 ⟨xs,H1,I1,r,z,q⟩=>⟨by rw [<- r.length]; exact z,?_⟩);have hf:H1 s1.heap.objs.size=none:=I1.aB.fresh (ss _);refine ⟨.ref s1.heap.objs.size,upd H1 s1.heap.objs.size (.lst xs),I1.laid (t':=s1.toks) (fun b u e=>kt _ e) (ss _) ?_,rfl,q _ hf⟩;exact ⟨z,us,0,r,tz _ rfl⟩
end
abbrev Sp:=List V->Hp->VK->XK->Prop
abbrev dN:=List Env->Hp->Shared->XK->Value->Shared->Prop
structure kF (P:Program) (w:World) (K:PySem.W.Frag) (mg:Str->Option Value) (base:Heap) (A:Around) (outer:List Env) (s:Shared) (H:Hp):Prop where
 frames:A.frames=some outer
 mod:Mod K mg base
 bs:∀ b o,base.get? b=some o->s.heap.get? b=some o/\H b=none
 gI:base.objs.size<=s.heap.objs.size
 eY:s.heap.FunFrames base outer
 iV:∀ b∈bQ outer,H b=none
 aB:ck P w H s.heap
 bare:AllBare s.gens
def CE (outer:List Env) (P:Program) (w:World) (H:Hp) (s:Shared) (Q:VK) (u:Value) (s':Shared):Prop :=
 ∃ v H',s'.os=s.os/\AllBare s'.gens/\Un (bQ outer) [] H H' s.heap s'.heap/\ck P w H' s'.heap/\RelV v u/\Q v H'
def CR (CX:dN) (outer:List Env) (P:Program) (w:World) (H:Hp) (s:Shared) (Q:VK) (E:XK) (r:Result) (s':Shared):Prop :=
 match r with
 | .ok (.ret u)=>CE outer P w H s Q u s'
 | .ok _=>False
 | .error e=>CX outer H s E e s'
structure aC (P:Program) (w:World) (K:PySem.W.Frag) (mg:Str->Option Value) (base:Heap) (CX:dN) (k:Nat) (f:Addr) (fd:FuncData) (ps:List Str) (sp:Sp):Prop where
 len:∀ vs H Q E,sp vs H Q E->vs.length=ps.length
 run:∀ (A:Around) (outer:List Env) (s:Shared) (H:Hp) (args:Args) (us:List Value) (vs:List V) (Q:VK) (E:XK),bc k A->kF P w K mg base A outer s H->BindsTo s fd args (ps.zip us)->Vals vs us->sp vs H Q E ->
  codeAny (model P w) A (.call (.ref f) args) (CR CX outer P w H s Q E) s
def kF.make {P:Program} {w:World} {K:PySem.W.Frag} {mg:Str->Option Value} {base:Heap} {A:Around} {outer:List Env} {s:Shared} {H:Hp} (e:kF P w K mg base A outer s H) (C:Addr) (us:List Value) (kw:List (Str×Value)) :
  kF P w K mg base (A.under (.builtin "type.__call__" ⟨.ref C::us,kw⟩)) outer s H:=⟨by first | exact e.frames | (simpa [Around.under,Code.envs,Code.isFrame,pushEnvs] using e.frames),e.mod,e.bs,e.gI,e.eY,e.iV,e.aB,e.bare⟩
section
variable {X:Cx} {pins:List (Addr×Obj)} {σ:St} {H:Hp} {s s':Shared}
def Inv.pV (I:Inv X pins σ H s):kF X.prog X.w X.K X.mg X.base X.A X.stack s H :=
 ⟨I.ok.frames,I.ok.mod,I.bs,wf I.ok.gI I.sz,I.stack,I.wm,I.aB,I.bare⟩
def Inv.after {Q:VK} {u:Value} (I:Inv X pins σ H s) (h:CE X.stack X.prog X.w H s Q u s'):EP X pins σ Q u s':=by
 obtain ⟨v,H',os,bare,un,aB,r,q⟩:=h;obtain ⟨hh,g,d,t,os'⟩:=s';obtain rfl:os'=s.os:=os;exact ⟨v,H',I.call (h':=hh) (g':=g) (d':=d) (t':=t) (ch:=[]) un aB bare (fun b z=>absurd z (by simp)),r,q⟩
end
def wt (sp:Sp) (bt:List V) (E:XK) (t:TA):TE:=fun σ H Q=>t σ H fun vs H1=>sp (vs++bt) H1 Q E
inductive MI (C:Addr) (m:Str) (x:V) (H:Hp) (q:Prop):Prop
 | mk:∀ a dx fs,x=.ref a->H a=some (.ins C dx fs)->fs.lookup m=none->q->MI C m x H q
def qT (C:Addr) (m:Str) (sp:Sp) (bt:List V) (E:XK) (ta:TE) (t:TA):TE:=fun σ H Q=>ta σ H fun x H1=>MI C m x H1 (t σ H1 fun vs H2=>sp (x::(vs++bt)) H2 Q E)
def uU (C:Addr) (sp:Sp) (bt:List V) (E:XK) (t:TA):TE:=fun σ H Q=>t σ H fun vs H1=>∀ x dx,H1 x=none->H1 dx=none->dx≠x ->
 sp (.ref x::(vs++bt)) (upd (upd H1 dx (.own x)) x (.ins C dx [])) (fun v H2=>v=.ay/\Q (.ref x) H2) E
def Binds (K:PySem.W.Frag) (fd:FuncData) (ps:List Str) (ds:List Value):Prop :=
 ∀ (s:Shared) (us:List Value),K.In s.heap->(us++ds).length=ps.length->BindsTo s fd ⟨us,[]⟩ (ps.zip (us++ds))
def Binds.all {K:PySem.W.Frag} {fd:FuncData} {ps:List Str} (h:∀ us:List Value,us.length=ps.length->bindArgs fd ⟨us,[]⟩=pure (ps.zip us)):Binds K fd ps []:=fun s us _ hl=>by
 rw [_o] at hl ⊢;exact .of_eq (h us hl)
def Passes (CX:dN) (X:Cx) (E:XK):Prop:=∀ (pins:List (Addr×Obj)) (σ:St) (H:Hp) (s:Shared) (e:Value) (s':Shared),Inv X pins σ H s->CX X.stack H s E e s'->X.xe e s'
section
variable {X:Cx} {CX:dN} {k:Nat} {f C:Addr} {fd:FuncData} {ps:List Str} {sp:Sp} {bt:List V} {ds:List Value} {E:XK} {x m:Str} {p pos apos:Pos} {e o:Expr} {es:List Expr} {ta:TE} {t:TA}
def Bp {pins:List (Addr×Obj)} {σ:St} {H:Hp} {s:Shared} {Q:VK} {us:List Value} {vs:List V} (F:aC X.prog X.w X.K X.mg X.base CX k f fd ps sp) (hr:bc k X.A) (hb:Binds X.K fd ps ds) (hd:Vals bt ds) (hx:Passes CX X E)
  (I:Inv X pins σ H s) (r:Vals vs us) (h:sp (vs++bt) H Q E):wpAny (model X.prog X.w) X.A (call (.ref f) us) (EP X pins σ Q) X.xe s:=by
 have r2:Vals (vs++bt) (us++ds):=r.append hd;have hl:(us++ds).length=ps.length:=by rw [<- r2.length]; exact F.len _ _ _ _ h
 refine TD (_k (F.run X.A X.stack s H ⟨us,[]⟩ (us++ds) (vs++bt) Q E hr I.pV (hb s us I.bV hl) r2 h) fun r s' hq=>?_);cases r with
 | error e=>exact hx pins σ H s e s' I hq
 | ok fl =>
  cases fl with
  | ret u=>exact I.after hq
  | next=>exact False.elim hq
  | brk=>exact False.elim hq
  | cont=>exact False.elim hq
def Va (F:aC X.prog X.w X.K X.mg X.base CX k f fd ps sp) (hr:bc k X.A) (hg:Gl X x) (hm:X.mg x=some (.ref f)) (hk:PySem.W.keepIn X.K (.ref f)=true) (hb:Binds X.K fd ps ds) (hd:Vals bt ds) (hx:Passes CX X E)
  (ha:PA X (e::es) t) (bR:(x == ("__debug__" : Str))=false:=by decide) (he:starEach (e::es) X.env=(false,eval e X.env)::starEach es X.env:=by rfl) (bB:(backTo pos (starEach es X.env)).any (·.1)=false:=by rfl) :
  PE X (.Call (.Name x p) (e::es) [] pos) (wt sp bt E t):=by
 intro pins s σ H Q I h;refine GE (lA I hg hm ?_ bR);refine Os (h₀:=X.base) I.ok.mod.ia hk (aF (ha pos pins s σ H _ I h) fun us s1 ⟨vs,H1,I1,r,q⟩=>⟨I1.bV,?_⟩) he bB;exact Bp F hr hb hd hx I1 r q
def aat {pl:Sem Bool} (he:PE X o ta) (c:cS X.K C) (hm:Meth X.K C m f) (F:aC X.prog X.w X.K X.mg X.base CX k f fd ps sp) (hr:bc k X.A) (hb:Binds X.K fd ps ds) (hd:Vals bt ds) (hx:Passes CX X E) (ha:PA X (e::es) t)
  (aU:starEach (e::es) X.env=(false,eval e X.env)::starEach es X.env:=by rfl) (bB:(backTo pos (starEach es X.env)).any (·.1)=false:=by rfl)
  (ht:eval (.Call (.Attribute o m apos) (e::es) [] pos) X.env=(do
   let ov <- eval o X.env
   standAt apos.atName
   let (f,first) <- holding [ov] (getMethod ov m pl)
   callWith pos f first (backTo pos (starEach (e::es) X.env)) (backToKw pos (keywordEach [] X.env))):=by rfl) :
  PE X (.Call (.Attribute o m apos) (e::es) [] pos) (qT C m sp bt E ta t):=by
 intro pins s σ H Q I h;refine _P (pl:=pl) (aF (he pins s σ H _ I h) fun u s1 ⟨x,H1,I1,rx,a,dx,fs,ex,ea,l,q⟩=>?_) ht;subst ex;obtain rfl:u=Value.ref a:=rx;refine Aa I1 ea c hm l ?_;refine Os (first:=[.ref a]) (h₀:=X.base) I.ok.mod.ia hm.kp (aF (ha pos pins s1 σ H1 _ I1 q) fun us s2 ⟨vs,H2,I2,r,q2⟩=>⟨I2.bV,?_⟩) aU bB;exact Bp (us:=.ref a::us) (vs:=.ref a::vs) F hr hb hd hx I2 (.cons rfl r) q2
def aaW {pl:Sem Bool} (he:PE X o ta) (c:cS X.K C) (hm:Meth X.K C m f) (F:aC X.prog X.w X.K X.mg X.base CX k f fd ps sp) (hr:bc k X.A) (hb:Binds X.K fd ps ds) (hd:Vals bt ds) (hx:Passes CX X E)
  (ht:eval (.Call (.Attribute o m apos) [] [] pos) X.env=(do
   let ov <- eval o X.env
   standAt apos.atName
   let (f,first) <- holding [ov] (getMethod ov m pl)
   callWith pos f first (backTo pos (starEach [] X.env)) (backToKw pos (keywordEach [] X.env))):=by rfl) :
  PE X (.Call (.Attribute o m apos) [] [] pos) (qT C m sp bt E ta kO):=by
 intro pins s σ H Q I h;refine _P (pl:=pl) (aF (he pins s σ H _ I h) fun u s1 ⟨x,H1,I1,rx,a,dx,fs,ex,ea,l,q⟩=>?_) ht;subst ex;obtain rfl:u=Value.ref a:=rx;refine Aa I1 ea c hm l ?_;exact PySem.W.callWith_K0 (first:=[.ref a]) I1.bV hm.kp (Bp (us:=[.ref a]) (vs:=[.ref a]) F hr hb hd hx I1 (.cons rfl .nil) q)
structure Mk (K:PySem.W.Frag) (C f:Addr):Prop where
 makes:PySem.W.makesIn K C=true
 init:PySem.W.findIn K (.ref C) "__init__" = some (some (.ref f))
 fn:PySem.W.isFn K (.ref f)=true
 kp:PySem.W.keepIn K (.ref C)=true
def HK {pins:List (Addr×Obj)} {σ:St} {H:Hp} {s:Shared} {Q:VK} {us:List Value} {vs:List V} (M:Mk X.K C f) (F:aC X.prog X.w X.K X.mg X.base CX k f fd ps sp) (hr:bc (k+1) X.A) (hb:Binds X.K fd ps ds) (hd:Vals bt ds)
  (hx:Passes CX X E) (I:Inv X pins σ H s) (r:Vals vs us)
  (h:∀ x dx,H x=none->H dx=none->dx≠x->sp (.ref x::(vs++bt)) (upd (upd H dx (.own x)) x (.ins C dx [])) (fun v H2=>v=.ay/\Q (.ref x) H2) E) :
  wpAny (model X.prog X.w) X.A (call (.ref C) us) (EP X pins σ Q) X.xe s:=by
 have hq:=h (s.heap.objs.size+1) s.heap.objs.size (I.aB.fresh (_3 _)) (I.aB.fresh (ss _)) (ww (KM _));have I2:=Inv.made (C:=C) I;have r2:Vals (V.ref (s.heap.objs.size+1)::(vs++bt)) (Value.ref (s.heap.objs.size+1)::(us++ds)):=.cons rfl (r.append hd);have hl:(Value.ref (s.heap.objs.size+1)::us++ds).length=ps.length:=by
  have e:=r2.length;rw [F.len _ _ _ _ hq] at e;exact e.symm
 refine TD (VQ (f:=f) I.bV M.makes M.init (Tk.mp M.fn) (_k (F.run _ X.stack _ _ ⟨Value.ref (s.heap.objs.size+1)::us,[]⟩ (Value.ref (s.heap.objs.size+1)::(us++ds)) _ _ E (hr.make C us [])
  (I2.pV.make C us []) (hb _ (Value.ref (s.heap.objs.size+1)::us) I2.bV hl) r2 hq) fun r s' hq'=>?_))
 cases r with
 | error e=>exact hx pins σ _ _ e s' I2 hq'
 | ok fl =>
  cases fl with
  | ret u =>
   obtain ⟨v,H',I3,rv,ev,q3⟩:=I2.after hq';subst ev;exact ⟨rv,⟨V.ref (s.heap.objs.size+1),H',I3,rfl,q3⟩⟩
  | next=>exact False.elim hq'
  | brk=>exact False.elim hq'
  | cont=>exact False.elim hq'
def Wi (M:Mk X.K C f) (F:aC X.prog X.w X.K X.mg X.base CX k f fd ps sp) (hr:bc (k+1) X.A) (hg:Gl X x) (hm:X.mg x=some (.ref C)) (hb:Binds X.K fd ps ds) (hd:Vals bt ds) (hx:Passes CX X E)
  (ha:PA X (e::es) t) (bR:(x == ("__debug__" : Str))=false:=by decide) (he:starEach (e::es) X.env=(false,eval e X.env)::starEach es X.env:=by rfl) (bB:(backTo pos (starEach es X.env)).any (·.1)=false:=by rfl) :
  PE X (.Call (.Name x p) (e::es) [] pos) (uU C sp bt E t):=by
 intro pins s σ H Q I h;refine GE (lA I hg hm ?_ bR);refine Os (h₀:=X.base) I.ok.mod.ia M.kp (aF (ha pos pins s σ H _ I h) fun us s1 ⟨vs,H1,I1,r,q⟩=>⟨I1.bV,?_⟩) he bB;exact HK M F hr hb hd hx I1 r q
def Ve (M:Mk X.K C f) (F:aC X.prog X.w X.K X.mg X.base CX k f fd ps sp) (hr:bc (k+1) X.A) (hg:Gl X x) (hm:X.mg x=some (.ref C)) (hb:Binds X.K fd ps ds) (hd:Vals bt ds) (hx:Passes CX X E)
  (bR:(x == ("__debug__" : Str))=false:=by decide):PE X (.Call (.Name x p) [] [] pos) (uU C sp bt E kO):=by
 intro pins s σ H Q I h;refine GE (lA I hg hm ?_ bR);exact PySem.W.callWith_K0 I.bV M.kp (HK (us:=[]) M F hr hb hd hx I .nil h)
end
section
variable {X:Cx} {CX:dN} {k:Nat} {f C:Addr} {fd:FuncData} {ps ks:List Str} {sp:Sp} {E:XK} {x m:Str} {p pos apos kpos:Pos} {e o:Expr} {es:List Expr} {kws:List Keyword} {te ta:TE} {t tk:TA} {nm:Option Str}
structure ab9 (K:PySem.W.Frag) (fd:FuncData) (ps ks:List Str) (g:List Value->List Value->List Value) (gV:List V->List V->List V):Prop where
 to:∀ (s:Shared) (us ws:List Value),K.In s.heap->(g us ws).length=ps.length->BindsTo s fd ⟨us,ks.zip ws⟩ (ps.zip (g us ws))
 rel:∀ {vs:List V} {us:List Value} {zs:List V} {ws:List Value},Vals vs us->Vals zs ws->Vals (gV vs zs) (g us ws)
def Vg (sp:Sp) (gV:List V->List V->List V) (E:XK) (t tk:TA):TE:=fun σ H Q=>t σ H fun vs H1=>tk σ H1 fun zs H2=>sp (gV vs zs) H2 Q E
variable {g:List Value->List Value->List Value} {gV:List V->List V->List V}
end
structure aE (N P:List Str) (sc:Scope):Prop where
 kind:sc.kind=.function
 co:sc.isCoroutine=false
 gen:sc.isGenerator=false
 nd:N.Nodup
 pre:N.take P.length=P
 par:∀ x∈P,sc.names.lookup x=some .local\/sc.names.lookup x=some .cell
 abn:∀ y∈sc.names,y.2≠.free
def MM {kindOf:Str->Option NameKind} {x:Str}:∀ {binds:List (Str×Value)} {m:Str->Option Value},(∀ v,(x,v) ∉ binds)->bindL kindOf binds m x=m x
 | [],_,_=>rfl
 | (n,v)::r,m,h=>by
  unfold bindL;rw [MM fun w hw=>h w (Db _ hw)];split
  ·have:x≠n:=by rintro rfl; exact h v _j
   simp [this]
  ·rfl
def Ni {kindOf:Str->Option NameKind} {x:Str}:∀ {binds:List (Str×Value)} {m:Str->Option Value},(∀ v,(x,v) ∉ binds)->bindC kindOf binds m x=m x
 | [],_,_=>rfl
 | (n,v)::r,m,h=>by
  unfold bindC;rw [Ni fun w hw=>h w (Db _ hw)];split
  ·rfl
  ·have:x≠n:=by rintro rfl; exact h v _j
   simp [this]
def Ih {kindOf:Str->Option NameKind} {x:Str} {v:Value}:∀ {P:List Str} {vs:List Value} {i:Nat} {m:Str->Option Value},P.Nodup->P[i]?=some x->vs[i]?=some v->kindOf x=some .local ->
  bindL kindOf (P.zip vs) m x=some v
 | [],_,_,_,_,h,_,_=>by simp at h
 | _::_,[],_,_,_,_,h,_=>by simp at h
 | p::P,w::vs,0,m,nd,h1,h2,hk=>by
  simp at h1 h2; subst h1; subst h2;show bindL kindOf ((p,w)::P.zip vs) m p=_;unfold bindL;rw [MM fun v hv=>(Cl.mp nd).1 (_8 hv).1,wT hk];simp
 | p::P,w::vs,i+1,m,nd,h1,h2,hk=>by
  show bindL kindOf ((p,w)::P.zip vs) m x=_;unfold bindL;exact Ih (i:=i) (Cl.mp nd).2 (by simpa using h1) (by simpa using h2) hk
def Ky {kindOf:Str->Option NameKind} {x:Str} {v:Value}:∀ {P:List Str} {vs:List Value} {i:Nat} {m:Str->Option Value},P.Nodup->P[i]?=some x->vs[i]?=some v->kindOf x≠some .local ->
  bindC kindOf (P.zip vs) m x=some v
 | [],_,_,_,_,h,_,_=>by simp at h
 | _::_,[],_,_,_,_,h,_=>by simp at h
 | p::P,w::vs,0,m,nd,h1,h2,hk=>by
  simp at h1 h2; subst h1; subst h2;show bindC kindOf ((p,w)::P.zip vs) m p=_;unfold bindC;rw [Ni fun v hv=>(Cl.mp nd).1 (_8 hv).1,wS hk];simp
 | p::P,w::vs,i+1,m,nd,h1,h2,hk=>by
  show bindC kindOf ((p,w)::P.zip vs) m x=_;unfold bindC;exact Ky (i:=i) (Cl.mp nd).2 (by simpa using h1) (by simpa using h2) hk
def start (N:List Str) (vs:List V):St:=vs.map some++List.replicate (N.length - vs.length) none
def cq (CX:dN) (P:Program) (w:World) (K:PySem.W.Frag) (mg:Str->Option Value) (base:Heap) (N:List Str) (qual:Str) (scope:Scope) (f:Addr) (cd:Value) (A:Around) (outer:List Env) (s:Shared) (H:Hp) (E:XK):Cx where
 prog:=P
 w:=w
 K:=K
 mg:=mg
 base:=base
 A:=A.deeper (envOfC qual scope s.heap.objs.size f cd)
 N:=N
 s₀:=s
 H₀:=H
 env:=envOfC qual scope s.heap.objs.size f cd
 outer:=outer
 stack:=envOfC qual scope s.heap.objs.size f cd::outer
 ex:=[]
 calm:=true
 fn:=fun _=>true
 pn:=[]
 xe:=fun e s'=>wpAny (model P w) (A.deeper (envOfC qual scope s.heap.objs.size f cd)) (leaving (envOfC qual scope s.heap.objs.size f cd) e) (fun _ s''=>CX outer H s E e s'') (fun e' s''=>CX outer H s E e' s'') s'
def Km {sc:Scope} {n:Nat} {x:Str} (h:sc.names.lookup x=some .cell):∃ c,(cellsFrom n sc.names []).lookup x=some c:=by
 have q:=_J sc.names n [] (.inl h);exact Option.isSome_iff_exists.mp q
def HS {CX:dN} {P:Program} {w:World} {K:PySem.W.Frag} {mg:Str->Option Value} {base:Heap} {N ps:List Str} {qual:Str} {scope:Scope} {f:Addr} {cd:Value} {A:Around} {outer:List Env} {s s1:Shared} {H:Hp} {E:XK} {us:List Value} {vs:List V}
  (S:aE N ps scope) (hd:A.handled=none) (e0:kF P w K mg base A outer s H) (hl:vs.length=ps.length) (r:Vals vs us)
  (x:InCallC s s.heap.objs.size (bindL (envOfC qual scope s.heap.objs.size f cd).kindOf (ps.zip us) fun _=>none) (cellsFrom (s.heap.objs.size+1) scope.names []) (bindC (envOfC qual scope s.heap.objs.size f cd).kindOf (ps.zip us) fun _=>none) s1) :
  Inv (cq CX P w K mg base N qual scope f cd A outer s H E) [] (start N vs) H s1:=by
 have bB:ps.length<=N.length:=by have:=NE List.length S.pre; rw [_c] at this; omega
 obtain ⟨h1,tk,rfl,hk⟩:=x.done;have lU:∀ b:Addr,b ∉ (cq CX P w K mg base N qual scope f cd A outer s H E).ex:=fun b z=>absurd (show b∈([]:List Addr) from z) (by simp);refine ⟨⟨e0.mod,S.kind,rfl,rfl,ss _,fun y z c h1 h2=>?_,fun y hy=>?_,fun y c _ h=>?_,fun _=>hd,Around.frames_deeper e0.frames,.inr ⟨rfl,rfl⟩,fun b z=>absurd z (lU b),e0.bs,e0.gI,fun b _ _=>lU b,fun b z=>absurd z (lU b),e0.eY,e0.iV⟩,
  rfl,e0.bare,Un.kept hk,⟨_,x.toInCall.ns,fun i y v h1 h2 h3=>?_⟩,fun y c h=>⟨_,x.cell y c h⟩,e0.aB.fresh (ss _),fun y c h=>?_,fun p hp=>absurd (show p∈([]:List (Addr×Obj)) from hp) (by simp),e0.aB.kept hk,?_⟩
 ·exact name_of_addr x.apart (Da h1) (Da h2)
 ·have hy:scope.names.lookup y=some .cell\/scope.names.lookup y=some .free:=hy;rcases hy with hy | hy
  ·exact Km hy
  ·exact absurd rfl (S.abn _ (Da hy))
 ·exact Ja6 (x.above y c (Da h))
 ·have hi:i < vs.length:=by
   unfold start at h2;by_cases hi:i < vs.length
   ·exact hi
   ·rw [Do (by simpa using hi)] at h2;rw [List.getElem?_replicate] at h2;split at h2 <;> cases h2
  have ha:vs[i]?=some v:=by
   unfold start at h2;rw [Fk (by simpa using hi),xL] at h2;cases e:vs[i]? with
   | none=>rw [e] at h2; cases h2
   | some a=>rw [e] at h2; cases h2; rfl
  obtain ⟨u,hu,rv⟩:=r.get ha;have hp:ps[i]?=some y:=by
   rw [<- S.pre,List.getElem?_take_of_lt (by omega)]; exact h1
  have Pb:ps.Nodup:=by rw [<- S.pre]; exact S.nd.sublist (List.take_sublist _ _)
  refine ⟨u,rv,?_⟩;rcases S.par y (KK hp) with k | k
  ·exact .inl ⟨k,Ih Pb hp hu k⟩
  ·obtain ⟨c,e⟩:=Km (n:=s.heap.objs.size+1) k;refine .inr ⟨.inl k,c,e,?_⟩;have q:=x.cell y c e;rw [Ky Pb hp hu (by show scope.names.lookup y≠_; rw [k]; decide)] at q;exact q
 ·exact e0.aB.fresh (Ja6 (x.above y c (Da h)))
 ·unfold start;show _=N.length;rw [sK,nn,_Q];omega
def xm {CX:dN} {P:Program} {w:World} {K:PySem.W.Frag} {mg:Str->Option Value} {base:Heap} {k:Nat} {f:Addr} {name qual:Str} {params:Arguments} {body:List Stmt} {scope:Scope} {dV kV doc pm ag ct oc:Value} {an od:Option Addr}
  {da:Array (Option Value)} {N ps:List Str} {sp:Sp} (lk:K.lookup f=some ⟨oc,od,.func (PySem.W.fnOf name qual params body scope dV kV doc pm an ag ct),da⟩) (bL:PySem.W.codeIn K ag qual=true) (S:aE N ps scope)
  (len:∀ vs H Q E,sp vs H Q E->vs.length=ps.length)
  (ji:∀ (A:Around) (outer:List Env) (s:Shared) (H:Hp) (vs:List V) (Q:VK) (E:XK),bc k (A.deeper (envOfC qual scope s.heap.objs.size f ag))->sp vs H Q E ->
   ∃ t,c8 (cq CX P w K mg base N qual scope f ag A outer s H E) body t/\t { nx:=fun _ H'=>Q .ay H',rt:=Q } (start N vs) H) :
  aC P w K mg base CX (k+1) f (PySem.W.fnOf name qual params body scope dV kV doc pm an ag ct) ps sp:=by
 refine ⟨len,fun A outer s H args us vs Q E hr e0 hb r dj=>?_⟩;have hl:=len _ _ _ _ dj;have KX:K.In s.heap:=e0.mod.ia.keeps fun b o e=>(e0.bs b o e).1;have lim:s.heap.NoLimit:=e0.mod.nolimit.keeps fun b o e=>(e0.bs b o e).1;have F5:∀ y∈ps.zip us,scope.names.lookup y.1=some .local\/(scope.names.lookup y.1=some .cell/\((cellsFrom (s.heap.objs.size+1) scope.names []).lookup y.1).isSome=true):=fun ⟨n,v⟩ hy=>by
  rcases S.par n (_8 hy).1 with q | q
  ·exact .inl q
  ·exact .inr ⟨q,_J _ _ _ (.inl q)⟩
 refine codeAny_call_function hr.depth (KX _ _ lk) rfl S.co S.gen rfl (PySem.W.codeRec_of KX bL) (hb _ _ _ _ ?_);refine wpAny_newFunctionEnv_cells S.kind F5 fun env he s1 x=>?_;subst he;refine ⟨lim.keeps x.toInCall.keep,codeAny_func ?_⟩;obtain ⟨t,ht,hq⟩:=ji A outer s H vs Q E (hr.deeper _) dj;have I:Inv (cq CX P w K mg base N qual scope f ag A outer s H E) [] (start N vs) H s1:=HS S hr.hd e0 hl r x;refine IO (ht [] s1 (start N vs) H _ I hq) (fun fl s' hs=>?_) fun e s' hs=>hs;have fin:∀ {σ':St} {H':Hp} {v:V} {u:Value},Inv (cq CX P w K mg base N qual scope f ag A outer s H E) [] σ' H' s'->RelV v u->Q v H'->CE outer P w H s Q u s' :=
  fun {σ' H' v u} J rv q=>⟨v,H',J.os,J.bare,J.base,J.aB,rv,q⟩
 cases fl with
 | ret u =>
  obtain ⟨v,σ',H',J,rv,q⟩:=hs;exact fin J rv q
 | next =>
  obtain ⟨σ',H',J,q⟩:=hs;exact fin (v:=V.ay) (u:=Value.none) J rfl q
 | brk =>
  obtain ⟨_,_,_,q⟩:=hs;exact False.elim q
 | cont =>
  obtain ⟨_,_,_,q⟩:=hs;exact False.elim q
section
variable {X:Cx} {x:Str} {p pos:Pos} {e:Expr} {es:List Expr} {t:TA} {id T:String} {r:List V->Hp->VK->Prop}
def oF (r:List V->Hp->VK->Prop) (t:TA):TE:=fun σ H Q=>t σ H fun vs H1=>r vs H1 Q
def Wv (hc:cM X (.builtin id) r) (hg:Gl X x) (hm:X.mg x=none) (hv:bootBuiltins x=some (.builtin id)) (ha:PA X (e::es) t) (hn:x ≠ "__name__" := by decide) (bR:(x == ("__debug__" : Str))=false:=by decide)
  (he:starEach (e::es) X.env=(false,eval e X.env)::starEach es X.env:=by rfl) (bB:(backTo pos (starEach es X.env)).any (·.1)=false:=by rfl):PE X (.Call (.Name x p) (e::es) [] pos) (oF r t):=by
 intro pins s σ H Q I h;refine GE (oU I hg hm hv ?_ hn bR);exact PyProof.Rows.callWith_builtin1 (aF (ha pos pins s σ H _ I h) fun us s1 ⟨vs,H1,I1,r1,q1⟩=>hc pins s1 σ H1 vs us Q I1 r1 q1) he bB
def Ye (hc:cM X (.type T) r) (hg:Gl X x) (hm:X.mg x=none) (hv:bootBuiltins x=some (.type T)) (ha:PA X (e::es) t) (hn:x ≠ "__name__" := by decide) (bR:(x == ("__debug__" : Str))=false:=by decide)
  (he:starEach (e::es) X.env=(false,eval e X.env)::starEach es X.env:=by rfl) (bB:(backTo pos (starEach es X.env)).any (·.1)=false:=by rfl):PE X (.Call (.Name x p) (e::es) [] pos) (oF r t):=by
 intro pins s σ H Q I h;refine GE (oU I hg hm hv ?_ hn bR);exact SC (aF (ha pos pins s σ H _ I h) fun us s1 ⟨vs,H1,I1,r1,q1⟩=>hc pins s1 σ H1 vs us Q I1 r1 q1) he bB
end
end L2
namespace HT
open PySem PyProof.Rows
section
open PySem.SeqAt
open PySem.AutoSeq1 (wpAny_loadPart')
open PySem.MeetsSeq PySem.MeetsSeq2 PySem.MeetsSeq3
end
section
variable {prog:Program} {w:World} {A:Around} {E:Value->Shared->Prop} {s:Shared}
def dz (n d:Nat):Option Int->Nat
 | none=>d
 | some v=>if v < 0 then (v+(n:Int)).toNat else min v.toNat n
def BE (n d:Nat):dz n d none=d:=rfl
def zR (n d k:Nat):dz n d (some (k:Int))=min k n:=by
 show (if (k:Int) < 0 then ((k:Int)+(n:Int)).toNat else min (k:Int).toNat n)=min k n;rw [if_neg (by omega),Int.toNat_natCast]
end
end HT
namespace L2
open PySem PySem.Spec PyProof.Rows
abbrev TO:=St->Hp->(Option Int->Hp->Prop)->Prop
def PO (X:Cx) (e:Option Expr) (t:TO):Prop :=
 ∀ (pins:List (Addr×Obj)) (s:Shared) (σ:St) (H:Hp) (Q:Option Int->Hp->Prop),Inv X pins σ H s->t σ H Q ->
  wpAny (model X.prog X.w) X.A (evalPart e X.env) (fun u s'=>∃ o H',Inv X pins σ H' s'/\IsPart u o/\Q o H') X.xe s
def AN:TO:=fun _ H Q=>Q none H
section
variable {X:Cx} {e:Expr} {te:TE} {lo hi:Option Expr} {tl th:TO} {pos p2:Pos}
def YD:PO X none AN:=by
 intro pins s σ H Q I h;rw [evalPart_none];exact pp ⟨none,H,I,.none,h⟩
def jU (X:Cx) (r:V->Option Int->Option Int->Hp->VK->Prop):Prop :=
 ∀ (pins:List (Addr×Obj)) (s:Shared) (σ:St) (H:Hp) (x:V) (v vl vu:Value) (lo hi:Option Int) (sl:Addr) (Q:VK),Inv X pins σ H s->RelV x v->s.heap.IsSliceOf sl vl vu .none->IsPart vl lo->IsPart vu hi->r x lo hi H Q ->
  ∃ T id,typeLookup (.type T) "__getitem__" = pure (some (.builtin id))/\s.TypeIs v T/\wpAny (model X.prog X.w) X.A (getItem v (.ref sl)) (EP X pins σ Q) X.xe s
def jU.or {r r':V->Option Int->Option Int->Hp->VK->Prop} (h:jU X r) (h':jU X r'):jU X (fun x lo hi H Q=>r x lo hi H Q\/r' x lo hi H Q):=by
 intro pins s σ H x v vl vu lo hi sl Q I rx hs pl pu q;rcases q with q | q
 ·exact h pins s σ H x v vl vu lo hi sl Q I rx hs pl pu q
 ·exact h' pins s σ H x v vl vu lo hi sl Q I rx hs pl pu q
def DK (r:V->Option Int->Option Int->Hp->VK->Prop) (te:TE) (tl th:TO):TE:=fun σ H Q=>te σ H fun x H1=>tl σ H1 fun l H2=>th σ H2 fun u H3=>r x l u H3 Q
def aaX {r:V->Option Int->Option Int->Hp->VK->Prop} (hr:jU X r) (he:PE X e te) (hl:PO X lo tl) (hu:PO X hi th):PE X (.Subscript e (.Slice lo hi none p2) pos) (DK r te tl th):=by
 intro pins s σ H Q I h;refine Subscript_ (aF (he pins s σ H _ I h) fun v s1 ⟨x,H1,I1,r1,q1⟩=>?_);refine wpAny_Slice (aF (hl pins s1 σ H1 _ I1 q1) fun vl s2 ⟨l,H2,I2,pl,q2⟩=>aF (hu pins s2 σ H2 _ I2 q2) fun vu s3 ⟨u,H3,I3,pu,q3⟩=>?_);rw [evalPart_none];refine pp ?_;have I4:Inv X pins σ H3 { s3 with heap:=s3.heap.push { cls:=.type "slice",data:=.fields #[vl,vu,.none] } }:=I3.kept (t':=s3.toks) fun b ob q=>kt _ q;obtain ⟨T,id,hT,ht,hg⟩:=hr pins { s3 with heap:=s3.heap.push { cls:=.type "slice",data:=.fields #[vl,vu,.none] } } σ H3 x v vl vu l u s3.heap.objs.size Q I4 r1 (Heap.IsSliceOf.new ..) pl pu q3;show wpAny (model X.prog X.w) X.A (subscriptTail e (.Slice lo hi none p2) v (.ref s3.heap.objs.size)) (EP X pins σ Q) X.xe { s3 with heap:=s3.heap.push { cls:=.type "slice",data:=.fields #[vl,vu,.none] } };exact tail_any (ops:=[.ref s3.heap.objs.size,v]) ht hT hg (by with_unfolding_all rfl)
def gr (xs:List V) (lo hi:Option Int):List V:=(xs.drop (HT.dz xs.length 0 lo)).take (HT.dz xs.length xs.length hi - HT.dz xs.length 0 lo)
def YJ (xs:List V) (lo hi:Option Int):(gr xs lo hi).length<=xs.length:=by
 unfold gr;rw [_c,List.length_drop];omega
end
def eg (n:Nat) (i:Int):Option Nat:=if 0<=i then (if i < n then some i.toNat else none) else if -(n:Int)<=i then some (i+n).toNat else none
def cD {α:Type} (xs:List α) (i:Int):Option α:=(eg xs.length i).bind fun j=>xs[j]?
def JB {n:Nat} {i:Int} {j:Nat} (h:eg n i=some j):seqIndex? i n=some j/\j < n/\-(n:Int)<=i/\i < n:=by
 unfold eg at h;by_cases h0:0<=i
 ·rw [wT h0] at h;by_cases h1:i < n
  ·rw [wT h1] at h;have e:i.toNat=j:=EQ h;exact ⟨by rw [seqIndex_of h0 h1,e],by omega,by omega,h1⟩
  ·rw [wS h1] at h; cases h
 ·rw [wS h0] at h;by_cases h1:-(n:Int)<=i
  ·rw [wT h1] at h;have e:(i+n).toNat=j:=EQ h;exact ⟨by rw [seqIndex_neg (by omega) h1,e],by omega,h1,by omega⟩
  ·rw [wS h1] at h; cases h
def ED {α:Type} {xs:List α} {i:Int} {v:α} (h:cD xs i=some v):∃ j,seqIndex? i xs.length=some j/\xs[j]?=some v/\j < xs.length/\-(xs.length:Int)<=i/\i < xs.length:=by
 unfold cD at h;cases e:eg xs.length i with
 | none=>rw [e] at h; cases h
 | some j =>
  rw [e] at h;obtain ⟨h1,h2,h3,h4⟩:=JB e;exact ⟨j,h1,h,h2,h3,h4⟩
def eR {α:Type} {xs:List α} {j:Nat} {v:α} (h:xs[j]?=some v):cD xs (j:Int)=some v:=by
 have hj:j < xs.length:=(lm.mp h).1;have e:eg xs.length (j:Int)=some j:=by
  unfold eg;rw [wT (by omega),wT (by omega)]; simp
 unfold cD; rw [e]; exact h
def oS {α:Type} (xs:List α) (v:α):cD (xs++[v]) (-1)=some v:=by
 have hl:(xs++[v]).length=xs.length+1:=by simp
 have e:eg (xs++[v]).length (-1)=some xs.length:=by
  unfold eg;rw [hl,wS (by decide),wT (by omega)]
  congr 1
  omega
 unfold cD;rw [e];show (xs++[v])[xs.length]?=some v;simp
def HN (b:Expr):Prop:=∀ o i,subscripted b false o i=operate [o,i] (getItem o i)
def fY (X:Cx) (r:R2):Prop :=
 ∀ (value slice:Expr) (pins:List (Addr×Obj)) (s:Shared) (σ:St) (H:Hp) (x y:V) (v u:Value) (Q:VK),Inv X pins σ H s->RelV x v->RelV y u->r x y H Q ->
  subscripted slice false v u=operate [v,u] (getItem v u)->wpAny (model X.prog X.w) X.A (subscriptTail value slice v u) (EP X pins σ Q) X.xe s
def dP (X:Cx) (id:String) (r:V->List V->Hp->VK->Prop):Prop :=
 ∀ (pins:List (Addr×Obj)) (s:Shared) (σ:St) (H:Hp) (x:V) (xs:List V) (v:Value) (us:List Value) (Q:VK),Inv X pins σ H s->RelV x v->Vals xs us->r x xs H Q ->
  wpAny (model X.prog X.w) X.A (call (.builtin id) (v::us)) (EP X pins σ Q) X.xe s
section
variable {X:Cx} {a b:Expr} {ta tb:TE} {pos:Pos}
def fY.or {r r':R2} (h:fY X r) (h':fY X r'):fY X (fun x y H Q=>r x y H Q\/r' x y H Q):=by
 intro value slice pins s σ H x y v u Q I rx ry q hs;rcases q with q | q
 ·exact h value slice pins s σ H x y v u Q I rx ry q hs
 ·exact h' value slice pins s σ H x y v u Q I rx ry q hs
def Sx {r:R2} (hr:fY X r) (ha:PE X a ta) (hb:PE X b tb) (hs:HN b):PE X (.Subscript a b pos) (lz r ta tb):=by
 intro pins s σ H Q I h;exact Subscript_ (Eg ha hb I h fun v u s2 x y H2 I2 rx ry q=>hr a b pins s2 σ H2 x y v u Q I2 rx ry q (hs _ _))
def Ja (K:PySem.W.Frag):R2:=fun x y H Q=>∃ p xs i v,x=.ref p/\y=.int i/\aD K H p xs/\cD xs i=some v/\Q v H
def G6 (K:PySem.W.Frag):R2:=fun x y H Q=>∃ p xs i v,x=.ref p/\y=.int i/\bw K H p xs/\cD xs i=some v/\Q v H
def Jd:R2:=fun x y H Q=>∃ z i c,x=.str z/\y=.int i/\z.length<=sizeLine/\cD z.cps.toList i=some c/\Q (.str ⟨#[c]⟩) H
def SV:fY X (Ja X.K):=by
 intro value slice pins s σ H x y v u Q I rx ry h hs;obtain ⟨p,xs,i,z,rfl,rfl,hq,he,q⟩:=h;cases rx;obtain ⟨t,rfl⟩:=ry;obtain ⟨aj,r,pl,hz⟩:=I.list hq;obtain ⟨j,h1,h2,h3,h4,h5⟩:=ED he;obtain ⟨w,ew,rw'⟩:=r.get h2;have hl:=r.length;have hn:=uw;have fin:EP X pins σ Q w s:=⟨z,H,I,rw',q⟩;by_cases h0:0<=i
 ·have hj:i.toNat=j:=by
   rw [seqIndex_of h0 h5] at h1;exact EQ h1
  exact item_listR pl.isList h0 (by omega) (by rw [hj]; simpa using ew) fin hs
 ·have hj:(i+(aj.toArray.size:Int)).toNat=j:=by
   rw [seqIndex_neg (by omega) h4] at h1;rw [sB,<- hl];exact EQ h1
  exact subscriptTail_builtinR (x:=w) pl.isList.typeIs slot_list_getitem.lookup
   (wpAny_getItem_list_neg (Q:=fun r s'=>r=w/\EP X pins σ Q r s') pl.isList (by omega) (by rw [sB] <;> omega) (by omega) (by rw [hj]; simpa using ew) ⟨rfl,fin⟩) hs
def aaG:fY X (G6 X.K):=by
 intro value slice pins s σ H x y v u Q I rx ry h hs;obtain ⟨p,xs,i,z,rfl,rfl,hq,he,q⟩:=h;cases rx;obtain ⟨t,rfl⟩:=ry;obtain ⟨aj,r,pl,hz⟩:=I.tuple hq;obtain ⟨j,h1,h2,h3,h4,h5⟩:=ED he;obtain ⟨w,ew,rw'⟩:=r.get h2;have hl:=r.length;have hn:=uw;have fin:EP X pins σ Q w s:=⟨z,H,I,rw',q⟩;exact subscriptTail_builtinR (x:=w) pl.typeIs slot_tuple_getitem.lookup
  (getItem_tuple (j:=j) (Q:=fun r s'=>r=w/\EP X pins σ Q r s') pl (by omega) (by omega) (by rw [sB,<- hl]; exact h1) (by simpa using ew) ⟨rfl,fin⟩) hs
def W8:fY X Jd:=by
 intro value slice pins s σ H x y v u Q I rx ry h hs;obtain ⟨z,i,c,rfl,rfl,hz,he,q⟩:=h;obtain ⟨t,rfl⟩:=rx;obtain ⟨t',rfl⟩:=ry;obtain ⟨j,h1,h2,h3,h4,h5⟩:=ED he;have hl:z.cps.toList.length=z.length:=by simp [Str.length]
 rw [hl] at h1 h4 h5;have hn:=uw;exact tail_any (_t s z t) slot_str_getitem.lookup (getItem_str (c:=c) (by
  have e1:decide (i < -(2 ^ 63:Int))=false:=pc (by omega);have e2:decide (i ≥ 2 ^ 63)=false:=pc (by omega);rw [e1,e2,Jag]) (by rw [h1]; simpa using h2) ⟨.str ⟨#[c]⟩,H,I.tok _,⟨_,rfl⟩,q⟩) hs
def XC (K:PySem.W.Frag):R2:=fun x y H Q=>Ja K x y H Q\/G6 K x y H Q\/Jd x y H Q
def TF:fY X (XC X.K):=SV.or (aaG.or W8)
def ZS (aj:List Value) (n j:Nat) (u:Value):Obj.mapSeq (·.setIfInBounds j u) { cls:=.type "list",data:=.seq aj.toArray n }={ cls:=.type "list",data:=.seq (aj.set j u).toArray n }:=by
 simp [Obj.mapSeq]
def Inv.lst {pins:List (Addr×Obj)} {σ:St} {H:Hp} {s:Shared} {p:Addr} {xs:List V} (I:Inv X pins σ H s) (h:H p=some (.lst xs)) :
  ∃ (aj:List Value) (n:Nat),Vals xs aj/\s.heap.get? p=some { cls:=.type "list",data:=.seq aj.toArray n }/\xs.length<=sizeLine:=by
 obtain ⟨z,aj,n,r,e⟩:=I.aB p _ h;exact ⟨aj,n,r,e,z⟩
def Inv.YE {pins:List (Addr×Obj)} {σ:St} {H:Hp} {s:Shared} {p:Addr} {xs ys:List V} {aj its':List Value} {n n':Nat} {f:Obj->Obj} (I:Inv X pins σ H s) (h:H p=some (.lst xs))
  (ho:s.heap.get? p=some { cls:=.type "list",data:=.seq aj.toArray n }) (hf:f { cls:=.type "list",data:=.seq aj.toArray n }={ cls:=.type "list",data:=.seq its'.toArray n' }) (r:Vals ys its') (hz:ys.length<=sizeLine) (t:Nat) :
  Inv X pins σ (upd H p (.lst ys)) { s with heap:=s.heap.update p f,toks:=t }:=by
 have e:(s.heap.update p f).get? p=some { cls:=.type "list",data:=.seq its'.toArray n' }:=by
  rw [Op f ho (by rw [hf] <;> rfl),hf]
 refine I.write (x:=p) (e:=p) (by rw [h]; trivial) (.inl rfl) (fun b u hb q=>(GT _ _ (pi hb)).trans q) ⟨_,e⟩ ?_;exact ⟨hz,its',n',r,e⟩
def XA:V->V->V->Hp->(Hp->Prop)->Prop:=fun o i v H Q=>∃ p xs k j,o=.ref p/\i=.int k/\H p=some (.lst xs)/\eg xs.length k=some j/\Q (upd H p (.lst (xs.set j v)))
def set_list:wj X XA:=by
 intro pins s σ H o i v ov iv u Q I ro ri rv h;obtain ⟨p,xs,k,j,rfl,rfl,hp,hj,q⟩:=h;cases ro;obtain ⟨t,rfl⟩:=ri;obtain ⟨aj,n,r,ho,hz⟩:=I.lst hp;obtain ⟨h1,h2,h3,h4⟩:=JB hj;have hl:=r.length;have hn:=uw;have I':Inv X pins σ (upd H p (.lst (xs.set j v))) { s with heap:=s.heap.update p (Obj.mapSeq (·.setIfInBounds j u)) } :=
  I.YE hp ho (ZS aj n j u) (r.set rv j) (by rw [_D]; exact hz) s.toks
 by_cases h0:0<=k
 ·have hk:k.toNat=j:=by
   rw [seqIndex_of h0 h4] at h1;exact EQ h1
  exact PySem.W.ki_setAt ho h0 (by omega) (by rw [sB,<- hl]; exact h4) (by rw [hk]; exact ⟨_,I',q⟩)
 ·have hk:(k+(aj.toArray.size:Int)).toNat=j:=by
   rw [seqIndex_neg (by omega) h3] at h1;rw [sB,<- hl];exact EQ h1
  exact PySem.W.ki_setBack ho (by omega) (by rw [sB,<- hl]; exact h3) (by omega) (by rw [hk]; exact ⟨_,I',q⟩)
def aaZ (lo hi:Option Int) (n:Nat):(sliceBounds lo hi none n).1=((HT.dz n 0 lo:Nat):Int)/\(sliceBounds lo hi none n).2.1=((HT.dz n n hi:Nat):Int)/\(sliceBounds lo hi none n).2.2=1:=by
 refine ⟨?_,?_,rfl⟩
 ·cases lo with
  | none=>simp [sliceBounds,HT.dz]
  | some i =>
   simp only [sliceBounds,HT.dz,Option.getD_none,show (1:Int) > 0 by decide,if_true];by_cases h:i < 0
   ·simp only [h,if_true] <;> omega
   ·simp only [h,Re] <;> omega
 ·cases hi with
  | none=>simp [sliceBounds,HT.dz]
  | some i =>
   simp only [sliceBounds,HT.dz,Option.getD_none,show (1:Int) > 0 by decide,if_true];by_cases h:i < 0
   ·simp only [h,if_true] <;> omega
   ·simp only [h,Re] <;> omega
def VD (aj:List Value) (lo hi:Option Int):slicePick aj.toArray lo hi none=((aj.drop (HT.dz aj.length 0 lo)).take (HT.dz aj.length aj.length hi - HT.dz aj.length 0 lo)).toArray:=by
 obtain ⟨h1,h2,h3⟩:=aaZ lo hi aj.toArray.size;unfold slicePick;rw [h1,h2,h3];simp only [sliceRange_one,pick_run,sB] <;> rfl
def Sb (K:PySem.W.Frag):V->Option Int->Option Int->Hp->VK->Prop:=fun x lo hi H Q=>∃ a xs,x=.ref a/\aD K H a xs/\∀ p,H p=none->Q (.ref p) (upd H p (.lst (gr xs lo hi)))
def abb:jU X (Sb X.K):=by
 intro pins s σ H x v vl vu lo hi sl Q I rx hs pl pu h;obtain ⟨a,xs,rfl,hx,q⟩:=h;cases rx;obtain ⟨aj,r,ht,hz⟩:=I.list hx;have hlen:=r.length;refine ⟨"list",_,slot_list_getitem.lookup,ht.isList.typeIs,?_⟩;refine wpAny_getItem_list_slice ht.isList hs pl pu .none (by simp) ?_ (by rw [sB] <;> omega);rw [VD,<- hlen];refine ⟨.ref s.heap.objs.size,_,I.laid (t':=s.toks) (o:=.lst (gr xs lo hi)) (fun b ob q=>kt _ q) (ss _) ?_,rfl,q _ (I.aB.fresh (ss _))⟩;exact ⟨wf (YJ xs lo hi) hz,_,0,(r.drop (HT.dz xs.length 0 lo)).take (HT.dz xs.length xs.length hi - HT.dz xs.length 0 lo),tz _ rfl⟩
def cG:V->Bool
 | .ay=>true
 | .bl _=>true
 | .int _=>true
 | .str _=>true
 | _=>false
def fA:V->V->Bool
 | .ay,.ay=>true
 | .bl a,.bl b=>a == b
 | .bl a,.int b=>(if a then 1 else 0) == b
 | .int a,.bl b=>a == (if b then 1 else 0)
 | .int a,.int b=>a == b
 | .str a,.str b=>a == b
 | _,_=>false
def zQ {A:Around} {s:Shared} {y x:V} {u v:Value} (ry:RelV y u) (rx:RelV x v) (fy:cG y=true) (fx:cG x=true):SeqAt.EqAt A s u v (fA y x):=by
 cases y with
 | ay =>
  cases ry;cases x with
  | ay=>cases rx; exact SeqAt.EqAt.same _
  | bl b=>cases rx; exact SeqAt.EqAt.none_bool b
  | int b=>obtain ⟨t,rfl⟩:=rx; exact SeqAt.EqAt.none_int b t
  | str b=>obtain ⟨t,rfl⟩:=rx; exact SeqAt.EqAt.none_str b t
  | _=>exact absurd (show false=true from fx) ut
 | bl a =>
  cases ry;cases x with
  | ay=>cases rx; exact SeqAt.EqAt.bool_none a
  | bl b=>cases rx; exact SeqAt.EqAt.bool_bool a b
  | int b=>obtain ⟨t,rfl⟩:=rx; exact SeqAt.EqAt.bool_int a b t
  | str b=>obtain ⟨t,rfl⟩:=rx; exact SeqAt.EqAt.bool_str a b t
  | _=>exact absurd (show false=true from fx) ut
 | int a =>
  obtain ⟨t',rfl⟩:=ry;cases x with
  | ay=>cases rx; exact SeqAt.EqAt.int_none a t'
  | bl b=>cases rx; exact SeqAt.EqAt.int_bool a t' b
  | int b=>obtain ⟨t,rfl⟩:=rx; exact SeqAt.EqAt.int_int a t' b t
  | str b=>obtain ⟨t,rfl⟩:=rx; exact SeqAt.EqAt.int_str a t' b t
  | _=>exact absurd (show false=true from fx) ut
 | str a =>
  obtain ⟨t',rfl⟩:=ry;cases x with
  | ay=>cases rx; exact SeqAt.EqAt.str_none a t'
  | bl b=>cases rx; exact SeqAt.EqAt.str_bool a t' b
  | int b=>obtain ⟨t,rfl⟩:=rx; exact SeqAt.EqAt.str_int a t' b t
  | str b=>obtain ⟨t,rfl⟩:=rx; exact SeqAt.EqAt.str_str a t' b t
  | _=>exact absurd (show false=true from fx) ut
 | _=>exact absurd (show false=true from fy) ut
def fT (x:V) (u:Value):Bool:=match u with
 | .none=>fA .ay x
 | .bool b=>fA (.bl b) x
 | .int i _=>fA (.int i) x
 | .str z _=>fA (.str z) x
 | _=>false
def HJ {x y:V} {u:Value} (r:RelV y u) (f:cG y=true):fT x u=fA y x:=by
 cases y with
 | ay=>cases r; rfl
 | bl b=>cases r; rfl
 | int i=>obtain ⟨t,rfl⟩:=r; rfl
 | str z=>obtain ⟨t,rfl⟩:=r; rfl
 | _=>exact absurd (show false=true from f) ut
def uQ {x:V}:∀ {xs:List V} {us:List Value},Vals xs us->xs.all cG=true->us.any (fT x)=xs.any fun y=>fA y x
 | _,_,.nil,_=>rfl
 | y::xs,u::us,.cons r t,f=>by
  rw [IR,zn] at f;rw [XV,XV,HJ r f.1,uQ t f.2]
def tY {A:Around} {s:Shared} {x:V} {v:Value} (rx:RelV x v) (fx:cG x=true):∀ {xs:List V} {us:List Value},Vals xs us->xs.all cG=true->∀ u∈us,SeqAt.EqAt A s u v (fT x u)
 | _,_,.nil,_=>fun u hu=>by cases hu
 | y::xs,u::us,.cons r t,f=>fun u' hu=>by
  rw [IR,zn] at f;rcases li.mp hu with rfl | hu
  ·rw [HJ r f.1]; exact zQ r rx f.1 fx
  ·exact tY rx fx t f.2 u' hu
def gJ (x:V) (xs:List V):Bool:=xs.any fun y=>fA y x
def Kq (K:PySem.W.Frag) (neg:Bool):R2:=fun x y H Q=>∃ p xs,y=.ref p/\(aD K H p xs\/bw K H p xs)/\cG x=true/\xs.all cG=true/\Q (.bl (if neg then !gJ x xs else gJ x xs)) H
def Mw:bb X (compareOp .In) (Kq X.K false):=by
 intro pins s σ H x y v u Q I rx ry h;obtain ⟨p,xs,rfl,hq,fx,fs,q⟩:=h;cases ry;rcases hq with hq | hq
 ·obtain ⟨aj,r,pl,hz⟩:=I.list hq;refine SeqAt.in_listAt (fT x) pl.isList (fun w hw=>tY rx fx r fs w (by simpa using hw)) ⟨.bl _,H,I,rfl,?_⟩;rw [show aj.toArray.any (fT x)=aj.any (fT x) by simp,uQ r fs];exact q
 ·obtain ⟨aj,r,pl,hz⟩:=I.tuple hq;refine SeqAt.in_tupleAt (fT x) pl (fun w hw=>tY rx fx r fs w (by simpa using hw)) ⟨.bl _,H,I,rfl,?_⟩;rw [show aj.toArray.any (fT x)=aj.any (fT x) by simp,uQ r fs];exact q
def QD:bb X (compareOp .NotIn) (Kq X.K true):=by
 intro pins s σ H x y v u Q I rx ry h;obtain ⟨p,xs,rfl,hq,fx,fs,q⟩:=h;cases ry;rcases hq with hq | hq
 ·obtain ⟨aj,r,pl,hz⟩:=I.list hq;refine SeqAt.notIn_listAt (fT x) pl.isList (fun w hw=>tY rx fx r fs w (by simpa using hw)) ⟨.bl _,H,I,rfl,?_⟩;rw [show aj.toArray.any (fT x)=aj.any (fT x) by simp,uQ r fs];exact q
 ·obtain ⟨aj,r,pl,hz⟩:=I.tuple hq;refine SeqAt.notIn_tupleAt (fT x) pl (fun w hw=>tY rx fx r fs w (by simpa using hw)) ⟨.bl _,H,I,rfl,?_⟩;rw [show aj.toArray.any (fT x)=aj.any (fT x) by simp,uQ r fs];exact q
def Wt:cM X (.type "list") (fun xs H Q=>∃ p ys,xs=[.ref p]/\(aD X.K H p ys\/bw X.K H p ys)/\∀ l,H l=none->Q (.ref l) (upd H l (.lst ys))):=by
 intro pins s σ H xs us Q I r h;obtain ⟨p,ys,rfl,hq,q⟩:=h;obtain ⟨u,rfl,rx⟩:=vals1 r;cases rx;have fin:∀ (aj:List Value),Vals ys aj->ys.length<=sizeLine->∀ (h':Heap) (c':Nat),(∀ b o',s.heap.get? b=some o'->h'.get? b=some o') ->
   h'.get? s.heap.objs.size=some { cls:=.type "list",dict:=none,data:=.seq aj.toArray c',slots:=#[] }->EP X pins σ Q (.ref s.heap.objs.size) { s with heap:=h' }:=fun aj r' hz h' c' kp e =>
  ⟨.ref s.heap.objs.size,_,I.laid (t':=s.toks) kp (ss _) (show bM X.prog X.w _ h' _ (.lst ys) from ⟨hz,aj,c',r',e⟩),rfl,q _ (I.aB.fresh (ss _))⟩
 rcases hq with hq | hq
 ·obtain ⟨aj,r',pl,hz⟩:=I.list hq;have hlen:=r'.length;obtain ⟨o,ho,hc,n,hd⟩:=pl.isList;exact call_list_seq p (.inl rfl) ho hc hd (fun h' c' kp e=>fin aj r' hz h' c' kp e) (by simp only [sB] <;> omega)
 ·obtain ⟨aj,r',pl,hz⟩:=I.tuple hq;have hlen:=r'.length;obtain ⟨o,ho,hc,n,hd⟩:=pl;exact call_list_seq p (.inr rfl) ho hc hd (fun h' c' kp e=>fin aj r' hz h' c' kp e) (by simp only [sB] <;> omega)
def Wy (K:PySem.W.Frag) (T:String) (x:V) (H:Hp):Prop:=match x with
 | .str _=>T = "str"
 | .int _=>T = "int"
 | .ref p=>(T = "list" /\ ∃ xs,aD K H p xs)\/(T = "tuple" /\ ∃ o,K.lookup p=some o/\o.cls=.type "tuple" /\ o.dict=none) \/
   (T = "dict" /\ ((∃ kvs,H p=some (.dK kvs))\/∃ kvs,H p=some (.dT kvs)))\/(T = "set" /\ ∃ S n,H p=some (.set S n))
 | _=>False
def Dm {pins:List (Addr×Obj)} {σ:St} {H:Hp} {s:Shared} {T:String} {x:V} {v:Value} (I:Inv X pins σ H s) (r:RelV x v) (ty:Wy X.K T x H) :
  s.TypeIs v T/\∀ a,v=.ref a->∃ ob,s.heap.get? a=some ob/\ob.dict=none:=by
 cases x with
 | str z =>
  obtain ⟨t,rfl⟩:=r;cases (show T = "str" from ty);exact ⟨_t s z t,fun _ e=>nomatch e⟩
 | int i =>
  obtain ⟨t,rfl⟩:=r;cases (show T = "int" from ty);exact ⟨typeIs_int s i t,fun _ e=>nomatch e⟩
 | ref p =>
  cases r;rcases ty with ⟨rfl,xs,hq⟩ | ⟨rfl,o,hk,hc,hd⟩ | ⟨rfl,hk⟩ | ⟨rfl,S,n,hk⟩
  ·obtain ⟨aj,_,pl,_⟩:=I.list hq;refine ⟨pl.isList.typeIs,fun a e=>?_⟩;cases e;obtain ⟨o,n,e,c,hd,_⟩:=pl;exact ⟨o,e,hd⟩
  ·refine ⟨⟨o,I.bV p o hk,hc⟩,fun a e=>?_⟩;cases e;exact ⟨o,I.bV _ o hk,hd⟩
  ·have z:∃ o,s.heap.get? p=some o/\o.ExactDict:=by
    rcases hk with ⟨kvs,hk⟩ | ⟨kvs,hk⟩
    ·obtain ⟨_,_,_,_,o,_,_,e,ex,_⟩:=I.aB p _ hk;exact ⟨o,e,ex⟩
    ·obtain ⟨_,_,_,_,o,_,_,e,ex,_⟩:=I.aB p _ hk;exact ⟨o,e,ex⟩
   obtain ⟨o,e,ex⟩:=z;refine ⟨⟨o,e,ex.1⟩,fun a e2=>?_⟩;cases e2;exact ⟨o,e,ex.2.1⟩
  ·obtain ⟨o,_,_,_,e,ex,_⟩:=I.aB p _ hk;refine ⟨⟨o,e,ex.1⟩,fun a e2=>?_⟩;cases e2;exact ⟨o,e,ex.2.1⟩
 | _=>exact False.elim ty
variable {o e:Expr} {es:List Expr} {to:TE} {t:TA} {name:Str} {apos bE:Pos} {T id:String} {r:V->List V->Hp->VK->Prop}
/- xs.append(e),list.index on a module's tuple .. are dP facts of 06m -/
end
def Ag (X:Cx) (id:String) (r:V->List V->Hp->VK->Prop):Prop :=
 ∀ (pins:List (Addr×Obj)) (s:Shared) (σ:St) (H:Hp) (x:V) (xs:List V) (v:Value) (us:List Value) (Q:VK),Inv X pins σ H s->RelV x v->Vals xs us->r x xs H Q ->
  wpAny (model X.prog X.w) X.A (call (.builtin id) (v::us)) (EP X pins σ Q) X.xe s
def Vals.one:∀ {x:V} {us:List Value},Vals [x] us->∃ u,us=[u]/\RelV x u
 | _,_,.cons r .nil=>⟨_,rfl,r⟩
def Vals.zero:∀ {us:List Value},Vals [] us->us=[]
 | _,.nil=>rfl
def Vals.dropLast {xs:List V} {us:List Value} (h:Vals xs us):Vals xs.dropLast us.dropLast:=by
 induction h with
 | nil=>exact .nil
 | cons r t ih =>
  cases t with
  | nil=>exact .nil
  | cons q t'=>exact .cons r ih
def Vals.rep {xs:List V} {us:List Value} (h:Vals xs us):∀ k:Nat,Vals (List.replicate k xs).flatten (List.replicate k us).flatten
 | 0=>.nil
 | k+1=>by
  rw [Rs,Rs,_K,_K];exact Vals.append h (Vals.rep h k)
def Ru {α:Type} (l:List α):l.eraseIdx (l.length - 1)=l.dropLast:=by
 induction l with
 | nil=>rfl
 | cons a r ih =>
  cases r with
  | nil=>rfl
  | cons b r =>
   have e:(a::b::r).length - 1=((b::r).length - 1)+1:=by
    have h1:(a::b::r).length=r.length+2:=rfl;have h2:(b::r).length=r.length+1:=rfl;omega
   rw [e,List.eraseIdx_cons_succ,ih]
   all_goals rfl
def foldl_rep (aj:List Value):∀ (k:Nat) (acc:List Value),
  List.foldl (fun x1 x2=>x1++x2) acc.toArray (List.replicate k aj.toArray)=(acc++(List.replicate k aj).flatten).toArray
 | 0,acc=>by simp
 | k+1,acc=>by
  have e:acc.toArray++aj.toArray=(acc++aj).toArray:=by simp
  have e2:(acc++aj)++(List.replicate k aj).flatten=acc++(List.replicate (k+1) aj).flatten:=by
   rw [Rs,_K,List.append_assoc]
  rw [<- e2,<- foldl_rep aj k (acc++aj),<- e,Rs,List.foldl_cons]
section
variable {X:Cx} {pins:List (Addr×Obj)} {σ:St} {H:Hp} {s:Shared} {l b:Addr} {xs ys zs:List V}
def Inv.z8 {aj its':List Value} {n:Nat} {f:Array Value->Array Value} {t':Nat} (I:Inv X pins σ H s) (hH:H l=some (.lst xs))
  (e:s.heap.get? l=some { cls:=.type "list",data:=.seq aj.toArray n }) (hf:f aj.toArray=its'.toArray) (hv:Vals ys its') (hz:ys.length<=sizeLine) :
  Inv X pins σ (upd H l (.lst ys)) { s with heap:=s.heap.update l (Obj.mapSeq f),toks:=t' }:=by
 have q:=PySem.IsL.update e f;rw [hf] at q;refine I.write (x:=l) (e:=l) (by rw [hH]; exact trivial) (.inl rfl) (fun b' u hb hu=>(GT s.heap (Obj.mapSeq f) (pi hb)).trans hu) ⟨_,q⟩ ?_;exact ⟨hz,its',_,hv,q⟩
def Inv.HH {aj:List Value} {t':Nat} (I:Inv X pins σ H s) (hv:Vals ys aj) (hz:ys.length<=sizeLine) :
  Inv X pins σ (upd H s.heap.objs.size (.lst ys)) { s with heap:=s.heap.push { cls:=.type "list",data:=.seq aj.toArray },toks:=t' } :=
 I.laid (fun _ _ q=>kt _ q) (ss _) ⟨hz,aj,0,hv,tz _ rfl⟩
def Inv.fresh (I:Inv X pins σ H s):H s.heap.objs.size=none:=I.aB.fresh (ss _)
def Inv.nN (I:Inv X pins σ H s) (hH:H l=some (.lst xs)):xs.length<=sizeLine/\∃ (aj:List Value) (n:Nat),Vals xs aj/\xs.length=aj.length/\s.heap.get? l=some { cls:=.type "list",data:=.seq aj.toArray n }:=by
 obtain ⟨z,aj,n,r,e⟩:=I.aB l _ hH;exact ⟨z,aj,n,r,r.length,e⟩
def Lm {n:Nat} (h:n<=sizeLine):Builtin.List.listTooLong n=false:=by
 unfold Builtin.List.listTooLong;exact pc (by omega)
end
section
variable {X:Cx}
def abF:V->List V->Hp->VK->Prop:=fun x vs H Q=>∃ l xs y,x=.ref l/\vs=[y]/\H l=some (.lst xs)/\xs.length < sizeLine/\Q .ay (upd H l (.lst (xs++[y])))
def Zy:Ag X "list.append" abF:=by
 intro pins s σ H x vs v us Q I rx rv h;obtain ⟨l,xs,y,rfl,rfl,hH,hz,q⟩:=h;cases rx;obtain ⟨u,rfl,ru⟩:=rv.one;obtain ⟨z,aj,n,r,hl,e⟩:=I.nN hH;refine P3 F.slot_list_append ⟨_,e,rfl⟩ F.entry_list_append (F.args_list_append_2 _ _) (PySem.list_append l aj.toArray n u (by rw [sB]; omega)) ⟨e,?_⟩;refine ⟨.ay,_,I.z8 (its':=aj++[u]) hH e (by simp) (r.append (.cons ru .nil)) ?_,rfl,q⟩;rw [sK,List.length_singleton];omega
def P8:V->List V->Hp->VK->Prop:=fun x vs H Q=>∃ l b xs zs,x=.ref l/\vs=[.ref b]/\H l=some (.lst xs)/\H b=some (.lst zs)/\xs.length+zs.length<=sizeLine/\Q .ay (upd H l (.lst (xs++zs)))
def XM:Ag X "list.extend" P8:=by
 intro pins s σ H x vs v us Q I rx rv h;obtain ⟨l,b,xs,zs,rfl,rfl,hH,hB,hz,q⟩:=h;cases rx;obtain ⟨u,rfl,ru⟩:=rv.one;cases ru;obtain ⟨z,aj,n,r,hl,e⟩:=I.nN hH;obtain ⟨z2,px,n2,r2,cm,e2⟩:=I.nN hB;have hsz:aj.toArray.size+px.toArray.size<=sizeLine:=by rw [sB,sB]; omega
 have Gy:¬ (!aj.toArray.isEmpty && Builtin.List.listTooLong (aj.toArray.size+px.toArray.size))=true:=by
  rw [Lm hsz,Bool.and_false];exact ut
 refine P3 F.slot_list_extend ⟨_,e,rfl⟩ F.entry_list_extend (F.args_list_extend_2 _ _)
  (AutoSeq1.list_extend_list_list_0 l aj.toArray n b px.toArray n2 Gy (by rw [sB]; omega) (by omega)) ⟨e,e2,?_⟩
 refine ⟨.ay,_,I.z8 (its':=aj++px) hH e (by simp) (r.append r2) ?_,rfl,q⟩;rw [sK];omega
def IU:V->List V->Hp->VK->Prop:=fun x vs H Q=>∃ l xs y,x=.ref l/\vs=[]/\H l=some (.lst xs)/\xs[xs.length - 1]?=some y/\Q y (upd H l (.lst xs.dropLast))
def Sr:Ag X "list.pop" IU:=by
 intro pins s σ H x vs v us Q I rx rv h;obtain ⟨l,xs,y,rfl,rfl,hH,hy,q⟩:=h;cases rx;have hus:=rv.zero;subst hus;obtain ⟨z,aj,n,r,hl,e⟩:=I.nN hH;obtain ⟨u,hu,ru⟩:=r.get hy;have hy':aj.toArray[aj.toArray.size - 1]?=some u:=by
  show aj.toArray[aj.length - 1]?=some u;rw [<- No,<- hl];exact hu
 refine P3 F.slot_list_pop ⟨_,e,rfl⟩ F.entry_list_pop (F.args_list_pop_1 _) (MeetsSeq.list_pop_last l aj.toArray n u hy' (by rw [sB]; omega)) ⟨e,?_⟩;refine ⟨y,_,I.z8 (its':=aj.dropLast) hH e ?_ r.dropLast ?_,ru,q⟩
 ·show aj.toArray.eraseIdxIfInBounds (aj.toArray.size - 1)=aj.dropLast.toArray;rw [sB,List.eraseIdxIfInBounds_toArray,Ru]
 ·rw [List.length_dropLast];omega
def Qx:R2:=fun x y H Q=>∃ l b xs zs,x=.ref l/\y=.ref b/\H l=some (.lst xs)/\H b=some (.lst zs)/\xs.length+zs.length<=sizeLine/\∀ p,H p=none->Q (.ref p) (upd H p (.lst (xs++zs)))
def T1:bb X (binaryOp .Add) Qx:=by
 intro pins s σ H x y v u Q I rx ry h;obtain ⟨l,b,xs,zs,rfl,rfl,hH,hB,hz,q⟩:=h;cases rx;cases ry;obtain ⟨z,aj,n,r,hl,e⟩:=I.nN hH;obtain ⟨z2,px,n2,r2,cm,e2⟩:=I.nN hB;refine PySem.P.add_list e e2 ?_ (by rw [sB,sB]; omega);have ea:aj.toArray++px.toArray=(aj++px).toArray:=by simp
 rw [ea];exact ⟨.ref _,_,I.HH (t':=s.toks) (r.append r2) (by rw [sK]; omega),rfl,q _ I.fresh⟩
def Q5:R2:=fun x y H Q=>∃ l k xs,x=.ref l/\y=.int k/\H l=some (.lst xs)/\-(2 ^ 63)<=k/\k < 2 ^ 63/\xs.length * k.toNat<=sizeLine /\
 ∀ p,H p=none->Q (.ref p) (upd H p (.lst (List.replicate k.toNat xs).flatten))
def len_rep {α:Type} (xs:List α) (k:Nat):(List.replicate k xs).flatten.length=k * xs.length:=by
 induction k with
 | zero=>simp
 | succ k ih=>rw [Rs,_K,sK,ih,Nat.succ_mul,Nat.add_comm]
def Sy:bb X (binaryOp .Mult) Q5:=by
 intro pins s σ H x y v u Q I rx ry h;obtain ⟨l,k,xs,rfl,rfl,hH,h1,h2,hz,q⟩:=h;cases rx;obtain ⟨t,rfl⟩:=ry;obtain ⟨z,aj,n,r,hl,e⟩:=I.nN hH;have hlen:aj.toArray.size * k.toNat<=sizeLine:=by rw [sB,<- hl]; exact hz
 have hcap:¬ aj.toArray.size * k.toNat > (2 ^ 63 - 1) / 8:=by
  have:(sizeLine:Nat)<=(2 ^ 63 - 1) / 8:=by decide
  omega
 have Gq:¬ (!Builtin.List.listFitsIndex k)=true:=by
  rw [fitsIndex_both h1 h2];exact ut
 have Gy:¬ Builtin.List.listTooLong (aj.toArray.size * k.toNat)=true:=by
  rw [Lm hlen];exact ut
 have hnew:List.foldl (fun x1 x2=>x1++x2) #[] (List.replicate (if aj.toArray.isEmpty=true then 0 else k.toNat) aj.toArray)=(List.replicate k.toNat aj).flatten.toArray:=by
  have f0:∀ m:Nat,List.foldl (fun x1 x2=>x1++x2) #[] (List.replicate m aj.toArray)=(List.replicate m aj).flatten.toArray:=fun m=>by
   have:=foldl_rep aj m [];rw [List.nil_append] at this;exact this
  rw [f0];cases aj with
  | nil=>simp
  | cons a r'=>rw [wS (by simp)]
 refine wpAny_binaryOp_repeat_ref (T := "list") (U := "int") (by decide) ⟨_,e,rfl⟩ (fun s'=>typeIs_int s' k t) noFill_list_mul F.fills_int_mul F.slot_int_rmul repeat_list F.slot_int_index.lookup
  (P3 F.slot_int_rmul (typeIs_int s k t) F.entry_int_rmul (F.args_int_rmul_2 _ _) (int___rmul___int_list k t l aj.toArray n)
   ⟨e,rfl,⟨_,e,rfl⟩,P3 F.slot_list_mul ⟨_,e,rfl⟩ F.entry_list_mul (F.args_list_mul_2 _ _) (AutoListH.list___mul___list_int_3 l aj.toArray n k t Gq hcap Gy) ⟨e,?_⟩⟩)
 rw [hnew];exact ⟨.ref _,_,I.HH (t':=s.toks) (r.rep k.toNat) (by rw [len_rep,Nat.mul_comm]; exact hz),rfl,q _ I.fresh⟩
end
section
variable {prog:Program} {w:World} {A:Around} {E:Value->Shared->Prop} {s:Shared}
end
section
variable {X:Cx}
end
section
variable {κ:Type} [DecidableEq κ]
def aS (kvs:List (κ×V)) (k:κ):Option V:=(kvs.find? fun kv=>decide (kv.1=k)).map (·.2)
def putK (kvs:List (κ×V)) (k:κ) (v:V):List (κ×V) :=
 if (kvs.any fun kv=>decide (kv.1=k))=true then kvs.map (fun kv=>if kv.1=k then (kv.1,v) else kv) else kvs++[(k,v)]
def nZ {p:κ×V} {r:List (κ×V)} {k:κ} (e:p.1=k):aS (p::r) k=some p.2:=by simp [aS,UV,e]
def nE {p:κ×V} {r:List (κ×V)} {k:κ} (e:¬ p.1=k):aS (p::r) k=aS r k:=by simp [aS,UV,e]
def Dg (k:κ):∀ kvs:List (κ×V),(kvs.any fun kv=>decide (kv.1=k))=(aS kvs k).isSome
 | []=>rfl
 | p::r=>by
  rw [XV];by_cases e:p.1=k
  ·simp only [nZ e,u8 e,Bool.true_or,Option.isSome_some]
  ·rw [nE e,pc e,Bool.false_or]; exact Dg k r
def Lf (k j:κ) (y:V):∀ kvs:List (κ×V),aS kvs k=none->aS (kvs++[(k,y)]) j=if j=k then some y else aS kvs j
 | [],_=>by
  by_cases e:k=j
  ·rw [wT e.symm]; exact nZ (p:=(k,y)) e
  ·rw [wS (fun z=>e z.symm)]; exact nE (p:=(k,y)) e
 | p::r,hn=>by
  rw [List.cons_append];have hk:¬ p.1=k:=fun z=>by rw [nZ z] at hn; cases hn
  rw [nE hk] at hn;have ih:=Lf k j y r hn;by_cases e:p.1=j
  ·rw [nZ e,nZ e,wS (fun z=>hk (e.trans z))]
  ·rw [nE e,nE e,ih]
def Je (kvs:List (κ×V)) (k:κ) (v:V):(putK kvs k v).length<=kvs.length+1:=by
 unfold putK;split
 ·rw [nn]; omega
 ·rw [sK,Ev,_E]; omega
def eG.um {o:Option V} {u:Option Value} (r:eG o u):o.isSome=u.isSome:=by
 cases o with
 | none=>cases u with
  | none=>rfl
  | some _=>exact (show False from r).elim
 | some _=>cases u with
  | none=>exact (show False from r).elim
  | some _=>rfl
def eG.getD {o:Option V} {u:Option Value} {d:V} {d':Value} (r:eG o u) (rd:RelV d d'):RelV (o.getD d) (u.getD d'):=by
 cases o with
 | none=>cases u with
  | none=>exact rd
  | some _=>exact (show False from r).elim
 | some _=>cases u with
  | none=>exact (show False from r).elim
  | some _=>exact r
def KV.val {kvs:List (κ×V)} {vs:List (κ×Value)} (r:KV kvs vs) (k:κ):eG (aS kvs k) (valueAt vs k):=by
 unfold KV at r
 induction r with
 | nil=>exact True.intro
 | @cons p q ps qs h t ih =>
  obtain ⟨h1,h2⟩:=h;by_cases e:p.1=k
  ·have e':q.1=k:=h1.symm.trans e;have b:valueAt (q::qs) k=some q.2:=by simp [valueAt,UV,e']
   rw [nZ e,b]; exact h2
  ·have e':¬ q.1=k:=fun z=>e (h1.trans z);have b:valueAt (q::qs) k=valueAt qs k:=by simp [valueAt,UV,e']
   rw [nE e,b]; exact ih
def KV.any {kvs:List (κ×V)} {vs:List (κ×Value)} (r:KV kvs vs) (k:κ):(kvs.any fun kv=>decide (kv.1=k))=vs.any fun kv=>decide (kv.1=k):=by
 unfold KV at r
 induction r with
 | nil=>rfl
 | cons h t ih=>rw [XV,XV,ih,h.1]
def KV.Ah {kvs:List (κ×V)} {vs:List (κ×Value)} (r:KV kvs vs) (k:κ) {y:V} {u:Value} (ry:RelV y u) :
  KV (kvs.map fun kv=>if kv.1=k then (kv.1,y) else kv) (vs.map fun kv=>if kv.1=k then (kv.1,u) else kv):=by
 unfold KV at r ⊢
 induction r with
 | nil=>exact .nil
 | @cons p q ps qs h t ih =>
  rw [xz,xz];refine .cons ?_ ih;obtain ⟨h1,h2⟩:=h;by_cases e:p.1=k
  ·rw [wT e,wT (h1.symm.trans e)]; exact ⟨h1,ry⟩
  ·rw [wS e,wS (fun z=>e (h1.trans z))]; exact ⟨h1,h2⟩
def KV.put {kvs:List (κ×V)} {vs:List (κ×Value)} (r:KV kvs vs) (k:κ) {y:V} {u:Value} (ry:RelV y u):KV (putK kvs k y) (stored vs k u):=by
 unfold putK stored;rw [r.any k];by_cases e:(vs.any fun kv=>decide (kv.1=k))=true
 ·rw [wT e,wT e]; exact r.Ah k ry
 ·rw [wS e,wS e]; exact Paired.snoc r ⟨rfl,ry⟩
def KV.keys {kvs:List (κ×V)} {vs:List (κ×Value)} (r:KV kvs vs):kvs.map (·.1)=vs.map (·.1):=by
 unfold KV at r
 induction r with
 | nil=>rfl
 | cons h t ih=>rw [xz,xz,ih,h.1]
def KV.length {kvs:List (κ×V)} {vs:List (κ×Value)} (r:KV kvs vs):kvs.length=vs.length:=Paired.length r
end
def qc {P:Program} {w:World} {k:Key} {u:Value} (r:RelV (kV k) u):(eC P w).is k u=true:=by
 cases k with
 | inl i=>obtain ⟨t,e⟩:=(show ∃ t,u=Value.int i t from r); subst e; exact Rv P w i t
 | inr x=>obtain ⟨t,e⟩:=(show ∃ t,u=Value.str x t from r); subst e; exact UK P w x t
def JK {P:Program} {w:World}:∀ {ks:List Key} {us:List Value},Vals (ks.map kV) us->ItemsAre (eC P w) ks us
 | [],_,r=>by rw [On] at r; cases r; exact .nil
 | k::ks,_,r=>by
  rw [xz] at r;cases r with
  | cons h t=>exact .cons (qc h) (JK t)
abbrev KT (H:Hp):List (List Key×V)->List (List Key×Addr×Value)->Prop:=Paired fun p q=>p.1=q.1/\H q.2.1=some (.tup (p.1.map kV))/\RelV p.2 q.2.2
def KT.val {H:Hp} {kvs:List (List Key×V)} {xs:List (List Key×Addr×Value)} (r:KT H kvs xs) (k:List Key):eG (aS kvs k) ((atKey xs k).map (·.2)):=by
 induction r with
 | nil=>exact True.intro
 | @cons p q ps qs h t ih =>
  obtain ⟨h1,_,h2⟩:=h;by_cases e:p.1=k
  ·have e':q.1=k:=h1.symm.trans e;have b:atKey (q::qs) k=some q.2:=by simp [atKey,UV,e']
   rw [nZ e,b]; exact h2
  ·have e':¬ q.1=k:=fun z=>e (h1.trans z);have b:atKey (q::qs) k=atKey qs k:=by simp [atKey,UV,e']
   rw [nE e,b]; exact ih
def KT.Ah {H:Hp} {kvs:List (List Key×V)} {xs:List (List Key×Addr×Value)} (r:KT H kvs xs) (k:List Key) {y:V} {u:Value} (ry:RelV y u) :
  KT H (kvs.map fun kv=>if kv.1=k then (kv.1,y) else kv) (xs.map (putAt k u)):=by
 induction r with
 | nil=>exact .nil
 | @cons p q ps qs h t ih =>
  rw [xz,xz];refine .cons ?_ ih;obtain ⟨h1,h2,h3⟩:=h;unfold putAt;by_cases e:p.1=k
  ·rw [wT e,wT (h1.symm.trans e)]; exact ⟨h1,h2,ry⟩
  ·rw [wS e,wS (fun z=>e (h1.trans z))]; exact ⟨h1,h2,h3⟩
def KT.put {H:Hp} {kvs:List (List Key×V)} {xs:List (List Key×Addr×Value)} (r:KT H kvs xs) (k:List Key) {b:Addr} {y:V} {u:Value} (hb:H b=some (.tup (k.map kV))) (ry:RelV y u) :
  KT H (putK kvs k y) (storedH xs k b u):=by
 have e:(kvs.any fun kv=>decide (kv.1=k))=(atKey xs k).isSome:=by
  rw [Dg,(r.val k).um,Option.isSome_map]
 unfold putK storedH;rw [e];by_cases q:(atKey xs k).isSome=true
 ·rw [wT q,wT q]; exact r.Ah k ry
 ·rw [wS q,wS q]; exact Paired.snoc r ⟨rfl,hb,ry⟩
def KT.keeps {H H':Hp} {kvs:List (List Key×V)} {xs:List (List Key×Addr×Value)} (r:KT H kvs xs) (ht:∀ b ys,H b=some (.tup ys)->H' b=some (.tup ys)):KT H' kvs xs :=
 Paired.El r fun _ _ z=>⟨z.1,ht _ _ z.2.1,z.2.2⟩
section
variable {P:Program} {w:World} {H:Hp} {h:Heap} {a:Addr}
def Le {u:HO} (ok:ck P w H h) (e:Rd H a u):bM P w H h a u:=e.ok ok
def oh {kvs:List (Key×V)} (ok:ck P w H h) (e:Rd H a (.dK kvs)):kvs.length<=sizeLine/\(a == sysModules)=false/\∃ vs,KV kvs vs/\h.DictOf (eC P w) a vs :=
 show bM P w H h a (.dK kvs) from Le ok e
def ZQ {kvs:List (Key×V)} (ok:ck P w H h) (e:H a=some (.dK kvs)):kvs.length<=sizeLine/\(a == sysModules)=false/\∃ vs,KV kvs vs/\h.DictOf (eC P w) a vs:=oh ok (.inl e)
def qU {ks:List Key} (ok:ck P w H h) (e:H a=some (.tup (ks.map kV))):(tupleKind (eC P w)).is h ks a:=by
 obtain ⟨_,aj,r,o,h1,h2,n,h3⟩:=(show bM P w H h a (.tup (ks.map kV)) from ok a _ e);exact ⟨o,aj.toArray,n,h1,h2,h3.1,by simpa using JK r⟩
def nQ {kvs:List (List Key×V)} (ok:ck P w H h) (e:Rd H a (.dT kvs)):kvs.length<=sizeLine/\(a == sysModules)=false /\
  ∃ xs,KT H kvs xs/\h.DictOfH (tupleKind (eC P w)) a xs:=by
 obtain ⟨z,y,xs,r,o,es,ep,h1,h2,h3,h4,h5⟩:=(show bM P w H h a (.dT kvs) from Le ok e);refine ⟨z,y,xs,r,o,es,ep,h1,h2,h3,h4,fun x hx=>?_,h5⟩;have all:∀ {l:List (List Key×V)} {m:List (List Key×Addr×Value)},KT H l m->∀ x∈m,(tupleKind (eC P w)).is h x.1 x.2.1:=by
  intro l m q
  induction q with
  | nil=>intro x hx; exact nomatch hx
  | @cons p q ps qs hq t ih =>
   intro x hx;rcases li.mp hx with e | hx
   ·subst e;exact qU ok (by rw [<- hq.1]; exact hq.2.1)
   ·exact ih x hx
 exact all r x hx
def Qf {kvs:List (List Key×V)} (ok:ck P w H h) (e:H a=some (.dT kvs)):kvs.length<=sizeLine/\(a == sysModules)=false /\
  ∃ xs,KT H kvs xs/\h.DictOfH (tupleKind (eC P w)) a xs:=nQ ok (.inl e)
end
def eh (H:Hp) (a:Addr) (y:V) (r:Option V):Prop :=
 (∃ kvs k,Rd H a (.dK kvs)/\y=kV k/\r=aS kvs k)\/∃ kvs k b,Rd H a (.dT kvs)/\y=.ref b/\H b=some (.tup (k.map kV))/\r=aS kvs k
def iO (H:Hp) (a:Addr) (y v:V) (H':Hp):Prop :=
 (∃ kvs k,H a=some (.dK kvs)/\y=kV k/\kvs.length < sizeLine/\H'=upd H a (.dK (putK kvs k v))) \/
 ∃ kvs k b,H a=some (.dT kvs)/\y=.ref b/\H b=some (.tup (k.map kV))/\kvs.length < sizeLine/\H'=upd H a (.dT (putK kvs k v))
def eh.k {H:Hp} {a:Addr} {kvs:List (Key×V)} {k:Key} (e:H a=some (.dK kvs)):eh H a (kV k) (aS kvs k):=.inl ⟨kvs,k,.inl e,rfl,rfl⟩
def iO.k {H:Hp} {a:Addr} {kvs:List (Key×V)} {k:Key} {v:V} (e:H a=some (.dK kvs)) (hl:kvs.length < sizeLine):iO H a (kV k) v (upd H a (.dK (putK kvs k v))):=.inl ⟨kvs,k,e,rfl,hl,rfl⟩
def iO.t {H:Hp} {a b:Addr} {kvs:List (List Key×V)} {k:List Key} {v:V} (e:H a=some (.dT kvs)) (eb:H b=some (.tup (k.map kV))) (hl:kvs.length < sizeLine) :
  iO H a (.ref b) v (upd H a (.dT (putK kvs k v))):=.inr ⟨kvs,k,b,e,rfl,eb,hl,rfl⟩
section
variable {X:Cx} {pins:List (Addr×Obj)} {σ:St} {H:Hp} {s:Shared} {a:Addr} {y v:V} {u r:Value} {o:Option V} {A:Around} {E:Value->Shared->Prop}
def Inv.big (I:Inv X pins σ H s):sysModules < s.heap.objs.size:=by
 have h:mainGlobals < s.heap.objs.size:=(I.mod.glob.keeps I.bk).lt;exact Nat.lt_trans (by decide) h
def aaw {Q:Value->Shared->Prop} (hu:A.units+1 < cLine) (I:Inv X pins σ H s) (g:eh H a y (some v)) (ry:RelV y u) (h:∀ w' s',Inv X pins σ H s'->RelV v w'->Q w' s') :
  wpAny (model X.prog X.w) A (getItem (.ref a) u) Q E s:=by
 rcases g with ⟨kvs,k,e,ey,l⟩ | ⟨kvs,k,b,e,ey,eb,l⟩
 ·subst ey;obtain ⟨z,hd,vs,rel,dd⟩:=oh I.aB e;obtain ⟨w',hw,rw'⟩:=eG.some_of (v:=v) (o:=valueAt vs k) (by rw [l]; exact rel.val k);exact wpAny_getItem_of (qc ry) dd.mapOf hw (h w' _ (I.tok _) rw')
 ·subst ey;cases (show u=Value.ref b from ry);obtain ⟨z,hd,xs,rel,dd⟩:=nQ I.aB e;obtain ⟨w',hw,rw'⟩:=eG.some_of (v:=v) (o:=(atKey xs k).map (·.2)) (by rw [l]; exact rel.val k);obtain ⟨p,hp,eK⟩:=_L.mp hw;refine wpAny_getItem_heap (_l hu) (qU I.aB eb) dd hp ?_;rw [eK];exact h w' _ (I.tok _) rw'
def ZU {Q:Value->Shared->Prop} (hu:A.units+1 < cLine) (I:Inv X pins σ H s) (g:eh H a y o) (ry:RelV y u) (h:∀ s',Inv X pins σ H s'->Q (.bool o.isSome) s') :
  wpAny (model X.prog X.w) A (compareOp .In u (.ref a)) Q E s:=by
 rcases g with ⟨kvs,k,e,ey,l⟩ | ⟨kvs,k,b,e,ey,eb,l⟩
 ·subst ey;obtain ⟨z,hd,vs,rel,dd⟩:=oh I.aB e;refine wpAny_in_of (qc ry) hd dd.mapOf ?_;rw [<- (rel.val k).um,<- l];exact h _ (I.tok _)
 ·subst ey;cases (show u=Value.ref b from ry);obtain ⟨z,hd,xs,rel,dd⟩:=nQ I.aB e;refine wpAny_in_heap (_l hu) (qU I.aB eb) hd dd ?_;have q:=(rel.val k).um;rw [Option.isSome_map] at q;rw [<- q,<- l];exact h _ (I.tok _)
def SO {Q:Value->Shared->Prop} (hu:A.units+1 < cLine) (I:Inv X pins σ H s) (g:eh H a y o) (ry:RelV y u) (h:∀ s',Inv X pins σ H s'->Q (.bool (!o.isSome)) s') :
  wpAny (model X.prog X.w) A (compareOp .NotIn u (.ref a)) Q E s:=by
 rcases g with ⟨kvs,k,e,ey,l⟩ | ⟨kvs,k,b,e,ey,eb,l⟩
 ·subst ey;obtain ⟨z,hd,vs,rel,dd⟩:=oh I.aB e;refine wpAny_notIn_of (qc ry) hd dd.mapOf ?_;rw [<- (rel.val k).um,<- l];exact h _ (I.tok _)
 ·subst ey;cases (show u=Value.ref b from ry);obtain ⟨z,hd,xs,rel,dd⟩:=nQ I.aB e;refine wpAny_notIn_heap (_l hu) (qU I.aB eb) hd dd ?_;have q:=(rel.val k).um;rw [Option.isSome_map] at q;rw [<- q,<- l];exact h _ (I.tok _)
def Kk {h':Heap} {t':Nat} {ob:HO} (I:Inv X pins σ H s) (mu:ua (H a)) (hs:Heap.SameBut a s.heap h') (he:∃ q,h'.get? a=some q) (new:bM X.prog X.w (upd H a ob) h' a ob) :
  Inv X pins σ (upd H a ob) { s with heap:=h',toks:=t' } :=
 I.write (x:=a) (e:=a) mu (.inl rfl) (fun b q hb z=>(hs.2 b hb).trans z) he new
def WO {P:Program} {w:World} {H':Hp} {h':Heap} {kvs:List (Key×V)} {vs:List (Key×Value)} (z:kvs.length<=sizeLine) (hd:(a == sysModules)=false) (rel:KV kvs vs) (dd:h'.DictOf (eC P w) a vs) :
  bM P w H' h' a (.dK kvs):=⟨z,hd,vs,rel,dd⟩
def VM {H':Hp} {Q:Unit->Shared->Prop} (hu:A.units+1 < cLine) (I:Inv X pins σ H s) (g:iO H a y v H') (ry:RelV y u) (rv:RelV v r) (h:∀ s',Inv X pins σ H' s'->Q () s') :
  wpAny (model X.prog X.w) A (setItem (.ref a) u r) Q E s:=by
 rcases g with ⟨kvs,k,e,ey,l,eH⟩ | ⟨kvs,k,b,e,ey,eb,l,eH⟩
 ·subst ey eH;obtain ⟨z,hd,vs,rel,dd⟩:=ZQ I.aB e;have hz:vs.length<=sizeLine:=by rw [<- rel.length]; exact z
  have hl:(putK kvs k v).length<=sizeLine:=by have:=Je kvs k v; omega
  refine wpAny_setItem_pairs (hsz:=hz) (qc ry) dd fun h' dd' hs=>h _ ?_;have he:∃ q,h'.get? a=some q:=let ⟨q,_,_,hq,_⟩:=dd'; ⟨q,hq⟩
  exact Kk I (by rw [e]; exact True.intro) hs he (WO hl hd (rel.put k rv) dd')
 ·subst ey eH;cases (show u=Value.ref b from ry);obtain ⟨z,hd,xs,rel,dd⟩:=Qf I.aB e;have hz:xs.length<=sizeLine:=by rw [<- Paired.length rel]; exact z
  have hl:(putK kvs k v).length<=sizeLine:=by have:=Je kvs k v; omega
  refine wpAny_setItem_heap (hsz:=hz) (_l hu) (qU I.aB eb) dd fun h' dd' hs=>h _ ?_;obtain ⟨q,es,ep,hq,h2,h3,h4,_,h5⟩:=dd';refine Kk I (by rw [e]; exact True.intro) hs ⟨q,hq⟩ ⟨hl,hd,_,(rel.put k eb rv).keeps fun c ys ec=>?_,q,es,ep,hq,h2,h3,h4,h5⟩;rw [ah (XS ec e (fun z=>nomatch z))];exact ec
end
section
variable {X:Cx} {pins:List (Addr×Obj)} {σ:St} {H:Hp} {s:Shared} {a:Addr} {kvs:List (Key×V)} {k:Key} {u:Value} {A:Around} {E:Value->Shared->Prop}
end
def Bn (i:Expr):Prop:=∀ ov iv,subscripted i false ov iv=operate [ov,iv] (getItem ov iv)
def Tz {prog:Program} {w:World} {A:Around} {E:Value->Shared->Prop} {s:Shared} {env:Env} {value slice:Expr} {pos:Pos} {T id:String} {Q:Value->Shared->Prop}
  (hl:typeLookup (.type T) "__getitem__" = pure (some (.builtin id))) (hs:Bn slice)
  (h:wpAny (model prog w) A (eval value env) (fun o s₁=>wpAny (model prog w) A (eval slice env) (fun i s₂=>s₂.TypeIs o T/\wpAny (model prog w) A (getItem o i) Q E s₂) E s₁) E s) :
  wpAny (model prog w) A (eval (.Subscript value slice pos) env) Q E s:=by
 refine Subscript_ (IO h (fun o s₁ h₁=>IO h₁ (fun i s₂ h₂=>?_) fun _ _ x=>x) fun _ _ x=>x);obtain ⟨hT,h₂⟩:=h₂;unfold subscriptTail;refine jp ?_;rw [getitemInPython_of_ne hT.not_modules];refine jp (wpAny_specialOf hT hl ?_);have fin:wpAny (model prog w) A (subscripted slice false o i) (fun r s₃=>wpAny (model prog w) A (letTemporaryGo value o r >>= fun _=>pure r) Q E s₃) E s₂:=by
  rw [hs o i];exact wpAny_operating (IO h₂ (fun r s₃ h₃=>jp (wpAny_letTemporaryGo (pp h₃))) fun _ _ x=>x)
 first
  | exact pp (jp fin)
  | exact jp (pp (jp fin))
  | exact jp fin
def Zf {X:Cx} {pins:List (Addr×Obj)} {σ:St} {H:Hp} {s:Shared} {a:Addr} {y:V} {o:Option V} (I:Inv X pins σ H s) (g:eh H a y o):s.TypeIs (.ref a) "dict" := by
 rcases g with ⟨kvs,k,e,_,_⟩ | ⟨kvs,k,b,e,_,_,_⟩
 ·obtain ⟨_,_,vs,_,dd⟩:=oh I.aB e;exact dd.typeIs
 ·obtain ⟨_,_,xs,_,dd⟩:=nQ I.aB e;exact dd.typeIs
def EB (td ty:TE):TE:=fun σ H Q=>td σ H fun x H1=>ty σ H1 fun y H2=>∃ a v,x=.ref a/\eh H2 a y (some v)/\Q v H2
def zq (ty td:TE):TE:=fun σ H Q=>ty σ H fun y H1=>td σ H1 fun x H2=>∃ a o,x=.ref a/\eh H2 a y o/\Q (.bl o.isSome) H2
def B4 (ty td:TE):TE:=fun σ H Q=>ty σ H fun y H1=>td σ H1 fun x H2=>∃ a o,x=.ref a/\eh H2 a y o/\Q (.bl (!o.isSome)) H2
def BQ (td ty tv:TE):TS:=fun D σ H=>tv σ H fun v H1=>td σ H1 fun x H2=>ty σ H2 fun y H3=>∃ a H4,x=.ref a/\iO H3 a y v H4/\D.nx σ H4
section
variable {X:Cx} {o i e value:Expr} {pos pos' tpos:Pos} {td ty tv:TE}
def Wh (hu:X.A.units+1 < cLine) (ho:PE X o td) (hi:PE X i ty) (hs:Bn i):PE X (.Subscript o i pos) (EB td ty):=by
 intro pins s σ H Q I h;refine Tz PySem.F.slot_dict_getitem.lookup hs (aF (ho pins s σ H _ I h) fun u s1 ⟨x,H1,I1,rx,q1⟩=>aF (hi pins s1 σ H1 _ I1 q1) fun iv s2 ⟨y,H2,I2,ry,a,v,ex,g,q2⟩=>?_);subst ex;obtain rfl:u=Value.ref a:=rx;exact ⟨Zf I2 g,aaw hu I2 g ry fun w' s3 I3 rw'=>⟨v,H2,I3,rw',q2⟩⟩
def XX (hu:X.A.units+1 < cLine) (hi:PE X i ty) (ho:PE X o td):PC X .In i o (zq ty td):=by
 intro pins s σ H Q I h;refine aF (hi pins s σ H _ I h) fun iv s1 ⟨y,H1,I1,ry,q1⟩=>aF (ho pins s1 σ H1 _ I1 q1) fun u s2 ⟨x,H2,I2,rx,a,ov,ex,g,q2⟩=>?_;subst ex;obtain rfl:u=Value.ref a:=rx;exact ZU hu I2 g ry fun s3 I3=>⟨.bl ov.isSome,H2,I3,rfl,q2⟩
def Yt (hu:X.A.units+1 < cLine) (hi:PE X i ty) (ho:PE X o td):PC X .NotIn i o (B4 ty td):=by
 intro pins s σ H Q I h;refine aF (hi pins s σ H _ I h) fun iv s1 ⟨y,H1,I1,ry,q1⟩=>aF (ho pins s1 σ H1 _ I1 q1) fun u s2 ⟨x,H2,I2,rx,a,ov,ex,g,q2⟩=>?_;subst ex;obtain rfl:u=Value.ref a:=rx;exact SO hu I2 g ry fun s3 I3=>⟨.bl (!ov.isSome),H2,I3,rfl,q2⟩
def Z9 (hu:X.A.units+1 < cLine) (ho:PE X o td) (hi:PE X i ty) (hv:PE X value tv) (hs:swapsWith value (some (.Subscript o i pos')) pos.line X.env=pure false) :
  PS X (.Assign [.Subscript o i pos'] value pos) (BQ td ty tv):=by
 intro pins s σ H D I h;refine wpAny_Assign_Subscript (aF (hv pins s σ H _ I h) fun r s1 ⟨v,H1,I1,rv,q1⟩=>aF (ho pins s1 σ H1 _ I1 q1) fun u s2 ⟨x,H2,I2,rx,q2⟩=>aF (hi pins s2 σ H2 _ I2 q2) fun iv s3 ⟨y,H3,I3,ry,a,H4,ex,g,q3⟩=>?_) hs;subst ex;obtain rfl:u=Value.ref a:=rx;exact VM hu I3 g ry rv fun s4 I4=>⟨σ,H4,I4,q3⟩
end
def aaU {P:Program} {w:World} {H:Hp} (h:Heap) (hb:sysModules < h.objs.size):bM P w H (h.push { cls:=.type "dict",data:=.dict #[] }) h.objs.size (.dK []) :=
 ⟨wP _,Ch.mpr (pi (ww hb)),[],.nil,Heap.DictOf.new h⟩
def abT {P:Program} {w:World} {H:Hp} (h:Heap) (hb:sysModules < h.objs.size):bM P w H (h.push { cls:=.type "dict",data:=.dict #[] }) h.objs.size (.dT []) :=
 ⟨wP _,Ch.mpr (pi (ww hb)),[],.nil,_,#[],0,tz _ rfl,⟨rfl,rfl,rfl⟩,rfl,rfl,_M⟩
def zD:TE:=fun _ H Q=>∀ p,H p=none->Q (.ref p) (upd H p (.dK []))
def AJ:TE:=fun _ H Q=>∀ p,H p=none->Q (.ref p) (upd H p (.dT []))
section
variable {X:Cx} {pos:Pos}
def abo:PE X (.Dict [] [] pos) zD:=fun pins s σ H Q I h =>
 wpAny_Dict_empty ⟨.ref s.heap.objs.size,_,I.laid (a:=s.heap.objs.size) (o:=.dK []) (t':=s.toks) (fun _ _ q=>kt _ q) (ss _) (aaU s.heap I.big),rfl,h _ (I.aB.fresh (ss _))⟩
def Zt:PE X (.Dict [] [] pos) AJ:=fun pins s σ H Q I h =>
 wpAny_Dict_empty ⟨.ref s.heap.objs.size,_,I.laid (a:=s.heap.objs.size) (o:=.dT []) (t':=s.toks) (fun _ _ q=>kt _ q) (ss _) (abT s.heap I.big),rfl,h _ (I.aB.fresh (ss _))⟩
end
def KZ:List (TE×TE)->St->Hp->(List (V×V)->Hp->Prop)->Prop
 | [],_,H,Q=>Q [] H
 | (tk,tv)::r,σ,H,Q=>tk σ H fun x H1=>tv σ H1 fun y H2=>KZ r σ H2 fun ps H3=>Q ((x,y)::ps) H3
abbrev VV:List (V×V)->List (Value×Value)->Prop:=Paired fun p q=>RelV p.1 q.1/\RelV p.2 q.2
def PPs (X:Cx) (pos:Pos) (keys:List (Option Expr)) (values:List Expr) (trs:List (TE×TE)):Prop :=
 ∀ (pins:List (Addr×Obj)) (s:Shared) (σ:St) (H:Hp) (Q:List (V×V)->Hp->Prop),Inv X pins σ H s->KZ trs σ H Q ->
  wpAny (model X.prog X.w) X.A (evalPairs (pairTrees keys values X.env pos)) (fun vs s'=>∃ ps H',Inv X pins σ H' s'/\VV ps vs/\Q ps H') X.xe s
structure M1 (X:Cx) (o:Expr) (m:Str) (apos:Pos) (e:Expr) (bE:Pos):Prop where
 base:attributeBase o m X.env (eval o X.env)=eval o X.env
 Lr:((backTo bE (starEach [e] X.env)).all (fun x=>!x.1) && (backToKw bE (keywordEach [] X.env)).all (fun x=>x.1.isSome)
  && decide (([e]:List Expr).length+([]:List Keyword).length+(if ([]:List Keyword).isEmpty then 0 else 1) < 30))=true
 line:(apos.endLine == bE.line)=true
 trees:backTo bE (starEach [e] X.env)=[(false,eval e X.env)]
structure M2 (X:Cx) (o:Expr) (m:Str) (apos:Pos) (e f:Expr) (bE:Pos):Prop where
 base:attributeBase o m X.env (eval o X.env)=eval o X.env
 Lr:((backTo bE (starEach [e,f] X.env)).all (fun x=>!x.1) && (backToKw bE (keywordEach [] X.env)).all (fun x=>x.1.isSome)
  && decide (([e,f]:List Expr).length+([]:List Keyword).length+(if ([]:List Keyword).isEmpty then 0 else 1) < 30))=true
 line:(apos.endLine == bE.line)=true
 trees:backTo bE (starEach [e,f] X.env)=[(false,eval e X.env),(false,eval f X.env)]
def Hr (H:Hp) (a:Addr):Prop:=(∃ kvs,Rd H a (.dK kvs))\/∃ kvs,Rd H a (.dT kvs)
def Yu {X:Cx} {pins:List (Addr×Obj)} {σ:St} {H:Hp} {s:Shared} {a:Addr} (I:Inv X pins σ H s) (d:Hr H a) :
  s.TypeIs (.ref a) "dict" /\ (∀ b,Value.ref a=.ref b->∃ ob,s.heap.get? b=some ob/\ob.dict=none)/\(a == sysModules)=false:=by
 rcases d with ⟨kvs,e⟩ | ⟨kvs,e⟩
 ·obtain ⟨_,hd,vs,_,dd⟩:=oh I.aB e;refine ⟨dd.typeIs,fun b q=>?_,hd⟩;cases q;obtain ⟨ob,_,_,h1,h2,_⟩:=dd;exact ⟨ob,h1,h2.2.1⟩
 ·obtain ⟨_,hd,xs,_,dd⟩:=nQ I.aB e;refine ⟨dd.typeIs,fun b q=>?_,hd⟩;cases q;obtain ⟨ob,_,_,h1,h2,_⟩:=dd;exact ⟨ob,h1,h2.2.1⟩
section
variable {X:Cx} {pins:List (Addr×Obj)} {σ:St} {H:Hp} {s:Shared} {a:Addr} {y d:V} {u r:Value} {o:Option V} {A:Around} {E:Value->Shared->Prop}
def Qr {Q:Value->Shared->Prop} (hu:A.units+1 < cLine) (I:Inv X pins σ H s) (g:eh H a y o) (ry:RelV y u) (h:∀ w' s',Inv X pins σ H s'->RelV (o.getD .ay) w'->Q w' s') :
  wpAny (model X.prog X.w) A (call (.builtin "dict.get") [.ref a,u]) Q E s:=by
 rcases g with ⟨kvs,k,e,ey,l⟩ | ⟨kvs,k,b,e,ey,eb,l⟩
 ·subst ey;obtain ⟨z,hd,vs,rel,dd⟩:=oh I.aB e;refine call_meetsIn _R dd.typeIs PySem.F.entry_dict_get (PySem.F.args_dict_get_2 _ _) (meets_dict_get (eC X.prog X.w) a (qc ry) hd) ⟨_,dd.mapOf,h _ _ (I.tok _) ?_⟩;rw [l];exact (rel.val k).getD rfl
 ·subst ey;cases (show u=Value.ref b from ry);obtain ⟨z,hd,xs,rel,dd⟩:=nQ I.aB e;refine call_meetsIn _R dd.typeIs PySem.F.entry_dict_get (PySem.F.args_dict_get_2 _ _) (meetsH_dict_get (tupleKind (eC X.prog X.w)) a b hd) ⟨_l hu,k,xs,qU I.aB eb,dd,h _ _ (I.tok _) ?_⟩;rw [l];exact (rel.val k).getD rfl
end
def BU (td ty:TE):TE:=fun σ H Q=>td σ H fun x H1=>∃ a,x=.ref a/\Hr H1 a/\ty σ H1 fun y H2=>∃ o,eh H2 a y o/\Q (o.getD .ay) H2
section
variable {X:Cx} {o e f:Expr} {apos bE:Pos} {td ty tx:TE}
def YI (hu:X.A.units+1 < cLine) (ho:PE X o td) (he:PE X e ty) (m:M1 X o "get" apos e bE):PE X (.Call (.Attribute o "get" apos) [e] [] bE) (BU td ty):=by
 intro pins s σ H Q I h;refine wpAny_Call_method m.base m.Lr m.line PySem.F.plainAttrs_dict _R PySem.F.type_dict_get (aF (ho pins s σ H _ I h) fun u s1 ⟨x,H1,I1,rx,a,ex,d,q1⟩=>?_);subst ex;obtain rfl:u=Value.ref a:=rx;obtain ⟨t1,t2,_⟩:=Yu I1 d;refine ⟨t1,t2,?_⟩;rw [m.trees];refine _m rfl (_u (Ty (aF (he pins s1 σ H1 _ I1 q1) fun iv s2 ⟨y,H2,I2,ry,ov,g,q2⟩=>WP ?_)));exact Qr hu I2 g ry fun w' s3 I3 rw'=>⟨_,H2,I3,rw',q2⟩
end
section
variable {X:Cx} {pins:List (Addr×Obj)} {σ:St} {H:Hp} {s:Shared} {a:Addr} {kvs:List (Key×V)} {A:Around} {E:Value->Shared->Prop}
end
section
variable {X:Cx} {pins:List (Addr×Obj)} {σ:St} {H:Hp} {s:Shared} {a:Addr} {y:V} {u:Value} {A:Around} {E:Value->Shared->Prop}
end
end L2
namespace Att
open PySem PySem.W PySem.Calls PyProof.Rows
def TR {P:Params} {h:Heap}:∀ (ns:List Int) (vs:List Value),WellAll P h vs (ns.map WData.int)->IntsAre vs ns:=by
 intro ns
 induction ns with
 | nil =>
  intro vs w;rw [List.map_nil] at w;cases w;exact .nil
 | cons n ns ih =>
  intro vs w;rw [List.map_cons] at w;cases w with
  | cons a b =>
   cases a;exact .cons _ _ (ih _ b)
def Qz {l:OpenLaw} {n:Nat} (hn:l.most=some n) {P:Params} {h:Heap} {args:List WData} {vals:List Value}
  (nB:l.row.toRowW.claim.pre args=true) (rD:WellAll P h vals args) :
  ∃ a vs ns,vals=[Value.ref a]/\args=[WData.list (ns.map WData.int)]/\h.get? a=some { cls:=.type "list",data:=.seq vs.toArray }/\IntsAre vs ns/\ns.length<=n:=by
 have lJ:WShape.hasAll [] args [.list .int]=true:=(pre_splitW nB).1;have hc:l.pre.holds [] { args:=args }=true:=(pre_splitW nB).2;obtain ⟨d,r,rfl,h1,h2⟩:=hasAllW_cons lJ;obtain rfl:=hasAllW_nil h2;obtain ⟨xs,rfl,h3⟩:=hasW_list h1;obtain ⟨ns,rfl⟩:=items_int h3;have hlen:ns.length<=n:=by
  unfold OpenLaw.pre at hc;have h4:(WTm.not (.lt (.lit (.int (n:Int))) (.len (.arg 0)))).holds [] { args:=[.list (ns.map .int)] }=true:=by
   have h4:=(holds_andW hc).1;rw [hn] at h4;exact h4
  have h5:=condW_of h4 (w_not (w_lt w_lit (w_len_list (w_arg rfl))));rw [List.length_map] at h5;refine Nat.le_of_not_lt fun q=>?_;have q':(n:Int) < ((ns.length:Nat):Int):=by omega
  first
   | (rw [decide_eq_true q'] at h5; exact absurd h5 (by decide))
   | (simp at h5; omega)
 cases rD with
 | cons w1 w2 =>
  cases w2;cases w1 with
  | list ho lQ=>exact ⟨_,_,ns,rfl,rfl,ho,TR ns _ lQ,hlen⟩
def Q9 (l:OpenLaw) (args:List WData):l.row.toRowW.claim.post args (.bool true) args=true :=
 postW_of (r:=l.row.toRowW) (X:=(true == true))
  (show WShape.has [] (.bool true) .bool=true by first | rfl | decide | simp [WShape.has,WShape.arms,WShape.armsAll])
  (show (WTm.eq .res (.lit (.bool true))).value [] { args:=args,res:=some (.bool true),after:=args }=some (.bool (true == true)) from w_eq_bool (w_res rfl) w_lit) rfl
def UN {l:OpenLaw} {n:Nat} {q:Program} {loose:List Str} {XP:(Str->Option Value)->Heap->Prop} {YP:World->Heap->Prop} {d:DefRec}
  (hn:l.most=some n) (vF:d.params.defaults=[])
  (call:∀ (w:World) (s₀ s₁:Shared) (mg mb:Str->Option Value) (fa:Addr) (o:Obj) (pm cd doc:Value) (a:Addr) (vs:List Value) (ns:List Int),
   Ground q loose [] XP w s₀ mg mb s₁.heap->YP w s₁.heap ->
   s₁.heap.get? fa=some o->o.data=.func (docDef d.name d.params d.body d.scope pm cd doc)->s₁.heap.CodeRec cd d.name->mg d.name=some (.ref fa) ->
   s₁.heap.get? a=some { cls:=.type "list",data:=.seq vs.toArray }->IntsAre vs ns->ns.length<=n->s₁.gens=#[] ->
   codeAny (model l.prog w) callerA (.call (.ref fa) ⟨[.ref a],[]⟩) (fun r s'=>r=.ok (.ret (.bool true))/\OldK s₁.heap s'.heap/\s'.os=s₁.os/\AllBare s'.gens) s₁) :
  WalkO q loose XP YP l.row.toRowW d [] (fun f vs=>PySem.call f vs):=by
 intro w s₀ s₁ mg mb G Y fa o pm cd doc dV kV ho hd bL hD hmg hg args vals as nB hlay gx rD hlo;obtain rfl:dV=.none:=Dflts.none hD vF;obtain rfl:kV=.none:=Dflts.noKw hD;obtain ⟨a,vs,ns,rfl,rfl,vv,hints,hlen⟩:=Qz hn nB rD;refine enter_call (codeAny_mono (call w s₀ s₁ mg mb fa o pm cd doc a vs ns G Y ho (fd_plain hd) bL hmg vv hints hlen hg) fun r s' hq=>?_);obtain ⟨rfl,h2,h3,h4⟩:=hq;exact ⟨.inl ⟨.bool true,.bool true,[],rfl,fun _=>rfl,.bool true,Q9 l _,fun _=>⟨List.Pairwise.nil,fun _ hm=>(nomatch hm)⟩⟩,h2,h3,h4⟩
section
variable {prog:Program} {w:World} {A:Around} {E:Value->Shared->Prop} {s:Shared} {K:Frag}
end
end Att
namespace L2
open PySem PySem.Spec PyProof.Rows
def Hg:∀ {vs:List Value} {ns:List Int},IntsAre vs ns->Vals (ns.map V.int) vs
 | _,_,.nil=>.nil
 | _,_,.cons n t h=>.cons ⟨t,rfl⟩ (Hg h)
abbrev KOf {K:PySem.W.Frag} {h:Heap} (_:K.In h):PySem.W.Frag:=K
def inClass (s:Stmt) (j:Nat):Stmt:=match s with
 | .ClassDef _ _ _ body _ _ _ _ _ _ _=>body.getD j (.Pass ⟨0,0,0,0⟩)
 | _=>.Pass ⟨0,0,0,0⟩
def eL (s:Stmt):Arguments:=match s with
 | .FunctionDef _ a _ _ _ _ _ _ _ _=>a
 | _=>{ posonlyargs:=[],args:=[],vararg:=none,kwonlyargs:=[],kw_defaults:=[],kwarg:=none,defaults:=[] }
def aR (s:Stmt):List Stmt:=match s with
 | .FunctionDef _ _ b _ _ _ _ _ _ _=>b
 | _=>[]
def aw (s:Stmt):Scope:=match s with
 | .FunctionDef _ _ _ _ _ _ sc _ _ _=>sc
 | _=>{ kind:=.function,names:=[],isGenerator:=false,isCoroutine:=false }
abbrev aN:dN:=fun _ _ _ _ _ _=>False
abbrev E0:XK:=fun _ _ _=>False
def au {X:Cx}:Passes aN X E0:=fun _ _ _ _ _ _ _ h=>h.elim
structure eP (K:PySem.W.Frag) (x qual:Str) (st:Stmt) (f:Addr) (fd:FuncData):Prop where
 ex:∃ (oc:Value) (od:Option Addr) (kV doc pm:Value) (an:Option Addr) (ag ct:Value) (da:Array (Option Value)),
  fd=PySem.W.fnOf x qual (eL st) (aR st) (aw st) .none kV doc pm an ag ct/\K.lookup f=some ⟨oc,od,.func fd,da⟩/\PySem.W.codeIn K ag qual=true
 kp:PySem.W.keepIn K (.ref f)=true
section
variable {P:Program} {w:World} {K:PySem.W.Frag} {mg:Str->Option Value} {base:Heap}
def eP.ok {x qual:Str} {st:Stmt} {f:Addr} {fd:FuncData} {N ps:List Str} {k:Nat} {sp:Sp} (F:eP K x qual st f fd) (S:aE N ps (aw st)) (len:∀ vs H Q E,sp vs H Q E->vs.length=ps.length)
  (ji:∀ (ag:Value) (A:Around) (outer:List Env) (s:Shared) (H:Hp) (vs:List V) (Q:VK) (E:XK),bc k (A.deeper (envOfC qual (aw st) s.heap.objs.size f ag))->sp vs H Q E ->
   ∃ t,c8 (cq aN P w K mg base N qual (aw st) f ag A outer s H E).qX (aR st) t/\t { nx:=fun _ H'=>Q .ay H',rt:=Q } (start N vs) H):aC P w K mg base aN (k+1) f fd ps sp:=by
 obtain ⟨oc,od,kV,doc,pm,an,ag,ct,da,rfl,lk,bL⟩:=F.ex;refine xm lk bL S len fun A outer s H vs Q E hr dj=>?_;obtain ⟨t,h,q⟩:=ji ag A outer s H vs Q E hr dj;exact ⟨t,h.qX,q⟩
def eP.binds {x qual:Str} {st:Stmt} {f:Addr} {fd:FuncData} {ps:List Str} (F:eP K x qual st f fd)
  (h:∀ (kV doc pm:Value) (an:Option Addr) (ag ct:Value) (us:List Value),us.length=ps.length->bindArgs (PySem.W.fnOf x qual (eL st) (aR st) (aw st) .none kV doc pm an ag ct) ⟨us,[]⟩=pure (ps.zip us)):Binds K fd ps []:=by
 obtain ⟨oc,od,kV,doc,pm,an,ag,ct,da,rfl,lk,bL⟩:=F.ex;exact .all (h kV doc pm an ag ct)
def Bg {x qual:Str} {st:Stmt} {f:Addr} {oc:Value} {od an:Option Addr} {da:Array (Option Value)} {kV doc pm ag ct:Value} (l:K.lookup f=some ⟨oc,od,.func (PySem.W.fnOf x qual (eL st) (aR st) (aw st) .none kV doc pm an ag ct),da⟩)
  (c:PySem.W.codeIn K ag qual=true) (k:PySem.W.keepIn K (.ref f)=true):eP K x qual st f (PySem.W.fnOf x qual (eL st) (aR st) (aw st) .none kV doc pm an ag ct):=⟨⟨oc,od,kV,doc,pm,an,ag,ct,da,rfl,l,c⟩,k⟩
end
def gk {A:Around} {k:Nat} (hr:bc k A):A.units+1 < cLine:=_n (Nat.add_le_add_left (by decide:1<=64) _) hr.units
def Mp {n:Nat} (h:n<=1000):n < sizeLine:=_n h (by decide)
section
variable {X:Cx}
def pv (i:Nat) {x:Str} {pos:Pos} (hN:X.N[i]?=some x:=by rfl) (hv:mj X.env.scope x:=by first | exact Or.inl rfl | exact Or.inr (Or.inl rfl) | exact Or.inr (Or.inr rfl)) (hd:(x == ("__debug__" : Str))=false:=by decide)
  (bL:(x == ("__classdict__" : Str))=false:=by decide):PE X (.Name x pos) (Hj i):=Bo hN hv hd bL
end
def bg {A B:Prop} (h:B):if false=true then A else B:=by
 rw [wS ut];exact h
def bK {A B:Prop} (h:A):if true=true then A else B:=by
 rw [wT rfl];exact h
def mS {c A B:Prop} [Decidable c] (h1:c->A) (h2:¬ c->B):if c then A else B:=by
 by_cases h:c
 ·rw [wT h];exact h1 h
 ·rw [wS h];exact h2 h
def ao (H H':Hp):Prop:=∀ b o,H b=some o->H' b=some o
def ao.refl (H:Hp):ao H H:=fun _ _ h=>h
def ao.trans {H H1 H2:Hp} (a:ao H H1) (b:ao H1 H2):ao H H2:=fun c o h=>b c o (a c o h)
def ao.free {H H':Hp} (e:ao H H') {l:Addr} (h:H' l=Option.none):H l=Option.none:=by
 cases q:H l with
 | none=>rfl
 | some o =>
  rw [e l o q] at h;cases h
def ao.seq {K:PySem.W.Frag} {H H':Hp} {a:Addr} {xs:List V} (e:ao H H') (h:aD K H a xs):aD K H' a xs:=by
 rcases h with (h | ⟨o,h⟩) | h
 ·exact .inl (.inl (e _ _ h))
 ·exact .inl (.inr ⟨o,e _ _ h⟩)
 ·exact .inr h
section
variable {X:Cx}
end
section
variable {κ:Type} [DecidableEq κ]
end
end L2
namespace Tx
open PySem PySem.Builtin PySem.Builtin.Str PySem.StrLaws
def S (l:List Nat):Str:=⟨l.toArray⟩
def l7 (l:List Nat):(S l).cps.toList=l:=by simp [S]
def aal (s:Str):S s.cps.toList=s:=by cases s; simp [S]
def cQ (l:List Nat):(S l).length=l.length:=by simp [S,Str.length]
def ML {a b:List Nat} (h:S a=S b):a=b:=by
 have:=congrArg (fun s=>s.cps.toList) h
 simpa [l7] using this
def kY (a b:List Nat):S a++S b=S (a++b):=by
 apply Str.ext';rw [Str.cps_append];simp [S]
def oC (c:Nat):(S [c]).length=1:=by rw [cQ]; rfl
def subAt_one (x:List Nat) (c i:Nat) (h:i < x.length):subAt (S x) (S [c]) i=decide (x[i]?=some c):=by
 rw [subAt_eq,l7,l7,oC];rw [List.drop_eq_getElem_cons h,List.take_succ_cons,List.take_zero,List.getElem?_eq_getElem h];by_cases e:x[i]=c
 ·simp [e]
 ·simp [e]
def aaO (x:List Nat) (c:Nat):(!(occurrences (S x) (S [c]) 0 (S x).length 1).isEmpty)=x.contains c:=by
 rw [Bool.eq_iff_iff,found_iff,oC,cQ];constructor
 ·rintro ⟨i,h1,h2⟩;rw [subAt_one x c i (by omega)] at h2;have h3:=of_decide_eq_true h2;exact List.elem_iff.mpr (List.mem_of_getElem? h3)
 ·intro h;obtain ⟨i,hi,e⟩:=List.getElem_of_mem (List.elem_iff.mp h);refine ⟨i,by omega,?_⟩;rw [subAt_one x c i hi,List.getElem?_eq_getElem hi,e];simp
def cut (c:Nat):List Nat->List (List Nat)
 | []=>[[]]
 | a::r=>if a=c then []::cut c r else match cut c r with
  | []=>[[a]]
  | h::t=>(a::h)::t
def aae (c:Nat):∀ l,cut c l≠[]
 | []=>by simp [cut]
 | a::r=>by
  unfold cut;split
  ·simp
  ·split <;> simp
def cR (c:Nat):Nat->List Nat->List Nat
 | _,[]=>[]
 | k,a::r=>if a=c then k::cR c (k+1) r else cR c (k+1) r
def Na (c:Nat):∀ (l:List Nat) (k j:Nat),cR c (k+j) l=(cR c k l).map (· + j)
 | [],_,_=>rfl
 | a::r,k,j=>by
  unfold cR;have e:k+j+1=(k+1)+j:=by omega
  rw [e,Na c r (k+1) j];split <;> simp
def Ed (x:List Nat) (c limit:Nat):∀ (l:List Nat) (k:Nat) (acc:Array Nat) (free:Nat),x.drop k=l->free<=k->acc.size+l.length < limit->k<=x.length ->
  (forIn (List.range' k (x.length+1 - k)) (acc,free) (occBody (S x) (S [c]) x.length limit)).run.fst.toList=acc.toList++cR c k l
 | [],k,acc,free,hd,hf,hl,hk=>by
  have hk2:k=x.length:=by
   have:=congrArg List.length hd;simp at this;omega
  have e:x.length+1 - k=1:=by omega
  have e1:List.range' k 1=[k]:=rfl;rw [e,e1,List.forIn_cons];unfold occBody;have hc:¬ (((((acc,free):Array Nat×Nat).fst.size < limit/\((acc,free):Array Nat×Nat).snd<=k)/\k+(S [c]).length<=x.length)/\subAt (S x) (S [c]) k=true):=by
   rw [oC];rintro ⟨⟨_,h⟩,_⟩;omega
  rw [if_neg hc];simp [cR]
 | a::r,k,acc,free,hd,hf,hl,hk=>by
  have bD:k < x.length:=by
   have:=congrArg List.length hd;simp at this;omega
  have e:x.length+1 - k=(x.length+1 - (k+1))+1:=by omega
  have hx:x[k]?=some a:=by
   have h1:(x.drop k)[0]?=some a:=by rw [hd]; rfl
   rw [List.getElem?_drop] at h1
   simpa using h1
  have hr:x.drop (k+1)=r:=by
   rw [<- List.drop_drop,hd]; rfl
  rw [e,List.range'_succ,List.forIn_cons];unfold occBody;simp only [List.length_cons] at hl;by_cases gD:a=c
  ·have hc:(((((acc,free):Array Nat×Nat).fst.size < limit/\((acc,free):Array Nat×Nat).snd<=k)/\k+(S [c]).length<=x.length)/\subAt (S x) (S [c]) k=true):=by
    rw [oC,subAt_one x c k bD,hx,gD];refine ⟨⟨⟨?_,hf⟩,by omega⟩,by simp⟩;show acc.size < limit;omega
   rw [if_pos hc];have ih:=Ed x c limit r (k+1) (acc.push k) (k+(S [c]).length) hr (by rw [oC]; omega) (by simp; omega) (by omega);refine Eq.trans ih ?_;rw [show cR c k (a::r)=k::cR c (k+1) r from if_pos gD];simp
  ·have hc:¬ (((((acc,free):Array Nat×Nat).fst.size < limit/\((acc,free):Array Nat×Nat).snd<=k)/\k+(S [c]).length<=x.length)/\subAt (S x) (S [c]) k=true):=by
    rw [subAt_one x c k bD,hx];rintro ⟨_,h⟩;exact gD (Option.some.inj (of_decide_eq_true h))
   rw [if_neg hc];have ih:=Ed x c limit r (k+1) acc free hr (by omega) (by omega) (by omega);refine Eq.trans ih ?_
   conv=>rhs; unfold cR
   rw [if_neg gD]
def IL (x:List Nat) (c:Nat):occurrences (S x) (S [c]) 0 (S x).length ((S x).length+1)=cR c 0 x:=by
 rw [occ_eq,cQ];have h:=Ed x c (x.length+1) x 0 #[] 0 rfl (Nat.le_refl _) (by simp) (Nat.zero_le _);rw [h];simp
def pieces (l:List Nat) (ps:List Nat):List (List Nat):=((0::ps.map (· + 1)).zip (ps++[l.length])).map fun p=>(l.drop p.1).take (p.2 - p.1)
def vW (c:Nat):∀ l:List Nat,pieces l (cR c 0 l)=cut c l
 | []=>rfl
 | a::r=>by
  have ih:=vW c r;have sh:cR c (0+1) r=(cR c 0 r).map (· + 1):=Na c r 0 1;have tail:∀ (A B:List Nat),((A.map (· + 1)).zip (B.map (· + 1))).map (fun p:Nat×Nat=>((a::r).drop p.1).take (p.2 - p.1))=(A.zip B).map (fun p:Nat×Nat=>(r.drop p.1).take (p.2 - p.1)):=fun A B=>by
   rw [List.zip_map,List.map_map];refine List.map_congr_left fun p _=>?_;show ((a::r).drop (p.1+1)).take (p.2+1 - (p.1+1))=_;rw [List.drop_succ_cons]
   congr 1
   omega
  unfold pieces at ih ⊢;unfold cR cut;rw [sh];by_cases h:a=c
  ·rw [if_pos h,if_pos h];have e1:(0::(0::(cR c 0 r).map (· + 1)).map (· + 1))=0::((0::(cR c 0 r).map (· + 1)).map (· + 1)):=rfl;have e2:(0::(cR c 0 r).map (· + 1))++[(a::r).length]=0::((cR c 0 r++[r.length]).map (· + 1)):=by simp
   rw [e1,e2,List.zip_cons_cons,List.map_cons,tail,ih];simp
  ·rw [if_neg h,if_neg h];have e2:(cR c 0 r).map (· + 1)++[(a::r).length]=(cR c 0 r++[r.length]).map (· + 1):=by simp
   rw [e2];generalize hB:cR c 0 r++[r.length]=B at ih;cases B with
   | nil=>simp at hB
   | cons b B' =>
    rw [List.zip_cons_cons,List.map_cons] at ih;rw [<- ih];rw [List.map_cons (l:=B'),List.zip_cons_cons,List.map_cons,tail];simp
def aaj (x:List Nat) (i j:Nat):strSub (S x) i j=S ((x.drop i).take (j - i)):=by
 rw [<- aal (strSub (S x) i j),strSub_toList,l7]
def LP (x:List Nat) (ps:List Nat):partsBetween (S x) ps 1=(pieces x ps).map S:=by
 unfold partsBetween pieces;rw [List.map_map,cQ];refine List.map_congr_left fun p _=>?_;exact aaj x p.1 p.2
def Ju (c:Nat):∀ l:List Nat,cR c 0 l=[]->cut c l=[l]
 | l,h=>by
  have:=vW c l;rw [h] at this;rw [<- this];simp [pieces]
def QU (x:List Nat) (c:Nat) (hc:c < 256):Txt.split (S x) (S [c])=(cut c x).map S:=by
 unfold Txt.split;rw [IL,oC,LP,vW];have nop:∀ k,¬ c∈x->cR c k x=[]:=by
  intro k
  induction x generalizing k with
  | nil=>intro _; rfl
  | cons a r ih =>
   intro hm;unfold cR;rw [if_neg (fun e=>hm (by simp [e]))];exact ih (k+1) fun m=>hm (List.mem_cons_of_mem _ m)
 by_cases h1:(decide ((S x).length < 1) || decide (PySem.Builtin.Str.strKind (S x) < PySem.Builtin.Str.strKind (S [c])))=true
 ·rw [if_pos h1];have hx:cR c 0 x=[]:=by
   refine nop 0 fun m=>?_;rw [cQ] at h1;have hk:PySem.Builtin.Str.strKind (S [c])=1:=by unfold PySem.Builtin.Str.strKind S; simp [hc]
   rw [hk] at h1;have hp:¬ x.length < 1:=by cases x with | nil=>simp at m | cons _ _=>simp
   have hq:¬ PySem.Builtin.Str.strKind (S x) < 1:=by unfold PySem.Builtin.Str.strKind; split <;> (try split) <;> omega
   simp [hp,hq] at h1
  rw [Ju c x hx]; rfl
 ·rw [if_neg h1];by_cases h2:(cR c 0 x).isEmpty=true
  ·rw [if_pos h2];rw [Ju c x (List.isEmpty_iff.mp h2)]; rfl
  ·rw [if_neg h2]
end Tx
namespace L2
open PySem PySem.Spec PyProof.Rows
def noStar:Expr->Bool
 | .Starred _ _=>false
 | _=>true
def fw {e:Expr} {es:List Expr} {env:Env} (h:noStar e=true):starEach (e::es) env=(false,eval e env)::starEach es env:=by
 cases e <;> first | rfl | cases h
def ik {pos:Pos} {env:Env}:∀ {es:List Expr},es.all noStar=true->(backTo pos (starEach es env)).any (·.1)=false
 | [],_=>rfl
 | e::es,h=>by
  rw [IR,zn] at h;rw [fw h.1];have ih:=ik (pos:=pos) (env:=env) h.2;show ((false || (backTo pos (starEach es env)).any (·.1)))=false;rw [ih];rfl
def Ab {pos:Pos} {env:Env}:∀ {es:List Expr},es.all noStar=true->(backTo pos (starEach es env)).all (fun x=>!x.1)=true
 | [],_=>rfl
 | e::es,h=>by
  rw [IR,zn] at h;rw [fw h.1];have ih:=Ab (pos:=pos) (env:=env) h.2;show ((true && (backTo pos (starEach es env)).all (fun x=>!x.1)))=true;rw [ih];rfl
section
variable {X:Cx}
def Xg {e:Expr} {es:List Expr} {te:TE} {t:TA} (ha:PE X e te) (hr:PA X es t) (hs:noStar e=true:=by rfl):PA X (e::es) (oQ te t):=UA ha hr (fw hs)
def Sz {CX:dN} {k:Nat} {f:Addr} {fd:FuncData} {ps:List Str} {sp:Sp} {bt:List V} {ds:List Value} {E:XK} {x:Str} {p pos:Pos} {e:Expr} {es:List Expr} {t:TA}
  (F:aC X.prog X.w X.K X.mg X.base CX k f fd ps sp) (hr:bc k X.A) (hg:Gl X x) (hm:X.mg x=some (.ref f)) (hk:PySem.W.keepIn X.K (.ref f)=true) (hb:Binds X.K fd ps ds) (hd:Vals bt ds) (hx:Passes CX X E)
  (ha:PA X (e::es) t) (hs:(e::es).all noStar=true:=by rfl) (bR:(x == ("__debug__" : Str))=false:=by decide):PE X (.Call (.Name x p) (e::es) [] pos) (wt sp bt E t):=by
 have hs':=hs;rw [IR,zn] at hs';exact Va F hr hg hm hk hb hd hx ha bR (fw hs'.1) (ik hs'.2)
def VU {x:Str} {p pos:Pos} {e:Expr} {es:List Expr} {t:TA} {id:String} {r:List V->Hp->VK->Prop} (hc:cM X (.builtin id) r) (hg:Gl X x) (hm:X.mg x=none) (hv:bootBuiltins x=some (.builtin id)) (ha:PA X (e::es) t)
  (hs:(e::es).all noStar=true:=by rfl) (hn:x ≠ "__name__" := by decide) (bR:(x == ("__debug__" : Str))=false:=by decide):PE X (.Call (.Name x p) (e::es) [] pos) (oF r t):=by
 have hs':=hs;rw [IR,zn] at hs';exact Wv hc hg hm hv ha hn bR (fw hs'.1) (ik hs'.2)
def aau {x:Str} {p pos:Pos} {e:Expr} {es:List Expr} {t:TA} {T:String} {r:List V->Hp->VK->Prop} (hc:cM X (.type T) r) (hg:Gl X x) (hm:X.mg x=none) (hv:bootBuiltins x=some (.type T)) (ha:PA X (e::es) t)
  (hs:(e::es).all noStar=true:=by rfl) (hn:x ≠ "__name__" := by decide) (bR:(x == ("__debug__" : Str))=false:=by decide):PE X (.Call (.Name x p) (e::es) [] pos) (oF r t):=by
 have hs':=hs;rw [IR,zn] at hs';exact Ye hc hg hm hv ha hn bR (fw hs'.1) (ik hs'.2)
end
section
variable {X:Cx}
def PE.imp {e:Expr} {t t':TE} (h:PE X e t) (i:∀ σ H Q,t' σ H Q->t σ H Q):PE X e t':=fun pins s σ H Q I hw=>h pins s σ H Q I (i σ H Q hw)
def PS.imp {e:Stmt} {t t':TS} (h:PS X e t) (i:∀ D σ H,t' D σ H->t D σ H):PS X e t':=fun pins s σ H D I hw=>h pins s σ H D I (i D σ H hw)
def bb.imp {f:Value->Value->Sem Value} {r r':R2} (h:bb X f r) (i:∀ x y H Q,r' x y H Q->r x y H Q):bb X f r':=fun pins s σ H x y v u Q I rx ry q=>h pins s σ H x y v u Q I rx ry (i x y H Q q)
def cM.imp {f:Value} {r r':List V->Hp->VK->Prop} (h:cM X f r) (i:∀ xs H Q,r' xs H Q->r xs H Q):cM X f r':=fun pins s σ H xs us Q I rx q=>h pins s σ H xs us Q I rx (i xs H Q q)
def iX (i:Nat):TE:=fun σ H Q=>match σ[i]? with
 | some (some v)=>Q v H
 | _=>False
def qv (i:Nat) {x:Str} {pos:Pos} (hN:X.N[i]?=some x:=by rfl) (hv:mj X.env.scope x:=by first | exact Or.inl rfl | exact Or.inr (Or.inl rfl) | exact Or.inr (Or.inr rfl)) (hd:(x == ("__debug__" : Str))=false:=by decide)
  (bL:(x == ("__classdict__" : Str))=false:=by decide):PE X (.Name x pos) (iX i):=(Bo hN hv hd bL).imp fun σ H Q h=>by
 unfold iX at h;split at h
 ·rename_i v e;exact ⟨v,e,h⟩
 ·exact h.elim
def BO:R2:=fun x y H Q=>match x,y with
 | .int i,.int j=>Q (.int (i+j)) H
 | .str a,.str b=>a.length+b.length<=sizeLine/\Q (.str (a++b)) H
 | .ref l,.ref b=>match H l,H b with
  | some (.lst xs),some (.lst zs)=>xs.length+zs.length<=sizeLine/\∀ p,H p=none->Q (.ref p) (upd H p (.lst (xs++zs)))
  | _,_=>False
 | _,_=>False
def gj:bb X (binaryOp .Add) BO:=(PD.or (Ra.or T1)).imp fun x y H Q h=>by
 unfold BO at h;split at h
 ·exact .inl ⟨_,_,rfl,rfl,h⟩
 ·exact .inr (.inl ⟨_,_,rfl,rfl,h.1,h.2⟩)
 ·split at h
  ·rename_i xs zs h1 h2;exact .inr (.inr ⟨_,_,xs,zs,rfl,rfl,h1,h2,h.1,h.2⟩)
  ·exact h.elim
 ·exact h.elim
def bJ (K:PySem.W.Frag) (H:Hp) (p:Addr) (R:List V->Prop):Prop:=match H p with
 | some (.lst xs)=>R xs
 | some (.tup xs)=>R xs
 | _=>∃ xs,(aD K H p xs\/bw K H p xs)/\R xs
def yr {K:PySem.W.Frag} {H:Hp} {p:Addr} {R:List V->Prop} (h:bJ K H p R):∃ xs,(aD K H p xs\/bw K H p xs)/\R xs:=by
 unfold bJ at h;split at h
 ·rename_i xs e;exact ⟨xs,.inl (aD.of e),h⟩
 ·rename_i xs e;exact ⟨xs,.inr (bw.of e),h⟩
 ·exact h
def wV (K:PySem.W.Frag) (H:Hp) (p:Addr) (R:List V->Prop):Prop:=∃ xs,aD K H p xs/\R xs
def zP {K:PySem.W.Frag} {H:Hp} {p:Addr} {R:List V->Prop} (h:wV K H p R):∃ xs,aD K H p xs/\R xs:=h
def qS (C:Int->Int->Prop) (f:Int->Int->Int):R2:=fun x y H Q=>match x,y with
 | .int i,.int j=>C i j/\Q (.int (f i j)) H
 | _,_=>False
def AF {C:Int->Int->Prop} {f:Int->Int->Int} {x y:V} {H:Hp} {Q:VK} (h:qS C f x y H Q):rI C (fun i j=>.int (f i j)) x y H Q:=by
 unfold qS at h;split at h
 ·exact ⟨_,_,rfl,rfl,h.1,h.2⟩
 ·exact h.elim
def ou:bb X (binaryOp .Mod) (qS (fun _ j=>0 < j) fun i j=>i % j):=ZX.imp fun _ _ _ _ h=>AF h
def Cv:bb X (binaryOp .FloorDiv) (qS Hv fun i j=>i / j):=Yy.imp fun _ _ _ _ h=>AF h
def qg (neg:Bool):R2:=fun x y H Q=>match x,y with
 | .int i,.int j=>Q (.bl (neg ^^ decide (i=j))) H
 | .str i,.str j=>Q (.bl (neg ^^ decide (i=j))) H
 | .bl i,.bl j=>Q (.bl (neg ^^ decide (i=j))) H
 | _,_=>ym x y=true/\Q (.bl (neg ^^ decide (x=y))) H
def Lu (i j:Int):decide (V.int i=V.int j)=decide (i=j):=by by_cases h:i=j <;> simp [h]
def Ir (i j:Str):decide (V.str i=V.str j)=decide (i=j):=by by_cases h:i=j <;> simp [h]
def K0 (i j:Bool):decide (V.bl i=V.bl j)=decide (i=j):=by by_cases h:i=j <;> simp [h]
def UY:bb X (compareOp .Eq) (qg false):=aaf.imp fun x y H Q h=>by
 unfold qg at h;simp only [Bool.false_bne] at h;split at h
 ·exact ⟨rfl,by rw [Lu]; exact h⟩
 ·exact ⟨rfl,by rw [Ir]; exact h⟩
 ·exact ⟨rfl,by rw [K0]; exact h⟩
 ·exact h
def R3:bb X (compareOp .NotEq) (qg true):=Ry.imp fun x y H Q h=>by
 unfold qg at h;simp only [Bool.true_bne] at h;split at h
 ·exact ⟨rfl,by rw [Lu]; exact h⟩
 ·exact ⟨rfl,by rw [Ir]; exact h⟩
 ·exact ⟨rfl,by rw [K0]; exact h⟩
 ·exact h
def jy (f:Int->Int->Bool):R2:=fun x y H Q=>match x,y with
 | .int i,.int j=>Q (.bl (f i j)) H
 | _,_=>False
def De {f:Int->Int->Bool} {x y:V} {H:Hp} {Q:VK} (h:jy f x y H Q):nI (fun i j=>.bl (f i j)) x y H Q:=by
 unfold jy at h;split at h
 ·exact ⟨_,_,rfl,rfl,h⟩
 ·exact h.elim
def wo:bb X (compareOp .Lt) (jy fun i j=>decide (i < j)):=UC.imp fun _ _ _ _ h=>De h
def qZ:bb X (compareOp .LtE) (jy fun i j=>decide (i<=j)):=Xk.imp fun _ _ _ _ h=>De h
def zJ:bb X (compareOp .Gt) (jy fun i j=>decide (j < i)):=Xm.imp fun _ _ _ _ h=>De h
def v8 (K:PySem.W.Frag):R2:=fun x y H Q=>match x,y with
 | .str i,.str j=>Q (.bl (!(Builtin.Str.occurrences j i 0 j.length 1).isEmpty)) H
 | _,.ref p=>bJ K H p fun xs=>cG x=true/\xs.all cG=true/\Q (.bl (gJ x xs)) H
 | _,_=>False
def V0:bb X (compareOp .In) (v8 X.K):=(Ut.or Mw).imp fun x y H Q h=>by
 unfold v8 at h;split at h
 ·exact .inl ⟨_,_,rfl,rfl,h⟩
 ·obtain ⟨xs,h1,h2,h3,h4⟩:=yr h;exact .inr ⟨_,xs,rfl,h1,h2,h3,h4⟩
 ·exact h.elim
def mm (t:TE):TT:=fun σ H Q=>t σ H fun x H'=>match x with
 | .bl k=>Q k H'
 | _=>False
def Co {x:V} {H:Hp} {Q:Bool->Hp->Prop} (h:(match x with | .bl k=>Q k H | _=>False)):∃ k,x=.bl k/\Q k H:=by
 split at h
 ·exact ⟨_,rfl,h⟩
 ·exact h.elim
def Yr {op:CmpOp} {r:R2} {a b:Expr} {ta tb:TE} {pos:Pos} (ho:bb X (compareOp op) r) (ha:PE X a ta) (hb:PE X b tb) (hm:behindInMarks op b=false:=by first | exact xB _ (by decide) (by decide) | rfl) :
  PT X (.Compare a [op] [b] pos) (mm (lz r ta tb)):=by
 intro pins s σ H Q I h;refine wpAny_isTrue_Compare1 ?_ hm;refine aF (ha pins s σ H _ I h) fun v s1 ⟨x,H1,I1,r1,q1⟩=>aF (hb pins s1 σ H1 _ I1 q1) fun u s2 ⟨y,H2,I2,r2,q2⟩=>?_;refine aF (ho pins s2 σ H2 x y v u _ I2 r1 r2 q2) fun c s3 ⟨z,H3,I3,r3,q3⟩=>?_;obtain ⟨k,rfl,q⟩:=Co q3;cases r3;exact LT ⟨H3,I3,q⟩
def Vk {e:Expr} {t:TE} (h:PE X e t) (he:∀ whole,isTrue e X.env whole=(do let v <- whole; standAt e.pos; holding [v] (truthy v)):=by intro _; rfl):PT X e (mm t):=by
 intro pins s σ H Q I hw;refine isTrue_plain (aF (h pins s σ H _ I hw) fun v s1 ⟨x,H1,I1,r1,q1⟩=>?_) (he _);obtain ⟨d,rfl,q⟩:=Co q1;cases r1;exact LT ⟨H1,I1,q⟩
def zu (f g:Int->Int->Bool) (ta tb tc:TE):TT:=fun σ H Q=>ta σ H fun x H1=>tb σ H1 fun y H2=>match x,y with
 | .int i,.int j=>if f i j=true then tc σ H2 fun z H3=>(match z with | .int k=>Q (g j k) H3 | _=>False) else Q false H2
 | _,_=>False
def D8 (ta tb:TE):TE:=fun σ H Q=>ta σ H fun x H1=>match x with
 | .bl c=>if c=true then tb σ H1 Q else Q (.bl false) H1
 | _=>False
def Aq (ta tb:TE):TE:=fun σ H Q=>ta σ H fun x H1=>match x with
 | .bl c=>if c=true then Q (.bl true) H1 else tb σ H1 Q
 | _=>False
def D7 (ta:TE):TE:=fun σ H Q=>ta σ H fun x H1=>match x with
 | .bl c=>Q (.bl (!c)) H1
 | _=>False
variable {a b:Expr} {ta tb:TE} {pos:Pos} {rest:List Expr}
def R6 (ha:PE X a ta) (hb:PE X (.BoolOp .And (b::rest) pos) tb):PE X (.BoolOp .And (a::b::rest) pos) (D8 ta tb):=by
 intro pins s σ H Q I h;refine BoolOp_and (aF (ha pins s σ H _ I h) fun v s1 ⟨x,H1,I1,r1,q1⟩=>?_);have q1':∃ c,x=.bl c/\if c=true then tb σ H1 Q else Q (.bl false) H1:=by
  dsimp only at q1;split at q1
  ·exact ⟨_,rfl,q1⟩
  ·exact q1.elim
 obtain ⟨c,rfl,q1⟩:=q1';cases r1;refine LT ?_;cases c with
 | true=>exact hb pins s1 σ H1 Q I1 q1
 | false=>exact ⟨.bl false,H1,I1,rfl,q1⟩
def W3 (ha:PE X a ta) (hb:PE X (.BoolOp .Or (b::rest) pos) tb):PE X (.BoolOp .Or (a::b::rest) pos) (Aq ta tb):=by
 intro pins s σ H Q I h;refine BoolOp_or (aF (ha pins s σ H _ I h) fun v s1 ⟨x,H1,I1,r1,q1⟩=>?_);have q1':∃ c,x=.bl c/\if c=true then Q (.bl true) H1 else tb σ H1 Q:=by
  dsimp only at q1;split at q1
  ·exact ⟨_,rfl,q1⟩
  ·exact q1.elim
 obtain ⟨c,rfl,q1⟩:=q1';cases r1;refine LT ?_;cases c with
 | false=>exact hb pins s1 σ H1 Q I1 q1
 | true=>exact ⟨.bl true,H1,I1,rfl,q1⟩
def xt:V->Value
 | .ty n=>.type n
 | .ref a=>.ref a
 | _=>.none
def abp:cM X (.builtin "isinstance") (fun xs H Q=>∃ x cV t b,xs=[x,cV]/\((∃ n,cV=.ty n)\/∃ a,cV=.ref a)/\fF X.K H x t/\PySem.W.kitOne X.K t (xt cV)=some b/\Q (.bl b) H):=by
 intro pins s σ H xs us Q I r h;obtain ⟨x,cV,t,b,rfl,hc,ty,e,q⟩:=h;obtain ⟨u,c',rfl,ru,rc'⟩:=vals2 r;have ec:c'=xt cV:=by
  rcases hc with ⟨n,rfl⟩ | ⟨a,rfl⟩
  ·exact rc'
  ·exact rc'
 subst ec;exact Em I ru ty e fun tk=>⟨.bl b,H,I.tok tk,rfl,q⟩
end
section
variable {X:Cx}
def Cp:V->List V->Hp->VK->Prop:=fun x xs H Q=>match x,xs with
 | .str a,[.str b]=>Q (.bl (Txt.startswith a b)) H
 | _,_=>False
def Wb:dP X "str.startswith" Cp:=by
 intro pins s σ H x xs v us Q I rx r h;unfold Cp at h;split at h
 ·rename_i a b;obtain ⟨t,rfl⟩:=rx;obtain ⟨u,rfl,t',rfl⟩:=vals1 r;exact P3 F.slot_str_startswith (_t s a t) F.entry_str_startswith (F.args_str_startswith_2 _ _) (gives_str_startswith a b t t').meets ⟨.bl _,H,I,rfl,h⟩
 ·exact h.elim
def B2:V->List V->Hp->VK->Prop:=fun x xs H Q=>match x,xs with
 | .str a,[.str b]=>Q (.bl (Txt.endswith a b)) H
 | _,_=>False
def U0:dP X "str.endswith" B2:=by
 intro pins s σ H x xs v us Q I rx r h;unfold B2 at h;split at h
 ·rename_i a b;obtain ⟨t,rfl⟩:=rx;obtain ⟨u,rfl,t',rfl⟩:=vals1 r;exact P3 F.slot_str_endswith (_t s a t) F.entry_str_endswith (F.args_str_endswith_2 _ _) (gives_str_endswith a b t t').meets ⟨.bl _,H,I,rfl,h⟩
 ·exact h.elim
def Iv:∀ (l:List (Str×Tok)),Vals ((l.map (·.1)).map V.str) (strValues l)
 | []=>.nil
 | p::r=>.cons ⟨p.2,rfl⟩ (Iv r)
def xb:∀ {ts:List Str} {us:List Value},Vals (ts.map V.str) us->∃ l:List (Str×Tok),us=strValues l/\l.map (·.1)=ts
 | [],_,.nil=>⟨[],rfl,rfl⟩
 | t::r,_,.cons h h'=>by
  obtain ⟨k,rfl⟩:=h;obtain ⟨l,e1,e2⟩:=xb h';exact ⟨(t,k)::l,by rw [e1]; rfl,by rw [<- e2]; rfl⟩
def Ar:V->List V->Hp->VK->Prop:=fun x xs H Q=>match x,xs with
 | .str a,[.str b]=>(b.length == 0)=false/\a.length<=sizeLine/\(Builtin.Str.partsBetween a (Builtin.Str.occurrences a b 0 a.length (a.length+1)) b.length).length<=sizeLine /\
   ∀ l,H l=none->Q (.ref l) (upd H l (.lst ((Txt.split a b).map V.str)))
 | _,_=>False
def Y8:dP X "str.split" Ar:=by
 intro pins s σ H x xs v us Q I rx r h;unfold Ar at h;split at h
 ·rename_i a b;obtain ⟨hy,hx,hn,q⟩:=h;obtain ⟨t,rfl⟩:=rx;obtain ⟨w',rfl,u,rfl⟩:=vals1 r;have fin:∀ (l:List (Str×Tok)) (tk:Nat),l.map (·.1)=Txt.split a b->l.length<=sizeLine ->
    EP X pins σ Q (.ref s.heap.objs.size) { s with heap:=s.heap.push { cls:=.type "list",data:=.seq (strValues l).toArray },toks:=tk }:=fun l tk e hz =>
   ⟨.ref _,_,I.laid (t':=tk) (o:=.lst ((Txt.split a b).map V.str)) (fun b' o' q'=>kt _ q') (ss _)
    ⟨by rw [nn,<- e,nn]; exact hz,strValues l,0,by rw [<- e]; exact Iv l,tz _ rfl⟩,rfl,q _ (I.aB.fresh (ss _))⟩
  cases h1:(decide (a.length < b.length) || decide (Builtin.Str.strKind a < Builtin.Str.strKind b))
  ·cases hf:(Builtin.Str.occurrences a b 0 a.length (a.length+1)).isEmpty
   ·refine P3 F.slot_str_split (_t s a t) F.entry_str_split (Jac _ _) (meets_str_split_sep a b t u h1 hy hf hx hn) ?_;have e:Txt.split a b=Builtin.Str.partsBetween a (Builtin.Str.occurrences a b 0 a.length (a.length+1)) b.length:=(wS (Ja3 h1)).trans (wS (Ja3 hf));have z:=fin (numbered s.toks (Builtin.Str.partsBetween a (Builtin.Str.occurrences a b 0 a.length (a.length+1)) b.length)) (s.toks+(Builtin.Str.partsBetween a (Builtin.Str.occurrences a b 0 a.length (a.length+1)) b.length).length)
     ((numbered_texts _ _).trans e.symm) (by
      have:=NE List.length (numbered_texts s.toks (Builtin.Str.partsBetween a (Builtin.Str.occurrences a b 0 a.length (a.length+1)) b.length));rw [nn] at this;rw [this]; exact hn)
    rw [<- strsFrom_eq] at z;exact z
   ·exact P3 F.slot_str_split (_t s a t) F.entry_str_split (Jac _ _) (meets_str_split_not_found a b t u h1 hy hf)
     (fin [(a,t)] s.toks ((wS (Ja3 h1)).trans (wT hf)).symm (by show 1<=sizeLine; decide))
  ·exact P3 F.slot_str_split (_t s a t) F.entry_str_split (Jac _ _) (meets_str_split_cannot_occur a b t u h1)
    (fin [(a,t)] s.toks (wT h1).symm (by show 1<=sizeLine; decide))
 ·exact h.elim
def rJoin (K:PySem.W.Frag):V->List V->Hp->VK->Prop:=fun x xs H Q=>match x,xs with
 | .str a,[.ref p]=>wV K H p fun xs=>∃ ts:List Str,xs=ts.map V.str/\ts.foldl (fun n z=>n+z.length+a.length) 0<=sizeLine/\Q (.str (Str.join a ts)) H
 | _,_=>False
def Ui:dP X "str.join" (rJoin X.K):=by
 intro pins s σ H x xs v us Q I rx r h;unfold rJoin at h;split at h
 ·rename_i a p;obtain ⟨xs,hq,ts,rfl,hz,q⟩:=zP h;obtain ⟨t,rfl⟩:=rx;obtain ⟨w',rfl,e⟩:=vals1 r;cases e;obtain ⟨aj,rv,pl,hl⟩:=I.list hq;obtain ⟨l,rfl,e2⟩:=xb rv;have Gq:Builtin.Str.tooLong ((l.map (·.1)).toArray.foldl (· + ·.length+a.length) 0)=false:=by
   unfold Builtin.Str.tooLong;refine pc (Nat.not_lt.mpr ?_);rw [List.foldl_toArray,e2];exact hz
  refine P3 F.slot_str_join (_t s a t) F.entry_str_join (F.args_str_join_2 _ _) (meets_str_join_list a t p l Gq) ⟨pl.isList,?_⟩;have hlen:(Builtin.Str.glued a (l.map (·.1))).length<=sizeLine:=by
   rw [e2,StrLaws.glued_eq_join];refine wf ?_ hz;have:∀ (us:List Str) (n:Nat),n+(Str.join a us).length<=us.foldl (fun n z=>n+z.length+a.length) n:=by
    intro us
    induction us with
    | nil=>intro n; exact ss _
    | cons y r ih =>
     intro n;cases r with
     | nil=>show n+y.length<=n+y.length+a.length; omega
     | cons z r' =>
      have h1:(Str.join a (y::z::r')).length=y.length+a.length+(Str.join a (z::r')).length:=by
       show ((y++a)++Str.join a (z::r')).length=_;rw [Str.length_append,Str.length_append]
      have h2:=ih (n+y.length+a.length);rw [h1];refine wf ?_ h2;omega
   have h0:=this ts 0;omega
  have e3:Builtin.Str.glued a (l.map (·.1))=Str.join a ts:=by rw [e2,StrLaws.glued_eq_join]
  match l,e2,e3,hlen with
  | [],e2,e3,hlen=>exact ⟨hlen,⟨.str (Str.join a ts),H,I.tok _,⟨_,by rw [e3]⟩,q⟩⟩
  | [p],e2,e3,hlen =>
   have e4:Str.join a ts=p.1:=by rw [<- e2]; rfl
   exact ⟨.str (Str.join a ts),H,I.tok _,⟨_,by rw [e4]⟩,q⟩
  | p1::p2::r',e2,e3,hlen=>exact ⟨hlen,⟨.str (Str.join a ts),H,I.tok _,⟨_,by rw [e3]⟩,q⟩⟩
 ·exact h.elim
def Lw {v:Value} {o:Option Int} (p:IsPart v o):∃ l:Option (Int×Tok),v=partValue l/\l.map (·.1)=o:=by
 cases p with
 | none=>exact ⟨none,rfl,rfl⟩
 | int i t=>exact ⟨some (i,t),rfl,rfl⟩
def Jn:V->Option Int->Option Int->Hp->VK->Prop:=fun x lo hi H Q=>match x with
 | .str z=>z.length<=sizeLine/\Q (.str (Txt.slice z lo hi)) H
 | _=>False
def Xb:jU X Jn:=by
 intro pins s σ H x v vl vu lo hi sl Q I rx hs pl pu h;unfold Jn at h;split at h
 ·rename_i z;obtain ⟨hz,q⟩:=h;obtain ⟨t,rfl⟩:=rx;obtain ⟨l,rfl,rfl⟩:=Lw pl;obtain ⟨u,rfl,rfl⟩:=Lw pu;refine ⟨"str",_,F.slot_str_getitem.lookup,_t _ _ _,wpAny_getItem_str_slice (l:=l) (u:=u) (st:=none) hs rfl
   (post_val_or_str ⟨wf (Txt.slice_le z _ _) hz,fun t' k=>?_⟩)⟩
  exact ⟨.str (Txt.slice z (l.map (·.1)) (u.map (·.1))),H,I.tok k,⟨t',rfl⟩,q⟩
 ·exact h.elim
def AR:R2:=fun x y H Q=>match x,y with
 | .int i,.int j=>wY i j/\Q (.int (i * j)) H
 | .str z,.int n=>MulOk z n/\Q (.str (Txt.mul z n)) H
 | .ref l,.int k=>match H l with
  | some (.lst xs)=>-(2 ^ 63)<=k/\k < 2 ^ 63/\xs.length * k.toNat<=sizeLine/\∀ p,H p=none->Q (.ref p) (upd H p (.lst (List.replicate k.toNat xs).flatten))
  | _=>False
 | _,_=>False
def Tp:bb X (binaryOp .Mult) (fun x y H Q=>∃ z n,x=.str z/\y=.int n/\MulOk z n/\Q (.str (Txt.mul z n)) H):=by
 intro pins s σ H x y v u Q I rx ry h;obtain ⟨z,n,rfl,rfl,hm,q⟩:=h;obtain ⟨t,rfl⟩:=rx;obtain ⟨t',rfl⟩:=ry;exact SB.mul hm fun t2 k=>⟨.str _,H,I.tok _,⟨_,rfl⟩,q⟩
def yn:bb X (binaryOp .Mult) AR:=(Y6.or (Tp.or Sy)).imp fun x y H Q h=>by
 unfold AR at h;split at h
 ·exact .inl ⟨_,_,rfl,rfl,h.1,h.2⟩
 ·exact .inr (.inl ⟨_,_,rfl,rfl,h.1,h.2⟩)
 ·split at h
  ·rename_i xs h1;obtain ⟨h2,h3,h4,h5⟩:=h;exact .inr (.inr ⟨_,_,xs,rfl,rfl,h1,h2,h3,h4,h5⟩)
  ·exact h.elim
 ·exact h.elim
def MH:∀ {bs:List Bool} {us:List Value},Vals (bs.map V.bl) us->us=bs.map Value.bool
 | [],_,.nil=>rfl
 | b::r,_,.cons h h'=>by
  have h:_=Value.bool b:=h;rw [h,MH h'];rfl
def all_range (bs:List Bool):(List.range bs.length).all (fun j=>bs.getD j true)=bs.all id:=by
 rw [UF,At,At];constructor
 ·intro h b hb;obtain ⟨i,hi,e⟩:=Sc hb;have:=h i (Jaa.mpr hi);rw [_v,mo hi,e] at this;exact this
 ·intro h j hj;have hj:=Jaa.mp hj;rw [_v,mo hj];exact h _ (_Z hj)
def Y3 (hc:X.calm=true):cM X (.builtin "all") (fun xs H Q=>∃ (p:Addr) (bs:List Bool),xs=[.ref p]/\aD X.K H p (bs.map V.bl)/\Q (.bl (bs.all id)) H):=by
 intro pins s σ H xs us Q I r h;obtain ⟨p,bs,rfl,hq,q⟩:=h;obtain ⟨u,rfl,e⟩:=vals1 r;cases e;obtain ⟨aj,rv,pl,hz⟩:=I.list hq;have eb:=MH rv;subst eb;have bB:p < s.heap.objs.size:=pl.lt;refine call_all_walk (wpAny_pyIter_list pl.isList ?_);refine ⟨s.heap.objs.size,_,_,_,_,_,fun j=>bs.getD j true,rfl,Walks.list (A:=X.A.in1) (show X.A.in1.handled=none from I.ok.hd hc) _ p (ww bB) (bs.map Value.bool).toArray,⟨⟨_,tz _ rfl,rfl,rfl⟩,pl.isList.push _⟩,?_,?_⟩
 ·intro i v s' Q' E' hP hQ;have hi:bs[i]?=some (bs.getD i true)/\v=.bool (bs.getD i true):=by
   have hP:(bs.map Value.bool).toArray[i]?=some v:=hP;rw [List.getElem?_toArray,xL] at hP;cases e:bs[i]? with
   | none=>rw [e] at hP; cases hP
   | some b =>
    rw [e] at hP;have:bs.getD i true=b:=by rw [_v,e]; rfl
    rw [this];exact ⟨rfl,(EQ hP).symm⟩
  rw [hi.2];exact LT hQ
 ·intro h' tk hk;have e:(List.range (bs.map Value.bool).toArray.size).all (fun j=>bs.getD j true)=bs.all id:=by
   rw [sB,nn];exact all_range bs
  rw [e];refine ⟨.bl (bs.all id),H,I.kept (t':=tk) (fun b o eo=>?_),rfl,q⟩;refine hk b o ?_ (kt _ eo);intro hm;have e1:b=s.heap.objs.size:=by simpa using hm
  exact absurd (sw eo) (by rw [e1]; exact Id _)
def wz (x:Str):It:=⟨fun i _=>i < x.length,fun i H y H'=>H'=H/\∃ c,x.cps[i]?=some c/\y=.str ⟨#[c]⟩,fun i _=>x.length<=i⟩
def Im {P:Program} {w:World} {K:PySem.W.Frag} {tg:Expr} {x:Str} {t:Tok} {ty:String} (it:Addr)
  (cI:["enumerate","zip","dict_itemiterator","dict_reverseitemiterator","odict_iterator","itertools.zip_longest","itertools.pairwise"].contains ty=false)
  (W:∀ A:Around,A.handled=none->Walks P w A it [it] [it] x.cps.size (SignAt x) (fun i h=>h.IsStrIter it ty x t i)) (W0:∀ (A:Around) (i:Nat) (s:Shared) (Q:Value->Shared->Prop) (E:Value->Shared->Prop),s.heap.IsStrIter it ty x t i->Q (.ref it) s->wpAny (model P w) A (pyIter (.ref it)) Q E s) :
  Turn P w K tg (wz x) [it] it (fun i h=>i<=x.length/\h.IsStrIter it ty x t i) where
 mem:=by simp
 obj:=fun i h st b hb=>by
  have e:b=it:=by simpa using hb
  subst e;obtain ⟨_,o,e,c,d⟩:=st;exact ⟨o,e,fun v z=>by rw [d] at z; cases z⟩
 keep:=fun i h h' st k=>⟨st.1,let ⟨o,ho,r⟩:=st.2; ⟨o,k it (by simp) o ho,r⟩⟩
 item:=by
  intro X hP hw hK hc i pins s σ H E I hf st hg;subst hP hw hK;obtain ⟨f0,f1,f2,f3,f4,f5⟩:=hf it (by simp);refine (W X.A (I.ok.hd hc)).item i s _ E hg st.2 fun v h' tk hv st' hk=>?_;obtain ⟨c,u,ER,rfl⟩:=hv;have I1:Inv X pins σ H { s with heap:=h',toks:=tk }:=I.turned (t':=tk) (fun b o hb e=>hk b o (by simpa using hb) e) f0 f1 f3 f4 f5;obtain ⟨o,e,cc,d⟩:=id st';exact ⟨_,rfl,Dq (s:={ s with heap:=h',toks:=tk }) e cc d cI ⟨.str ⟨#[c]⟩,H,I1,⟨u,rfl⟩,⟨rfl,c,ER,rfl⟩,⟨hg,st'⟩,fun b hb=>(hf b hb).1⟩⟩
 done:=by
  intro X hP hw hK hc i pins s σ H E I hf st hg;subst hP hw hK;obtain ⟨f0,f1,f2,f3,f4,f5⟩:=hf it (by simp);have hi:i=x.cps.size:=Nat.le_antisymm st.1 hg;subst hi;exact (W X.A (I.ok.hd hc)).done s _ E st.2 fun h' tk hk=>⟨rfl,I.turned (t':=tk) (fun b o hb e=>hk b o (by simpa using hb) e) f0 f1 f3 f4 f5⟩
 self:=fun A i s Q E st h=>W0 A i s Q E st.2 h
def zg (tl:TE):TI:=fun σ H R=>tl σ H fun x H1=>match x with
 | .str z=>R (wz z) H1
 | _=>False
def Se {tg l:Expr} {tl:TE} (hl:PE X l tl):PI X tg l (zg tl):=by
 intro pins s σ H R I h;refine aF (hl pins s σ H _ I h) fun v s1 ⟨x,H1,I1,r1,q1⟩=>?_;have q1':∃ z,x=.str z/\R (wz z) H1:=by
  dsimp only at q1;split at q1
  ·exact ⟨_,rfl,q1⟩
  ·exact q1.elim
 obtain ⟨z,rfl,q⟩:=q1';obtain ⟨t,rfl⟩:=r1;have fp:∀ b∈[s1.heap.objs.size],kD X pins H1 b:=fun b hb=>by
  have e:b=s1.heap.objs.size:=by simpa using hb
  subst e;exact I1.CY (ss _) (I1.aB.fresh (ss _))
 cases ha:z.cps.all (· < 128)
 ·refine wpAny_pyIter_wide ha ⟨s1.heap.objs.size,[s1.heap.objs.size],_,_,H1,rfl,I1.kept (t':=s1.toks) fun b o e=>kt _ e,
   Im (ty := "str_iterator") (t:=t) _ (by decide) (fun A hA=>Walks.strWide hA _ z t) (fun A i s Q E st h=>wpAny_pyIter_striter_wide st h),⟨wP _,_,tz _ rfl,rfl,rfl⟩,fp,q⟩
 ·refine wpAny_pyIter_ascii ha ⟨s1.heap.objs.size,[s1.heap.objs.size],_,_,H1,rfl,I1.kept (t':=s1.toks) fun b o e=>kt _ e,
   Im (ty := "str_ascii_iterator") (t:=t) _ (by decide) (fun A hA=>Walks.strAscii hA _ z t) (fun A i s Q E st h=>wpAny_pyIter_striter_ascii st h),⟨wP _,_,tz _ rfl,rfl,rfl⟩,fp,q⟩
end
section
variable {X:Cx} {a b c:Expr} {ta tb tc:TE} {pos:Pos}
def TL (ha:PE X a ta):PE X (.UnaryOp .Not a pos) (D7 ta):=by
 intro pins s σ H Q I h;refine UnaryOp_ (aF (ha pins s σ H _ I h) fun v s1 ⟨x,H1,I1,r1,q1⟩=>?_);have q1':∃ k,x=.bl k/\Q (.bl (!k)) H1:=by
  dsimp only at q1;split at q1
  ·exact ⟨_,rfl,q1⟩
  ·exact q1.elim
 obtain ⟨k,rfl,z1⟩:=q1';cases r1;exact not_of (LT ⟨.bl (!k),H1,I1,rfl,z1⟩)
def Qo {op op':CmpOp} {f g:Int->Int->Bool} (ho:bb X (compareOp op) (jy f)) (ho':bb X (compareOp op') (jy g)) (ha:PE X a ta) (hb:PE X b tb) (hc:PE X c tc)
  (hm:lastMarks [op,op'] [b,c]=false:=by with_unfolding_all rfl):PT X (.Compare a [op,op'] [b,c] pos) (zu f g ta tb tc):=by
 intro pins s σ H Q I h;refine isTrue_chain (aF (ha pins s σ H _ I h) fun v s1 ⟨x,H1,I1,r1,q1⟩=>test_link (aF (hb pins s1 σ H1 _ I1 q1) fun u s2 ⟨y,H2,I2,r2,q2⟩=>?_)) hm;have q2':∃ i j,x=.int i/\y=.int j/\if f i j=true then tc σ H2 (fun z H3=>(match z with | .int k=>Q (g j k) H3 | _=>False)) else Q false H2:=by
  dsimp only at q2;split at q2
  ·exact ⟨_,_,rfl,rfl,q2⟩
  ·exact q2.elim
 obtain ⟨i,j,rfl,rfl,z2⟩:=q2';refine aF (ho pins s2 σ H2 (.int i) (.int j) v u (fun z H3=>z=.bl (f i j)/\H3=H2) I2 r1 r2 ⟨rfl,rfl⟩) fun d s3 ⟨z,H3,I3,r3,e,e'⟩=>?_;subst e e';cases r3;refine LT ?_;cases hf:f i j with
 | false =>
  rw [hf] at z2;exact ite_ff ⟨H3,I3,z2⟩
 | true =>
  rw [hf,wT rfl] at z2;refine ite_tt (test_last (aF (hc pins s3 σ H3 _ I3 z2) fun w' s4 ⟨z',H4,I4,r4,q4⟩=>?_));have q4':∃ k,z'=.int k/\Q (g j k) H4:=by
   dsimp only at q4;split at q4
   ·exact ⟨_,rfl,q4⟩
   ·exact q4.elim
  obtain ⟨k,rfl,z4⟩:=q4';refine aF (ho' pins s4 σ H4 (.int j) (.int k) u w' (fun z H5=>z=.bl (g j k)/\H5=H4) I4 r2 r4 ⟨rfl,rfl⟩) fun d' s5 ⟨z2,H5,I5,r5,e,e'⟩=>?_;subst e e';cases r5;exact LT ⟨H5,I5,z4⟩
def xv (K:PySem.W.Frag):List V->Hp->VK->Prop:=fun xs H Q=>match xs with
 | [.str y]=>y.length<=sizeLine/\Q (.int y.length) H
 | [.ref p]=>bJ K H p fun ys=>Q (.int ys.length) H
 | _=>False
def Zv:cM X (.builtin "len") (xv X.K):=XH.imp fun xs H Q h=>by
 unfold xv at h;split at h
 ·exact ⟨_,_,rfl,⟨h.1,rfl⟩,h.2⟩
 ·obtain ⟨ys,h1,h2⟩:=yr h;rcases h1 with h1 | h1
  ·exact ⟨_,_,rfl,.inl ⟨ys,h1,rfl⟩,h2⟩
  ·exact ⟨_,_,rfl,.inr ⟨ys,h1,rfl⟩,h2⟩
 ·exact h.elim
def Kc (K:PySem.W.Frag):List V->Hp->VK->Prop:=fun xs H Q=>match xs with
 | [x,cV]=>∃ t b,((∃ n,cV=.ty n)\/∃ a,cV=.ref a)/\fF K H x t/\PySem.W.kitOne K t (xt cV)=some b/\Q (.bl b) H
 | _=>False
def Yx:cM X (.builtin "isinstance") (Kc X.K):=abp.imp fun xs H Q h=>by
 unfold Kc at h;split at h
 ·obtain ⟨t,b,h1,h2,h3,h4⟩:=h;exact ⟨_,_,t,b,rfl,h1,h2,h3,h4⟩
 ·exact h.elim
def xW (K:PySem.W.Frag):List V->Hp->VK->Prop:=fun xs H Q=>match xs with
 | [.ref p]=>wV K H p fun xs=>∃ bs:List Bool,xs=bs.map V.bl/\Q (.bl (bs.all id)) H
 | _=>False
def PM (hc:X.calm=true):cM X (.builtin "all") (xW X.K):=(Y3 hc).imp fun xs H Q h=>by
 unfold xW at h;split at h
 ·obtain ⟨xs,h1,bs,rfl,h2⟩:=zP h;exact ⟨_,bs,rfl,h1,h2⟩
 ·exact h.elim
def wJ (K:PySem.W.Frag):List V->Hp->VK->Prop:=fun xs H Q=>match xs with
 | [.ref p]=>bJ K H p fun ys=>∀ l,H l=none->Q (.ref l) (upd H l (.lst ys))
 | _=>False
def Xx:cM X (.type "list") (wJ X.K):=Wt.imp fun xs H Q h=>by
 unfold wJ at h;split at h
 ·obtain ⟨ys,h1,h2⟩:=yr h;exact ⟨_,ys,rfl,h1,h2⟩
 ·exact h.elim
def ra (K:PySem.W.Frag):R2:=fun x y H Q=>match x,y with
 | .ref p,.int i=>bJ K H p fun xs=>match cD xs i with
  | some v=>Q v H
  | none=>False
 | .str z,.int i=>z.length<=sizeLine/\match cD z.cps.toList i with
  | some c=>Q (.str ⟨#[c]⟩) H
  | none=>False
 | _,_=>False
def fY.imp {r r':R2} (h:fY X r) (i:∀ x y H Q,r' x y H Q->r x y H Q):fY X r':=fun value slice pins s σ H x y v u Q I rx ry q=>h value slice pins s σ H x y v u Q I rx ry (i x y H Q q)
def qx:fY X (ra X.K):=TF.imp fun x y H Q h=>by
 unfold ra at h;split at h
 ·obtain ⟨xs,h1,h2⟩:=yr h;split at h2
  ·rename_i v e;rcases h1 with h1 | h1
   ·exact .inl ⟨_,xs,_,v,rfl,rfl,h1,e,h2⟩
   ·exact .inr (.inl ⟨_,xs,_,v,rfl,rfl,h1,e,h2⟩)
  ·exact h2.elim
 ·obtain ⟨h1,h2⟩:=h;split at h2
  ·rename_i d e;exact .inr (.inr ⟨_,_,d,rfl,rfl,h1,e,h2⟩)
  ·exact h2.elim
 ·exact h.elim
def xl (K:PySem.W.Frag):V->Option Int->Option Int->Hp->VK->Prop:=fun x lo hi H Q=>match x with
 | .str z=>z.length<=sizeLine/\Q (.str (Txt.slice z lo hi)) H
 | .ref a=>wV K H a fun xs=>∀ p,H p=none->Q (.ref p) (upd H p (.lst (gr xs lo hi)))
 | _=>False
def Px:jU X (xl X.K):=by
 intro pins s σ H x v vl vu lo hi sl Q I rx hs pl pu h;refine (Xb.or abb) pins s σ H x v vl vu lo hi sl Q I rx hs pl pu ?_;unfold xl at h;split at h
 ·exact .inl h
 ·obtain ⟨xs,h1,h2⟩:=zP h;exact .inr ⟨_,xs,rfl,h1,h2⟩
 ·exact h.elim
def BZ (t:TE):TO:=fun σ H Q=>t σ H fun x H1=>match x with
 | .int i=>Q (some i) H1
 | _=>False
def QN {e:Expr} {te:TE} (h:PE X e te):PO X (some e) (BZ te):=by
 intro pins s σ H Q I q;refine evalPart_some_step (aF (h pins s σ H _ I q) fun v s1 ⟨x,H1,I1,r1,q1⟩=>?_);have q1':∃ i,x=.int i/\Q (some i) H1:=by
  dsimp only at q1;split at q1
  ·exact ⟨_,rfl,q1⟩
  ·exact q1.elim
 obtain ⟨i,rfl,z1⟩:=q1';obtain ⟨t,rfl⟩:=r1;exact ⟨some i,H1,I1,.int i t,z1⟩
def D4:uk:=fun o i v H Q=>match o,i with
 | .ref p,.int k=>match H p with
  | some (.lst xs)=>(match eg xs.length k with
   | some j=>Q (upd H p (.lst (xs.set j v)))
   | none=>False)
  | _=>False
 | _,_=>False
def uq:wj X D4:=by
 intro pins s σ H o i v ov iv u Q I ro ri rv h;refine set_list pins s σ H o i v ov iv u Q I ro ri rv ?_;unfold D4 at h;split at h
 ·split at h
  ·rename_i xs h1;split at h
   ·rename_i j h2;exact ⟨_,xs,_,j,rfl,rfl,h1,h2,h⟩
   ·exact h.elim
  ·exact h.elim
 ·exact h.elim
def dP.imp {id:String} {r r':V->List V->Hp->VK->Prop} (h:dP X id r) (i:∀ x xs H Q,r' x xs H Q->r x xs H Q):dP X id r':=fun pins s σ H x xs v us Q I rx rv q=>h pins s σ H x xs v us Q I rx rv (i x xs H Q q)
def zE:V->List V->Hp->VK->Prop:=fun x vs H Q=>match x,vs with
 | .ref l,[y]=>match H l with
  | some (.lst xs)=>xs.length < sizeLine/\Q .ay (upd H l (.lst (xs++[y])))
  | _=>False
 | _,_=>False
def kz:dP X "list.append" zE:=dP.imp Zy fun x xs H Q h=>by
 unfold zE at h;split at h
 ·split at h
  ·rename_i zs h1;exact ⟨_,zs,_,rfl,rfl,h1,h.1,h.2⟩
  ·exact h.elim
 ·exact h.elim
def CL:V->List V->Hp->VK->Prop:=fun x vs H Q=>match x,vs with
 | .ref l,[.ref b]=>match H l,H b with
  | some (.lst xs),some (.lst zs)=>xs.length+zs.length<=sizeLine/\Q .ay (upd H l (.lst (xs++zs)))
  | _,_=>False
 | _,_=>False
def aa4:dP X "list.extend" CL:=dP.imp XM fun x xs H Q h=>by
 unfold CL at h;split at h
 ·split at h
  ·rename_i zs ws h1 h2;exact ⟨_,_,zs,ws,rfl,rfl,h1,h2,h.1,h.2⟩
  ·exact h.elim
 ·exact h.elim
def clsName (H:Hp):V->Option String
 | .ay=>some "NoneType"
 | .bl _=>some "bool"
 | .int _=>some "int"
 | .str _=>some "str"
 | .ref p=>match H p with
  | some (.lst _)=>some "list"
  | some (.tup _)=>some "tuple"
  | some (.dK _)=>some "dict"
  | _=>none
 | _=>none
def vZ (T n:String):Bool:=T == n || (T == "bool" && n == "int")
def Yk {K:PySem.W.Frag} {H:Hp} {x:V} {T:String} (h:clsName H x=some T):fF K H x (.type T)/\T∈["NoneType","bool","int","str","list","tuple","dict"]:=by
 unfold clsName at h;split at h
 ·cases h; exact ⟨.ay,by simp⟩
 ·cases h; exact ⟨.bl _,by simp⟩
 ·cases h; exact ⟨.int _,by simp⟩
 ·cases h; exact ⟨.str _,by simp⟩
 ·split at h
  ·rename_i e; cases h; exact ⟨.lst e,by simp⟩
  ·rename_i e; cases h; exact ⟨.tup e,by simp⟩
  ·rename_i e; cases h; exact ⟨.dK e,by simp⟩
  ·cases h
 ·cases h
def ab1 (K:PySem.W.Frag):∀ T,T∈["NoneType","bool","int","str","list","tuple","dict"]->∀ n,n∈["bool","int","str","list","tuple","dict"]->PySem.W.kitOne K (.type T) (.type n)=some (vZ T n):=by
 intro T hT n hn;simp only [li,List.mem_nil_iff,wn] at hT hn;rcases hT with rfl | rfl | rfl | rfl | rfl | rfl | rfl <;> rcases hn with rfl | rfl | rfl | rfl | rfl | rfl <;> kernel_rfl
def DT:List V->Hp->VK->Prop:=fun xs H Q=>match xs with
 | [x,.ty n]=>n∈["bool","int","str","list","tuple","dict"]/\match clsName H x with
  | some T=>Q (.bl (vZ T n)) H
  | none=>False
 | _=>False
def kI:cM X (.builtin "isinstance") DT:=Yx.imp fun xs H Q h=>by
 unfold DT at h;split at h
 ·rename_i x n;obtain ⟨hn,h⟩:=h;split at h
  ·rename_i T e;obtain ⟨h1,h2⟩:=Yk (K:=X.K) e;exact ⟨_,_,.inl ⟨_,rfl⟩,h1,ab1 _ T h2 n hn,h⟩
  ·exact h.elim
 ·exact h.elim
def Ba (r:V->List V->Hp->VK->Prop) (to:TE) (t:TA):TE:=fun σ H Q=>to σ H fun x H1=>match x with
 | .str z=>t σ H1 fun xs H2=>r (.str z) xs H2 Q
 | _=>False
def Ei (r:V->List V->Hp->VK->Prop) (to:TE) (t:TA):TE:=fun σ H Q=>to σ H fun x H1=>match x with
 | .ref l=>(match H1 l with
  | some (.lst _)=>t σ H1 fun xs H2=>r (.ref l) xs H2 Q
  | _=>False)
 | _=>False
section
variable {T:String} {name:Str} {id:String} {r:V->List V->Hp->VK->Prop} {o e:Expr} {es:List Expr} {to:TE} {t:TA} {apos bE:Pos}
def Uz (slot:Slot "str" name id) (cI:typeOf (.builtin id)=pure (.type "method_descriptor")) (hm:dP X id r) (ho:PE X o to) (ha:PA X (e::es) t)
  (hs:(e::es).all noStar=true:=by rfl) (aY:decide ((e::es).length+([]:List Keyword).length+(if ([]:List Keyword).isEmpty then 0 else 1) < 30)=true:=by rfl)
  (jg:attributeBase o name X.env (eval o X.env)=eval o X.env:=by rfl) (jn:(apos.endLine == bE.line)=true:=by rfl) :
  PE X (.Call (.Attribute o name apos) (e::es) [] bE) (Ba r to t):=by
 have hs':=hs;rw [IR,zn] at hs';have aU:starEach (e::es) X.env=(false,eval e X.env)::starEach es X.env:=fw hs'.1;have EU:(backTo bE (starEach es X.env)).any (·.1)=false:=ik hs'.2;have GK:((backTo bE (starEach (e::es) X.env)).all (fun x=>!x.1) && (backToKw bE (keywordEach [] X.env)).all (fun x=>x.1.isSome)
   && decide ((e::es).length+([]:List Keyword).length+(if ([]:List Keyword).isEmpty then 0 else 1) < 30))=true:=by
  rw [Ab hs,aY];rfl
 intro pins s σ H Q I h;refine wpAny_Call_method_late jg GK jn rfl (aF (ho pins s σ H _ I h) fun v s1 ⟨x,H1,I1,r1,q1⟩=>?_);dsimp only at q1;split at q1
 ·rename_i z;obtain ⟨h1,h2⟩:=Dm (T := "str") I1 r1 rfl;refine ⟨"str",id,PySem.F.plainAttrs_str,slot,cI,h1,h2,?_⟩;have hA:=ha bE pins s1 σ H1 _ I1 q1;rw [aU] at hA ⊢;refine _m (by show (false || (backTo bE (starEach es X.env)).any (·.1))=false; rw [EU] <;> rfl) (_u ?_);exact aF hA fun us s2 ⟨vs,H2,I2,r2,q2⟩=>hm pins s2 σ H2 (.str z) vs v us Q I2 r1 r2 q2
 ·exact q1.elim
def SX (slot:Slot "list" name id) (cI:typeOf (.builtin id)=pure (.type "method_descriptor")) (hm:dP X id r) (ho:PE X o to) (ha:PA X (e::es) t)
  (hs:(e::es).all noStar=true:=by rfl) (aY:decide ((e::es).length+([]:List Keyword).length+(if ([]:List Keyword).isEmpty then 0 else 1) < 30)=true:=by rfl)
  (jg:attributeBase o name X.env (eval o X.env)=eval o X.env:=by rfl) (jn:(apos.endLine == bE.line)=true:=by rfl) :
  PE X (.Call (.Attribute o name apos) (e::es) [] bE) (Ei r to t):=by
 have hs':=hs;rw [IR,zn] at hs';have aU:starEach (e::es) X.env=(false,eval e X.env)::starEach es X.env:=fw hs'.1;have EU:(backTo bE (starEach es X.env)).any (·.1)=false:=ik hs'.2;have GK:((backTo bE (starEach (e::es) X.env)).all (fun x=>!x.1) && (backToKw bE (keywordEach [] X.env)).all (fun x=>x.1.isSome)
   && decide ((e::es).length+([]:List Keyword).length+(if ([]:List Keyword).isEmpty then 0 else 1) < 30))=true:=by
  rw [Ab hs,aY];rfl
 intro pins s σ H Q I h;refine wpAny_Call_method_late jg GK jn rfl (aF (ho pins s σ H _ I h) fun v s1 ⟨x,H1,I1,r1,q1⟩=>?_);dsimp only at q1;split at q1
 ·rename_i l;split at q1
  ·rename_i zs el;obtain ⟨h1,h2⟩:=Dm (T := "list") I1 r1 (.inl ⟨rfl,zs,aD.of el⟩);refine ⟨"list",id,PySem.F.plainAttrs_list,slot,cI,h1,h2,?_⟩;have hA:=ha bE pins s1 σ H1 _ I1 q1;rw [aU] at hA ⊢;refine _m (by show (false || (backTo bE (starEach es X.env)).any (·.1))=false; rw [EU] <;> rfl) (_u ?_);exact aF hA fun us s2 ⟨vs,H2,I2,r2,q2⟩=>hm pins s2 σ H2 (.ref l) vs v us Q I2 r1 r2 q2
  ·exact q1.elim
 ·exact q1.elim
end
def VO {CX:dN} {P:Program} {w:World} {K:PySem.W.Frag} {mg:Str->Option Value} {base:Heap} {N:List Str} {qual:Str} {scope:Scope} {f:Addr} {cd:Value} {A:Around} {outer:List Env} {s:Shared} {H:Hp} {E:XK} :
  (cq CX P w K mg base N qual scope f cd A outer s H E).K=K:=rfl
def eD {α:Type} (a:α) (l:List α):cD (a::l) 0=some a:=eR (j:=0) rfl
def wK {α:Type} (a b:α) (l:List α):cD (a::b::l) 1=some b:=eR (j:=1) rfl
def HM {α:Type} (a b c:α) (l:List α):cD (a::b::c::l) 2=some c:=eR (j:=2) rfl
def T5 (n:Nat):eg (n+1) 0=some 0:=by
 unfold eg;rw [wT (by decide),wT (by omega)];rfl
def Wf (n:Nat):eg (n+3) 2=some 2:=by
 unfold eg;rw [wT (by decide),wT (by omega)];rfl
def QC {H:Hp} {p b:Addr} {o u:HO} (h:H b=some u) (hp:H p=Option.none):upd H p o b=some u:=by rw [ah (fW h hp)]; exact h
def gK:bootBuiltins "isinstance" = some (.builtin "isinstance"):=by decide +kernel
def Md:bootBuiltins "all" = some (.builtin "all"):=by decide +kernel
def pT:bootBuiltins "str" = some (.type "str"):=by decide +kernel
def YB:bootBuiltins "bool" = some (.type "bool"):=by decide +kernel
def zF:bootBuiltins "int" = some (.type "int"):=by decide +kernel
def Bc:bootBuiltins "list" = some (.type "list"):=by decide +kernel
end
abbrev Mm (ifs:List Expr) (env:Env):Sem Bool:=forIn ifs true fun c r=>if r=true then do let ok <- isTrue c env (eval c env); pure (ForInStep.yield ok) else pure (ForInStep.yield r)
section
variable {prog:Program} {w:World} {A:Around} {R:Result->Shared->Prop} {s:Shared}
def TJ {elt tg iter:Expr} {ifs:List Expr} {scope:Scope} {pos:Pos} {it acc:Value} {env:Env} (J:Nat->Shared->Prop) (hN:∀ e s',notedBy (model prog w) A env (fun e s'=>R (.error e) s') e s'->True)
  (turn:∀ n s,J n s->wpAny (model prog w) A (pyNext it) (fun r s1=>match r with
   | none=>R (.ok .next) s1
   | some v=>wpAny (model prog w) A (letOwnedTupleGo tg it v) (fun _ s2=>wpAny (model prog w) A (assign tg env v) (fun _ s3=>wpAny (model prog w) A (Mm ifs env)
     (fun ok s4=>if ok=true then wpAny (model prog w) A (eval elt env) (fun x s5=>wpAny (model prog w) A (call (.builtin "list.append") [acc,x]) (fun _ s6=>∃ m,m < n/\J m s6) (fun _ _=>False) s5) (fun _ _=>False) s4
      else ∃ m,m < n/\J m s4) (fun _ _=>False) s3) (fun _ _=>False) s2) (fun _ _=>False) s1) (fun _ _=>False) s)
  (n:Nat) (h:J n s):codeAny (model prog w) A (.compLoop (.ListComp elt [⟨tg,iter,ifs,0⟩] scope pos) 0 it acc env) R s:=by
 have no:∀ {E:Value->Shared->Prop} (e:Value) (s':Shared),False->E e s':=fun _ _ z=>z.elim;refine codeAny_loop rfl J (fun n s hI=>?_) n h;refine (show wpAny _ A (Sem.onRaise (compTurn (.ListComp elt [⟨tg,iter,ifs,0⟩] scope pos) 0 it acc env) (fun x=>do noteFrame x env; theTreesLotGoes x)) _ _ s from ?_);refine wpAny_noted ?_;rw [compTurn_list];refine jp (_2 (jp (IO (turn n s hI) (fun r s1 q1=>?_) no)));cases r with
 | none=>exact pp q1
 | some v =>
  refine jp (IO q1 (fun _ s2 q2=>jp (IO q2 (fun _ s3 q3=>jp (IO q3 (fun ok s4 q4=>?_) no)) no)) no);cases ok with
  | false=>exact pp ⟨rfl,q4⟩
  | true=>exact jp (jp (IO q4 (fun x s5 q5=>jp (IO q5 (fun _ s6 q6=>pp (pp ⟨rfl,q6⟩)) no)) no))
end
def rf (X:Cx) (ifs:List Expr) (t:TT):Prop :=
 ∀ (pins:List (Addr×Obj)) (s:Shared) (σ:St) (H:Hp) (Q:Bool->Hp->Prop),Inv X pins σ H s->t σ H Q->wpAny (model X.prog X.w) X.A (Mm ifs X.env) (TP X pins σ Q) X.xe s
def mq:TT:=fun _ H Q=>Q true H
def Pq {X:Cx}:rf X [] mq:=fun _ _ _ H _ I h=>wpAny_tests_nil ⟨H,I,h⟩
def Xd {X:Cx} {c:Expr} {t:TT} (h:PT X c t):rf X [c] t:=fun pins s σ H Q I q=>wpAny_tests_one (h pins s σ H Q I q)
def w9 (wi:TI) (tt:TT) (te:TE):TE:=fun σ H Q=>wi σ H fun J H1=>∃ W:Nat->List V->Nat->Hp->Prop,(∃ m,W 0 [] m H1)/\∀ i ys m H,W i ys m H ->
 ys.length<=sizeLine/\((J.stop i H/\∀ l,H l=none->Q (.ref l) (upd H l (.lst ys))) \/
  (J.go i H/\ys.length < sizeLine/\∀ y H',J.k8 i H y H'->tt [some y] H' fun c H2=>if c=true then te [some y] H2 fun z H3=>∃ m',m' < m/\W (i+1) (ys++[z]) m' H3 else ∃ m',m' < m/\W (i+1) ys m' H2))
section
variable {X:Cx}
structure Ci (X:Cx) (pins:List (Addr×Obj)) (H:Hp) (C:Addr):Prop where
 fr:H C=none
 nl:C≠X.env.locals
 ab:X.s₀.heap.objs.size<=C
 nc:∀ x c,X.env.cells.lookup x=some c->c≠C
 np:∀ p∈X.pn++pins,p.1≠C
def Ci.go {pins:List (Addr×Obj)} {σ:St} {H:Hp} {s:Shared} {C:Addr} {h':Heap} (o:Ci X pins H C) (I:Inv X pins σ H s) (hs:Heap.SameBut C s.heap h'):Inv X pins σ H { s with heap:=h' } :=
 I.turned (t':=s.toks) (fun b ob hb e=>(hs.2 b hb).trans e) o.fr o.nl (.inr o.ab) o.nc o.np
end
def cb (st:Addr) (H H':Hp):Prop:=∀ c o,c≠st->H c=some o->H' c=some o
def cb.trans {st:Addr} {H H1 H2:Hp} (a:cb st H H1) (b:cb st H1 H2):cb st H H2:=fun c o n e=>b c o n (a c o n e)
def ao.upd {H:Hp} {p:Addr} {o:HO} (h:H p=Option.none):ao H (upd H p o):=fun b u e=>by rw [ah (fW e h)]; exact e
def ao.keep {H H':Hp} (h:ao H H') (st:Addr):cb st H H':=fun c o _ e=>h c o e
def cb.upd {H:Hp} {p:Addr} {o:HO}:cb p H (upd H p o):=fun c u n e=>by rw [ah n]; exact e
def cb.same {H H1 H':Hp} {st:Addr} (a:ao H H1) (h:H st=Option.none) (k:cb st H1 H'):ao H H':=fun c o e=>k c o (fW e h) (a c o e)
def xP:V->Bool
 | .str _=>true
 | _=>false
def mE (t:TE):TE:=fun σ H Q=>∃ M:VK,t σ H M/\∀ v H1,M v H1->Q v H1
def mA (t:TA):TA:=fun σ H Q=>∃ M:List V->Hp->Prop,t σ H M/\∀ v H1,M v H1->Q v H1
def PE.m {X:Cx} {e:Expr} {t:TE} (h:PE X e t):PE X e (mE t):=fun pins s σ H Q I ⟨M,h1,h2⟩=>aF (h pins s σ H M I h1) fun _ _ ⟨v,H1,I1,r,q⟩=>⟨v,H1,I1,r,h2 v H1 q⟩
def PA.m {X:Cx} {e:List Expr} {t:TA} (h:PA X e t):PA X e (mA t):=fun pos pins s σ H Q I ⟨M,h1,h2⟩=>aF (h pos pins s σ H M I h1) fun _ _ ⟨v,H1,I1,r,q⟩=>⟨v,H1,I1,r,h2 v H1 q⟩
def PI.imp {X:Cx} {tg it:Expr} {t t':TI} (h:PI X tg it t) (i:∀ σ H R,t' σ H R->t σ H R):PI X tg it t':=fun pins s σ H R I hw=>h pins s σ H R I (i σ H R hw)
def DC (ta:TA):TI:=fun σ H R=>ta σ H fun vs H1=>match vs with
 | [.int j]=>(-(2 ^ 62)<=j/\j < 2 ^ 62)/\R (jF 0 j.toNat) H1
 | _=>False
def TC {X:Cx} {tg a:Expr} {ta:TA} {p pos:Pos} (hg:Gl X "range") (hm:X.mg "range" = none) (ha:PA X [a] ta) (hs:starEach [a] X.env=[(false,eval a X.env)]:=by rfl):PI X tg (.Call (.Name "range" p) [a] [] pos) (DC ta) :=
 (P5 hg hm ha.m hs).imp fun σ H R h=>⟨_,h,fun vs H1 z=>by
  split at z
  ·exact ⟨_,rfl,z.1.1,z.1.2,z.2⟩
  ·exact z.elim⟩
def Af (K:PySem.W.Frag) (tl:TE):TI:=fun σ H R=>tl σ H fun x H1=>match x with
 | .ref a=>(∃ xs,aD K H1 a xs)/\R (md K a) H1
 | _=>False
def Z3 {X:Cx} {tg l:Expr} {tl:TE} (hl:PE X l tl):PI X tg l (Af X.K tl):=(Yh hl.m).imp fun σ H R h=>⟨_,h,fun x H1 z=>by
  split at z
  ·exact ⟨_,rfl,z.1,z.2⟩
  ·exact z.elim⟩
def CK (J:It) (g:TG) (tb:TS) (D:Ends) (σ:St) (H1:Hp):Prop:=∃ W:Nat->Nat->St->Hp->Prop,(∃ m,W 0 m σ H1)/\∀ i m σ H,W i m σ H ->
 (J.stop i H/\D.nx σ H)\/(J.go i H/\∃ N:St->Hp->Prop,(∀ σ' H',N σ' H'->∃ m',m' < m/\W (i+1) m' σ' H')/\∀ x H',J.k8 i H x H'->g x σ H' fun σ2 H2=>tb { D with nx:=N,ct:=N,bk:=D.nx } σ2 H2)
def S2 {wi:TI} {g:TG} {tb:TS} {D:Ends} {σ:St} {H:Hp}:AW wi g tb D σ H=wi σ H fun J H1=>CK J g tb D σ H1:=rfl
def PL {lo:Int} {n:Nat} {g:TG} {tb:TS} {D:Ends} {σ:St} {H:Hp} (Pv:Nat->St->Hp->Prop) (h0:Pv 0 σ H)
  (hs:∀ i σ H,i < n->Pv i σ H->g (.int (lo+i)) σ H fun σ2 H2=>tb { D with nx:=Pv (i+1),ct:=Pv (i+1),bk:=D.nx } σ2 H2) (hd:∀ σ H,Pv n σ H->D.nx σ H):CK (jF lo n) g tb D σ H:=aaN Pv h0 hs hd
def Du {K:PySem.W.Frag} {a:Addr} {xs:List V} {g:TG} {tb:TS} {D:Ends} {σ:St} {H:Hp} (Pv:Nat->St->Hp->Prop) (h0:Pv 0 σ H) (hl:∀ i σ H,i<=xs.length->Pv i σ H->aD K H a xs)
  (hs:∀ i x σ H,xs[i]?=some x->Pv i σ H->g x σ H fun σ2 H2=>tb { D with nx:=Pv (i+1),ct:=Pv (i+1),bk:=D.nx } σ2 H2) (hd:∀ σ H,Pv xs.length σ H->D.nx σ H):CK (md K a) g tb D σ H:=PJ Pv h0 hl hs hd
def fits {n:Nat} (h:n<=1000):n<=sizeLine:=Ja6 (Mp h)
def kj {n:Nat} (h:n<=1000):n < sizeLine:=Mp h
def sF (t u:TS):TS:=fun D σ H=>∃ P:St->Hp->Prop,t { D with nx:=P } σ H/\∀ σ' H',P σ' H'->u D σ' H'
def Wo {X:Cx} {st:Stmt} {rest:List Stmt} {t u:TS} (h1:PS X st t) (h2:c8 X rest u):c8 X (st::rest) (sF t u):=by
 intro pins s σ H D I h;obtain ⟨P,ht,hu⟩:=h;have h1':PS X st (fun D' σ' H'=>D'={ D with nx:=P }/\t D' σ' H'):=h1.imp fun _ _ _ z=>z.2;have h2':c8 X rest (fun D' σ' H'=>P σ' H'/\D'=D):=fun pins s σ H D' I z=>by
  obtain ⟨z1,rfl⟩:=z;exact h2 pins s σ H D' I (hu σ H z1)
 refine abA (t:=fun D' σ' H'=>t { D with nx:=P } σ' H'/\D'.rt=D.rt/\D'.bk=D.bk/\D'.ct=D.ct/\∀ σ'' H'',P σ'' H''->D'.nx σ'' H'') (u:=fun D' σ' H'=>P σ' H'/\D'=D) ?_ h2' pins s σ H D I ⟨ht,rfl,rfl,rfl,fun σ'' H'' z=>⟨z,rfl⟩⟩;intro pins s σ H D' I z;obtain ⟨z1,z2,z3,z4,z5⟩:=z;refine aF (h1 pins s σ H { D with nx:=P } I z1) fun f s' hq=>?_;cases f with
 | next=>obtain ⟨σ',H',I',q⟩:=hq; exact ⟨σ',H',I',z5 _ _ q⟩
 | brk=>obtain ⟨σ',H',I',q⟩:=hq; exact ⟨σ',H',I',by rw [z3]; exact q⟩
 | cont=>obtain ⟨σ',H',I',q⟩:=hq; exact ⟨σ',H',I',by rw [z4]; exact q⟩
 | ret u=>obtain ⟨v,σ',H',I',r,q⟩:=hq; exact ⟨v,σ',H',I',r,by rw [z2]; exact q⟩
def ai {t u:TS} {D:Ends} {σ:St} {H:Hp} (h:t { D with nx:=u D } σ H):sF t u D σ H:=⟨u D,h,fun _ _ z=>z⟩
def kS {t u:TS} {D:Ends} {σ:St} {H:Hp} (P:St->Hp->Prop) (h1:t { D with nx:=P } σ H) (h2:∀ σ' H',P σ' H'->u D σ' H'):sF t u D σ H:=⟨P,h1,h2⟩
def BB {H:Hp} {x:V} {T:String} (h:clsName H x=some T):vZ T "str" = xP x:=by
 unfold clsName at h;split at h
 ·cases h; rfl
 ·cases h; rfl
 ·cases h; rfl
 ·cases h; rfl
 ·split at h
  ·cases h; rfl
  ·cases h; rfl
  ·cases h; rfl
  ·cases h
 ·cases h
def abS (H:Hp) (z:Str):clsName H (.str z)=some "str" := rfl
def XN (H:Hp) (z:Bool):clsName H (.bl z)=some "bool" := rfl
def S6 (H:Hp) (z:Int):clsName H (.int z)=some "int" := rfl
def Q3 (H:Hp):clsName H .ay=some "NoneType" := rfl
def Rk {H:Hp} {p:Addr} {xs:List V} (h:H p=some (.lst xs)):clsName H (.ref p)=some "list" := by simp only [clsName,h]
def vT (n:String) (h:["bool","int","str","list","tuple","dict"].contains n=true):n∈["bool","int","str","list","tuple","dict"]:=by simpa using h
def wC (K:PySem.W.Frag):R2:=fun x y H Q=>match y with
 | .ref p=>∃ xs,(aD K H p xs\/bw K H p xs)/\cG x=true/\xs.all cG=true/\Q (.bl (gJ x xs)) H
 | _=>False
def Qd {X:Cx}:bb X (compareOp .In) (wC X.K):=Mw.imp fun x y H Q h=>by
 unfold wC at h;split at h
 ·obtain ⟨xs,h1,h2,h3,h4⟩:=h;exact ⟨_,xs,rfl,h1,h2,h3,h4⟩
 ·exact h.elim
section
variable {X:Cx} {K:PySem.W.Frag}
def AZ (h:X.K=K):bb X (compareOp .In) (v8 K):=h ▸ V0
def Dh (h:X.K=K):bb X (compareOp .In) (wC K):=h ▸ Qd
def oA (h:X.K=K):cM X (.builtin "len") (xv K):=h ▸ Zv
def Kw (h:X.K=K) (hc:X.calm=true):cM X (.builtin "all") (xW K):=h ▸ PM hc
def ab3 (h:X.K=K):cM X (.type "list") (wJ K):=h ▸ Xx
def bh (h:X.K=K):fY X (ra K):=h ▸ qx
def qI (h:X.K=K):jU X (xl K):=h ▸ Px
def Ao (h:X.K=K):dP X "str.join" (rJoin K):=h ▸ Ui
end
def sC (J:It) (tt:TT) (te:TE) (Q:VK) (H0:Hp):Prop:=∃ W:Nat->List V->Nat->Hp->Prop,(∃ m,W 0 [] m H0)/\∀ i ys m H,W i ys m H ->
 ys.length<=sizeLine/\((J.stop i H/\∀ l,H l=none->Q (.ref l) (upd H l (.lst ys))) \/
  (J.go i H/\ys.length < sizeLine/\∀ y H',J.k8 i H y H'->tt [some y] H' fun c H2=>if c=true then te [some y] H2 fun z H3=>∃ m',m' < m/\W (i+1) (ys++[z]) m' H3 else ∃ m',m' < m/\W (i+1) ys m' H2))
def IB {wi:TI} {tt:TT} {te:TE} {σ:St} {H:Hp} {Q:VK}:w9 wi tt te σ H Q=wi σ H fun J H1=>sC J tt te Q H1:=rfl
def Rw {z:Str} {te:TE} {H:Hp} {Q:VK} (f:Nat->V) (hz:z.length<=sizeLine)
  (he:∀ c,c∈z.cps.toList->∀ H1,ao H H1->∀ R:VK,(∀ H2,ao H1 H2->R (f c) H2)->te [some (.str ⟨#[c]⟩)] H1 R)
  (q:∀ H1,ao H H1->∀ l,H1 l=none->Q (.ref l) (upd H1 l (.lst (z.cps.toList.map f)))):sC (wz z) mq te Q H:=by
 have hl:z.cps.toList.length=z.length:=by simp [Str.length]
 refine ⟨fun i ys m H1=>ao H H1/\ys=(z.cps.toList.take i).map f/\i<=z.length/\m=z.length - i,⟨_,ao.refl H,rfl,wP _,rfl⟩,?_⟩;rintro i ys m H1 ⟨s1,rfl,hi,rfl⟩;have hlen:((z.cps.toList.take i).map f).length=i:=by rw [nn,_c,hl]; omega
 refine ⟨by rw [hlen]; omega,?_⟩;by_cases h:i < z.length
 ·refine .inr ⟨h,by rw [hlen]; omega,?_⟩;rintro y H' ⟨rfl,c,hc,rfl⟩;have EW:z.cps.toList[i]?=some c:=by simpa using hc
  simp only [mq,if_true];refine he c (KK EW) H' s1 _ fun H2 s2=>⟨_,?_,s1.trans s2,?_,h,rfl⟩
  ·omega
  ·rw [List.take_add_one,EW,IN]; rfl
 ·have Nu:i=z.length:=by omega
  refine .inl ⟨Nat.le_of_eq Nu.symm,fun l hl'=>?_⟩;have:=q H1 s1 l hl';rw [ST (by rw [hl]; omega)];exact this
def IT {K:PySem.W.Frag} {a:Addr} {xs:List V} {tt:TT} {te:TE} {H:Hp} {Q:VK} (p:V->Bool) (f:V->V) (FQ:aD K H a xs) (hz:xs.length<=sizeLine)
  (ht:∀ x,x∈xs->∀ H1,ao H H1->∀ R:Bool->Hp->Prop,(∀ H2,ao H1 H2->R (p x) H2)->tt [some x] H1 R)
  (he:∀ x,x∈xs->p x=true->∀ H1,ao H H1->∀ R:VK,(∀ H2,ao H1 H2->R (f x) H2)->te [some x] H1 R)
  (q:∀ H1,ao H H1->∀ l,H1 l=none->Q (.ref l) (upd H1 l (.lst ((xs.filter p).map f)))):sC (md K a) tt te Q H:=by
 refine ⟨fun i ys m H1=>ao H H1/\ys=((xs.take i).filter p).map f/\i<=xs.length/\m=xs.length - i,⟨_,ao.refl H,rfl,wP _,rfl⟩,?_⟩;rintro i ys m H1 ⟨s1,rfl,hi,rfl⟩;have hlen:(((xs.take i).filter p).map f).length<=i:=by
  rw [nn];refine wf (_S _ _) ?_;rw [_c]; omega
 refine ⟨by omega,?_⟩;by_cases h:i < xs.length
 ·have hx:xs[i]?=some xs[i]:=mo h;refine .inr ⟨⟨xs,xs[i],s1.seq FQ,hx⟩,by omega,?_⟩;rintro y H' ⟨rfl,hy⟩;have N8:xs[i]?=some y:=hy xs (s1.seq FQ);have hm:y∈xs:=KK N8;have e1:(xs.take (i+1)).filter p=(xs.take i).filter p++(if p y=true then [y] else []):=by
   rw [List.take_add_one,N8,List.filter_append];by_cases hp:p y=true
   ·simp [hp]
   ·simp [hp]
  refine ht y hm H' s1 _ fun H2 s2=>?_;by_cases hp:p y=true
  ·rw [wT hp];refine he y hm hp H2 (s1.trans s2) _ fun H3 s3=>⟨_,?_,(s1.trans s2).trans s3,?_,h,rfl⟩
   ·omega
   ·rw [e1,wT hp,IN]; rfl
  ·rw [wS hp];refine ⟨_,?_,s1.trans s2,?_,h,rfl⟩
   ·omega
   ·rw [e1,wS hp,_o]
 ·have Nu:i=xs.length:=by omega
  refine .inl ⟨⟨xs,s1.seq FQ,by omega⟩,fun l hl'=>?_⟩;have:=q H1 s1 l hl';rw [ST (by omega)];exact this
structure QE (X:Cx) (e:Expr) (t:TE):Prop where
 h:PE X e t
structure QA (X:Cx) (e:List Expr) (t:TA):Prop where
 h:PA X e t
structure QT (X:Cx) (e:Expr) (t:TT):Prop where
 h:PT X e t
structure QW (X:Cx) (e:Expr) (t:TT):Prop where
 h:PW X e t
structure QS (X:Cx) (e:Stmt) (t:TS):Prop where
 h:PS X e t
structure QB (X:Cx) (e:List Stmt) (t:TS):Prop where
 h:c8 X e t
structure QI (X:Cx) (tg it:Expr) (t:TI):Prop where
 h:PI X tg it t
structure QG (X:Cx) (e:Expr) (t:TG):Prop where
 h:PG X e t
structure xk (X:Cx) (e:List Expr) (t:jK):Prop where
 h:sx X e t
structure pS (X:Cx) (e:List Expr) (t:TT):Prop where
 h:rf X e t
structure QO (X:Cx) (e:Option Expr) (t:TO):Prop where
 h:PO X e t
structure QP (X:Cx) (pos:Pos) (ks:List (Option Expr)) (vs:List Expr) (t:List (TE×TE)):Prop where
 h:PPs X pos ks vs t
namespace Dv
section
variable {X:Cx} {a b c:Expr} {ta tb tc:TE} {pos:Pos} {rest:List Expr} {tA tB':TT}
def v (i:Nat) {x:Str} {pos:Pos} (hN:X.N[i]?=some x:=by rfl) (hv:mj X.env.scope x:=by first | exact Or.inl rfl | exact Or.inr (Or.inl rfl) | exact Or.inr (Or.inr rfl)) (hd:(x == ("__debug__" : Str))=false:=by decide)
  (bL:(x == ("__classdict__" : Str))=false:=by decide):QE X (.Name x pos) (iX i):=⟨qv i hN hv hd bL⟩
def int {i j pos}:QE X (.Constant (.int i) j pos) (tC (.int i)):=⟨YQ⟩
def bl {b j pos}:QE X (.Constant (.bool b) j pos) (tC (.bl b)):=⟨YL⟩
def ay {j pos}:QE X (.Constant .none j pos) (tC .ay):=⟨Tn⟩
def str {x j pos}:QE X (.Constant (.str x) j pos) (tC (.str x)):=⟨YK⟩
def glob {x:Str} (v:V) {u:Value} {pos:Pos} (hm:X.mg x=some u) (r:RelV v u) (hg:Gl X x:=by rfl) (hd:(x == ("__debug__" : Str))=false:=by decide):QE X (.Name x pos) (tC v):=⟨QQ hg hm r hd⟩
def ky {x:Str} (v:V) {u:Value} {pos:Pos} (hm:X.mg x=none) (hv:bootBuiltins x=some u) (r:RelV v u) (hg:Gl X x:=by rfl) (hn:x ≠ "__name__" := by decide) (hd:(x == ("__debug__" : Str))=false:=by decide):QE X (.Name x pos) (tC v):=⟨SE hg hm hv r hn hd⟩
def op {o:Operator} {r:R2} (ho:bb X (binaryOp o) r) (ha:QE X a ta) (hb:QE X b tb):QE X (.BinOp a o b pos) (lz r ta tb):=⟨Wr ho ha.h hb.h⟩
def un {o:UnaryOp} {r:V->Hp->VK->Prop} (ho:uD X (unaryOp o) r) (ha:QE X a ta):QE X (.UnaryOp o a pos) (B1 r ta):=⟨Ug ho ha.h⟩
def cmp {o:CmpOp} {r:R2} (ho:bb X (compareOp o) r) (ha:QE X a ta) (hb:QE X b tb) (hm:behindInMarks o b=false:=by first | exact xB _ (by decide) (by decide) | rfl):QE X (.Compare a [o] [b] pos) (lz r ta tb):=⟨Zo ho ha.h hb.h hm⟩
def mJ (ha:QE X a ta) (hb:QE X (.BoolOp .And (b::rest) pos) tb):QE X (.BoolOp .And (a::b::rest) pos) (D8 ta tb):=⟨R6 ha.h hb.h⟩
def Xa (ha:QE X a ta) (hb:QE X (.BoolOp .Or (b::rest) pos) tb):QE X (.BoolOp .Or (a::b::rest) pos) (Aq ta tb):=⟨W3 ha.h hb.h⟩
def one {o} {t:TE} (h:QE X a t):QE X (.BoolOp o [a] pos) t:=⟨Wg h.h⟩
def Z4 (ha:QE X a ta):QE X (.UnaryOp .Not a pos) (D7 ta):=⟨TL ha.h⟩
def ae:QA X [] kO:=⟨VW⟩
def aa {e:Expr} {es:List Expr} {te:TE} {t:TA} (ha:QE X e te) (hr:QA X es t) (hs:noStar e=true:=by rfl):QA X (e::es) (oQ te t):=⟨Xg ha.h hr.h hs⟩
def call {CX:dN} {k:Nat} {f:Addr} {fd:FuncData} {ps:List Str} {sp:Sp} {bt:List V} {ds:List Value} {E:XK} {x:Str} {p pos:Pos} {e:Expr} {es:List Expr} {t:TA}
  (F:aC X.prog X.w X.K X.mg X.base CX k f fd ps sp) (hr:bc k X.A) (hm:X.mg x=some (.ref f)) (hk:PySem.W.keepIn X.K (.ref f)=true) (hb:Binds X.K fd ps ds) (hd:Vals bt ds) (hx:Passes CX X E)
  (ha:QA X (e::es) t) (hg:Gl X x:=by rfl) (hs:(e::es).all noStar=true:=by rfl) (bR:(x == ("__debug__" : Str))=false:=by decide):QE X (.Call (.Name x p) (e::es) [] pos) (wt sp bt E t):=⟨Sz F hr hg hm hk hb hd hx ha.h hs bR⟩
def cY {x:Str} {p pos:Pos} {e:Expr} {es:List Expr} {t:TA} {id:String} {r:List V->Hp->VK->Prop} (hc:cM X (.builtin id) r) (hm:X.mg x=none) (hv:bootBuiltins x=some (.builtin id)) (ha:QA X (e::es) t)
  (hg:Gl X x:=by rfl) (hs:(e::es).all noStar=true:=by rfl) (hn:x ≠ "__name__" := by decide) (bR:(x == ("__debug__" : Str))=false:=by decide):QE X (.Call (.Name x p) (e::es) [] pos) (oF r t):=⟨VU hc hg hm hv ha.h hs hn bR⟩
def wb {x:Str} {p pos:Pos} {e:Expr} {es:List Expr} {t:TA} {T:String} {r:List V->Hp->VK->Prop} (hc:cM X (.type T) r) (hm:X.mg x=none) (hv:bootBuiltins x=some (.type T)) (ha:QA X (e::es) t)
  (hg:Gl X x:=by rfl) (hs:(e::es).all noStar=true:=by rfl) (hn:x ≠ "__name__" := by decide) (bR:(x == ("__debug__" : Str))=false:=by decide):QE X (.Call (.Name x p) (e::es) [] pos) (oF r t):=⟨aau hc hg hm hv ha.h hs hn bR⟩
section
variable {name:Str} {id:String} {r:V->List V->Hp->VK->Prop} {o e:Expr} {es:List Expr} {to:TE} {t:TA} {apos bE:Pos}
def qj (slot:Slot "str" name id) (cI:typeOf (.builtin id)=pure (.type "method_descriptor")) (hm:dP X id r) (ho:QE X o to) (ha:QA X (e::es) t)
  (hs:(e::es).all noStar=true:=by rfl) (aY:decide ((e::es).length+([]:List Keyword).length+(if ([]:List Keyword).isEmpty then 0 else 1) < 30)=true:=by rfl)
  (jg:attributeBase o name X.env (eval o X.env)=eval o X.env:=by rfl) (jn:(apos.endLine == bE.line)=true:=by rfl):QE X (.Call (.Attribute o name apos) (e::es) [] bE) (Ba r to t):=⟨Uz slot cI hm ho.h ha.h hs aY jg jn⟩
def hX (slot:Slot "list" name id) (cI:typeOf (.builtin id)=pure (.type "method_descriptor")) (hm:dP X id r) (ho:QE X o to) (ha:QA X (e::es) t)
  (hs:(e::es).all noStar=true:=by rfl) (aY:decide ((e::es).length+([]:List Keyword).length+(if ([]:List Keyword).isEmpty then 0 else 1) < 30)=true:=by rfl)
  (jg:attributeBase o name X.env (eval o X.env)=eval o X.env:=by rfl) (jn:(apos.endLine == bE.line)=true:=by rfl):QE X (.Call (.Attribute o name apos) (e::es) [] bE) (Ei r to t):=⟨SX slot cI hm ho.h ha.h hs aY jg jn⟩
end
def sI:QO X none AN:=⟨YD⟩
def oT (h:QE X a ta):QO X (some a) (BZ ta):=⟨QN h.h⟩
def slice {r:V->Option Int->Option Int->Hp->VK->Prop} {lo hi:Option Expr} {tl th:TO} {p2:Pos} (hr:jU X r) (he:QE X a ta) (hl:QO X lo tl) (hu:QO X hi th):QE X (.Subscript a (.Slice lo hi none p2) pos) (DK r ta tl th):=⟨aaX hr he.h hl.h hu.h⟩
def ix {r:R2} (hr:fY X r) (ha:QE X a ta) (hb:QE X b tb) (hs:HN b:=by intro _ _; rfl):QE X (.Subscript a b pos) (lz r ta tb):=⟨Sx hr ha.h hb.h hs⟩
def lst {es:List Expr} {t:TA} (h:QA X es t):QE X (.List es pos) (zo t):=⟨P9 h.h⟩
def tup {es:List Expr} {x1} {t:TA} (h:QA X es t):QE X (.Tuple es x1 pos) (xT t):=⟨abC h.h⟩
def og:QE X (.Dict [] [] pos) zD:=⟨abo⟩
def cf {o:CmpOp} {r:R2} (ho:bb X (compareOp o) r) (ha:QE X a ta) (hb:QE X b tb) (hm:behindInMarks o b=false:=by first | exact xB _ (by decide) (by decide) | rfl):QT X (.Compare a [o] [b] pos) (mm (lz r ta tb)):=⟨Yr ho ha.h hb.h hm⟩
def Di {o o':CmpOp} {f g:Int->Int->Bool} (ho:bb X (compareOp o) (jy f)) (ho':bb X (compareOp o') (jy g)) (ha:QE X a ta) (hb:QE X b tb) (hc:QE X c tc)
  (hm:lastMarks [o,o'] [b,c]=false:=by with_unfolding_all rfl):QT X (.Compare a [o,o'] [b,c] pos) (zu f g ta tb tc):=⟨Qo ho ho' ha.h hb.h hc.h hm⟩
def cK {t:TE} (h:QE X a t) (he:∀ whole,isTrue a X.env whole=(do let v <- whole; standAt a.pos; holding [v] (truthy v)):=by intro _; rfl):QT X a (mm t):=⟨Vk h.h he⟩
def dk (ha:QT X a tA):QT X (.UnaryOp .Not a pos) (EE tA):=⟨UZ ha.h⟩
def ij (h:QW X a tA):QT X a tA:=⟨h.h.pt⟩
def zm (ha:QT X a tA):QW X (.BoolOp .And [a] pos) tA:=⟨XB ha.h⟩
def kq (ha:QT X a tA):QW X (.BoolOp .Or [a] pos) tA:=⟨Qe ha.h⟩
def w_and (ha:QT X a tA) (hb:QW X (.BoolOp .And (b::rest) pos) tB'):QW X (.BoolOp .And (a::b::rest) pos) (Ac tA tB'):=⟨Ze ha.h hb.h⟩
def w_or (ha:QT X a tA) (hb:QW X (.BoolOp .Or (b::rest) pos) tB'):QW X (.BoolOp .Or (a::b::rest) pos) (Ce tA tB'):=⟨Qc ha.h hb.h⟩
variable {st:Stmt} {NN:List Stmt} {t u:TS} {tg:Expr} {g:TG}
def il (i:Nat) {x:Str} (hN:X.N.Nodup) (hi:X.N[i]?=some x:=by rfl) (hx:Loc X.env.scope x:=by first | exact Or.inl rfl | exact Or.inr rfl) (hf:X.fn x=true\/X.env.scope.names.lookup x=some .local:=by first | exact .inl rfl | exact .inr rfl):QG X (.Name x pos) (fV i):=⟨Ym hN hi hx hf⟩
def sX {o i:Expr} {to ti:TE} {s:uk} (ho:QE X o to) (hi:QE X i ti) (hs:wj X s) (ha:∀ v,assign (.Subscript o i pos) X.env v=(do
   let ov <- holding [v] (eval o X.env)
   let iv <- holding [v,ov] (eval i X.env)
   standAt pos
   holding [v,ov,iv] (setItem ov iv v)
   release [v,ov,iv] []):=by intro _; rfl):QG X (.Subscript o i pos) (Cd to ti s):=⟨Vn ho.h hi.h hs ha⟩
def ZR:xk X [] DF:=⟨WN⟩
def Iz {e:Expr} {es:List Expr} {t:TG} {u:jK} (h1:QG X e t) (h2:xk X es u) (hs:(assignEach (e::es) X.env).map (·.2)=assign e X.env::(assignEach es X.env).map (·.2):=by rfl):xk X (e::es) (zT t u):=⟨Uc h1.h h2.h hs⟩
def ZD {K:PySem.W.Frag} {es:List Expr} {k:Nat} {t:jK} {n:Nat} (hK:X.K=K) (hc:X.calm=true) (h:xk X es t) (hn:(assignEach es X.env).length=n:=by rfl) (aU:(assignEach es X.env).findIdx? (·.1)=none:=by rfl):QG X (.Tuple es k pos) (D9 K n t):=hK ▸ ⟨SG hc h.h hn aU⟩
def aO (i:Nat) {x:Str} {e:Expr} {te:TE} {pos':Pos} (hN:X.N.Nodup) (he:QE X e te) (hi:X.N[i]?=some x:=by rfl) (hx:Loc X.env.scope x:=by first | exact Or.inl rfl | exact Or.inr rfl) (hs:swapsWith e (some (.Name x pos')) pos.line X.env=pure false:=by rfl)
  (hf:X.fn x=true\/X.env.scope.names.lookup x=some .local:=by first | exact .inl rfl | exact .inr rfl):QS X (.Assign [.Name x pos'] e pos) (mR te (fV i)):=⟨YM hN hi hx he.h hs hf⟩
def u9 {e:Expr} {te:TE} (he:QE X e te) (hg:QG X tg g) (hs:swapsWithSole [tg] e pos.line X.env=pure false:=by rfl) (hw:swappedStores [tg] e X.env=pure none:=by rfl) (h1:(assignEach [tg] X.env).map (·.2)=[assign tg X.env]:=by rfl) :
  QS X (.Assign [tg] e pos) (mR te g):=⟨SS he.h hg.h hs hw h1⟩
def aM (he:QE X a ta):QS X (.Return (some a) pos) (Ae ta):=⟨T7 he.h⟩
def Mr:QS X (.Return none pos) B3:=⟨abr⟩
def aV (he:QE X a ta) (hs:swapsWith a none pos.line X.env=pure false:=by rfl):QS X (.Expr a pos) (Ak ta):=⟨Qg he.h hs⟩
def bu {A B:List Stmt} (hc:QT X a tA) (ha:QB X A t) (hb:QB X B u):QS X (.If a A B pos) (Ex tA t u):=⟨WU hc.h ha.h hb.h⟩
def wM {iter:Expr} {body:List Stmt} {wi:TI} {tb:TS} (hp:PassesOwn (model X.prog X.w) X.A X.env X.xe) (hc:X.calm=true) (hi:QI X tg iter wi) (hg:QG X tg g) (hb:QB X body tb) (hs:∀ x,foldedSetIterable iter X.env x=pure x:=by intro _; rfl) :
  QS X (.For tg iter body [] pos) (AW wi g tb):=⟨Sg hp hc hi.h hg.h hb.h hs⟩
def nil:QB X [] BX:=⟨Xs⟩
def aq (h1:QS X st t):QB X [st] t:=⟨Xe h1.h⟩
def cut (h1:QS X st t) (h2:QB X NN u):QB X (st::NN) (sF t u):=⟨Wo h1.h h2.h⟩
def uu {K:PySem.W.Frag} {l:Expr} {tl:TE} (h:X.K=K) (hl:QE X l tl):QI X tg l (Af K tl):=h ▸ ⟨Z3 hl.h⟩
def VL {l:Expr} {tl:TE} (hl:QE X l tl):QI X tg l (zg tl):=⟨Se hl.h⟩
def tQ {ta:TA} {p:Pos} (hm:X.mg "range" = none) (ha:QA X [a] ta) (hg:Gl X "range" := by rfl) (hs:noStar a=true:=by rfl):QI X tg (.Call (.Name "range" p) [a] [] pos) (DC ta):=⟨TC hg hm ha.h (fw hs)⟩
def pR:pS X [] mq:=⟨Pq⟩
def XT (h:QT X c tA):pS X [c] tA:=⟨Xd h.h⟩
end
end Dv
end L2
namespace Tx
open PySem PySem.Builtin PySem.StrLaws
def AH {c a:Nat} (h:a=c) (r:List Nat):cut c (a::r)=[]::cut c r:=if_pos h
def Mj {c a:Nat} {r:List Nat} {x:List Nat} {y:List (List Nat)} (h:¬ a=c) (e:cut c r=x::y):cut c (a::r)=(a::x)::y:=by
 show (if a=c then _ else _)=_;rw [if_neg h,e]
def HD (c:Nat):∀ (t r:List Nat),cut c (t++c::r)=cut c t++cut c r
 | [],r=>AH rfl r
 | a::t,r=>by
  have ih:=HD c t r;show cut c (a::(t++c::r))=_;by_cases h:a=c
  ·rw [AH h,AH h,ih]; rfl
  ·cases e:cut c t with
   | nil=>exact absurd e (aae c t)
   | cons x y =>
    rw [e] at ih;rw [Mj h ih,Mj h e]; rfl
def words (c:Nat) (t:List Nat):List (List Nat):=(cut c t).filter fun w=>decide (w≠[])
def BG (c:Nat) (t r:List Nat):words c (t++c::r)=words c t++words c r:=by
 unfold words;rw [HD,List.filter_append]
def MJ (c:Nat) (r:List Nat):words c (c::r)=words c r:=BG c [] r
def GW (c:Nat) (r:List Nat):∀ n:Nat,words c (List.replicate n c++r)=words c r
 | 0=>rfl
 | n+1=>by
  show words c (c::(List.replicate n c++r))=_;rw [MJ,GW c r n]
def LX (c:Nat):∀ w:List Nat,c ∉ w->cut c w=[w]
 | [],_=>rfl
 | a::r,h=>by
  unfold cut;rw [if_neg (fun e=>h (by rw [e]; exact List.mem_cons_self)),LX c r (fun m=>h (List.mem_cons_of_mem _ m))]
def Jf (c:Nat) (w:List Nat) (h:c ∉ w) (hn:w≠[]):words c w=[w]:=by
 unfold words;rw [LX c w h];simp [hn]
def Cg (c:Nat):∀ t:List Nat,(cut c t).length<=t.length+1
 | []=>Nat.le_refl _
 | a::r=>by
  have ih:=Cg c r;unfold cut;split
  ·simp only [List.length_cons]; omega
  ·split
   ·simp
   ·rename_i h t' e;rw [e] at ih;simp only [List.length_cons] at ih ⊢;omega
def aax (t:List Nat) (c:Nat):((cut c t).map S).filter (fun z=>decide (z≠S []))=(words c t).map S:=by
 unfold words;rw [List.filter_map]
 congr 1
 refine List.filter_congr fun w _=>?_;show decide (S w≠S [])=decide (w≠[]);by_cases h:w=[]
 ·simp [h]
 ·have:S w≠S []:=fun e=>h (ML e);simp [h,this]
def Zc (x:List Nat) (c:Nat):Txt.startswith (S x) (S [c])=decide (x.head?=some c):=by
 unfold Txt.startswith;rw [cQ,cQ];cases x with
 | nil=>simp
 | cons a r =>
  rw [subAt_one (a::r) c 0 (by simp)];simp
def UB (x:List Nat) (c:Nat):Txt.endswith (S x) (S [c])=decide (x.getLast?=some c):=by
 unfold Txt.endswith;rw [cQ,cQ];cases hx:x with
 | nil=>simp
 | cons a r =>
  have hl:(a::r).length - [c].length < (a::r).length:=by simp
  rw [subAt_one (a::r) c _ hl];have e:(a::r)[(a::r).length - [c].length]?=(a::r).getLast?:=by
   rw [List.getLast?_eq_getElem?]; rfl
  rw [e];have:decide (0+[c].length<=(a::r).length)=true:=decide_eq_true (by simp);rw [this,Bool.true_and]
end Tx
namespace L2
open PySem PySem.Spec PyProof.Rows
def Hx {A:Around} {s:Shared} {l1 l2:List (Str×Tok)} (j:Nat) (h1:j < (strValues l1).toArray.size) (h2:j < (strValues l2).toArray.size) :
  SeqAt.EqAt A s (strValues l1).toArray[j] (strValues l2).toArray[j] (decide ((l1.map (·.1))[j]?=(l2.map (·.1))[j]?)):=by
 have g1:j < l1.length:=by simpa [strValues] using h1
 have g2:j < l2.length:=by simpa [strValues] using h2
 have e1:(strValues l1).toArray[j]=Value.str l1[j].1 l1[j].2:=by simp [strValues]
 have e2:(strValues l2).toArray[j]=Value.str l2[j].1 l2[j].2:=by simp [strValues]
 rw [e1,e2];have e:decide ((l1.map (·.1))[j]?=(l2.map (·.1))[j]?)=(l1[j].1 == l2[j].1):=by
  rw [xL,xL,mo g1,mo g2];by_cases q:l1[j].1=l2[j].1
  ·simp [q]
  ·simp [q]
 rw [e];exact SeqAt.EqAt.str_str _ _ _ _
def all_eq {α:Type} [DecidableEq α] {xs ys:List α} (h:xs.length=ys.length):(List.range xs.length).all (fun j=>decide (xs[j]?=ys[j]?))=decide (xs=ys):=by
 rw [UF,At,_q];constructor
 ·intro q;apply List.ext_getElem?;intro i;by_cases hi:i < xs.length
  ·exact of_decide_eq_true (q i (Jaa.mpr hi))
  ·rw [_T (by omega),_T (by omega)]
 ·rintro rfl j _;simp
section
variable {X:Cx}
def LY {pins:List (Addr×Obj)} {σ:St} {H:Hp} {s:Shared} {A:Around} {a b:Addr} {ts us:List Str} (I:Inv X pins σ H s) (ha:H a=some (.lst (ts.map V.str))) (hb:H b=some (.lst (us.map V.str))) (hu:A.units < cLine) :
  SeqAt.RcAt A s (.ref a) (.ref b) (decide (ts=us))/\SeqAt.RcNeAt A s (.ref a) (.ref b) (!decide (ts=us)):=by
 obtain ⟨i1,r1,p1,_⟩:=I.list (aD.of ha);obtain ⟨i2,r2,p2,_⟩:=I.list (aD.of hb);obtain ⟨l1,rfl,e1⟩:=xb r1;obtain ⟨l2,rfl,e2⟩:=xb r2;have n1:(strValues l1).toArray.size=ts.length:=by rw [<- e1]; simp [strValues]
 have n2:(strValues l2).toArray.size=us.length:=by rw [<- e2]; simp [strValues]
 by_cases h:ts.length=us.length
 ·have hsz:(strValues l1).toArray.size=(strValues l2).toArray.size:=by rw [n1,n2,h]
  have k1:=SeqAt.RcAt.lists (A:=A) p1.isList p2.isList hsz hu (fun j g1 g2=>Hx j g1 g2);have k2:=SeqAt.RcNeAt.lists (A:=A) p1.isList p2.isList hsz hu (fun j g1 g2=>Hx j g1 g2);rw [n1,e1,e2,all_eq h] at k1 k2;exact ⟨k1,k2⟩
 ·have hsz:((strValues l1).toArray.size != (strValues l2).toArray.size)=true:=by rw [n1,n2]; simpa using h
  have e:decide (ts=us)=false:=pc fun z=>h (by rw [z]);rw [e];exact ⟨SeqAt.RcAt.lists_lengths p1.isList p2.isList hsz hu,SeqAt.RcNeAt.lists_lengths p1.isList p2.isList hsz hu⟩
def rk (neg:Bool):R2:=fun x y H Q=>match x,y with
 | .ref a,.ref b=>∃ ts us:List Str,H a=some (.lst (ts.map V.str))/\H b=some (.lst (us.map V.str))/\Q (.bl (neg ^^ decide (ts=us))) H
 | _,_=>False
def Wl (hu:X.A.units < cLine):bb X (compareOp .Eq) (rk false):=by
 intro pins s σ H x y v u Q I rx ry h;unfold rk at h;split at h
 ·obtain ⟨ts,us,ha,hb,q⟩:=h;cases rx; cases ry;simp only [Bool.false_bne] at q;exact (LY I ha hb hu).1 _ _ _ _ ⟨.bl _,H,I,rfl,q⟩
 ·exact h.elim
def Z2 (hu:X.A.units < cLine):bb X (compareOp .NotEq) (rk true):=by
 intro pins s σ H x y v u Q I rx ry h;unfold rk at h;split at h
 ·obtain ⟨ts,us,ha,hb,q⟩:=h;cases rx; cases ry;simp only [Bool.true_bne] at q;exact (LY I ha hb hu).2 _ _ _ _ ⟨.bl _,H,I,rfl,q⟩
 ·exact h.elim
def Dv.iN {st:Stmt}:QS X st AO:=⟨YN⟩
end
def Aj:V->Hp->VK->Prop:=fun x H Q=>match x with
 | .int i=>Q (.int (-i)) H
 | _=>False
def lC {X:Cx}:uD X (unaryOp .USub) Aj:=fun pins s σ H x v Q I rx h=>Sl pins s σ H x v Q I rx (by
 unfold Aj at h;split at h
 ·exact ⟨_,rfl,h⟩
 ·exact h.elim)
def TU (r:List V) (x:V):gr (r++[x]) Option.none (some (-1))=r:=by
 unfold gr;have e1:HT.dz (r++[x]).length (r++[x]).length (some (-1))=r.length:=by
  unfold HT.dz;simp;omega
 rw [HT.BE,e1];simp
section
variable {X:Cx} {K:PySem.W.Frag}
def abm (K:PySem.W.Frag):List V->Hp->VK->Prop:=fun xs H Q=>match xs with
 | [.ref p]=>∃ ys,aD K H p ys/\Q (.int ys.length) H
 | _=>False
def abL (K:PySem.W.Frag):R2:=fun x y H Q=>match x,y with
 | .ref p,.int i=>∃ xs v,aD K H p xs/\cD xs i=some v/\Q v H
 | _,_=>False
end
end L2
namespace L2
open PySem
open Sem (wp)
def cU (e:Addr) (c:Value) (od:Option Addr) (h:Heap):Prop:=∃ o,h.get? e=some o/\o.cls=c/\o.dict=od/\∃ vs,o.data=.fields vs
structure Kp (e:Addr) (c:Value) (od:Option Addr) {α:Type} (t:Sem α):Prop where
 out:∀ (M:Model) (Γ:Ctx) (P:α->Pos->Shared->Prop) (Ee:Value->Pos->Shared->Prop) (p:Pos) (s:Shared),cU e c od s.heap->wp M Γ t P Ee p s->wp M Γ t (fun a p' s'=>P a p' s'/\cU e c od s'.heap) Ee p s
section
variable {e:Addr} {c:Value} {od:Option Addr} {α β:Type}
def Kp.pure (a:α):Kp e c od (Pure.pure a:Sem α):=⟨fun _ _ _ _ _ _ hd h=>⟨h,hd⟩⟩
def Kp.unsupported (w:String):Kp e c od (PySem.unsupported w:Sem α):=⟨fun _ _ _ _ _ _ _ h=>h⟩
def Kp.bind {m:Sem α} {f:α->Sem β} (hm:Kp e c od m) (hf:∀ a,Kp e c od (f a)):Kp e c od (m >>= f):=⟨fun M Γ P Ee p s hd h=>by
 rw [Sem.wp_bind'] at h ⊢;exact Sem.wp_mono M Γ m (fun a p' s' h'=>(hf a).out M Γ P Ee p' s' h'.2 h'.1) (fun _ _ _ x=>x) p s (hm.out M Γ _ Ee p s hd h)⟩
def Kp.ite {q:Prop} [Decidable q] {t u:Sem α} (ht:Kp e c od t) (hu:Kp e c od u):Kp e c od (if q then t else u):=by split <;> assumption
def Kp.load (a:Addr):Kp e c od (PySem.load a):=⟨fun _ _ _ _ _ _ hd h=>let ⟨o,ho,z⟩:=h; ⟨o,ho,z,hd⟩⟩
def Kp.stack:Kp e c od PySem.stack:=⟨fun M Γ P Ee p s hd h=>by
 unfold PySem.stack at h ⊢;rw [Sem.wp_stack] at h ⊢;exact ⟨h,hd⟩⟩
def cU.push {h:Heap} (x:cU e c od h) (o:Obj):cU e c od (h.push o):=let ⟨u,hu,r⟩:=x; ⟨u,kt _ hu,r⟩
def cU.update {h:Heap} (x:cU e c od h) (a:Addr) (f:Obj->Obj) (hf:∀ o,(f o).cls=o.cls/\(f o).dict=o.dict/\∀ vs,o.data=.fields vs->∃ ws,(f o).data=.fields ws):cU e c od (h.update a f):=by
 obtain ⟨u,hu,h1,h2,vs,h3⟩:=x;by_cases q:a=e
 ·subst q;obtain ⟨ws,h4⟩:=(hf u).2.2 vs h3;exact ⟨f u,Op f hu (Obj.isFreed_of_fields h4),(hf u).1.trans h1,(hf u).2.1.trans h2,ws,h4⟩
 ·exact ⟨u,(GT _ _ q).trans hu,h1,h2,vs,h3⟩
def Kp.update (a:Addr) (f:Obj->Obj) (hf:∀ o,(f o).cls=o.cls/\(f o).dict=o.dict/\∀ vs,o.data=.fields vs->∃ ws,(f o).data=.fields ws):Kp e c od (PySem.update a f) :=
 ⟨fun _ _ _ _ _ _ hd h=>⟨h.1,h.2,hd.update a f hf⟩⟩
def Uj (g:Array Value->Array Value) (o:Obj):(Obj.mapFields g o).cls=o.cls/\(Obj.mapFields g o).dict=o.dict/\∀ vs,o.data=.fields vs->∃ ws,(Obj.mapFields g o).data=.fields ws:=by
 obtain ⟨c1,d1,dt,sl⟩:=o;refine ⟨Obj.cls_mapFields _ _,?_,fun vs h=>⟨_,Jad h g⟩⟩;cases dt <;> rfl
def Kp.alloc (o:Obj):Kp e c od (PySem.alloc o):=⟨fun _ _ _ _ _ _ hd h=>⟨h,hd.push o⟩⟩
def Kp.field (v:Value) (i:Nat):Kp e c od (PySem.field v i):=⟨fun _ Γ _ _ _ _ hd h=>by
 rw [wp_field_iff] at h ⊢;obtain ⟨a,o,vs,x,h1,h2,h3,h4,h5⟩:=h;exact ⟨a,o,vs,x,h1,h2,h3,h4,h5,hd⟩⟩
def Kp.setField (v:Value) (i:Nat) (x:Value):Kp e c od (PySem.setField v i x):=⟨fun _ Γ _ _ _ _ hd h=>by
 rw [wp_setField_iff] at h ⊢;obtain ⟨a,o,vs,h1,h2,h3,h4,h5⟩:=h;exact ⟨a,o,vs,h1,h2,h3,h4,h5,hd.update a _ (Uj _)⟩⟩
local macro_rules | `(tactic| walk_at "kps")=>`(tactic| repeat' with_reducible first | assumption | exact Kp.pure _ | exact Kp.unsupported _ | exact Kp.field _ _ | exact Kp.setField _ _ _ | exact Kp.load _ | exact Kp.stack | exact Kp.alloc _ | apply Kp.ite | apply Kp.bind | intro _ | split)
def Kp.newFields (ty:String) (vs:List Value):Kp e c od (PySem.newFields ty vs):=by
 unfold PySem.newFields newObj newObjAsIs;walk_at "kps"
def Kp.frameEnvs:Kp e c od PySem.frameEnvs:=by
 unfold PySem.frameEnvs;walk_at "kps"
def Kp.isImport (env:Env) (outer:List Env):Kp e c od (behindIsImport env outer):=by
 unfold behindIsImport;walk_at "kps"
def Kp.caller:Kp e c od underTheClaimsCaller:=by
 unfold underTheClaimsCaller;walk_at "kps"
def Kp.keptBack (env:Env) (i:Bool) (l:List Env):Kp e c od (PySem.keptBack env i l):=by
 have:=Kp.caller (e:=e) (c:=c) (od:=od);cases l <;> unfold PySem.keptBack <;> walk_at "kps"
def Kp.ready:∀ l:List Env,Kp e c od (readyFrames l)
 | []=>Kp.pure _
 | env::outer=>by
  have ih:=Kp.ready outer;have h1:=Kp.isImport (e:=e) (c:=c) (od:=od) env outer;have h2:=fun i=>Kp.keptBack (e:=e) (c:=c) (od:=od) env i outer;unfold readyFrames;walk_at "kps"
  all_goals first | exact h2 _ | exact Kp.update _ _ (fun o=>⟨rfl,rfl,fun vs h=>⟨vs,h⟩⟩) | skip
def Kp.frameObject (l:List Env):Kp e c od (PySem.frameObject l):=by
 cases l with
 | nil=>exact Kp.pure _
 | cons env outer =>
  have:=Kp.ready (e:=e) (c:=c) (od:=od) (env::outer);unfold PySem.frameObject;walk_at "kps"
def Kp.frameOf (env:Env):Kp e c od (PySem.frameOf env):=by
 have h1:=Kp.frameEnvs (e:=e) (c:=c) (od:=od);have h2:=Kp.frameObject (e:=e) (c:=c) (od:=od);unfold PySem.frameOf;walk_at "kps"
 all_goals first | exact h2 _ | skip
def Kp.place (f:Addr) (b:Bool):Kp e c od (entryPlaceOf f b):=by
 unfold entryPlaceOf;walk_at "kps"
def Kp.setFlight (v:Value) (fr:Option Addr):Kp e c od (PySem.setFlight v fr):=by
 unfold PySem.setFlight;walk_at "kps"
def Kp.noteFrame (v:Value) (env:Env):Kp e c od (PySem.noteFrame v env):=by
 have h1:=Kp.frameOf (e:=e) (c:=c) (od:=od) env;have h2:=fun f b=>Kp.place (e:=e) (c:=c) (od:=od) f b;unfold PySem.noteFrame EntryCells.newEntry;walk_at "kps"
 all_goals first | exact h2 _ _ | exact Kp.newFields _ _ | skip
def Kp.leaving (env:Env) (v:Value):Kp e c od (PySem.leaving env v):=by
 have h1:=Kp.noteFrame (e:=e) (c:=c) (od:=od) v env;have h2:=Kp.setFlight (e:=e) (c:=c) (od:=od) v none;unfold PySem.leaving;walk_at "kps"
def Kp.any {t:Sem α} (k:Kp e c od t) {M:Model} {A:Around} {Q:α->Shared->Prop} {E:Value->Shared->Prop} {s:Shared} (hd:cU e c od s.heap) (h:wpAny M A t Q E s):wpAny M A t (fun a s'=>Q a s'/\cU e c od s'.heap) E s :=
 fun Γ p hΓ=>k.out M Γ _ _ p s hd (h Γ p hΓ)
end
end L2
namespace L2
def To (xs:List V) (k:Nat):gr xs none (some (k:Int))=xs.take k:=by
 unfold gr;rw [HT.BE,HT.zR,List.drop_zero,Nat.sub_zero];by_cases h:k<=xs.length
 ·rw [Nat.min_eq_left h]
 ·rw [Nat.min_eq_right (by omega),ST (ss _),ST (by omega)]
def Il (xs:List V) (k:Nat):gr xs (some (k:Int)) none=xs.drop k:=by
 unfold gr;rw [HT.BE,HT.zR];by_cases h:k<=xs.length
 ·rw [Nat.min_eq_left h,ST (by rw [List.length_drop]; exact ss _)]
 ·rw [Nat.min_eq_right (by omega),List.drop_eq_nil_of_le (ss _),List.drop_eq_nil_of_le (by omega)];simp
end L2
namespace L2
open PySem PySem.Spec PyProof.Rows
def bM.there {P:Program} {w:World} {H:Hp} {h:Heap} {a:Addr} {o:HO} (x:bM P w H h a o):∃ u,h.get? a=some u:=by
 cases o with
 | lst xs=>obtain ⟨_,_,_,_,e⟩:=x; exact ⟨_,e⟩
 | tup xs=>obtain ⟨_,_,_,u,e,_⟩:=x; exact ⟨_,e⟩
 | dK kvs=>obtain ⟨_,_,_,_,o,_,_,e,_⟩:=x; exact ⟨_,e⟩
 | dT kvs=>obtain ⟨_,_,_,_,o,_,_,e,_⟩:=x; exact ⟨_,e⟩
 | set S n=>obtain ⟨o,_,_,_,e,_⟩:=x; exact ⟨_,e⟩
 | ins C dx fs=>obtain ⟨_,_,_,e,_⟩:=x; exact ⟨_,e⟩
 | own y=>exact x
 | xd fs=>obtain ⟨_,⟨_,_,_,e,_⟩,_⟩:=x; exact ⟨_,e⟩
 | vV lo hi=>obtain ⟨_,_,_,e⟩:=x; exact ⟨_,e⟩
 | eA ob u=>obtain ⟨e,_⟩:=x; exact ⟨_,e⟩
 | mD ps=>exact ⟨_,(show h.get? a=some _ from x)⟩
 | met f y=>exact ⟨_,(show h.get? a=some _ from x)⟩
 | ext φ=>obtain ⟨_,e,_⟩:=x; exact e
def tM (B:Heap) (fs:List Addr) (h:Heap) (H':Hp) (h':Heap):Prop :=
 ∀ b o,h'.get? b=some o->b ∉ fs->((∃ u,h.get? b=some u)\/∃ u,H' b=some u)->B.get? b=some o
def Hd {P:Program} {w:World} {fs:List Addr} {H H':Hp} {h h1 h2 B:Heap} (u:Un fs [] H H' h h1) (aB:ck P w H' h1) (hf:∀ b∈fs,H b=none/\∃ o,h.get? b=some o/\∀ vs,o.data≠.fields vs) (gE:tM B fs h H' h1)
  (st:B.StaysIn h2) (up:h1.UpToSlots h2):Un fs [] H H' h h2/\ck P w H' h2:=by
 have kB:∀ b o,h1.get? b=some o->b ∉ fs->((∃ u,h.get? b=some u)\/∃ u,H' b=some u)->h2.get? b=some o:=fun b o e hb z=>st b o (gE b o e hb z);have fr:∀ b∈fs,∀ o,h.get? b=some o->∃ sl,h2.get? b=some { o with slots:=sl }:=fun b hb o e=>by
  obtain ⟨n,o',e',nf⟩:=hf b hb;rw [e] at e'; cases e';obtain ⟨sl,e1⟩:=u.slot b o e n hb (by simp);obtain ⟨sl',e2⟩:=up b _ e1 nf;exact ⟨sl',e2⟩
 refine ⟨⟨fun b o q n hb hx=>kB b o (u.keep b o q n hb hx) hb (.inl ⟨o,q⟩),fun b o q n hb hx=>fr b hb o q,u.free,fun b o q hx=>?_,u.gf,u.fG,u.f6⟩,fun a v e=>?_⟩
 ·by_cases hb:b∈fs
  ·obtain ⟨sl,e⟩:=fr b hb o q;exact ⟨_,e⟩
  ·obtain ⟨o',e1⟩:=u.there b o q hx;exact ⟨o',kB b o' e1 hb (.inl ⟨o,q⟩)⟩
 ·have tr:∀ b,(∃ u,H' b=some u)->b ∉ fs:=fun b ⟨v',e'⟩ hb=>by
   obtain ⟨n,o,ho,_⟩:=hf b hb;have:=u.free b o ho n (by simp);rw [e'] at this; cases this
  refine (aB a v e).gi (fun b x hb q=>?_) (fun _ q=>q) fun _ _ q=>q;have hs:∃ u,H' b=some u:=by
   rcases hb with rfl | hb
   ·exact ⟨v,e⟩
   ·exact ⟨_,hb⟩
  exact kB b x q (tr b hs) (.inr hs)
structure oO (P:Program) (w:World) (outer:List Env) (H:Hp) (s:Shared) (ea C:Addr) (od:Option Addr) (H':Hp) (s':Shared):Prop where
 os:s'.os=s.os
 bare:AllBare s'.gens
 un:Un (bQ outer) [] H H' s.heap s'.heap
 aB:ck P w H' s'.heap
 free:H' ea=none
 new:s.heap.get? ea=none
 hd:cU ea (.ref C) od s'.heap
 IC:∃ B a0,Heap.FlyingW B outer ea (.ref C) a0 s'.heap/\tM B (bQ outer) s.heap H' s'.heap
def bo (P:Program) (w:World):dN:=fun outer H s E e s'=>∃ ea C od H',e=.ref ea/\oO P w outer H s ea C od H' s'/\E (.ref C) od H'
section
variable {X:Cx} {pins:List (Addr×Obj)} {σ:St} {H H':Hp} {s s':Shared} {ea C:Addr} {od:Option Addr}
def Inv.JZ (I:Inv X pins σ H s):∀ b∈bQ X.stack,H b=none/\∃ o,s.heap.get? b=some o/\∀ vs,o.data≠.fields vs:=fun b hb=>⟨I.wm b hb,(I.stack.mem hb).2⟩
structure Own (X:Cx):Prop where
 dA:X.stack=X.env::X.outer
 frame:X.env.frame=some X.env.locals
 ex:X.ex=[]
def Inv.Dp {h1 B:Heap} {a0:Value} (I:Inv X pins σ H s) (O:Own X) (os:s'.os=s.os) (bare:AllBare s'.gens) (un:Un (bQ X.stack) [] H H' s.heap h1) (aB:ck X.prog X.w H' h1) (free:H' ea=none) (new:s.heap.get? ea=none)
  (gE:tM B (bQ X.stack) s.heap H' h1) (fl:Heap.FlyingW B X.outer ea (.ref C) a0 s'.heap) (up:h1.UpToSlots s'.heap) (hd:cU ea (.ref C) od s'.heap):oO X.prog X.w X.outer X.H₀ X.s₀ ea C od H' s':=by
 obtain ⟨u2,hok2⟩:=Hd un aB I.JZ gE fl.1 up;have Gp:bQ X.stack=X.env.locals::X.fs:=by
  rw [O.dA];unfold bQ;rw [ZB,O.frame];rfl
 have vm:∀ b o,X.s₀.heap.get? b=some o->b≠X.env.locals:=fun b o e=>ww (ul (sw e) I.ok.above);have nx:∀ b:Addr,b ∉ X.ex:=fun b=>by rw [O.ex]; simp
 have fM:∀ b o,X.s₀.heap.get? b=some o->b ∉ X.fs->b ∉ bQ X.stack:=fun b o e hb z=>by
  rw [Gp] at z;rcases li.mp z with q | q
  ·exact vm b o e q
  ·exact hb q
 have Lfree:H' X.env.locals=none:=by
  obtain ⟨m,⟨o,_,_,ho,_⟩,_⟩:=I.loc;exact un.free _ o ho I.free (by simp)
 refine ⟨os.trans I.os,bare,⟨fun b o q n hb _=>?_,fun b o q n hb _=>?_,fun b o q n _=>?_,fun b o q _=>?_,fun b xs q=>?_,fun b o v q=>?_,fun b ps q=>?_⟩,hok2,free,?_,hd,B,a0,fl,fun b o e hb z=>?_⟩
 ·exact u2.keep b o (I.base.keep b o q n hb (nx b)) (I.base.free b o q n (nx b)) (fM b o q hb) (by simp)
 ·obtain ⟨sl,e1⟩:=I.base.slot b o q n hb (nx b);obtain ⟨sl',e2⟩:=u2.slot b _ e1 (I.base.free b o q n (nx b)) (by rw [Gp]; exact Db _ hb) (by simp);exact ⟨sl',e2⟩
 ·obtain ⟨o',e1⟩:=I.base.there b o q (nx b);exact u2.free b o' e1 (I.base.free b o q n (nx b)) (by simp)
 ·obtain ⟨o',e1⟩:=I.base.there b o q (nx b);exact u2.there b o' e1 (by simp)
 ·exact u2.gf b xs (I.base.gf b xs q)
 ·exact u2.fG b o v (I.base.fG b o v q)
 ·obtain ⟨m1,e1⟩:=I.base.f6 b ps q;obtain ⟨m2,e2⟩:=u2.f6 b _ e1;exact ⟨m1++m2,by rw [e2,Array.append_assoc]⟩
 ·cases q:X.s₀.heap.get? ea with
  | none=>rfl
  | some u =>
   obtain ⟨u',e'⟩:=I.base.there ea u q (nx ea);rw [new] at e'; cases e'
 ·have hn:b ∉ bQ X.stack:=fun z'=>by
   rw [Gp] at z';rcases li.mp z' with q | q
   ·rcases z with ⟨o',e'⟩ | ⟨v,e'⟩
    ·exact vm b o' e' q
    ·rw [q,Lfree] at e'; cases e'
   ·exact hb q
  have hs:∃ o',h1.get? b=some o'/\((∃ u,s.heap.get? b=some u)\/∃ u,H' b=some u):=by
   rcases z with ⟨o',e'⟩ | ⟨v,e'⟩
   ·obtain ⟨o2,e2⟩:=I.base.there b o' e' (nx b);obtain ⟨o3,e3⟩:=un.there b o2 e2 (by simp);exact ⟨o3,e3,.inl ⟨o2,e2⟩⟩
   ·obtain ⟨o3,e3⟩:=(aB b v e').there;exact ⟨o3,e3,.inr ⟨v,e'⟩⟩
  obtain ⟨o3,e3,z3⟩:=hs;have e4:=gE b o3 e3 hn z3;have e5:=fl.1 b o3 e4;rw [e] at e5; cases e5;exact e4
def Inv.Jb {M:Model} {A:Around} {E:Value->Shared->Prop} (I:Inv X pins σ H s) (O:Own X) (hA:A.frames=some X.stack) (F:oO X.prog X.w X.stack H s ea C od H' s') :
  wpAny M A (leaving X.env (.ref ea)) (fun _ s''=>oO X.prog X.w X.outer X.H₀ X.s₀ ea C od H' s'') E s':=by
 obtain ⟨B,a0,fl,gE⟩:=F.IC;have fl':=fl;rw [O.dA] at fl' hA;refine aF ((Kp.leaving X.env (.ref ea)).any F.hd (wpAny_leaves_onW (Q:=fun _ s''=>∃ h',s''={ s' with heap:=h' }/\Heap.FlyingW B X.outer ea (.ref C) a0 h'/\s'.heap.UpToSlots h') hA O.frame fl' fun h' x1 x2=>⟨h',rfl,x1,x2⟩)) fun _ s'' ⟨⟨h',e,x1,x2⟩,hd⟩=>?_;subst e;exact I.Dp (s':={ s' with heap:=h' }) O F.os F.bare F.un F.aB F.free F.new gE x1 x2 hd
def Hn {h h':Heap} {e:Addr} {cls:Value} {args:List Value} (hx:Heap.MadeExcOf h h' e cls args):cU e cls none h':=by
 obtain ⟨t,he,_⟩:=hx.there;exact ⟨_,he,rfl,rfl,_,rfl⟩
def Inv.Sw {M:Model} {A:Around} {E:Value->Shared->Prop} {h':Heap} {vs:List Value} (I:Inv X pins σ H s) (O:Own X) (hA:A.frames=some X.stack) (hx:Heap.MadeExcOf s.heap h' ea (.ref C) vs) :
  wpAny M A (leaving X.env (.ref ea)) (fun _ s''=>oO X.prog X.w X.outer X.H₀ X.s₀ ea C none H s'') E { s with heap:=h' }:=by
 have aU:(PySem.W.hideAll s.heap (bQ X.stack)).StaysIn s.heap:=fun b o q=>Ja9 _ q;have lN:s.heap.FunFrames (PySem.W.hideAll s.heap (bQ X.stack)) X.stack:=PySem.W.funFrames_hide I.stack fun env he a ha=>_G.mpr ⟨env,he,ha⟩;have ny:H ea=none:=by
  cases q:H ea with
  | none=>rfl
  | some u =>
   obtain ⟨o,e⟩:=(I.aB ea u q).there;have:=hx.new;rw [e] at this; cases this
 have gE:tM (PySem.W.hideAll s.heap (bQ X.stack)) (bQ X.stack) s.heap H h':=fun b o e hb z=>by
  have hs:∃ u,s.heap.get? b=some u:=by
   rcases z with z | ⟨v,z⟩
   ·exact z
   ·exact (I.aB b v z).there
  obtain ⟨u,eu⟩:=hs;have:=hx.keeps b u eu;rw [e] at this; cases this;exact Ja1 _ eu hb
 generalize PySem.W.hideAll s.heap (bQ X.stack)=B at aU lN gE;have hfr':=lN;rw [O.dA] at hfr' hA;refine aF ((Kp.leaving X.env (.ref ea)).any (s:={ s with heap:=h' }) (Hn hx) (wpAny_leaves_madeW (s:={ s with heap:=h' }) (Q:=fun _ s''=>∃ h2 t,s''={ s with heap:=h2 }/\Heap.FlyingW B X.outer ea (.ref C) (.ref t) h2/\h'.UpToSlots h2) hA O.frame aU hfr' hx
  fun h2 t x1 _ _ x4=>⟨h2,t,rfl,x1,x4⟩)) fun _ s'' ⟨⟨h2,t,e,x1,x4⟩,hd⟩=>?_
 subst e;exact I.Dp (s':={ s with heap:=h2 }) O rfl I.bare (Un.kept hx.keeps) (I.aB.kept hx.keeps) ny hx.new gE x1 x4 hd
structure gH (X:Cx) (R:St->XK):Prop where
 pass:∀ (pins:List (Addr×Obj)) (σ:St) (H:Hp) (s:Shared) (e:Value) (s':Shared),Inv X pins σ H s->bo X.prog X.w X.stack H s (R σ) e s'->X.xe e s'
structure Raises (X:Cx) (R:St->XK):Prop where
 made:∀ (pins:List (Addr×Obj)) (σ:St) (H:Hp) (s:Shared) (h':Heap) (ea C:Addr) (vs:List Value),Inv X pins σ H s->Heap.MadeExcOf s.heap h' ea (.ref C) vs->R σ (.ref C) none H->X.xe (.ref ea) { s with heap:=h' }
def cz {P:Program} {w:World} {K:PySem.W.Frag} {mg:Str->Option Value} {base:Heap} {N:List Str} {qual:Str} {scope:Scope} {f:Addr} {cd:Value} {A:Around} {outer:List Env} {s₀:Shared} {H₀:Hp} {E:XK} :
  gH (cq (bo P w) P w K mg base N qual scope f cd A outer s₀ H₀ E) (fun _=>E) where
 pass:=fun pins σ H s e s' I hc=>by
  obtain ⟨ea,C,od,H',rfl,F,hE⟩:=hc;exact aF (I.Jb ⟨rfl,rfl,rfl⟩ I.ok.frames F) fun _ s'' z=>⟨ea,C,od,H',rfl,z,hE⟩
def DD {P:Program} {w:World} {K:PySem.W.Frag} {mg:Str->Option Value} {base:Heap} {N:List Str} {qual:Str} {scope:Scope} {f:Addr} {cd:Value} {A:Around} {outer:List Env} {s₀:Shared} {H₀:Hp} {E:XK} :
  Raises (cq (bo P w) P w K mg base N qual scope f cd A outer s₀ H₀ E) (fun _=>E) where
 made:=fun pins σ H s h' ea C vs I hx hE=>aF (I.Sw ⟨rfl,rfl,rfl⟩ I.ok.frames hx) fun _ s'' z=>⟨ea,C,none,H,rfl,z,hE⟩
def AU (sp:Sp) (bt:List V) (R:St->XK) (t:TA):TE:=fun σ H Q=>t σ H fun vs H1=>sp (vs++bt) H1 Q (R σ)
section
variable {k:Nat} {f:Addr} {fd:FuncData} {ps:List Str} {sp:Sp} {bt:List V} {ds:List Value} {R:St->XK} {x:Str} {p pos:Pos} {e:Expr} {es:List Expr} {t:TA}
def J1 {Q:VK} {us:List Value} {vs:List V} (F:aC X.prog X.w X.K X.mg X.base (bo X.prog X.w) k f fd ps sp) (hr:bc k X.A) (hb:Binds X.K fd ps ds) (hd:Vals bt ds) (hx:gH X R)
  (I:Inv X pins σ H s) (r:Vals vs us) (h:sp (vs++bt) H Q (R σ)):wpAny (model X.prog X.w) X.A (call (.ref f) us) (EP X pins σ Q) X.xe s:=by
 have r2:Vals (vs++bt) (us++ds):=r.append hd;have hl:(us++ds).length=ps.length:=by rw [<- r2.length]; exact F.len _ _ _ _ h
 refine TD (_k (F.run X.A X.stack s H ⟨us,[]⟩ (us++ds) (vs++bt) Q (R σ) hr I.pV (hb s us I.bV hl) r2 h) fun r s' hq=>?_);cases r with
 | error e=>exact hx.pass pins σ H s e s' I hq
 | ok fl =>
  cases fl with
  | ret u=>exact I.after hq
  | next=>exact False.elim hq
  | brk=>exact False.elim hq
  | cont=>exact False.elim hq
def Vw (F:aC X.prog X.w X.K X.mg X.base (bo X.prog X.w) k f fd ps sp) (hr:bc k X.A) (hg:Gl X x) (hm:X.mg x=some (.ref f)) (hk:PySem.W.keepIn X.K (.ref f)=true) (hb:Binds X.K fd ps ds) (hd:Vals bt ds) (hx:gH X R)
  (ha:PA X (e::es) t) (hs:(e::es).all noStar=true:=by rfl) (bR:(x == ("__debug__" : Str))=false:=by decide):PE X (.Call (.Name x p) (e::es) [] pos) (AU sp bt R t):=by
 have hs':=hs;rw [IR,zn] at hs';intro pins s σ H Q I h;refine GE (lA I hg hm ?_ bR);refine Os (h₀:=X.base) I.ok.mod.ia hk (aF (ha pos pins s σ H _ I h) fun us s1 ⟨vs,H1,I1,r,q⟩=>⟨I1.bV,?_⟩) (fw hs'.1) (ik hs'.2);exact J1 F hr hb hd hx I1 r q
end
end
abbrev ve:List Value:=[.type "ValueError",.type "Exception",.type "BaseException",.type "object"]
def SD {K:PySem.W.Frag} {h:Heap} {C:Addr} {O4:List Value} {newId:String} (X:K.In h) (q:PySem.W.excIn K C O4 newId=true) :
  ∃ bm N nm q bs hdct sn sub ab col dd k0 k1 k2 k3 k5 mN,h.get? C=some (excClassObj nm q C N bs bm hdct sn sub ab col dd k0 k1 k2 k3 k5 newId)/\h.Ns N mN/\mN "__init__" = none/\OwnTail h O4 bm:=by
 unfold PySem.W.excIn at q;split at q
 ·rename_i dd cd sl ho;split at q
  ·rename_i C' bm k0 k1 k2 k3 n k5 hm hs;simp only [zn,Tk,Bool.not_eq_true'] at q;obtain ⟨⟨⟨⟨⟨q1,q2⟩,q3⟩,q4⟩,q5⟩,q6⟩:=q;subst q1 q2;obtain ⟨nm,bs,mro,ns,qn,hd,sn,sub,ab,col,del⟩:=cd;dsimp only at hm q3 q5 q6;subst hm q3;have e1:sl=#[k0,k1,k2,k3,some (.builtin n),k5]:=by
    obtain ⟨l⟩:=sl;simp only at hs;rw [hs]
   subst e1;exact ⟨bm,ns,nm,qn,bs,hd,sn,sub,ab,col,dd,k0,k1,k2,k3,k5,_,X _ _ ho,.of_isNs (PySem.W.isNs_of_in X q5),PySem.W.nsMap_none_of_in X q5 q6,PySem.W.tail_of_in X q4⟩
  ·cases q
 ·cases q
def Dk (C:Addr) (R:St->XK) (t:TA):TS:=fun _ σ H=>t σ H fun vs H1=>vs.length<=sizeLine/\R σ (.ref C) none H1
def abX {X:Cx} {R:St->XK} {x:Str} {C:Addr} {e:Expr} {es:List Expr} {t:TA} {np bE pos:Pos} (hx:Raises X R) (hc:X.calm=true) (hm:X.mg x=some (.ref C)) (q:PySem.W.excIn X.K C ve "ValueError.__new__" = true) (ha:PA X (e::es) t)
  (hg:Gl X x:=by rfl) (hs:(e::es).all noStar=true:=by rfl) (bR:(x == ("__debug__" : Str))=false:=by decide):PS X (.Raise (some (.Call (.Name x np) (e::es) [] bE)) none pos) (Dk C R t):=by
 have hs':=hs;rw [IR,zn] at hs';intro pins s σ H D I h;obtain ⟨bm,N,nm,qn,bs,hdct,sn,sub,ab,col,dd,k0,k1,k2,k3,k5,mN,hC,hN,hni,T⟩:=SD I.ok.mod.ia q;refine wpAny_Raise_call_subT (C:=C) (nm:=nm) (q:=qn) (N:=N) (bs:=bs) (bm:=bm) (hdct:=hdct) (sn:=sn) (sub:=sub) (ab:=ab) (col:=col) (dd:=dd) (k0:=k0) (k1:=k1) (k2:=k2) (k3:=k3) (k5:=k5)
  _w (mN:=mN) (T.hasType _w.hasBase) (I.ok.hd hc) (by rw [fw hs'.1]; exact ik hs'.2) hni (lA I hg hm ⟨rfl,?_⟩ bR)
 have ha':=ha bE pins s σ H _ I h;rw [fw hs'.1] at ha' ⊢;refine _u (aF ha' fun us s2 ⟨vs,H2,I2,r,z,hR⟩=>?_);exact ⟨rfl,by rw [<- r.length]; exact z,I2.bk _ _ hC,hN.keeps I2.bk,T.keeps I2.bk,fun h' ea hm'=>hx.made pins σ H2 s2 h' ea C us I2 hm' hR⟩
def km (ea C:Addr) (od:Option Addr):HO:=.ext (cU ea (.ref C) od)
def aap {P:Program} {w:World} {H:Hp} {h:Heap} {ea C:Addr} {od:Option Addr} (x:cU ea (.ref C) od h):bM P w H h ea (km ea C od) :=
 ⟨x,let ⟨o,e,_⟩:=x; ⟨o,e⟩,fun _ _ ⟨o,e,r⟩ k=>⟨o,k o e,r⟩⟩
abbrev Cx.la (X:Cx) (v:Value):Cx:={ X with A:=X.A.mark (some v),calm:=false,xe:=fun _ _=>False }
abbrev Cx.oH (X:Cx) (pins:List (Addr×Obj)) (R:St->XK):Cx:={ X with pn:=X.pn++pins,xe:=fun e s'=>∃ (σ':St) (H H':Hp) (s:Shared) (ea C:Addr) (od:Option Addr),Inv X pins σ' H s/\e=.ref ea/\oO X.prog X.w X.stack H s ea C od H' s'/\R σ' (.ref C) od H' }
section
variable {X:Cx} {pins pins':List (Addr×Obj)} {σ:St} {H H':Hp} {s s':Shared} {R:St->XK} {v:Value}
def Inv.la (I:Inv X pins σ H s) (v:Value):Inv (X.la v) pins σ H s :=
 ⟨⟨I.ok.mod,I.ok.kind,I.ok.glob,I.ok.blt,I.ok.above,I.ok.inj,I.ok.has,I.ok.ku,(fun z=>Bool.noConfusion z),I.ok.frames,I.ok.dA,I.ok.uz,I.ok.bs,I.ok.gI,I.ok.lX,I.ok.lZ,I.ok.eY,I.ok.iV⟩,
  I.os,I.bare,I.base,I.loc,I.cell,I.free,I.e9,I.pin,I.aB,I.len⟩
def Inv.SJ (I:Inv (X.la v) pins σ H s) (ok:X.Ok):Inv X pins σ H s:=⟨ok,I.os,I.bare,I.base,I.loc,I.cell,I.free,I.e9,I.pin,I.aB,I.len⟩
def Inv.oH (I:Inv X pins σ H s) (R:St->XK):Inv (X.oH pins R) [] σ H s :=
 ⟨⟨I.ok.mod,I.ok.kind,I.ok.glob,I.ok.blt,I.ok.above,I.ok.inj,I.ok.has,I.ok.ku,I.ok.hd,I.ok.frames,I.ok.dA,I.ok.uz,I.ok.bs,I.ok.gI,I.ok.lX,I.ok.lZ,I.ok.eY,I.ok.iV⟩,
  I.os,I.bare,I.base,I.loc,I.cell,I.free,I.e9,fun p hp=>I.pin p (by simpa using hp),I.aB,I.len⟩
def Inv.uZ (I:Inv (X.oH pins R) pins' σ H s):Inv X pins σ H s :=
 ⟨⟨I.ok.mod,I.ok.kind,I.ok.glob,I.ok.blt,I.ok.above,I.ok.inj,I.ok.has,I.ok.ku,I.ok.hd,I.ok.frames,I.ok.dA,I.ok.uz,I.ok.bs,I.ok.gI,I.ok.lX,I.ok.lZ,I.ok.eY,I.ok.iV⟩,
  I.os,I.bare,I.base,I.loc,I.cell,I.free,I.e9,fun p hp=>I.pin p (Pi _ hp),I.aB,I.len⟩
def aai:gH (X.oH pins R) R:=⟨fun pins' σ H s e s' I hc=>by
 obtain ⟨ea,C,od,H',rfl,F,hE⟩:=hc;exact ⟨σ,H,H',s,ea,C,od,I.uZ,rfl,F,hE⟩⟩
def Inv.xX {a:Addr} {o:HO} (I:Inv X pins σ H s) (hn:H a=none) (n0:X.s₀.heap.get? a=none) (nL:a≠X.env.locals) (nC:∀ x c,X.env.cells.lookup x=some c->c≠a) (nP:∀ p∈X.pn++pins,p.1≠a)
  (new:bM X.prog X.w (upd H a o) s.heap a o):Inv X pins σ (upd H a o) s:=by
 have ne:∀ b u,H b=some u->b≠a:=fun b u e=>fW e hn;have n0':∀ b u,X.s₀.heap.get? b=some u->b≠a:=fun b u e z=>by rw [z,n0] at e; cases e
 refine ⟨I.ok,I.os,I.bare,⟨I.base.keep,I.base.slot,fun b u e n hx=>by rw [ah (n0' b u e)]; exact I.base.free b u e n hx,I.base.there,fun b xs e=>by have:=I.base.gf b xs e; rw [ah (ne b _ this)]; exact this,
  fun b u v e=>by have:=I.base.fG b u v e; rw [ah (ne b _ this)]; exact this,fun b ps e=>?_⟩,I.loc,I.cell,by rw [ah (pi nL)]; exact I.free,fun x c e=>by rw [ah (nC x c e)]; exact I.e9 x c e,fun p hp=>?_,fun b u e=>?_,I.len⟩
 ·obtain ⟨m,e1⟩:=I.base.f6 b ps e;exact ⟨m,by rw [ah (ne b _ e1)]; exact e1⟩
 ·obtain ⟨e1,e2,r⟩:=I.pin p hp;exact ⟨e1,by rw [ah (nP p hp)]; exact e2,r⟩
 ·by_cases hb:b=a
  ·subst hb;rw [ax] at e; cases e;exact new
  ·rw [ah hb] at e;exact (I.aB b u e).gi (fun _ _ _ q=>q) (fun c q=>by rw [ah (ne c _ q)]; exact q) fun c xs q=>by rw [ah (ne c _ q)]; exact q
def Inv.Yl {i:Nat} {n:Str} {m:Str->Option Value} {h8:Heap} {v:Option Value} {t8:Nat} (I:Inv X pins σ H s) (hN:X.N.Nodup) (hi:X.N[i]?=some n)
  (hl:∀ (i:Nat) (x:Str) (v:V),X.N[i]?=some x->σ[i]?=some (some v)->mj X.env.scope x->∃ u,RelV v u/\Look X.env s.heap m x u)
  (GJ:h8.Ns X.env.locals (fun x=>if x=n then v else m x)) (sb:Heap.SameBut X.env.locals s.heap h8):Inv X pins (σ.set i none) H { s with heap:=h8,toks:=t8 }:=by
 have old:∀ b o,X.s₀.heap.get? b=some o->h8.get? b=s.heap.get? b:=fun b o e=>sb.2 b (ww (ul (sw e) I.ok.above));refine ⟨I.ok,I.os,I.bare,⟨fun b o e n' hb hx=>(old b o e).trans (I.base.keep b o e n' hb hx),fun b o e n' hb hx=>?_,I.base.free,fun b o e hx=>?_,I.base.gf,I.base.fG,I.base.f6⟩,⟨_,GJ,fun j y v' e1 e2 e3=>?_⟩,fun y c e=>?_,I.free,I.e9,fun p hp=>?_,fun b u e=>?_,by simpa using I.len⟩
 ·obtain ⟨sl,e1⟩:=I.base.slot b o e n' hb hx;exact ⟨sl,(old b o e).trans e1⟩
 ·obtain ⟨o',e1⟩:=I.base.there b o e hx;exact ⟨o',(old b o e).trans e1⟩
 ·by_cases hj:j=i
  ·subst hj;have bD:j < σ.length:=by rw [I.len]; exact (lm.mp hi).1
   rw [Fr bD] at e2;cases e2
  ·rw [FB (pi hj)] at e2;obtain ⟨u',r',q⟩:=hl j y v' e1 e2 e3;refine ⟨u',r',?_⟩;rcases q with ⟨k,e⟩ | ⟨k,c,e,z⟩
   ·refine .inl ⟨k,?_⟩;have:y≠n:=fun e=>hj (zK hN e1 (e ▸ hi));simp [this,e]
   ·exact .inr ⟨k,c,e,z.sameBut sb (I.jN y c e)⟩
 ·obtain ⟨w',z⟩:=I.cell y c e;exact ⟨w',z.sameBut sb (I.jN y c e)⟩
 ·obtain ⟨e,n',ne,nf,d⟩:=I.pin p hp;exact ⟨(sb.2 p.1 ne).trans e,n',ne,nf,d⟩
 ·refine (I.aB b u e).gi (fun c w' hc q=>(sb.2 c ?_).trans q) (fun _ q=>q) fun _ _ q=>q;rintro rfl;have hf:=I.free;rcases hc with z | z
  ·rw [z] at hf; rw [hf] at e; cases e
  ·rw [hf] at z; cases z
end
def Ends.DR (D:Ends) (i:Nat):Ends:=⟨fun σ H=>D.nx (σ.set i none) H,D.rt,fun σ H=>D.bk (σ.set i none) H,fun σ H=>D.ct (σ.set i none) H⟩
structure jS (K:PySem.W.Frag) (C:Addr):Prop where
 ha:PySem.W.findIn K (.ref C) "__class__" = some (some (.builtin "object.__class__"))
 hn:PySem.W.specialIn K (.builtin "object.__class__") "__get__" = some (some (.builtin "getset_descriptor.__get__"))
 f9:PySem.W.takesIn K (.builtin "object.__class__")=some true
 hm:PySem.W.mroIn K C (.type "object")=some true
 xF:PySem.W.findIn K (.ref C) "__getattribute__" = some (some (.builtin "BaseException.__getattribute__"))
 mM:PySem.W.findIn K (.ref C) "__getattr__" = some none
 hb:PySem.W.mroIn K C (.type "BaseException")=some true
def ot {M:Model} {h:Heap} {x C:Addr} {od:Option Addr} (I:cU x (.ref C) od h):PySem.W.Looks M h (typeOf (.ref x)) (.ref C):=by
 obtain ⟨o,e,c,_⟩:=I;exact c ▸ (_d e).andThen .now
def Ey {K:PySem.W.Frag} {C:Addr} {b:Value} {r:Bool} (h:PySem.W.mroIn K C b=some r):∃ c d cd sl,K.lookup C=some ⟨c,d,.cls cd,sl⟩:=by
 obtain ⟨cd,bL,_⟩:=Option.bind_eq_some_iff.mp h;unfold PySem.W.clsIn at bL;split at bL
 ·rename_i c' d' cd' sl' ho;exact ⟨_,_,_,_,ho⟩
 ·cases bL
section
variable {prog:Program} {w:World} {A:Around} {E:Value->Shared->Prop} {s:Shared} {K:PySem.W.Frag} {x C:Addr} {od:Option Addr}
def Zm {M:Model} {h:Heap} {name:Str} {a g:Value} (X:K.In h) (ha:PySem.W.findIn K (.ref C) name=some (some a)) (hn:PySem.W.specialIn K a "__get__" = some (some g)) (f9:PySem.W.takesIn K a=some true) :
  PySem.W.Looks M h (Builtin.ObjectAttr.find (.ref x) (.ref C) name) (.bind g a):=by
 have L1:=GM (M:=M) X ha;have L2:PySem.W.Looks M h (Builtin.ObjectAttr.getOf (some a)) (some g):=PySem.W.looks_specialIn X hn;have L3:=PySem.W.looks_takesIn (M:=M) X f9;unfold Builtin.ObjectAttr.find;refine L1.andThen (L2.andThen ?_);have L4:PySem.W.Looks M h (Builtin.ObjectAttr.dataDescriptor? (some a) (some g)) (some (g,a)):=by
  unfold Builtin.ObjectAttr.dataDescriptor?;exact L3.andThen .now
 exact L4.andThen (PySem.W.Looks.tag .now)
open PySem.W in
open Builtin Builtin.ObjectAttr Builtin.Getset_descriptor in
def PX {R:Result->Shared->Prop} {tp:Value} (Z:jS K C) (X:K.In s.heap) (I:cU x (.ref C) od s.heap) (h:R (.ok (.ret (.ref C))) s) :
  codeAny (model prog w) A (.call (.builtin "getset_descriptor.__get__") ⟨[.builtin "object.__class__",.ref x,tp],[]⟩) R s:=by
 obtain ⟨hh,g,dr,t,os⟩:=s;have L0:=ot (M:=model prog w) I;have L1:=looks_mroIn (M:=model prog w) X Z.hm;refine W1 KF.slot_gs.plain KF.entry_gs (KF.slot_gs.check _ _ _ _ _ _ _ _ KF.type_class (KF.args_gs _ _ _) ?_);unfold Builtin.«getset_descriptor.__get__» descrGet;rw [dga_obj];refine jp (pp ?_);unfold descrGetter descrCheckInstance descrNameAndClass isInstance;simp only [KF.owner_class]
 repeat lk
 refine ⟨Jae _ (by decide +kernel),_9 KF.entry_class ?_⟩;unfold Builtin.«object.__class__» shownTypeOf
 repeat lk
 exact h
def Mz {M:Model} {NW:Value} {Q:Unit->Shared->Prop} (Z:jS K C) (X:K.In s.heap) (I:cU x (.ref C) od s.heap) (h:Q () s):wpAny M A (checkBuiltinCall "BaseException.__getattribute__" ⟨[.ref x,NW],[]⟩) Q E s:=by
 have k1:builtinKind "BaseException.__getattribute__" = some .slot:=by decide +kernel
 have k2:splitId "BaseException.__getattribute__" = some ("BaseException","__getattribute__"):=by decide +kernel
 have k3:=PySem.F.args_bexc_ga (.ref x) NW;have L0:=ot (M:=M) I;have L1:=_a (M:=M) X Z.hb;obtain ⟨hh,g,d,t,os⟩:=s;have L2:PySem.W.Looks M hh (isInstance (.ref x) (.type "BaseException")) true:=L0.andThen L1;simp only [checkBuiltinCall,k1,k2];refine jp (L2.at ?_)
 repeat (any_goals (first | assumption | wp_step))
def Um {Q:Option Value->Shared->Prop} (Z:jS K C) (X:K.In s.heap) (I:cU x (.ref C) od s.heap) (h:Q (some (.ref C)) { s with toks:=s.toks+1 }):wpAny (model prog w) A (getAttr? (.ref x) "__class__") Q E s:=by
 obtain ⟨hh,g,d,t,os⟩:=s;have L0:=ot (M:=model prog w) I;have L1:=GM (M:=model prog w) X Z.xF;have L2:=GM (M:=model prog w) X Z.mM;have L3:=Zm (M:=model prog w) (x:=x) X Z.ha Z.hn Z.f9;unfold getAttr? getAttrBy? getAttrBy;refine jp (wpAny_mkText (jp (Jah (FM (jp (L0.at (jp (L1.at ?_))))))));show wpAny _ _ (getAttrByItsOwn (.ref x) (.str "__class__" t) (.ref C) (.builtin "BaseException.__getattribute__") false false) _ _ _;unfold getAttrByItsOwn;refine jp (L2.at ?_);refine jp (Jah (FM ?_));show wpAny _ _ (boundAndCalled (.builtin "BaseException.__getattribute__") (.ref x) (.str "__class__" t)) _ _ _;unfold boundAndCalled;refine jp (wpAny_of_eq (_e.ga.bind (.ref x)) ?_);refine TD (W1 _e.ga.plain PySem.F.entry_bexc_ga (Mz Z X I ?_));show wpAny _ _ (Builtin.«object.__getattribute__» ⟨[.ref x,.str "__class__" t],[]⟩) _ _ _;unfold Builtin.«object.__getattribute__»;refine jp (pp ?_);refine jp (pp ?_);refine jp (L0.at (jp (L3.at ?_)));show wpAny _ _ (Builtin.ObjectAttr.bindTo (.builtin "getset_descriptor.__get__") (.builtin "object.__class__") (.ref x) (.ref C)) _ _ _;show wpAny _ _ (holding [.builtin "object.__class__"] (call (.builtin "getset_descriptor.__get__") [.builtin "object.__class__",.ref x,.ref C]) >>= fun v=>ret v) _ _ _;refine jp (FM (TD (PX Z X I (pp ?_))));exact pp (pp h)
def Bw (Z:jS K C):PySem.W.KitX K (.ref x) (.ref C) (cU x (.ref C) od) where
 ty:=fun _ _ _ I=>ot I
 it:=fun _ _ X _=>by
  obtain ⟨c',d',cd',sl',ho⟩:=Ey Z.hm;intro A' Q' E' s' k q;unfold isType loadHead;exact jp (_b (k _ _ (X _ _ ho)) (pp q))
 ne:=fun h tp dd aj n sl X htp=>by
  obtain ⟨c',d',cd',sl',ho⟩:=Ey Z.hm;refine Bool.eq_false_iff.mpr fun q=>?_;have e:C=tp:=Value.ref.inj (Tk.mp q);subst e;have z:=(X _ _ ho).symm.trans htp;cases z
 ca:=fun X I k=>Um Z X I k
end
inductive ud (K:PySem.W.Frag) (H:Hp):V->Value->Bool->Prop where
 | of {x:V} {t:Value} (h:fF K H x t):ud K H x t false
 | exc {ea C:Addr} {od:Option Addr} (e:H ea=some (km ea C od)) (Z:jS K C):ud K H (.ref ea) (.ref C) true
inductive qE (K:PySem.W.Frag) (H:Hp) (t:Value):Bool->V->Bool->Prop where
 | ty {f:Bool} {n:String} {b:Bool} (e:PySem.W.kitOne K t (.type n)=some b):qE K H t f (.ty n) b
 | cls {f:Bool} {a:Addr} {b:Bool} (e:PySem.W.kitOne K t (.ref a)=some b):qE K H t f (.ref a) b
 | tup {p:Addr} {cs:List V} {us:List Value} {b:Bool} (h:H p=some (.tup cs)) (hu:∀ ws,Vals cs ws->ws=us) (e:PySem.W.kitAny K t us=some b):qE K H t true (.ref p) b
section
variable {X:Cx} {K:PySem.W.Frag}
def zj (K:PySem.W.Frag):List V->Hp->VK->Prop:=fun xs H Q=>match xs with
 | [x,c]=>∃ (t:Value) (f b:Bool),ud K H x t f/\qE K H t f c b/\Q (.bl b) H
 | _=>False
def ZN {x c:V} {u v t:Value} {pins:List (Addr×Obj)} {σ:St} {H:Hp} {s:Shared} {A:Around} {E:Value->Shared->Prop} {Q:Value->Shared->Prop} {f b:Bool} (I:Inv X pins σ H s) (rx:RelV x u) (rc:RelV c v) (ty:ud X.K H x t f) (a:qE X.K H t f c b)
  (h:∀ tk,Q (.bool b) { s with toks:=tk }):wpAny (model X.prog X.w) A (call (.builtin "isinstance") [u,v]) Q E s:=by
 cases ty with
 | of ty =>
  cases a with
  | ty e=>cases (show v=Value.type _ from rc); exact Em I rx ty e h
  | cls e=>cases (show v=Value.ref _ from rc); exact Em I rx ty e h
 | @exc ea C od e Z =>
  cases (show u=Value.ref ea from rx);obtain ⟨p,_,_⟩:=(show bM X.prog X.w H s.heap ea (km ea C od) from I.aB ea _ e);cases a with
  | ty e'=>cases (show v=Value.type _ from rc); exact Ix (Bw Z) I.bV p e' (fun z=>nomatch z) h
  | cls e'=>cases (show v=Value.ref _ from rc); exact Ix (Bw Z) I.bV p e' (fun z=>nomatch z) h
  | @tup tp cs us b hp hu e' =>
   cases (show v=Value.ref tp from rc);obtain ⟨_,aj,rv,o,ho,hc,n,hd,_⟩:=(show bM X.prog X.w H s.heap tp (.tup cs) from I.aB tp _ hp);obtain rfl:=hu aj rv;obtain ⟨oc,odd,GB,da⟩:=o;dsimp only at hc hd;subst hc hd;exact PySem.W.kia_tup (Bw Z) I.bV p ho e' (fun z=>nomatch z) h
def wL (h:X.K=K):cM X (.builtin "isinstance") (zj K):=h ▸ fun pins s σ H xs us Q I r q=>by
 unfold zj at q;split at q
 ·rename_i x c;obtain ⟨t,f,b,ty,a,q⟩:=q;obtain ⟨u,v,rfl,ru,rv⟩:=vals2 r;exact ZN I ru rv ty a fun tk=>⟨.bl b,H,I.tok tk,rfl,q⟩
 ·exact q.elim
end
namespace Dv
section
variable {X:Cx} {st:Stmt} {t:TS}
def cB {k:Nat} {f:Addr} {fd:FuncData} {ps:List Str} {sp:Sp} {bt:List V} {ds:List Value} {R:St->XK} {x:Str} {p pos:Pos} {e:Expr} {es:List Expr} {t:TA}
  (F:aC X.prog X.w X.K X.mg X.base (bo X.prog X.w) k f fd ps sp) (hr:bc k X.A) (hm:X.mg x=some (.ref f)) (hk:PySem.W.keepIn X.K (.ref f)=true) (hb:Binds X.K fd ps ds) (hd:Vals bt ds) (hx:gH X R)
  (ha:QA X (e::es) t) (hg:Gl X x:=by rfl) (hs:(e::es).all noStar=true:=by rfl) (bR:(x == ("__debug__" : Str))=false:=by decide):QE X (.Call (.Name x p) (e::es) [] pos) (AU sp bt R t):=⟨Vw F hr hg hm hk hb hd hx ha.h hs bR⟩
def Dy {R:St->XK} {x:Str} {C:Addr} {e:Expr} {es:List Expr} {t:TA} {np bE pos:Pos} (hx:Raises X R) (hc:X.calm=true) (hm:X.mg x=some (.ref C)) (q:PySem.W.excIn X.K C ve "ValueError.__new__" = true) (ha:QA X (e::es) t)
  (hg:Gl X x:=by rfl) (hs:(e::es).all noStar=true:=by rfl) (bR:(x == ("__debug__" : Str))=false:=by decide):QS X (.Raise (some (.Call (.Name x np) (e::es) [] bE)) none pos) (Dk C R t):=⟨abX hx hc hm q ha.h hg hs bR⟩
end
end Dv
def eP.dE {P:Program} {w:World} {K:PySem.W.Frag} {mg:Str->Option Value} {base:Heap} {CX:dN} {x qual:Str} {st:Stmt} {f:Addr} {fd:FuncData} {N ps:List Str} {k:Nat} {sp:Sp} (F:eP K x qual st f fd) (S:aE N ps (aw st)) (len:∀ vs H Q E,sp vs H Q E->vs.length=ps.length)
  (hb:∀ (ag:Value) (A:Around) (outer:List Env) (s:Shared) (H:Hp) (vs:List V) (Q:VK) (E:XK),bc k (A.deeper (envOfC qual (aw st) s.heap.objs.size f ag))->sp vs H Q E ->
   ∃ t,c8 (cq CX P w K mg base N qual (aw st) f ag A outer s H E) (aR st) t/\t { nx:=fun _ H'=>Q .ay H',rt:=Q } (start N vs) H):aC P w K mg base CX (k+1) f fd ps sp:=by
 obtain ⟨oc,od,kV,doc,pm,an,ag,ct,da,rfl,lk,bL⟩:=F.ex;exact xm lk bL S len fun A outer s H vs Q E hr dj=>hb ag A outer s H vs Q E hr dj
def uY:List Value->Bool
 | []=>false
 | v::r=>(v::r) == ve || match v with
  | .ref _=>uY r
  | _=>false
def Lg (self:Value):∀ {l:List Value},uY l=true->refuseLoop self "__setattr__" l=pure ()
 | [],e=>nomatch e
 | v::r,e=>by
  unfold uY at e;rcases Bool.or_eq_true_iff.mp e with q | q
  ·rw [Tk.mp q]; exact PySem.F.store_ValueError.passes self
  ·split at q
   ·rw [refuseLoop_ref];exact Lg self q
   ·cases q
def w6 (K:PySem.W.Frag) (C:Addr):Bool:=match K.lookup C with
 | some ⟨.type "type",_,.cls cd,sl⟩=>(match cd.mro,sl.toList with
  | .ref C'::bm,[_,_,_,_,some (.builtin n),_]=>C' == C && n == "ValueError.__new__" && !cd.hasDel && PySem.W.tailIn K ve bm && uY cd.mro && cd.hasDict
  | _,_=>false)
 | _=>false
structure gm (K:PySem.W.Frag) (C f:Addr) (fld:Str):Prop where
 q:w6 K C=true
 hi:PySem.W.findIn K (.ref C) "__init__" = some (some (.ref f))
 hf:PySem.W.typeIn K (.ref f)=some (.type "function")
 sa:PySem.W.findIn K (.ref C) "__setattr__" = some (some (.builtin "object.__setattr__"))
 na:PySem.W.findIn K (.ref C) fld=some none
 ob:PySem.W.mroIn K C (.type "object")=some true
 be:PySem.W.mroIn K C (.type "BaseException")=some true
 self:PySem.W.mroIn K C (.ref C)=some true
 kp:PySem.W.keepIn K (.ref C)=true
def xG {K:PySem.W.Frag} {h:Heap} {C:Addr} (X:K.In h) (q:w6 K C=true) :
  ∃ bm N nm q bs sn sub ab col dd k0 k1 k2 k3 k5,h.get? C=some (excClassObj nm q C N bs bm true sn sub ab col dd k0 k1 k2 k3 k5 "ValueError.__new__")/\OwnTail h ve bm/\uY (.ref C::bm)=true:=by
 unfold w6 at q;split at q
 ·rename_i dd cd sl ho;split at q
  ·rename_i C' bm k0 k1 k2 k3 n k5 hm hs;simp only [zn,Tk,Bool.not_eq_true'] at q;obtain ⟨⟨⟨⟨⟨q1,q2⟩,q3⟩,q4⟩,q5⟩,q6⟩:=q;subst q1 q2;obtain ⟨nm,bs,mro,ns,qn,hd,sn,sub,ab,col,del⟩:=cd;dsimp only at hm q3 q5 q6;subst hm q3 q6;have e1:sl=#[k0,k1,k2,k3,some (.builtin "ValueError.__new__"),k5]:=by
    obtain ⟨l⟩:=sl;simp only at hs;rw [hs]
   subst e1;exact ⟨bm,ns,nm,qn,bs,sn,sub,ab,col,dd,k0,k1,k2,k3,k5,X _ _ ho,PySem.W.tail_of_in X q4,q5⟩
  ·cases q
 ·cases q
section
variable {prog:Program} {w:World} {A:Around} {E:Value->Shared->Prop} {s:Shared} {K:PySem.W.Frag} {x C f:Addr} {fld:Str} {v:Value}
open Builtin Builtin.ObjectAttr in
def RS {Q:Unit->Shared->Prop} (Z:gm K C f fld) (X:K.In s.heap) (I:cU x (.ref C) none s.heap)
  (h:∀ h' d tk,s.heap.objs.size<=d->d≠x->(∃ o,s.heap.get? x=some o/\h'.get? x=some { o with dict:=some d })->h'.Ns1 d (fun y=>if y=fld then some v else none)->(∀ b o,b≠x->s.heap.get? b=some o->h'.get? b=some o)->Q () { s with heap:=h',toks:=tk }) :
  wpAny (model prog w) A (setAttr (.ref x) fld v) Q E s:=by
 obtain ⟨hh,g,dr,t,os⟩:=s;have L0:=ot (M:=model prog w) I;have L1:=GM (M:=model prog w) X Z.sa;have L2:=GM (M:=model prog w) X Z.na;obtain ⟨bm,N,nm,qn,bs,sn,sub,ab,col,dd,k0,k1,k2,k3,k5,hC,T,NV⟩:=xG X Z.q;have Lo:=_a (M:=model prog w) X Z.ob;have Li:PySem.W.Looks (model prog w) hh (isInstance (.ref x) (.type "object")) true:=L0.andThen Lo;have SF:=PySem.F.store_object;refine jp (wpAny_mkText (jp (jp (jp (L0.at (L1.at (FM ?_)))))));rw [SF.slot.bind];refine jp (pp (jp (TD ?_)));refine W1 SF.slot.plain SF.entry ?_;refine @PySem.W.check_slot (model prog w) _ _ ⟨hh,g,dr,t+1,os⟩ "object.__setattr__" "object" "__setattr__" (.ref x) [.str fld t,v] [] _ SF.kind SF.split Li (SF.args (.ref x) (.str fld t) v) ?_;show wpAny _ _ (Builtin.«object.__setattr__» ⟨[.ref x,.str fld t,v],[]⟩) _ _ _;rw [PySem.W.osa_eq,refuse_eq];refine jp (jp (L0.at (jp (wpAny_mroOf_exc hC ?_))));rw [Lg _ NV];refine pp (jp (L0.at (jp (L2.at (jp (pp ?_))))));obtain ⟨o,hx,hc,lF,vs,fg⟩:=I;show wpAny _ _ (storeInOwnDict (.ref x) (.ref C) (.str fld t) fld v false) _ _ _;have Lc:PySem.W.Looks (model prog w) hh (classData C) _:=(_d (part:=none) hC).andThen .now;obtain ⟨oc,od,GB,da⟩:=o;dsimp only at hc lF fg;subst hc lF fg;have bx:(hh.push { cls:=.type "dict",data:=.dict #[] }).get? x=some ⟨.ref C,none,.fields vs,da⟩:=kt _ hx;have EN:x≠hh.objs.size:=ww (sw hx);unfold storeInOwnDict ownDictForStores instanceDict;refine jp (pp ?_);refine jp (jp (_b hx (jp (Lc.at ?_))));refine jp (wpAny_alloc' ?_);refine jp (wpAny_update' bx (pp ?_));show wpAny _ _ (storeInDict hh.objs.size (.str fld t) fld v) _ _ _;have hself:((hh.push { cls:=.type "dict",data:=.dict #[] }).update x fun o=>{ o with dict:=some hh.objs.size }).get? x=some ⟨.ref C,some hh.objs.size,.fields vs,da⟩:=Op _ bx rfl;have hdict:((hh.push { cls:=.type "dict",data:=.dict #[] }).update x fun o=>{ o with dict:=some hh.objs.size }).get? hh.objs.size=some { cls:=.type "dict",data:=.dict #[] } :=
  (Heap.get?_update_ne _ _ _ _ EN.symm).trans (Heap.get?_push_at rfl rfl)
 have hoth:∀ b o,b≠x->hh.get? b=some o->((hh.push { cls:=.type "dict",data:=.dict #[] }).update x fun o=>{ o with dict:=some hh.objs.size }).get? b=some o:=fun b o hb e =>
  (Heap.get?_update_ne _ _ _ _ hb).trans (kt _ e)
 have eJ:((hh.push { cls:=.type "dict",data:=.dict #[] }).update x fun o=>{ o with dict:=some hh.objs.size }).Ns hh.objs.size (fun _=>none):=⟨_,#[],_,hdict,rfl,fun e he=>absurd he (by simp),fun _=>rfl⟩;unfold storeInDict newKeyGuard;refine jp (pp (jp (wpAny_nsSet1 (Heap.Ns1.of_empty eJ) fun h' hn' hs=>?_)));obtain ⟨oD,esD,epD,F9,Gf,Gx⟩:=hn'.count (Within.cons fld v Within.nil);refine jp (wpAny_lookBehind F9 (by rw [Gf]; exact pastItsLine_dict (wf Gx (by rw [Ev,_E,_s]; omega))) ?_);refine pp (pp (pp ?_));exact h h' hh.objs.size _ (ss _) (pi EN) ⟨_,hx,(hs.2 x EN).trans hself⟩ hn' fun b o hb e=>(hs.2 b (ww (sw e))).trans (hoth b o hb e)
end
def mH (e:Addr) (c:Value) (od:Option Addr) (h:Heap):Prop:=∃ o,h.get? e=some o/\o.cls=c/\o.dict=od/\∃ vs a0,o.data=.fields vs/\vs[1]?=some .none/\vs[0]?=some a0
def mH.hd {e:Addr} {c:Value} {od:Option Addr} {h:Heap} (x:mH e c od h):cU e c od h:=let ⟨o,a,b,c,vs,_,d,_⟩:=x; ⟨o,a,b,c,vs,d⟩
def dv (ea C:Addr) (od:Option Addr):HO:=.ext (mH ea (.ref C) od)
def Ko {P:Program} {w:World} {H:Hp} {h:Heap} {ea C:Addr} {od:Option Addr} (x:mH ea (.ref C) od h):bM P w H h ea (dv ea C od) :=
 ⟨x,let ⟨o,e,_⟩:=x; ⟨o,e⟩,fun _ _ ⟨o,e,r⟩ k=>⟨o,k o e,r⟩⟩
def W7 {h h':Heap} {e:Addr} {cls:Value} {args:List Value} (hx:Heap.MadeExcOf h h' e cls args):mH e cls none h':=by
 obtain ⟨t,he,_⟩:=hx.there;exact ⟨_,he,rfl,rfl,_,_,rfl,rfl,rfl⟩
def Eh (C:Addr) (fld:Str) (ta tv:TE):TS:=fun D σ H=>tv σ H fun y H1=>ta σ H1 fun x H2=>∃ ea,x=.ref ea/\H2 ea=some (dv ea C none)/\∀ d,H2 d=none->D.nx σ (upd (upd H2 ea (dv ea C (some d))) d (.xd [(fld,y)]))
def aar {fld g:Str} {y:V} {u:Value} (r:RelV y u):eG (([(fld,y)]:List (Str×V)).lookup g) (if g=fld then some u else none):=by
 by_cases h:g=fld
 ·have hb:(g == fld)=true:=Tk.mpr h;simp only [List.lookup,hb,wT h];exact r
 ·have hb:(g == fld)=false:=Ch.mpr h;simp only [List.lookup,hb,wS h];exact True.intro
section
variable {X:Cx} {C f:Addr} {fld:Str} {o value:Expr} {ta tv:TE} {pos pos':Pos}
def aad (Z:gm X.K C f fld) (ha:PE X o ta) (hv:PE X value tv) (hs:swapsWith value (some (.Attribute o fld pos')) pos.line X.env=pure false):PS X (.Assign [.Attribute o fld pos'] value pos) (Eh C fld ta tv):=by
 intro pins s σ H D I h;refine plainObj_wpAny_Assign_Attribute (aF (hv pins s σ H _ I h) fun u s1 ⟨y,H1,I1,ry,q⟩=>aF (ha pins s1 σ H1 _ I1 q) fun ov s2 ⟨x,H2,I2,rx,ea,ex,he,q2⟩=>?_) hs;subst ex;obtain rfl:ov=Value.ref ea:=rx;obtain ⟨p,_,_⟩:=(show bM X.prog X.w H2 s2.heap ea (dv ea C none) from I2.aB ea _ he);refine RS Z I2.bV p.hd fun h' d tk hsz lR vv eJ hkeep=>?_;obtain ⟨o0,e0,e1⟩:=vv;obtain ⟨o0',e0',c0,d0,vs,a0,v0⟩:=p;rw [e0] at e0'; cases e0';have hd':mH ea (.ref C) (some d) h':=⟨_,e1,c0,rfl,vs,a0,v0⟩;have aZ:H2 d=none:=I2.aB.fresh hsz;have J:Inv X pins σ (upd H2 ea (dv ea C (some d))) { s2 with heap:=h',toks:=tk } :=
  I2.write (x:=ea) (e:=ea) (o:=dv ea C (some d)) (t':=tk) (by rw [he]; exact True.intro) (.inl rfl) hkeep ⟨_,e1⟩ (Ko hd')
 have big:∀ b,(∃ u,s2.heap.get? b=some u)->b≠d:=fun b ⟨u,e⟩ z=>absurd (sw e) (by rw [z]; exact Nat.not_lt.mpr hsz);refine ⟨σ,_,J.xX (a:=d) (o:=.xd [(fld,y)]) (by rw [ah lR]; exact aZ) (WF (wf I2.sz hsz)) ?_ ?_ ?_ ⟨_,eJ,fun g=>aar ry⟩,q2 d aZ⟩
 ·obtain ⟨m,⟨o,_,_,ho,_⟩,_⟩:=I2.loc;exact pi (big _ ⟨o,ho⟩)
 ·intro z c e;obtain ⟨w',o,ho,_⟩:=I2.cell z c e;exact big _ ⟨o,ho⟩
 ·intro p hp;exact big _ ⟨_,(I2.pin p hp).1⟩
end
def mP (C:Addr) (fld:Str):Sp:=fun vs H Q _=>match vs with
 | [.ref ea,y]=>H ea=some (dv ea C none)/\∀ d,H d=none->Q .ay (upd (upd H ea (dv ea C (some d))) d (.xd [(fld,y)]))
 | _=>False
section
variable {prog:Program} {w:World} {A:Around} {E:Value->Shared->Prop} {h:Heap} {g:Array GenState} {d:Drawn} {t:Nat} {os:OsState} {K:PySem.W.Frag} {C f:Addr} {fld:Str}
def YC {rest:List Value} {Q:Fin->Shared->Prop} (Z:gm K C f fld) (X:K.In h) (dR:rest.length<=sizeLine)
  (hq:∀ h' e,Heap.MadeExcOf h h' e (.ref C) rest->wpAny (model prog w) A (call (.ref f) (.ref e::rest)) (fun r s'=>r=.none/\Q (.done (.ret (.ref e))) s') E ⟨h',g,d,t,os⟩) :
  wpAny (model prog w) A (Builtin.«type.__call__» ⟨.ref C::rest,[]⟩) Q E ⟨h,g,d,t,os⟩:=by
 have F:=_w;obtain ⟨bm,N,nm,qn,bs,sn,sub,ab,col,dd,k0,k1,k2,k3,k5,hC,T,_⟩:=xG X Z.q
 repeat (first | with_reducible refine wpAny_loadPart_at hC ?_ | with_reducible refine wpAny_madeBy_exc hC ?_ | wp_step)
 refine codeAny_call_builtin_code (Jae _ F.quiet) (wpAny_check_new_subT F T hC (codeAny_exc_new_subT F T hC ?_ dR));show wpAny _ _ _ _ _ _;have kk:∀ b o,h.get? b=some o->((h.push { cls:=.type "tuple",data:=.seq rest.toArray }).push { cls:=.ref C,data:=.fields #[.ref h.objs.size,.none,.none,.none,.bool false,.none] }).get? b=some o:=fun b o e=>kt _ (kt _ e);have ON:((h.push { cls:=.type "tuple",data:=.seq rest.toArray }).push { cls:=.ref C,data:=.fields #[.ref h.objs.size,.none,.none,.none,.bool false,.none] }).get? (h.objs.size+1)=some { cls:=.ref C,data:=.fields #[.ref h.objs.size,.none,.none,.none,.bool false,.none] }:=by heap_get
 have O0:((h.push { cls:=.type "tuple",data:=.seq rest.toArray }).push { cls:=.ref C,data:=.fields #[.ref h.objs.size,.none,.none,.none,.bool false,.none] }).get? h.objs.size=some { cls:=.type "tuple",data:=.seq rest.toArray }:=kt _ (Heap.get?_push_at rfl rfl);generalize OC:(h.push { cls:=.type "tuple",data:=.seq rest.toArray }).push { cls:=.ref C,data:=.fields #[.ref h.objs.size,.none,.none,.none,.bool false,.none] }=h2 at kk ON O0 ⊢;have made:Heap.MadeExcOf h h2 (h.objs.size+1) (.ref C) rest:=⟨kk,WF (_3 _),h.objs.size,ON,WF (ss _),O0⟩;have X2:K.In h2:=fun b o e=>kk b o (X b o e);have L0:=ot (M:=model prog w) (Hn made);have L1:=GM (M:=model prog w) X2 Z.hi;have Lb:=PySem.W.bind_fn (M:=model prog w) X2 (.ref (h.objs.size+1)) Z.hf;have Ls:PySem.W.Looks (model prog w) h2 (isSubtype (.ref C) (.ref C)) true:=_a X2 Z.self;have Li:PySem.W.Looks (model prog w) h2 (isInstance (.ref (h.objs.size+1)) (.ref C)) true:=L0.andThen Ls;refine jp (Li.at ?_);simp only [_B,Fa,Re];refine jp (FM ?_);unfold callSpecial? specialOf;refine jp (jp (L0.at (L1.at ?_)));refine FM (jp (Lb.at (jp (IO (hq h2 _ made) (fun r s' z=>?_) fun _ _ z=>z))));obtain ⟨rfl,z⟩:=z;exact pp (pp z)
def aaV {rest:List Value} {Q:Value->Shared->Prop} (Z:gm K C f fld) (X:K.In h) (dR:rest.length<=sizeLine)
  (hq:∀ h' e,Heap.MadeExcOf h h' e (.ref C) rest->wpAny (model prog w) (A.under (.builtin "type.__call__" ⟨.ref C::rest,[]⟩)) (call (.ref f) (.ref e::rest)) (fun r s'=>r=.none/\Q (.ref e) s') E ⟨h',g,d,t,os⟩) :
  wpAny (model prog w) A (call (.ref C) rest) Q E ⟨h,g,d,t,os⟩:=by
 obtain ⟨bm,N,nm,qn,bs,sn,sub,ab,col,dd,k0,k1,k2,k3,k5,hC,T,_⟩:=xG X Z.q;have f1:=tc_lookup;have f2:=tc_bind (.ref C);have hT:(⟨h,g,d,t,os⟩:Shared).TypeIs (.ref C) "type" := ⟨_,hC,rfl⟩;refine TD (codeAny_of_tree ?_);show wpAny _ _ (callAny (.ref C) _) _ _ _
 repeat (any_goals (first | assumption | with_reducible refine wpAny_loadPart_at hC ?_ | wp_step))
 exact ⟨rfl,codeAny_call_builtin_at (Jae _ (by decide +kernel)) entry_typeCall (wpAny_check_type_call_sub hC (YC Z X dR fun h' e hm=>hq h' e hm))⟩
end
def Sv {M:Model} {A:Around} {E:Value->Shared->Prop} {s:Shared} {env:Env} {K:PySem.W.Frag} {C:Addr} {x:Sem Value} {Q:Flow->Shared->Prop} (hb:PySem.W.mroIn K C (.type "BaseException")=some true) (cI:PySem.W.typeIn K (.ref C)=some (.type "type")) (hh:A.handled=none)
  (h:wpAny M A x (fun v s₁=>∃ e o vs,v=.ref e/\s₁.heap.get? e=some o/\o.cls=.ref C/\o.data=.fields vs/\vs[1]?=some .none/\K.In s₁.heap/\E (.ref e) s₁) E s) :
  wpAny M A (raiseStmt env (some x) none) Q E s:=by
 unfold raiseStmt;refine jp (IO h (fun v s₁ h₁=>?_) fun _ _ x=>x);obtain ⟨e,o,vs,rfl,he,hc,hd,h1,X,hE⟩:=h₁;obtain ⟨hp,g,d,tk,os⟩:=s₁;have L0:PySem.W.Looks M hp (typeOf (.ref e)) (.ref C):=hc ▸ (_d he).andThen .now;have L1:=_a (M:=M) X hb;have L2:PySem.W.Looks M hp (isType (.ref e)) false:=by
  obtain ⟨oc,od,GB,da⟩:=o;dsimp only at hd;subst hd;intro A' Q' E' s' k q;unfold isType loadHead;exact jp (_b (k _ _ he) (pp q))
 have L3:PySem.W.Looks M hp (isExcClass (.ref e)) false:=L2.andThen .now;have L4:PySem.W.Looks M hp (isInstance (.ref e) (.type "BaseException")) true:=L0.andThen L1;have L5:=PySem.W.looks_typeIn (M:=M) X cI;refine jp (pp (jp (FM ?_)));unfold excFromValue;refine jp (L3.at ?_);simp only [Fa,Re];refine jp (L4.at ?_);simp only [if_true];refine pp ?_;refine jp (L2.at ?_);simp only [Fa,Re];unfold raisedInstance;refine jp (jp (L0.at (jp (L5.at ?_))));refine pp ?_;unfold setFlight;refine jp (jp (wpAny_field he hd h1 ?_));refine pp ?_;exact wpAny_raiseNew_none hh hE
def JN {fs:List Addr} {H H':Hp} {h h1 base:Heap} (u:Un fs [] H H' h h1):∀ l:List Env,(∀ b∈bQ l,b∈fs/\H b=none)->h.FunFrames base l->h1.FunFrames base l
 | [],_,_=>trivial
 | env::r,hs,⟨hk,⟨L,o,hf,hn,ho,hd⟩,hr⟩=>by
  have e:bQ (env::r)=L::bQ r:=by
   unfold bQ;rw [ZB,hf]
  obtain ⟨h1',h2'⟩:=hs L (by rw [e]; exact _j);obtain ⟨sl,e1⟩:=u.slot L o ho h2' h1' (by simp);exact ⟨hk,⟨L,_,hf,hn,e1,hd⟩,JN u r (fun b hb=>hs b (by rw [e]; exact Db _ hb)) hr⟩
section
variable {X:Cx} {pins:List (Addr×Obj)} {σ:St} {H H':Hp} {s s1:Shared} {ea C:Addr} {od:Option Addr}
def Inv.UL {M:Model} {A:Around} {E:Value->Shared->Prop} (I:Inv X pins σ H s) (O:Own X) (hA:A.frames=some X.stack) (os:s1.os=s.os) (bare:AllBare s1.gens) (un:Un (bQ X.stack) [] H H' s.heap s1.heap) (aB:ck X.prog X.w H' s1.heap)
  (free:H' ea=none) (new:s.heap.get? ea=none) (hn:mH ea (.ref C) od s1.heap):wpAny M A (leaving X.env (.ref ea)) (fun _ s''=>oO X.prog X.w X.outer X.H₀ X.s₀ ea C od H' s'') E s1:=by
 have aU:(PySem.W.hideAll s1.heap (ea::bQ X.stack)).StaysIn s1.heap:=fun b o q=>Ja9 _ q;have lN:s1.heap.FunFrames (PySem.W.hideAll s1.heap (ea::bQ X.stack)) X.stack:=PySem.W.funFrames_hide (JN un X.stack (fun b hb=>⟨hb,I.wm b hb⟩) I.stack) fun env he a ha=>Db _ (_G.mpr ⟨env,he,ha⟩);have E7:(PySem.W.hideAll s1.heap (ea::bQ X.stack)).get? ea=none:=PySem.W.hideAll_none _ _j;have gE:tM (PySem.W.hideAll s1.heap (ea::bQ X.stack)) (bQ X.stack) s.heap H' s1.heap:=fun b o e hb z=>by
  refine Ja1 _ e fun hm=>?_;rcases li.mp hm with q | q
  ·rcases z with ⟨u,z⟩ | ⟨u,z⟩
   ·rw [q,new] at z; cases z
   ·rw [q,free] at z; cases z
  ·exact hb q
 generalize PySem.W.hideAll s1.heap (ea::bQ X.stack)=B at aU lN E7 gE;rw [O.dA] at lN hA;obtain ⟨oe,he,hc,yA,vs,a0,hd,h1,h0⟩:=id hn;refine aF ((Kp.leaving X.env (.ref ea)).any hn.hd (wpAny_leaving_firstW (Q:=fun _ s''=>∃ h2,s''={ s1 with heap:=h2 }/\Heap.LeftW B (X.env::X.outer) ea oe.cls a0 s1.heap h2) hA lN O.frame he aU E7 hd h1 h0 fun h2 x=>⟨h2,rfl,x⟩)) fun _ s'' ⟨⟨h2,e,k1,⟨_,_,k2⟩,k3,k4⟩,hd2⟩=>?_;subst e;rw [hc] at k3;exact I.Dp (s':={ s1 with heap:=h2 }) O os bare un aB free new gE ⟨k1,E7,k2,k3⟩ k4 hd2
structure Ai (X:Cx) (R:St->XK):Prop where
 made:∀ (pins:List (Addr×Obj)) (σ:St) (H H':Hp) (s s1:Shared) (ea C:Addr) (od:Option Addr),Inv X pins σ H s->s1.os=s.os->AllBare s1.gens->Un (bQ X.stack) [] H H' s.heap s1.heap->ck X.prog X.w H' s1.heap->H' ea=none->s.heap.get? ea=none ->
  mH ea (.ref C) od s1.heap->R σ (.ref C) od H'->X.xe (.ref ea) s1
end
def oX {P:Program} {w:World} {K:PySem.W.Frag} {mg:Str->Option Value} {base:Heap} {N:List Str} {qual:Str} {scope:Scope} {f:Addr} {cd:Value} {A:Around} {outer:List Env} {s₀:Shared} {H₀:Hp} {E:XK} :
  Ai (cq (bo P w) P w K mg base N qual scope f cd A outer s₀ H₀ E) (fun _=>E) where
 made:=fun pins σ H H' s s1 ea C od I os bare un aB free new hn hE=>aF (I.UL ⟨rfl,rfl,rfl⟩ I.ok.frames os bare un aB free new hn) fun _ s'' z=>⟨ea,C,od,H',rfl,z,hE⟩
def Cm (C:Addr) (fld:Str) (R:St->XK) (t:TA):TS:=fun _ σ H=>t σ H fun vs H1=>∃ v,vs=[v]/\∀ d,H1 d=none->R σ (.ref C) (some d) (upd H1 d (.xd [(fld,v)]))
def Uy {X:Cx} {R:St->XK} {x fld:Str} {C f:Addr} {fd:FuncData} {k:Nat} {ps:List Str} {e:Expr} {es:List Expr} {t:TA} {np bE pos:Pos} (hx:Ai X R) (hex:X.ex=[]) (hc:X.calm=true) (hm:X.mg x=some (.ref C)) (Z:gm X.K C f fld) (cI:PySem.W.typeIn X.K (.ref C)=some (.type "type"))
  (F:aC X.prog X.w X.K X.mg X.base aN k f fd ps (mP C fld)) (hr:bc (k+1) X.A) (hb:Binds X.K fd ps []) (ha:PA X (e::es) t)
  (hg:Gl X x:=by rfl) (hs:(e::es).all noStar=true:=by rfl) (bR:(x == ("__debug__" : Str))=false:=by decide):PS X (.Raise (some (.Call (.Name x np) (e::es) [] bE)) none pos) (Cm C fld R t):=by
 have hs':=hs;rw [IR,zn] at hs';intro pins s σ H D I h;rw [arm_exec_Raise];refine jp (_2 ?_);show wpAny _ _ (raiseStmt X.env (some (do let v <- eval (.Call (.Name x np) (e::es) [] bE) X.env; standAt pos; pure v)) none) _ _ s;refine Sv Z.be cI (I.ok.hd hc) (jp (IO (GE (lA I hg hm ?_ bR)) (fun v s3 h3=>jp (_2 (pp h3))) fun _ _ z=>z));refine Os (h₀:=X.base) I.ok.mod.ia Z.kp (aF (ha bE pins s σ H _ I h) fun us s2 ⟨vs,H2,I2,r,v,ev,hR⟩=>⟨I2.bV,?_⟩) (fw hs'.1) (ik hs'.2);subst ev;obtain ⟨u,rfl,ru⟩:=vals1 r;obtain ⟨h2,g2,d2,t2,yO⟩:=s2;refine aaV Z I2.bV (by show 1<=sizeLine; decide) fun h3 ex nq=>?_;have fM:∀ b,(∃ o,h2.get? b=some o)->b≠ex:=fun b ⟨o,e'⟩ z=>by
  have:=nq.new;rw [z,this] at e'; cases e'
 have ny:H2 ex=none:=by
  cases q:H2 ex with
  | none=>rfl
  | some o=>exact absurd rfl (fM ex (I2.aB ex o q).there)
 have I3:Inv X pins σ H2 ⟨h3,g2,d2,t2,yO⟩:=I2.kept (t':=t2) nq.keeps;have I4:Inv X pins σ (upd H2 ex (dv ex C none)) ⟨h3,g2,d2,t2,yO⟩:=by
  refine I3.xX ny ?_ ?_ ?_ ?_ (Ko (W7 nq))
  ·cases q:X.s₀.heap.get? ex with
   | none=>rfl
   | some o =>
    exact absurd rfl (fM ex (I2.base.there ex o q (by rw [hex]; simp)))
  ·obtain ⟨m,⟨o,_,_,ho,_⟩,_⟩:=I2.loc;exact pi (fM _ ⟨o,ho⟩)
  ·intro y c e';obtain ⟨w',o,ho,_⟩:=I2.cell y c e';exact fM _ ⟨o,ho⟩
  ·intro p hp;exact fM _ ⟨_,(I2.pin p hp).1⟩
 have hl:([Value.ref ex,u]++([]:List Value)).length=ps.length:=by
  have:=F.len [.ref ex,v] (upd H2 ex (dv ex C none)) (fun _ _=>True) E0 ⟨ax,fun _ _=>True.intro⟩;exact this
 refine TD (_k (F.run (X.A.under (.builtin "type.__call__" ⟨[.ref C,u],[]⟩)) X.stack ⟨h3,g2,d2,t2,yO⟩ (upd H2 ex (dv ex C none)) ⟨[.ref ex,u],[]⟩ [.ref ex,u] [.ref ex,v]
  (fun r H5=>r=.ay/\∃ d,upd H2 ex (dv ex C none) d=none/\H5=upd (upd (upd H2 ex (dv ex C none)) ex (dv ex C (some d))) d (.xd [(fld,v)])) E0 (hr.make C [u] []) (I4.pV.make C [u] []) (hb _ [.ref ex,u] I4.bV hl) (.cons rfl (.cons ru .nil))
  ⟨ax,fun d hd=>⟨rfl,d,hd,rfl⟩⟩) fun r s5 hq=>?_)
 cases r with
 | error e'=>exact False.elim hq
 | ok fl =>
  cases fl with
  | next=>exact False.elim hq
  | brk=>exact False.elim hq
  | cont=>exact False.elim hq
  | ret u5 =>
   obtain ⟨v5,H5,os5,bare5,m9,FO,rv5,rfl,d,rZ,rfl⟩:=hq;have lR:d≠ex:=fun z=>by rw [z,ax] at rZ; cases rZ
   have hd2:H2 d=none:=by rw [ah lR] at rZ; exact rZ
   have e5:upd (upd (upd H2 ex (dv ex C none)) ex (dv ex C (some d))) d (.xd [(fld,v)]) ex=some (dv ex C (some d)):=by rw [ah (pi lR),ax]
   have e6:∀ b,b≠ex->upd (upd (upd H2 ex (dv ex C none)) ex (dv ex C (some d))) d (.xd [(fld,v)]) b=upd H2 d (.xd [(fld,v)]) b:=fun b hb=>by
    by_cases q:b=d
    ·rw [q,ax,ax]
    ·rw [ah q,ah hb,ah hb,ah q]
   have e7:upd H2 d (.xd [(fld,v)]) ex=none:=by rw [ah (pi lR)]; exact ny
   have e4:∀ b,b≠ex->upd H2 ex (dv ex C none) b=H2 b:=fun b hb=>ah hb;generalize upd (upd (upd H2 ex (dv ex C none)) ex (dv ex C (some d))) d (.xd [(fld,v)])=H5 at m9 FO e5 e6;obtain ⟨hN,_,_⟩:=(show bM X.prog X.w H5 s5.heap ex (dv ex C (some d)) from FO ex _ e5);have rN:∀ b o,H2 b=some o->b≠ex:=fun b o q=>fW q ny;have OR:Un (bQ X.stack) [] H2 (upd H2 d (.xd [(fld,v)])) h2 s5.heap:=by
    refine ⟨fun b o q n hb hx=>?_,fun b o q n hb hx=>?_,fun b o q n hx=>?_,fun b o q hx=>?_,fun b xs q=>?_,fun b o v' q=>?_,fun b ps' q=>?_⟩
    ·exact m9.keep b o (nq.keeps b o q) (by rw [e4 b (fM b ⟨o,q⟩)]; exact n) hb hx
    ·exact m9.slot b o (nq.keeps b o q) (by rw [e4 b (fM b ⟨o,q⟩)]; exact n) hb hx
    ·rw [<- e6 b (fM b ⟨o,q⟩)];exact m9.free b o (nq.keeps b o q) (by rw [e4 b (fM b ⟨o,q⟩)]; exact n) hx
    ·exact m9.there b o (nq.keeps b o q) hx
    ·rw [<- e6 b (rN b _ q)];exact m9.gf b xs (by rw [e4 b (rN b _ q)]; exact q)
    ·rw [<- e6 b (rN b _ q)];exact m9.fG b o v' (by rw [e4 b (rN b _ q)]; exact q)
    ·rw [<- e6 b (rN b _ q)];exact m9.f6 b ps' (by rw [e4 b (rN b _ q)]; exact q)
   have hokF:ck X.prog X.w (upd H2 d (.xd [(fld,v)])) s5.heap:=fun b o q=>by
    have hb:b≠ex:=fun z=>by rw [z,e7] at q; cases q
    have q5:H5 b=some o:=by rw [e6 b hb]; exact q
    have ne5:∀ c o',H5 c=some o'->o'≠dv ex C (some d)->c≠ex:=fun c o' z1 z2 z=>by rw [z,e5] at z1; exact z2 (EQ z1).symm
    refine (FO b o q5).gi (fun _ _ _ z=>z) (fun c z=>?_) fun c xs z=>?_
    ·rw [<- e6 c (ne5 c _ z (fun z'=>by cases z'))]; exact z
    ·rw [<- e6 c (ne5 c _ z (fun z'=>by cases z'))]; exact z
   obtain ⟨oe,he,yP,yA,vs',a0,yX,h1,h0⟩:=id hN;refine ⟨rv5,ex,oe,vs',rfl,he,yP,yX,h1,?_,hx.made pins σ H2 _ ⟨h2,g2,d2,t2,yO⟩ s5 ex C (some d) I2 os5 bare5 OR hokF e7 nq.new hN (hR d hd2)⟩;exact I2.ok.mod.ia.keeps fun b o z=>OR.keep b o (I2.bs b o z).1 (I2.bs b o z).2 (fun hb=>by have:=(I2.stack.mem hb).1; rw [z] at this; cases this) (by simp)
section
variable {prog:Program} {w:World} {A:Around} {E:Value->Shared->Prop} {s:Shared} {K:PySem.W.Frag} {x C f d:Addr} {fld:Str}
open Builtin Builtin.ObjectAttr in
def Zu {M:Model} {h:Heap} {mA:Str->Option Value} {u:Value} (Z:gm K C f fld) (X:K.In h) (I:cU x (.ref C) (some d) h) (hn:h.Ns1 d mA) (hu:mA fld=some u):PySem.W.Looks M h (find (.ref x) (.ref C) fld) (.value u):=by
 have L1:=GM (M:=M) X Z.na;obtain ⟨bm,N,nm,qn,bs,sn,sub,ab,col,dd,k0,k1,k2,k3,k5,hC,T,NV⟩:=xG X Z.q;have Lc:PySem.W.Looks M h (classData C) _:=(_d (part:=none) hC).andThen .now;obtain ⟨o,hx,hc,lF,vs,fg⟩:=I;obtain ⟨oc,od,GB,da⟩:=o;dsimp only at hc lF fg;subst hc lF fg;intro A' Q' E' s' k q;unfold find;refine jp (L1 _ _ _ _ k ?_);refine jp (pp (jp (pp ?_)));show wpAny M A' (ownThenClass (.ref x) fld none none) Q' E' s';unfold ownThenClass inOwnDict ownDict;refine jp (jp (jp (_b (k _ _ hx) ?_)));show wpAny M A' (instanceDict x false) _ E' s';unfold instanceDict;refine jp (_b (k _ _ hx) (jp (Lc _ _ _ _ k ?_)));refine pp (a:=some d) ?_;show wpAny M A' (nsGet d fld) _ E' s';refine wpAny_nsGet (hn.ns.keeps k) ?_;rw [hu];exact jp (wpAny_rule (pp q))
def VZ {v:V} {u:Value} (r:RelV v u):handedOut u=pure u:=by
 cases v <;> first
  | (cases r; rfl)
  | (obtain ⟨t,rfl⟩:=r; rfl)
def Y0 {b:Bool} {Q:Value->Shared->Prop} {mA:Str->Option Value} {u:Value} (Z:gm K C f fld) (ZK:jS K C) (X:K.In s.heap) (I:cU x (.ref C) (some d) s.heap) (hn:s.heap.Ns1 d mA) (hu:mA fld=some u) (hh:handedOut u=pure u)
  (h:Q u { s with toks:=s.toks+1 }):wpAny (model prog w) A (getAttr (.ref x) fld b) Q E s:=by
 obtain ⟨hp,g,dr,t,os⟩:=s;have L0:=ot (M:=model prog w) I;have L1:=GM (M:=model prog w) X ZK.xF;have L2:=GM (M:=model prog w) X ZK.mM;have L3:=Zu (M:=model prog w) Z X I hn hu;unfold getAttr getAttrBy;refine jp (wpAny_mkText (FM (jp (L0.at (jp (L1.at ?_))))));show wpAny _ _ (getAttrByItsOwn (.ref x) (.str fld t) (.ref C) (.builtin "BaseException.__getattribute__") true b) _ _ _;unfold getAttrByItsOwn;refine jp (L2.at ?_);refine jp (Jah (FM ?_));have ec:callGetattribute (.ref x) (.str fld t) (.builtin "BaseException.__getattribute__") b=boundAndCalled (.builtin "BaseException.__getattribute__") (.ref x) (.str fld t):=by
  unfold callGetattribute;cases b <;> rfl
 rw [ec];unfold boundAndCalled;refine jp (wpAny_of_eq (_e.ga.bind (.ref x)) ?_);refine TD (W1 _e.ga.plain PySem.F.entry_bexc_ga (Mz ZK X I ?_));show wpAny _ _ (Builtin.«object.__getattribute__» ⟨[.ref x,.str fld t],[]⟩) _ _ _;unfold Builtin.«object.__getattribute__»;refine jp (pp (jp (pp (jp (L0.at (jp (L3.at ?_)))))));refine pp ?_;show wpAny _ _ (handedOut u) _ _ _;rw [hh];exact pp h
end
def C5 (C:Addr) (fld:Str) (ta:TE):TE:=fun σ H Q=>ta σ H fun x H1=>∃ ea d fs v,x=.ref ea/\H1 ea=some (km ea C (some d))/\H1 d=some (.xd fs)/\fs.lookup fld=some v/\Q v H1
def Tt {X:Cx} {C f:Addr} {fld:Str} {e:Expr} {ta:TE} {pos:Pos} (Z:gm X.K C f fld) (ZK:jS X.K C) (he:PE X e ta) (hb:attributeBase e fld X.env (eval e X.env)=eval e X.env):PE X (.Attribute e fld pos) (C5 C fld ta):=by
 intro pins s σ H Q I h;refine HL hb (aF (he pins s σ H _ I h) fun u s1 ⟨x,H1,I1,rx,ea,d,fs,v,ex,h1,h2,hl,q⟩=>?_);subst ex;obtain rfl:u=Value.ref ea:=rx;obtain ⟨p,_,_⟩:=(show bM X.prog X.w H1 s1.heap ea (km ea C (some d)) from I1.aB ea _ h1);obtain ⟨mA,eJ,hrel⟩:=(show bM X.prog X.w H1 s1.heap d (.xd fs) from I1.aB d _ h2);have hr:=hrel fld;rw [hl] at hr;cases hm:mA fld with
 | none=>rw [hm] at hr; exact hr.elim
 | some u' =>
  rw [hm] at hr;exact Y0 Z ZK I1.bV p eJ hm (VZ hr) ⟨v,H1,I1.tok _,hr,q⟩
inductive FI (C:Addr) (f:Str) (x:V) (H:Hp) (Q:V->Prop):Prop
 | mk:∀ a dx fs v,x=.ref a->H a=some (.ins C dx fs)->fs.lookup f=some v->Q v->FI C f x H Q
inductive SI (C:Addr) (f:Str) (x y:V) (H:Hp) (R:Hp->Prop):Prop
 | mk:∀ a dx fs,x=.ref a->H a=some (.ins C dx fs)->fs.length < 1000->R (upd H a (.ins C dx (aA f y fs)))->SI C f x y H R
inductive AI (C:Addr) (f:Str) (x:V) (H:Hp) (Q:Addr->V->Prop):Prop
 | mk:∀ a dx fs v,x=.ref a->H a=some (.ins C dx fs)->fs.lookup f=some v->Q a v->AI C f x H Q
inductive BI (C:Addr) (f:Str) (a:Addr) (z:V) (H:Hp) (R:Hp->Prop):Prop
 | mk:∀ dx fs,H a=some (.ins C dx fs)->fs.length < 1000->R (upd H a (.ins C dx (aA f z fs)))->BI C f a z H R
def wU (C:Addr) (f:Str) (ta:TE):TE:=fun σ H Q=>ta σ H fun x H1=>FI C f x H1 fun v=>Q v H1
def sj (C:Addr) (f:Str) (ta tv:TE):TS:=fun D σ H=>tv σ H fun y H1=>ta σ H1 fun x H2=>SI C f x y H2 fun H3=>D.nx σ H3
def Ek (C:Addr) (f:Str) (ta tv:TE) (rd:R2):TS:=fun D σ H=>ta σ H fun x H1=>AI C f x H1 fun a v=>tv σ H1 fun y H2=>rd v y H2 fun z H3=>BI C f a z H3 fun H4=>D.nx σ H4
def Bf (C:Addr) (m:Str) (sp:Sp) (bt:List V) (R:St->XK) (ta:TE) (t:TA):TE:=fun σ H Q=>ta σ H fun x H1=>MI C m x H1 (t σ H1 fun vs H2=>sp (x::(vs++bt)) H2 Q (R σ))
section
variable {X:Cx} {k:Nat} {f C:Addr} {fd:FuncData} {ps:List Str} {sp:Sp} {bt:List V} {ds:List Value} {R:St->XK} {x m:Str} {p pos apos:Pos} {e o:Expr} {es:List Expr} {ta:TE} {t:TA}
def Wx {pl:Sem Bool} (he:PE X o ta) (c:cS X.K C) (hm:Meth X.K C m f) (F:aC X.prog X.w X.K X.mg X.base (bo X.prog X.w) k f fd ps sp) (hr:bc k X.A) (hb:Binds X.K fd ps ds) (hd:Vals bt ds) (hx:gH X R) (ha:PA X (e::es) t) (hs:(e::es).all noStar=true:=by rfl)
  (ht:eval (.Call (.Attribute o m apos) (e::es) [] pos) X.env=(do
   let ov <- eval o X.env
   standAt apos.atName
   let (f,first) <- holding [ov] (getMethod ov m pl)
   callWith pos f first (backTo pos (starEach (e::es) X.env)) (backToKw pos (keywordEach [] X.env))):=by rfl):PE X (.Call (.Attribute o m apos) (e::es) [] pos) (Bf C m sp bt R ta t):=by
 have hs':=hs;rw [IR,zn] at hs';intro pins s σ H Q I h;refine _P (pl:=pl) (aF (he pins s σ H _ I h) fun u s1 ⟨x,H1,I1,rx,a,dx,fs,ex,ea,l,q⟩=>?_) ht;subst ex;obtain rfl:u=Value.ref a:=rx;refine Aa I1 ea c hm l (Os (first:=[.ref a]) (h₀:=X.base) I.ok.mod.ia hm.kp (aF (ha pos pins s1 σ H1 _ I1 q) fun us s2 ⟨vs,H2,I2,r,q2⟩=>⟨I2.bV,?_⟩) (fw hs'.1) (ik hs'.2));exact J1 (us:=.ref a::us) (vs:=.ref a::vs) F hr hb hd hx I2 (.cons rfl r) q2
end
section
variable {X:Cx} {C:Addr} {f:Str} {e o value:Expr} {ta tv:TE} {pos pos' tpos:Pos}
def Rg (c:cS X.K C) (n:bI X.K C f) (he:PE X e ta) (hb:attributeBase e f X.env (eval e X.env)=eval e X.env):PE X (.Attribute e f pos) (wU C f ta):=by
 intro pins s σ H Q I h;refine HL hb (aF (he pins s σ H _ I h) fun u s1 ⟨x,H1,I1,rx,a,dx,fs,v,ex,ea,l,q⟩=>?_);subst ex;obtain rfl:u=Value.ref a:=rx;exact Jt I1 ea c n l fun u' s2 I2 ru=>⟨v,H1,I2,ru,q⟩
def V5 (c:cS X.K C) (n:bI X.K C f) (ha:PE X o ta) (hv:PE X value tv) (hs:swapsWith value (some (.Attribute o f pos')) pos.line X.env=pure false):PS X (.Assign [.Attribute o f pos'] value pos) (sj C f ta tv):=by
 intro pins s σ H D I h;refine plainObj_wpAny_Assign_Attribute (aF (hv pins s σ H _ I h) fun u s1 ⟨y,H1,I1,ry,q⟩=>aF (ha pins s1 σ H1 _ I1 q) fun ov s2 ⟨x,H2,I2,rx,a,dx,fs,ex,ea,l,q2⟩=>?_) hs;subst ex;obtain rfl:ov=Value.ref a:=rx;exact Ld I2 ea c n l ry fun s3 I3=>⟨σ,_,I3,q2⟩
def Yw {op:Operator} {rd:R2} (c:cS X.K C) (n:bI X.K C f) (ha:PE X o ta) (hv:PE X value tv) (GF:z0 X op rd):PS X (.AugAssign (.Attribute o f tpos) op value pos) (Ek C f ta tv rd):=by
 intro pins s σ H D I h;refine wpAny_AugAssign_AttributeAny (aF (ha pins s σ H _ I h) fun ov s1 ⟨x,H1,I1,rx,a,dx,fs,v,ex,ea,l,q⟩=>?_);subst ex;obtain rfl:ov=Value.ref a:=rx;refine Jt I1 ea c n l fun u s2 I2 ru=>aF (hv pins s2 σ H1 _ I2 q) fun w3 s3 ⟨y,H2,I3,ry,q3⟩=>aF (GF pins s3 σ H2 v y u w3 _ I3 ru ry q3) fun w4 s4 ⟨z,H3,I4,rz,dx',fs',ea',l',q4⟩=>?_;exact Ld I4 ea' c n l' rz fun s5 I5=>⟨σ,_,I5,q4⟩
end
def J4 {X:Cx} {op:CmpOp} {a b:Expr} {t:TE} {pos:Pos} (h:PC X op a b t) (hm:behindInMarks op b=false:=by first | exact xB _ (by decide) (by decide) | rfl):PT X (.Compare a [op] [b] pos) (mm t):=by
 intro pins s σ H Q I hw;refine wpAny_isTrue_Compare1 (aF (h pins s σ H _ I hw) fun v s1 h1=>aF h1 fun u s2 h2=>aF h2 fun c s3 ⟨x,H1,I1,r1,q1⟩=>?_) hm;obtain ⟨k,rfl,q⟩:=Co q1;cases r1;exact LT ⟨H1,I1,q⟩
namespace Dv
section
variable {X:Cx} {a b o e i value:Expr} {ta tb td ty tv:TE} {es:List Expr} {t:TA} {pos pos' apos bE p tpos:Pos} {f C:Addr} {fn m x:Str} {k:Nat} {fd:FuncData} {ps:List Str} {sp:Sp} {bt:List V} {ds:List Value} {R:St->XK} {CX:dN} {E:XK} {tA:TT} {body:List Stmt} {tB:TS}
def fld (c:cS X.K C) (n:bI X.K C fn) (he:QE X e ta) (hb:attributeBase e fn X.env (eval e X.env)=eval e X.env:=by rfl):QE X (.Attribute e fn pos) (wU C fn ta):=⟨Rg c n he.h hb⟩
def bC (c:cS X.K C) (n:bI X.K C fn) (ha:QE X o ta) (hv:QE X value tv) (hs:swapsWith value (some (.Attribute o fn pos')) pos.line X.env=pure false:=by rfl):QS X (.Assign [.Attribute o fn pos'] value pos) (sj C fn ta tv):=⟨V5 c n ha.h hv.h hs⟩
def jB {op:Operator} {rd:R2} (c:cS X.K C) (n:bI X.K C fn) (GF:z0 X op rd) (ha:QE X o ta) (hv:QE X value tv):QS X (.AugAssign (.Attribute o fn tpos) op value pos) (Ek C fn ta tv rd):=⟨Yw c n ha.h hv.h GF⟩
def J3 (Z:gm X.K C f fn) (ZK:jS X.K C) (he:QE X e ta) (hb:attributeBase e fn X.env (eval e X.env)=eval e X.env:=by rfl):QE X (.Attribute e fn pos) (C5 C fn ta):=⟨Tt Z ZK he.h hb⟩
def Jo (Z:gm X.K C f fn) (ha:QE X o ta) (hv:QE X value tv) (hs:swapsWith value (some (.Attribute o fn pos')) pos.line X.env=pure false:=by rfl):QS X (.Assign [.Attribute o fn pos'] value pos) (Eh C fn ta tv):=⟨aad Z ha.h hv.h hs⟩
def bf {pl:Sem Bool} (c:cS X.K C) (hm:Meth X.K C m f) (F:aC X.prog X.w X.K X.mg X.base CX k f fd ps sp) (hr:bc k X.A) (hb:Binds X.K fd ps ds) (hd:Vals bt ds) (hx:Passes CX X E) (ho:QE X o ta) (ha:QA X (e::es) t) (hs:(e::es).all noStar=true:=by rfl)
  (ht:eval (.Call (.Attribute o m apos) (e::es) [] pos) X.env=(do
   let ov <- eval o X.env
   standAt apos.atName
   let (f,first) <- holding [ov] (getMethod ov m pl)
   callWith pos f first (backTo pos (starEach (e::es) X.env)) (backToKw pos (keywordEach [] X.env))):=by rfl):QE X (.Call (.Attribute o m apos) (e::es) [] pos) (qT C m sp bt E ta t):=by
 have hs':=hs;rw [IR,zn] at hs';exact ⟨aat ho.h c hm F hr hb hd hx ha.h (fw hs'.1) (ik hs'.2) ht⟩
def nH {pl:Sem Bool} (c:cS X.K C) (hm:Meth X.K C m f) (F:aC X.prog X.w X.K X.mg X.base CX k f fd ps sp) (hr:bc k X.A) (hb:Binds X.K fd ps ds) (hd:Vals bt ds) (hx:Passes CX X E) (ho:QE X o ta)
  (ht:eval (.Call (.Attribute o m apos) [] [] pos) X.env=(do
   let ov <- eval o X.env
   standAt apos.atName
   let (f,first) <- holding [ov] (getMethod ov m pl)
   callWith pos f first (backTo pos (starEach [] X.env)) (backToKw pos (keywordEach [] X.env))):=by rfl):QE X (.Call (.Attribute o m apos) [] [] pos) (qT C m sp bt E ta kO):=⟨aaW ho.h c hm F hr hb hd hx ht⟩
def cW {pl:Sem Bool} (c:cS X.K C) (hm:Meth X.K C m f) (F:aC X.prog X.w X.K X.mg X.base (bo X.prog X.w) k f fd ps sp) (hr:bc k X.A) (hb:Binds X.K fd ps ds) (hd:Vals bt ds) (hx:gH X R) (ho:QE X o ta) (ha:QA X (e::es) t) (hs:(e::es).all noStar=true:=by rfl)
  (ht:eval (.Call (.Attribute o m apos) (e::es) [] pos) X.env=(do
   let ov <- eval o X.env
   standAt apos.atName
   let (f,first) <- holding [ov] (getMethod ov m pl)
   callWith pos f first (backTo pos (starEach (e::es) X.env)) (backToKw pos (keywordEach [] X.env))):=by rfl):QE X (.Call (.Attribute o m apos) (e::es) [] pos) (Bf C m sp bt R ta t):=⟨Wx ho.h c hm F hr hb hd hx ha.h hs ht⟩
def make (M:Mk X.K C f) (F:aC X.prog X.w X.K X.mg X.base CX k f fd ps sp) (hr:bc (k+1) X.A) (hm:X.mg x=some (.ref C)) (hb:Binds X.K fd ps ds) (hd:Vals bt ds) (hx:Passes CX X E) (ha:QA X (e::es) t) (hg:Gl X x:=by rfl) (hs:(e::es).all noStar=true:=by rfl) (bR:(x == ("__debug__" : Str))=false:=by decide) :
  QE X (.Call (.Name x p) (e::es) [] pos) (uU C sp bt E t):=by
 have hs':=hs;rw [IR,zn] at hs';exact ⟨Wi M F hr hg hm hb hd hx ha.h bR (fw hs'.1) (ik hs'.2)⟩
def Tf (M:Mk X.K C f) (F:aC X.prog X.w X.K X.mg X.base CX k f fd ps sp) (hr:bc (k+1) X.A) (hm:X.mg x=some (.ref C)) (hb:Binds X.K fd ps ds) (hd:Vals bt ds) (hx:Passes CX X E) (hg:Gl X x:=by rfl) (bR:(x == ("__debug__" : Str))=false:=by decide) :
  QE X (.Call (.Name x p) [] [] pos) (uU C sp bt E kO):=⟨Ve M F hr hg hm hb hd hx bR⟩
def nU (hx:Ai X R) (hex:X.ex=[]) (hc:X.calm=true) (hm:X.mg x=some (.ref C)) (Z:gm X.K C f fn) (cI:PySem.W.typeIn X.K (.ref C)=some (.type "type")) (F:aC X.prog X.w X.K X.mg X.base aN k f fd ps (mP C fn)) (hr:bc (k+1) X.A) (hb:Binds X.K fd ps []) (ha:QA X (e::es) t)
  (hg:Gl X x:=by rfl) (hs:(e::es).all noStar=true:=by rfl) (bR:(x == ("__debug__" : Str))=false:=by decide):QS X (.Raise (some (.Call (.Name x p) (e::es) [] bE)) none pos) (Cm C fn R t):=⟨Uy hx hex hc hm Z cI F hr hb ha.h hg hs bR⟩
def yt (hu:X.A.units+1 < cLine) (ho:QE X o td) (hi:QE X i ty) (hs:Bn i:=by intro _ _; rfl):QE X (.Subscript o i pos) (EB td ty):=⟨Wh hu ho.h hi.h hs⟩
def B9 (hu:X.A.units+1 < cLine) (hi:QE X i ty) (ho:QE X o td) (hm:behindInMarks .In o=false:=by rfl):QT X (.Compare i [.In] [o] pos) (mm (zq ty td)):=⟨J4 (XX hu hi.h ho.h) hm⟩
def TH (hu:X.A.units+1 < cLine) (hi:QE X i ty) (ho:QE X o td) (hm:behindInMarks .NotIn o=false:=by rfl):QT X (.Compare i [.NotIn] [o] pos) (mm (B4 ty td)):=⟨J4 (Yt hu hi.h ho.h) hm⟩
def tD (hu:X.A.units+1 < cLine) (ho:QE X o td) (hi:QE X i ty) (hv:QE X value tv) (hs:swapsWith value (some (.Subscript o i pos')) pos.line X.env=pure false:=by rfl):QS X (.Assign [.Subscript o i pos'] value pos) (BQ td ty tv):=⟨Z9 hu ho.h hi.h hv.h hs⟩
def Zr:QE X (.Dict [] [] pos) AJ:=⟨Zt⟩
def W4 (hu:X.A.units+1 < cLine) (ho:QE X o td) (he:QE X e ty) (m1:M1 X o "get" apos e bE:=by exact ⟨rfl,rfl,rfl,rfl⟩):QE X (.Call (.Attribute o "get" apos) [e] [] bE) (BU td ty):=⟨YI hu ho.h he.h m1⟩
def t9 (hp:PassesOwn (model X.prog X.w) X.A X.env X.xe) (hc:QT X a tA) (hb:QB X body tB):QS X (.While a body [] pos) (Jc tA tB):=⟨U5 hp hc.h hb.h⟩
def JG (hc:QT X o tA) (ha:QE X a ta) (hb:QE X b tb):QE X (.IfExp o a b pos) (zM tA ta tb):=⟨Ub hc.h ha.h hb.h⟩
end
end Dv
def J6 {P:Program} {w:World} {K:PySem.W.Frag} {mg:Str->Option Value} {base:Heap} {N:List Str} {qual:Str} {scope:Scope} {f:Addr} {cd:Value} {A:Around} {outer:List Env} {s₀:Shared} {H₀:Hp} {E:XK} {CX:dN} :
  PassesOwn (model P w) (cq CX P w K mg base N qual scope f cd A outer s₀ H₀ E).A (cq CX P w K mg base N qual scope f cd A outer s₀ H₀ E).env (cq CX P w K mg base N qual scope f cd A outer s₀ H₀ E).xe:=PassesOwn.leaving
def Rj {K:PySem.W.Frag} {M:Model} {A:Around} {E:Value->Shared->Prop} {s:Shared} {e C Cc:Addr} {od:Option Addr} {Q:Bool->Shared->Prop} {b:Bool} (X:K.In s.heap) (hd:cU e (.ref C) od s.heap) (h1:PySem.W.instIn K (.ref Cc) (.type "tuple")=some false)
  (h2:PySem.W.mroIn K Cc (.type "BaseException")=some true) (h3:PySem.W.subIn K (.ref C) (.ref Cc)=some b) (hq:Q b s):wpAny M A (excMatches (.ref e) (.ref Cc)) Q E s:=by
 obtain ⟨o,he,hc,_⟩:=hd;have L1:=PySem.W.looks_instIn (M:=M) X h1;have L2:=_a (M:=M) X h2;have L3:=PySem.W.looks_subIn (M:=M) X h3;have L4:PySem.W.Looks M s.heap (isType (.ref Cc)) true:=by
  obtain ⟨c',d',cd',sl',ho⟩:=Ey h2;intro A' Q' E' s' k q;unfold isType loadHead;exact jp (_b (k _ _ (X _ _ ho)) (pp q))
 have L5:PySem.W.Looks M s.heap (typeOf (.ref e)) (.ref C):=hc ▸ (_d he).andThen .now;have L6:PySem.W.Looks M s.heap (isExcClass (.ref Cc)) true:=L4.andThen L2;obtain ⟨hh,g,d,t,os⟩:=s;unfold excMatches;refine jp (L1.at ?_);simp only [Fa,Re,pure_bind];simp only [List.forIn_cons,List.forIn_nil,bind_assoc,pure_bind];refine jp (L6.at ?_);simp only [_B,Fa,Re,bind_assoc,pure_bind];refine jp (L5.at (jp (L3.at ?_)));cases b with
 | true =>
  simp only [if_true,pure_bind];exact pp hq
 | false =>
  simp only [Fa,Re,pure_bind];exact pp hq
structure Eu (X:Cx) (pins:List (Addr×Obj)) (σ:St) (H:Hp) (ea C:Addr) (od:Option Addr) (s:Shared):Prop where
 fl:∃ B a0,Heap.FlyingW B (X.env::X.outer) ea (.ref C) a0 s.heap/\∀ h4:Heap,B.StaysIn h4->s.heap.UpToSlots h4->Inv X pins σ H { s with heap:=h4 }
 hd:cU ea (.ref C) od s.heap
 free:H ea=none
 n0:X.s₀.heap.get? ea=none
 nL:ea≠X.env.locals
 nC:∀ x c,X.env.cells.lookup x=some c->c≠ea
 nP:∀ p∈X.pn++pins,p.1≠ea
def Eu.inv {X:Cx} {pins:List (Addr×Obj)} {σ:St} {H:Hp} {ea C:Addr} {od:Option Addr} {s:Shared} (L:Eu X pins σ H ea C od s):Inv X pins σ H s:=by
 obtain ⟨B,a0,fl,k⟩:=L.fl;exact k s.heap fl.1 (Heap.UpToSlots.refl _)
abbrev jx:=Ends->St->Addr->Option Addr->Hp->Prop
def PH (X:Cx) (hs:List ExceptHandler) (t:jx):Prop:=∀ (pins:List (Addr×Obj)) (s:Shared) (σ:St) (H:Hp) (D:Ends) (ea C:Addr) (od:Option Addr),Eu X pins σ H ea C od s->t D σ C od H->wpAny (model X.prog X.w) X.A (handleBy (.ref ea) X.env hs) (SP X pins D) X.xe s
def Kf (K:PySem.W.Frag) (Cc:Addr) (i:Nat) (th:TS) (tr:jx):jx:=fun D σ C od H=>∃ b,PySem.W.subIn K (.ref C) (.ref Cc)=some b/\if b=true then ∀ ea,H ea=none->th (D.DR i) (σ.set i (some (.ref ea))) (upd H ea (km ea C od)) else tr D σ C od H
def KP:jx:=fun _ _ _ _ _=>False
def Xc {X:Cx}:PH X [] KP:=fun _ _ _ _ _ _ _ _ _ h=>h.elim
section
variable {X:Cx} {K:PySem.W.Frag} {Cc:Addr} {n x:Str} {vH:List Stmt} {b₀:Stmt} {np hpos pos:Pos} {th:TS} {tr:jx} {rest:List ExceptHandler}
def Yz (i:Nat) (hK:X.K=K) (hN:X.N.Nodup) (hm:X.mg x=some (.ref Cc)) (c1:PySem.W.instIn X.K (.ref Cc) (.type "tuple")=some false) (c2:PySem.W.mroIn X.K Cc (.type "BaseException")=some true) (hs:∀ v,c8 (X.la v) (b₀::vH) th) (hr:PH X rest tr)
  (hg:Gl X x:=by rfl) (hi:X.N[i]?=some n:=by rfl) (hn:X.env.scope.names.lookup n=some .local:=by rfl) (bR:(x == ("__debug__" : Str))=false:=by decide):PH X (.ExceptHandler (some (.Name x np)) (some n) (b₀::vH) hpos::rest) (Kf K Cc i th tr):=by
 subst hK;intro pins s σ H D ea C od L h;obtain ⟨b,hsub,h⟩:=h;have I:=L.inv;refine wpAny_handleBy_cons (codeAny_handlers_test (lA (I.la (.ref ea)) hg hm (Rj I.bV L.hd c1 c2 hsub ?_) bR)) (by intro q; cases q);cases b with
 | false=>exact hr pins s σ H D ea C od L h
 | true =>
  have aG:=h;rw [wT rfl] at aG;obtain ⟨B,a0,fl,step⟩:=L.fl;refine codeAny_handlers_suite_as (aF ((Kp.setFlight (.ref ea) none).any L.hd (lands_againW (Q:=fun _ s4=>∃ h4,s4={ s with heap:=h4 }/\Heap.FlyingW B (X.env::X.outer) ea (.ref C) a0 h4/\s.heap.UpToSlots h4) fl fun h4 x1 x2=>⟨h4,rfl,x1,x2⟩)) fun _ s4 ⟨⟨h4,e4,fl4,up4⟩,rZ⟩=>?_);subst e4;have I5:Inv X pins σ (upd H ea (km ea C od)) { s with heap:=h4 }:=(step h4 fl4.1 up4).xX L.free L.n0 L.nL L.nC L.nP (aap rZ);refine AX (X:=X.la (.ref ea)) (v:=.ref ea) (I5.la (.ref ea)) hN hi (Or.inl hn) rfl (fun s6 I6=>?_) (Or.inr hn);refine IO (hs (.ref ea) pins s6 _ _ (D.DR i) I6 (aG ea L.free)) (fun f s7 z=>?_) fun _ _ z=>False.elim z;have GI:(X.env.scope.kind == .class || (X.env.scope.kind == .module && X.env.locals != X.env.globals))=false:=by rw [I.ok.kind]; rfl
  have fin:∀ {σ7:St} {H7:Hp} (I7:Inv (X.la (.ref ea)) pins σ7 H7 s7) (Q:Unit->Shared->Prop),(∀ s8,Inv X pins (σ7.set i none) H7 s8->Q () s8)->∀ E:Value->Shared->Prop,wpAny (model X.prog X.w) X.A (do bindName X.env n .none; unbindBehindTheSuite X.env n hpos) Q E s7:=fun {σ7 H7} I7 Q k E=>by
   have J:=I7.SJ I.ok;obtain ⟨m,hn7,hl7⟩:=id J.loc;exact wpAny_nameGoes_keeps hn hn7 GI fun h8 v GJ sb8=>k _ (J.Yl hN hi hl7 GJ sb8)
  cases f with
  | next=>obtain ⟨σ7,H7,I7,q⟩:=z; exact fin I7 _ (fun s8 I8=>⟨_,H7,I8,q⟩) _
  | ret u=>obtain ⟨v,σ7,H7,I7,r,q⟩:=z; exact fin I7 _ (fun s8 I8=>⟨v,_,H7,I8,r,q⟩) _
  | brk=>obtain ⟨σ7,H7,I7,q⟩:=z; exact fin I7 _ (fun s8 I8=>⟨_,H7,I8,q⟩) _
  | cont=>obtain ⟨σ7,H7,I7,q⟩:=z; exact fin I7 _ (fun s8 I8=>⟨_,H7,I8,q⟩) _
def Me (tb:(St->XK)->TS) (t:jx):TS:=fun D σ H=>∃ R:St->XK,tb R D σ H/\∀ σ' C od H',R σ' (.ref C) od H'->t D σ' C od H'
def Vq {body:List Stmt} {h₀:ExceptHandler} {tb:(St->XK)->TS} {t:jx} (O:Own X) (hb:∀ pins R,c8 (X.oH pins R) body (tb R)) (hh:PH X (h₀::rest) t):PS X (.Try body (h₀::rest) [] [] pos) (Me tb t):=by
 intro pins s σ H D I h;obtain ⟨R,hb',hR⟩:=h;refine wpAny_Try_except (IO (hb pins R [] s σ H D (I.oH R) hb') (fun f s1 z=>?_) fun e s1 z=>?_)
 ·cases f with
  | next=>obtain ⟨σ',H',I',q⟩:=z; exact _C ⟨σ',H',I'.uZ,q⟩
  | ret u=>obtain ⟨v,σ',H',I',r,q⟩:=z; exact ⟨v,σ',H',I'.uZ,r,q⟩
  | brk=>obtain ⟨σ',H',I',q⟩:=z; exact ⟨σ',H',I'.uZ,q⟩
  | cont=>obtain ⟨σ',H',I',q⟩:=z; exact ⟨σ',H',I'.uZ,q⟩
 ·obtain ⟨σ',H0,H',s0,ea,C,od,I0,rfl,F,FG⟩:=z;obtain ⟨B,a0,fl,gE⟩:=F.IC;have hA:X.A.frames=some (X.env::X.outer):=by rw [<- O.dA]; exact I.ok.frames
  rw [O.dA] at fl;refine aF ((Kp.noteFrame (.ref ea) X.env).any F.hd (wpAny_looks_onW (Q:=fun _ s2=>∃ h2,s2={ s1 with heap:=h2 }/\Heap.HeldW B (X.env::X.outer) ea (.ref C) a0 X.env.locals h2/\s1.heap.UpToSlots h2) hA O.frame fl fun h2 x1 x2=>⟨h2,rfl,x1,x2⟩)) fun _ s2 ⟨⟨h2,e2,held,up2⟩,hd2⟩=>?_;subst e2;refine aF ((Kp.setFlight (.ref ea) none).any (s:={ s1 with heap:=h2 }) hd2 (wpAny_landsW (s:={ s1 with heap:=h2 }) (Q:=fun _ s3=>∃ h3,s3={ s1 with heap:=h3 }/\Heap.FlyingW B (X.env::X.outer) ea (.ref C) a0 h3/\h2.UpToSlots h3) held fun h3 x1 x2=>⟨h3,rfl,x1,x2⟩)) fun _ s3 ⟨⟨h3,e3,fl3,up3⟩,hd3⟩=>?_;subst e3;have fM:∀ b,(∃ o,s0.heap.get? b=some o)->b≠ea:=fun b ⟨o,e⟩ z=>by rw [z,F.new] at e; cases e
  refine hh pins { s1 with heap:=h3 } σ' H' D ea C od ⟨⟨B,a0,fl3,fun h4 st up=>?_⟩,hd3,F.free,?_,?_,fun y c e=>?_,fun p hp=>?_⟩ (hR σ' C od H' FG)
  ·obtain ⟨u,aB⟩:=Hd F.un F.aB I0.JZ gE st ((up2.trans up3).trans up);exact I0.KU (s':={ s1 with heap:=h4 }) (ch:=[]) F.os u aB F.bare (fun b z=>absurd z (by simp))
  ·cases q:X.s₀.heap.get? ea with
   | none=>rfl
   | some u=>exact absurd rfl (fM ea (I0.base.there ea u q (by rw [O.ex]; simp)))
  ·obtain ⟨m,⟨o,_,_,ho,_⟩,_⟩:=I0.loc;exact pi (fM _ ⟨o,ho⟩)
  ·obtain ⟨w',o,ho,_⟩:=I0.cell y c e;exact fM _ ⟨o,ho⟩
  ·exact fM _ ⟨_,(I0.pin p hp).1⟩
end
structure QH (X:Cx) (hs:List ExceptHandler) (t:jx):Prop where
 h:PH X hs t
namespace Dv
section
variable {X:Cx} {K:PySem.W.Frag} {Cc:Addr} {n x:Str} {vH:List Stmt} {b₀:Stmt} {np hpos pos:Pos} {th:TS} {tr:jx} {rest:List ExceptHandler}
def ZL:QH X [] KP:=⟨Xc⟩
def Bq (i:Nat) (hK:X.K=K) (hN:X.N.Nodup) (hm:X.mg x=some (.ref Cc)) (c1:PySem.W.instIn X.K (.ref Cc) (.type "tuple")=some false) (c2:PySem.W.mroIn X.K Cc (.type "BaseException")=some true) (hs:∀ v,QB (X.la v) (b₀::vH) th) (hr:QH X rest tr)
  (hg:Gl X x:=by rfl) (hi:X.N[i]?=some n:=by rfl) (hn:X.env.scope.names.lookup n=some .local:=by rfl) (bR:(x == ("__debug__" : Str))=false:=by decide):QH X (.ExceptHandler (some (.Name x np)) (some n) (b₀::vH) hpos::rest) (Kf K Cc i th tr) :=
 ⟨Yz i hK hN hm c1 c2 (fun v=>(hs v).h) hr.h hg hi hn bR⟩
def Qb {body:List Stmt} {h₀:ExceptHandler} {tb:(St->XK)->TS} {t:jx} (O:Own X) (hb:∀ pins R,QB (X.oH pins R) body (tb R)) (hh:QH X (h₀::rest) t):QS X (.Try body (h₀::rest) [] [] pos) (Me tb t):=⟨Vq O (fun pins R=>(hb pins R).h) hh.h⟩
end
end Dv
def eB (a b:Str):Bool:=!ltCps b.cps.toList a.cps.toList
def dQ (ts:List Str):List Str:=ts.mergeSort eB
def xZ {a b:Str}:eB a b=true ↔ ¬ b.cps.toList < a.cps.toList:=by
 unfold eB; rw [ltCps_eq]; simp
def Kr (a b c:Str) (h1:eB a b=true) (h2:eB b c=true):eB a c=true:=by
 rw [xZ] at *;exact _4.mpr (List.le_trans (_4.mp h1) (_4.mp h2))
def TM (a b:Str):(eB a b || eB b a)=true:=by
 cases h:eB a b with
 | true=>rfl
 | false =>
  have:¬ eB a b=true:=by rw [h]; simp
  rw [xZ,Classical.not_not] at this;simp only [Bool.false_or,xZ];exact _4.mpr (List.le_of_lt this)
def RG {a b:Str} (h1:eB a b=true) (h2:eB b a=true):a=b:=by
 rw [xZ] at *;have:=List.le_antisymm (_4.mp h1) (_4.mp h2);obtain ⟨x⟩:=a; obtain ⟨y⟩:=b;exact NE Str.mk (Array.ext' this)
def xI (ts:List Str):(dQ ts).Perm ts:=List.mergeSort_perm ts eB
def HQ (ts:List Str):(dQ ts).Pairwise (fun a b=>eB a b=true):=List.pairwise_mergeSort Kr TM ts
def Ck (ts:List Str):(dQ ts).length=ts.length:=(xI ts).length_eq
def HY:∀ (p:Str) (l:List Str),risingS p l=true->(p::l).Pairwise (fun a b=>eB a b=true)
 | p,[],_=>List.pairwise_singleton _ _
 | p,x::r,h=>by
  have h':eB p x=true/\risingS x r=true:=by simpa [risingS,eB] using h
  have ih:=HY x r h'.2;refine List.pairwise_cons.mpr ⟨fun y hy=>?_,ih⟩;rcases li.mp hy with e | hy
  ·exact e ▸ h'.1
  ·exact Kr p x y h'.1 (List.rel_of_pairwise_cons ih hy)
def J7:∀ (l:List Str),sortedS l=true->l.Pairwise (fun a b=>eB a b=true)
 | [],_=>.nil
 | x::r,h=>HY x r h
def As {us ts:List Str} (hp:us.Perm ts) (hs:us.Pairwise (fun a b=>eB a b=true)):us=dQ ts :=
 List.Perm.eq_of_pairwise (fun a b _ _ h1 h2=>RG h1 h2) hs (HQ ts) (hp.trans (xI ts).symm)
def Zb {us ts:List Str} (hp:us.Perm ts):dQ us=dQ ts:=As ((xI us).trans hp) (HQ us)
def Nn:∀ {ts:List Str} {us:List Value},Vals (ts.map V.str) us->StrsAre us ts
 | [],_,.nil=>.nil
 | x::r,_,.cons h t=>by obtain ⟨t',rfl⟩:=h; exact .cons x t' (Nn t)
def Ew:∀ {us:List Value} {ts:List Str},StrsAre us ts->Vals (ts.map V.str) us
 | _,_,.nil=>.nil
 | _,_,.cons y t h=>.cons ⟨t,rfl⟩ (Ew h)
section
variable {X:Cx}
def M4 (K:PySem.W.Frag):List V->Hp->VK->Prop:=fun xs H Q=>∃ p ts,xs=[.ref p]/\aD K H p (ts.map V.str)/\ts.length < 64/\∀ l,H l=none->Q (.ref l) (upd H l (.lst ((dQ ts).map V.str)))
def Tj:cM X (.builtin "sorted") (M4 X.K):=by
 intro pins s σ H xs us Q I r h;obtain ⟨p,ts,rfl,hq,jk,q⟩:=h;obtain ⟨u,rfl,rx⟩:=vals1 r;cases rx;obtain ⟨aj,r',pl,hz⟩:=I.list hq;have hlen:=r'.length;refine sorted_strs pl.isList (Nn r') (by rw [<- hlen]; simpa using jk) fun out ss' a1 a2 a3=>?_;obtain ⟨e,he⟩:=sortedAll_at s.heap aj out;have e1:ss'=dQ ts:=As a2 (J7 _ a3);subst e1;refine ⟨.ref (s.heap.objs.size+1),_,I.laid (t':=s.toks) (fun _ _=>sortedAll_old) (_3 _) (show bM X.prog X.w _ _ _ (.lst ((dQ ts).map V.str)) from ⟨?_,out.toList,e,Ew a1,?_⟩),rfl,q _ (I.aB.fresh (_3 _))⟩
 ·rw [nn,Ck]; simpa using hz
 ·simpa [seqObj] using he
def G1:List V->Hp->VK->Prop:=fun xs H Q=>∃ p kvs,∃ ts:List Str,xs=[.ref p]/\H p=some (.dK kvs)/\kvs.map (·.1)=ts.map Sum.inr/\ts.length < 64/\∀ l,H l=none->Q (.ref l) (upd H l (.lst ((dQ ts).map V.str)))
def UR {x:Str} {v:Value} (h:oy (.inr x) v=true):∃ t,v=Value.str x t:=Value.isStrOf_shape h
def RN (hc:X.calm=true):cM X (.builtin "sorted") G1:=by
 intro pins s σ H xs us Q I r h;obtain ⟨p,kvs,ts,rfl,hq,hk,jk,q⟩:=h;obtain ⟨u,rfl,rx⟩:=vals1 r;cases rx;obtain ⟨hz,hS,vs,rv,m⟩:kvs.length<=sizeLine/\(p == sysModules)=false/\∃ vs,KV kvs vs/\s.heap.DictOf (eC X.prog X.w) p vs:=I.aB p _ hq;obtain ⟨ep,vC⟩:=m.dictAt;have gz:kvs.length=ts.length:=by simpa using NE List.length hk
 have Oq:vs.length=ts.length:=by rw [<- gz]; simpa using (NE List.length rv.keys).symm
 refine _z kind_sorted plain_sorted entry_sorted (args_sorted1 _) ?_;unfold Builtin.«sorted»;refine jp (m:=checkCount "sorted" 1 1 _) (pp ?_);refine jp (Ja4 (A:=X.A.in1) (PySem.W.kdl_dict (knd:=eC X.prog X.w) (kvs:=vs) (ep:=ep) hS) (I.ok.hd hc) vC (by rw [Oq,<- gz]; exact hz) fun h' tk acc hk' ff=>?_);have hl:acc.toList.length=ts.length:=by rw [LE,<- Oq]; exact ff.1
 have hS':StrsAre acc.toList ts:=by
  have key:∀ (l:List Value) (us:List Str),l.length=us.length->(∀ (j:Nat) (v:Value) (x:Str),l[j]?=some v->us[j]?=some x->∃ t,v=Value.str x t)->StrsAre l us:=by
   intro l
   induction l with
   | nil=>intro us e _; cases us with | nil=>exact .nil | cons=>cases e
   | cons v l ih =>
    intro us e hh;cases us with
    | nil=>cases e
    | cons x us =>
     obtain ⟨t,rfl⟩:=hh 0 v x rfl rfl;exact .cons x t (ih us (by simpa using e) fun j v x h1 h2=>hh (j+1) v x h1 h2)
  refine key _ _ hl fun j v x h1 h2=>?_;obtain ⟨k,y,hx,hk1⟩:=ff.2 j v (by rw [<- No]; exact h1);have e1:(vs.map (·.1))[j]?=some k:=by rw [xL,hx]; rfl
  rw [<- rv.keys,hk,xL,h2] at e1;cases e1;exact UR hk1
 refine jp (Jai ?_ (by rw [hl,<- gz]; exact hz));have gP:(h'.push (seqObj "list" acc.toList.toArray 0)).get? h'.objs.size=some (seqObj "list" acc.toList.toArray 0):=tz _ rfl;refine jp (FM (_x slot_list_sort ⟨_,gP,rfl⟩ entry_list_sort (list_sort_treeK strKind_oneLt gP hS'.keysOf (fun v₁ v₂ rest e=>keyKind_strs (by rw [<- e]; exact hS')) (by rw [hl]; exact jk) fun st' a1 a2=>⟨_,rfl,?_⟩) (args_list_sort _)));refine pp ⟨_,rfl,?_⟩;obtain ⟨ss',b1,b2,b3⟩:=sorted_out_str hS' a1 a2;have e1:ss'=dQ ts:=As b2 (J7 _ b3);subst e1;obtain ⟨e,he⟩:=sortedHeap_at (out:=(arrOf st').map (·.2)) gP;have I1:Inv X pins σ H { s with heap:=h',toks:=tk }:=I.kept (t':=tk) hk';refine ⟨.ref h'.objs.size,_,I1.laid (t':=tk) (fun b o z=>?_) (ss _) (show bM X.prog X.w _ _ _ (.lst ((dQ ts).map V.str)) from ⟨?_,_,e,Ew b1,?_⟩),rfl,q _ (I1.aB.fresh (ss _))⟩
 ·have hb:b < h'.objs.size:=sw z;rw [sortedHeap_old (ww hb) (by have:=Tm h' (seqObj "list" acc.toList.toArray 0); rw [this]; exact _N hb)];exact kt _ z
 ·rw [nn,Ck,<- gz]; exact hz
 ·rw [_5]; exact he
end
def mW (P:Program) (w:World) (K:PySem.W.Frag) (mg:Str->Option Value) (base:Heap) (N:List Str) (qual:Str) (scope:Scope) (f:Addr) (cd:Value) (cl:List (Str×Addr)) (A:Around) (outer:List Env) (s:Shared) (H:Hp) (E:XK):Cx where
 prog:=P
 w:=w
 K:=K
 mg:=mg
 base:=base
 A:=A.deeper (PySem.W.envX qual scope s.heap.objs.size f cd cl)
 N:=N
 s₀:=s
 H₀:=H
 env:=PySem.W.envX qual scope s.heap.objs.size f cd cl
 outer:=outer
 stack:=PySem.W.envX qual scope s.heap.objs.size f cd cl::outer
 ex:=[]
 calm:=true
 fn:=fun _=>false
 pn:=[]
 xe:=fun e s'=>wpAny (model P w) (A.deeper (PySem.W.envX qual scope s.heap.objs.size f cd cl)) (leaving (PySem.W.envX qual scope s.heap.objs.size f cd cl) e) (fun _ s''=>bo P w outer H s E e s'') (fun e' s''=>bo P w outer H s E e' s'') s'
def n6 (c:Addr) (q:Str):HO:=.ext fun h=>h.CodeRec (.ref c) q
structure hZ (N:List Str) (scope:Scope) (cl:List (Str×Addr)):Prop where
 kind:scope.kind=.function
 co:scope.isCoroutine=false
 gen:scope.isGenerator=false
 se:∀ x∈scope.names,x.2≠.cell
 free:∀ x∈N,scope.names.lookup x=some .free
 has:∀ x,scope.names.lookup x=some .free->∃ c,cl.lookup x=some c
 inj:∀ x y c,cl.lookup x=some c->cl.lookup y=some c->x=y
def mz (P:Program) (w:World) (K:PySem.W.Frag) (mg:Str->Option Value) (base:Heap) (k:Nat) (s1:Shared) (B:Addr->Prop) (f:Addr) (cu:Hp->VK->XK->Prop):Prop :=
 ∀ (A:Around) (outer:List Env) (s:Shared) (H:Hp) (Q:VK) (E:XK),bc k A->kF P w K mg base A outer s H ->
  (∀ b o,B b->s1.heap.get? b=some o->s.heap.get? b=some o/\H b=none)->cu H Q E ->
  codeAny (model P w) A (.call (.ref f) ⟨[],[]⟩) (CR (bo P w) outer P w H s Q E) s
def Vi {P:Program} {w:World} {K:PySem.W.Frag} {mg:Str->Option Value} {base:Heap} {k:Nat} {s1:Shared} {B:Addr->Prop} {f:Addr} {cu:Hp->VK->XK->Prop} {N:List Str} {vs:List V}
  {name qual:Str} {params:Arguments} {body:Expr} {scope:Scope} {cl:List (Str×Addr)} {pm ag ct:Value} {o:Obj} (S:hZ N scope cl)
  (ho:s1.heap.get? f=some o) (yN:o.data=.func (PySem.W.kla_fn name qual params body scope cl pm ag ct)) (bL:∀ H Q E,cu H Q E->∃ c,ag=.ref c/\H c=some (n6 c qual)) (gg:B f)
  (hB:∀ x c,cl.lookup x=some c->B c) (hlen:vs.length=N.length)
  (lP:∀ x c,cl.lookup x=some c->∃ v,s1.heap.IsCell c v)
  (hcells:∀ (i:Nat) (x:Str) (v:V),N[i]?=some x->vs[i]?=some v->∃ c u,cl.lookup x=some c/\RelV v u/\s1.heap.IsCell c (some u))
  (pd:bindArgs (PySem.W.kla_fn name qual params body scope cl pm ag ct) ⟨[],[]⟩=pure [])
  (ji:∀ (A:Around) (outer:List Env) (s:Shared) (H:Hp) (Q:VK) (E:XK),bc k (A.deeper (PySem.W.envX qual scope s.heap.objs.size f ag cl))->cu H Q E ->
   ∃ t,PE (mW P w K mg base N qual scope f ag cl A outer s H E) body t/\t (vs.map some) H Q) :
  mz P w K mg base (k+1) s1 B f cu:=by
 intro A outer s H Q E hr e0 hk hw;obtain ⟨c,rfl,ER⟩:=bL H Q E hw;have yJ:s.heap.CodeRec (.ref c) qual:=(e0.aB c _ ER).1;have lim:s.heap.NoLimit:=e0.mod.nolimit.keeps fun b o e=>(e0.bs b o e).1;refine PySem.W.kla_callFunE (fd:=PySem.W.kla_fn name qual params body scope cl pm (.ref c) ct) hr.depth (hk f o gg ho).1 yN S.co S.gen rfl yJ ?_;rw [pd];refine pp (wpAny_newFunctionEnv S.se (fun _ z=>nomatch z) (fun h₁ eJ nu=>⟨lim.fresh _ nu,?_⟩) S.kind);show codeAny _ _ (.expr body (PySem.W.envX qual scope s.heap.objs.size f (.ref c) cl)) _ _;have EG:∀ b o,s.heap.get? b=some o->h₁.get? b=some o:=fun b o e=>nu.extBut b o (ww (sw e)) (kt _ e);obtain ⟨t,ht,hq2⟩:=ji A outer s H Q E (hr.deeper _) hw;have lU:∀ b:Addr,b ∉ (mW P w K mg base N qual scope f (.ref c) cl A outer s H E).ex:=fun b z=>absurd (show b∈([]:List Addr) from z) (by simp);have cellK:∀ x c',cl.lookup x=some c'->∀ v,s1.heap.IsCell c' v->h₁.IsCell c' v/\H c'=none:=fun x c' e v ⟨o',e1,e2⟩ =>
  ⟨⟨o',EG _ _ (hk c' o' (hB x c' e) e1).1,e2⟩,(hk c' o' (hB x c' e) e1).2⟩
 have I:Inv (mW P w K mg base N qual scope f (.ref c) cl A outer s H E) [] (vs.map some) H { s with heap:=h₁,toks:=s.toks+([]:List (Str×Value)).length }:=by
  refine ⟨⟨e0.mod,S.kind,rfl,rfl,ss _,S.inj,fun y hy=>?_,fun y c' hf=>absurd hf (by simp [mW]),fun _=>hr.hd,Around.frames_deeper e0.frames,.inr ⟨rfl,rfl⟩,fun b z=>absurd z (lU b),e0.bs,e0.gI,fun b _ _=>lU b,fun b z=>absurd z (lU b),e0.eY,e0.iV⟩,
   rfl,e0.bare,Un.kept EG,⟨_,eJ,fun i y v h1 h2 h3=>?_⟩,fun y c' h=>?_,e0.aB.fresh (ss _),fun y c' h=>?_,fun p hp=>absurd (show p∈([]:List (Addr×Obj)) from hp) (by simp),e0.aB.kept EG,?_⟩
  ·have hy:scope.names.lookup y=some .cell\/scope.names.lookup y=some .free:=hy;rcases hy with hy | hy
   ·exact absurd rfl (S.se _ (Da hy))
   ·exact S.has y hy
  ·have h1':N[i]?=some y:=h1;have ha:vs[i]?=some v:=by
    rw [xL] at h2;cases e:vs[i]? with
    | none=>rw [e] at h2; cases h2
    | some a=>rw [e] at h2; cases h2; rfl
   obtain ⟨c',u,e1,rv,e2⟩:=hcells i y v h1' ha;exact ⟨u,rv,.inr ⟨.inr (S.free y (KK h1')),c',e1,(cellK y c' e1 _ e2).1⟩⟩
  ·obtain ⟨v,e⟩:=lP y c' h;exact ⟨v,(cellK y c' h v e).1⟩
  ·obtain ⟨v,e⟩:=lP y c' h;exact (cellK y c' h v e).2
  ·show (vs.map some).length=N.length;rw [nn,hlen]
 refine PySem.W.kla_codeExpr (IO (ht [] _ (vs.map some) H _ I hq2) (fun u s' hs=>?_) fun e s' hs=>hs);obtain ⟨v,H',J,rv,q⟩:=hs;exact ⟨v,H',J.os,J.bare,J.base,J.aB,rv,q⟩
def oB {P:Program} {w:World} {K:PySem.W.Frag} {mg:Str->Option Value} {base:Heap} {N:List Str} {qual:Str} {scope:Scope} {f:Addr} {cd:Value} {cl:List (Str×Addr)} {A:Around} {outer:List Env} {s₀:Shared} {H₀:Hp} {E:XK} :
  gH (mW P w K mg base N qual scope f cd cl A outer s₀ H₀ E) (fun _=>E) where
 pass:=fun pins σ H s e s' I hc=>by
  obtain ⟨ea,C,od,H',rfl,F,hE⟩:=hc;exact aF (I.Jb ⟨rfl,rfl,rfl⟩ I.ok.frames F) fun _ s'' z=>⟨ea,C,od,H',rfl,z,hE⟩
def xy (outer:List Env) (H:Hp) (s:Shared) (B:Addr->Prop):Prop:=∀ b,B b->(∃ o,s.heap.get? b=some o)/\H b=none/\b ∉ bQ outer
def zx (s:Shared) (f:Addr):Prop:=∃ cls dict fd sl,s.heap.get? f=some ⟨cls,dict,.func fd,sl⟩
def zO (i:Nat) (f:Addr) (cu:Hp->VK->XK->Prop) (R:St->XK):TE:=fun σ H Q=>σ[i]?=some (some (.ref f))/\cu H Q (R σ)
def aaC {X:Cx} {i k:Nat} {x:Str} {p pos:Pos} {B:Addr->Prop} {f:Addr} {cu:Hp->VK->XK->Prop} {R:St->XK} (hN:X.N[i]?=some x) (hv:mj X.env.scope x)
  (D:mz X.prog X.w X.K X.mg X.base k X.s₀ B f cu) (hB:xy X.outer X.H₀ X.s₀ B) (hf:zx X.s₀ f) (gg:B f) (hex:X.ex=[]) (hr:bc k X.A) (hx:gH X R)
  (hd:(x == ("__debug__" : Str))=false:=by decide) (bL:(x == ("__classdict__" : Str))=false:=by decide):PE X (.Call (.Name x p) [] [] pos) (zO i f cu R):=by
 intro pins s σ H Q I h;obtain ⟨hσ,hw⟩:=h;refine GE (aF (Bo hN hv hd bL pins s σ H (fun v H1=>v=.ref f/\cu H1 Q (R σ)) I ⟨_,hσ,rfl,hw⟩) fun u s1 ⟨v,H1,I1,r,e,zc⟩=>?_);subst e;cases (show u=Value.ref f from r);have kp:∀ b o,B b->X.s₀.heap.get? b=some o->s1.heap.get? b=some o/\H1 b=none:=fun b o hb e =>
  ⟨I1.base.keep b o e (hB b hb).2.1 (hB b hb).2.2 (by rw [hex]; simp),I1.base.free b o e (hB b hb).2.1 (by rw [hex]; simp)⟩
 obtain ⟨cls,dict,fd,sl,vt⟩:=hf;refine PySem.W.callWith_of (P:=fun h=>h.get? f=some ⟨cls,dict,.func fd,sl⟩) rfl (fun h e=>⟨.frame,.inl rfl,(_d (part:=none) e).andThen .now⟩) (PyProof.Rows.evalArgs_nil3 ⟨(kp f _ gg vt).1,?_⟩);refine TD (_k (D X.A X.stack s1 H1 Q (R σ) hr I1.pV kp zc) fun r s' hq=>?_);cases r with
 | error e=>exact hx.pass pins σ H1 s1 e s' I1 hq
 | ok fl =>
  cases fl with
  | ret u=>exact I1.after hq
  | next=>exact False.elim hq
  | brk=>exact False.elim hq
  | cont=>exact False.elim hq
abbrev vQ:=List Env->Shared->Sp
structure sW (P:Program) (w:World) (K:PySem.W.Frag) (mg:Str->Option Value) (base:Heap) (CX:dN) (k:Nat) (f:Addr) (fd:FuncData) (ps:List Str) (sp:vQ):Prop where
 len:∀ outer s vs H Q E,sp outer s vs H Q E->vs.length=ps.length
 run:∀ (A:Around) (outer:List Env) (s:Shared) (H:Hp) (args:Args) (us:List Value) (vs:List V) (Q:VK) (E:XK),bc k A->kF P w K mg base A outer s H->BindsTo s fd args (ps.zip us)->Vals vs us->sp outer s vs H Q E ->
  codeAny (model P w) A (.call (.ref f) args) (CR CX outer P w H s Q E) s
def ab6 {CX:dN} {P:Program} {w:World} {K:PySem.W.Frag} {mg:Str->Option Value} {base:Heap} {k:Nat} {f:Addr} {name qual:Str} {params:Arguments} {body:List Stmt} {scope:Scope} {dV kV doc pm ag ct oc:Value} {an od:Option Addr}
  {da:Array (Option Value)} {N ps:List Str} {sp:vQ} (lk:K.lookup f=some ⟨oc,od,.func (PySem.W.fnOf name qual params body scope dV kV doc pm an ag ct),da⟩) (bL:PySem.W.codeIn K ag qual=true) (S:aE N ps scope)
  (len:∀ outer s vs H Q E,sp outer s vs H Q E->vs.length=ps.length)
  (ji:∀ (A:Around) (outer:List Env) (s:Shared) (H:Hp) (vs:List V) (Q:VK) (E:XK),bc k (A.deeper (envOfC qual scope s.heap.objs.size f ag))->sp outer s vs H Q E ->
   ∃ t,c8 (cq CX P w K mg base N qual scope f ag A outer s H E) body t/\t { nx:=fun _ H'=>Q .ay H',rt:=Q } (start N vs) H) :
  sW P w K mg base CX (k+1) f (PySem.W.fnOf name qual params body scope dV kV doc pm an ag ct) ps sp:=by
 refine ⟨len,fun A outer s H args us vs Q E hr e0 hb r dj=>?_⟩;have hl:=len _ _ _ _ _ _ dj;have KX:K.In s.heap:=e0.mod.ia.keeps fun b o e=>(e0.bs b o e).1;have lim:s.heap.NoLimit:=e0.mod.nolimit.keeps fun b o e=>(e0.bs b o e).1;have F5:∀ y∈ps.zip us,scope.names.lookup y.1=some .local\/(scope.names.lookup y.1=some .cell/\((cellsFrom (s.heap.objs.size+1) scope.names []).lookup y.1).isSome=true):=fun ⟨n,v⟩ hy=>by
  rcases S.par n (_8 hy).1 with q | q
  ·exact .inl q
  ·exact .inr ⟨q,_J _ _ _ (.inl q)⟩
 refine codeAny_call_function hr.depth (KX _ _ lk) rfl S.co S.gen rfl (PySem.W.codeRec_of KX bL) (hb _ _ _ _ ?_);refine wpAny_newFunctionEnv_cells S.kind F5 fun env he s1 x=>?_;subst he;refine ⟨lim.keeps x.toInCall.keep,codeAny_func ?_⟩;obtain ⟨t,ht,hq⟩:=ji A outer s H vs Q E (hr.deeper _) dj;have I:Inv (cq CX P w K mg base N qual scope f ag A outer s H E) [] (start N vs) H s1:=HS S hr.hd e0 hl r x;refine IO (ht [] s1 (start N vs) H _ I hq) (fun fl s' hs=>?_) fun e s' hs=>hs;have fin:∀ {σ':St} {H':Hp} {v:V} {u:Value},Inv (cq CX P w K mg base N qual scope f ag A outer s H E) [] σ' H' s'->RelV v u->Q v H'->CE outer P w H s Q u s' :=
  fun {σ' H' v u} J rv q=>⟨v,H',J.os,J.bare,J.base,J.aB,rv,q⟩
 cases fl with
 | ret u =>
  obtain ⟨v,σ',H',J,rv,q⟩:=hs;exact fin J rv q
 | next =>
  obtain ⟨σ',H',J,q⟩:=hs;exact fin (v:=V.ay) (u:=Value.none) J rfl q
 | brk =>
  obtain ⟨_,_,_,q⟩:=hs;exact False.elim q
 | cont =>
  obtain ⟨_,_,_,q⟩:=hs;exact False.elim q
abbrev Ent:=Int×Int×Addr
def dD:List Ent->List Value
 | []=>[]
 | e::r=>rawInt e.1::rawInt e.2.1::.ref e.2.2::dD r
def Nk:∀ (a b:List Ent),dD (a++b)=dD a++dD b
 | [],b=>rfl
 | e::r,b=>by show _::_::_::dD (r++b)=_; rw [Nk r b]; rfl
def Ds:∀ es:List Ent,TriplesOk (dD es)
 | []=>trivial
 | e::r=>Ds r
def Mq (pos:Pos):∀ es:List Ent,codeAmong pos (dD es)=(es.find? fun e=>e.1 == (pos.line:Int) && e.2.1 == (pos.col:Int)).map fun e=>Value.ref e.2.2
 | []=>rfl
 | e::r=>by
  show (if e.1 == (pos.line:Int) && e.2.1 == (pos.col:Int) then some (Value.ref e.2.2) else codeAmong pos (dD r))=_;rw [UV];cases h:(e.1 == (pos.line:Int) && e.2.1 == (pos.col:Int)) with
  | true=>rfl
  | false=>exact Mq pos r
def jA (P:Addr) (es:List Ent):HO:=.ext fun h=>h.get? P=some (PySem.W.tabObj (dD es).toArray)
structure dY (H:Hp) (P:Addr) (q:Str) (es:List Ent):Prop where
 tab:H P=some (jA P es)
 code:∀ e∈es,H e.2.2=some (n6 e.2.2 q)
structure jL (X:Cx) (P:Addr) (params:Arguments) (scope:Scope) (cH:List (Str×Addr)) (q:Str):Prop where
 dflt:defaultsOf params X.env=([],[])
 iC:closureFor scope X.env=pure cH
 code:∃ c,X.env.code=.ref c/\PySem.W.CodeHd X.base c P
 blt:X.base.BuiltinsAt X.mg P
 qual:X.env.qual ++ "<lambda>" = q
structure oM (P:Addr) (q:Str) (c:Addr) (H H1:Hp):Prop where
 rest:∀ b,b≠P->b≠c->H1 b=H b
 code:H1 c=some (n6 c q)
 old:H c=none\/H1=H
 tab:∃ es,dY H1 P q es
def qb {a b n:Nat} (h:a < n) (h':n<=b):b≠a:=by omega
def Ue {X:Cx} {pins:List (Addr×Obj)} {σ:St} {H:Hp} {s:Shared} {P:Addr} {params:Arguments} {body:Expr} {scope:Scope} {cH:List (Str×Addr)} {q:Str} {fj:Pos} {es:List Ent} {Q:Value->Shared->Prop}
  (I:Inv X pins σ H s) (L:jL X P params scope cH q) (T:dY H P q es)
  (h:∀ f c ct pm s1 H1,Inv X pins σ H1 s1->oM P q c H H1->H1 f=none->X.s₀.heap.objs.size<=f->f≠X.env.locals->s1.heap.get? f=some (PySem.W.kla_obj "<lambda>" q params body scope cH pm c ct) ->
   (∀ b o,H b=none->s.heap.get? b=some o->s1.heap.get? b=some o)->Q (.ref f) s1) :
  wpAny (model X.prog X.w) X.A (eval (.Lambda params body scope fj) X.env) Q X.xe s:=by
 obtain ⟨hdef,lP,⟨c,OH,C⟩,hb,hq⟩:=L;subst hq;refine PySem.W.kla_eval hdef ?_;have hP:s.heap.get? P=some (PySem.W.tabObj (dD es).toArray):=(I.aB P _ T.tab).1;have hgP:mainGlobals≠P:=fun e=>by
  obtain ⟨o,_,_,g,_⟩:=I.mod.glob;have:=(I.bs _ _ g).2;rw [e,T.tab] at this; cases this
 have N7:s.heap.BuiltinsAt X.mg P:=by
  obtain ⟨bm,o,b1,b2,b3,b4,b5,b6⟩:=hb;exact ⟨bm,o,b1,b2,b3,b4,I.bk _ _ b5,b6⟩
 have E3:=I.lt;have dS:∀ {b:Addr},H b=none->b≠P:=fun {b} n e=>by rw [e,T.tab] at n; cases n
 cases hf:codeAmong fj (dD es).toArray.toList with
 | none =>
  refine PySem.W.kla_makeFunction (mg:=X.mg) lP I.ok.glob (I.mod.glob.keeps I.bk) OH (C.keeps I.bk) hP (Ds es) hf hgP N7 fun c' ct h' tk hx gy bD yJ lW=>?_;have htb':h'.get? P=some (PySem.W.tabObj (dD (es++[((fj.line:Int),(fj.col:Int),c')])).toArray):=by
   rw [lW,Nk]; simp [dD]
  have hPs:P < s.heap.objs.size:=sw hP;have OB:c'≠P:=qb hPs gy;have I1:Inv X pins σ (upd H P (jA P (es++[((fj.line:Int),(fj.col:Int),c')]))) { s with heap:=h',toks:=tk } :=
   I.write (x:=P) (e:=P) (t':=tk) (by rw [T.tab]; trivial) (.inl rfl) (fun b u hb e=>hx b u hb e) ⟨_,htb'⟩ ⟨htb',⟨_,htb'⟩,fun h1 h2 z k=>k _ z⟩
  have je:H c'=none:=I.aB.fresh gy;have hcn1:(upd H P (jA P (es++[((fj.line:Int),(fj.col:Int),c')]))) c'=none:=by rw [ah OB]; exact je
  have I2:=I1.xX (a:=c') (o:=n6 c' (X.env.qual ++ "<lambda>")) hcn1 (WF (wf I.sz gy)) (qb E3 gy) (fun x c₁ e z=>by
    obtain ⟨v,o,ho,_⟩:=I.cell x c₁ e;exact qb (sw ho) gy z.symm) (fun p hp z=>by
    exact qb (sw (I.pin p hp).1) gy z.symm) ⟨yJ,(by obtain ⟨c₂,o,_,_,e,g,_⟩:=yJ; cases e; exact ⟨o,g⟩),fun h1 h2 z k=>by
     obtain ⟨c₂,o,vs,t,e,g,r⟩:=z;cases e;exact ⟨c',o,vs,t,rfl,k o g,r⟩⟩
  have I3:=I2.kept (t':=tk) (h':=h'.push (PySem.W.kla_obj "<lambda>" (X.env.qual ++ "<lambda>") params body scope cH ((X.mg "__name__").getD .none) c' ct)) (fun b u e=>kt _ e);have pH:(upd (upd H P (jA P (es++[((fj.line:Int),(fj.col:Int),c')]))) c' (n6 c' (X.env.qual ++ "<lambda>"))) h'.objs.size=none:=I2.aB.fresh (ss _);have hsz:s.heap.objs.size<=h'.objs.size:=wf gy (Ja6 bD);refine h h'.objs.size c' ct _ _ _ I3 ⟨fun b n1 n2=>by rw [ah n2,ah n1],ax,.inl je,es++[((fj.line:Int),(fj.col:Int),c')],⟨by rw [ah (pi OB),ax],fun e he=>?_⟩⟩ pH (wf I.sz hsz) (qb E3 hsz) (tz _ rfl) fun b o n e=>kt _ (hx b o (dS n) e);rcases KB.mp he with he | he
  ·have:=T.code e he;by_cases hc:e.2.2=c'
   ·rw [hc,ax]
   ·have hp:e.2.2≠P:=fun z=>by
     have hr:s.heap.CodeRec (.ref P) (X.env.qual ++ "<lambda>"):=by
      have hh:=(I.aB _ _ this).1;rw [z] at hh; exact hh
     obtain ⟨c₂,o,vs,t,e1,g,d,r⟩:=hr;cases e1;rw [hP] at g; cases g;have d':(dD es).toArray=vs:=by injection d
     subst d';cases es with
     | nil=>cases he
     | cons e₁ r₁=>simp [dD,rawInt] at r
    rw [ah hc,ah hp]; exact this
  ·rw [AT.mp he]; exact ax
 | some cv =>
  have hf':=hf;rw [show (dD es).toArray.toList=dD es from rfl,Mq] at hf';obtain ⟨e,he,hev⟩:=_L.mp hf';subst hev;refine PySem.W.kla_makeFunctionHit (mg:=X.mg) lP I.ok.glob (I.mod.glob.keeps I.bk) OH (C.keeps I.bk) hP (Ds es) hf N7 fun ct h' tk hk hsz=>?_;have I1:=I.kept (t':=tk) hk;have I2:=I1.kept (t':=tk) (h':=h'.push (PySem.W.kla_obj "<lambda>" (X.env.qual ++ "<lambda>") params body scope cH ((X.mg "__name__").getD .none) e.2.2 ct)) (fun b u e=>kt _ e);exact h h'.objs.size e.2.2 ct _ _ _ I2 ⟨fun _ _ _=>rfl,T.code e (List.mem_of_find?_eq_some he),.inr rfl,es,T⟩ (I1.aB.fresh (ss _)) (wf I.sz hsz) (qb E3 hsz) (tz _ rfl) fun b o n e=>kt _ (hk b o e)
abbrev fb:=Hp->VK->XK->Prop
def Cq (P:Program) (w:World) (K:PySem.W.Frag) (mg:Str->Option Value) (base:Heap) (k:Nat) (lV:fb->fb):vQ:=fun outer s vs H Q E =>
 ∃ f B cu,vs=[.ref f]/\mz P w K mg base k s B f cu/\xy outer H s B/\zx s f/\B f/\lV cu H Q E
def IW (c:Addr) (q:Str) (W:fb):fb:=fun H Q E=>H c=some (n6 c q)/\W H Q E
def om (ix:List Nat) (σ:St) (vs:List V):Prop:=vs.length=ix.length/\∀ (i j:Nat) (v:V),ix[i]?=some j->vs[i]?=some v->σ[j]?=some (some v)
def Es (P:Addr) (q:Str) (ix:List Nat) (W:List V->fb) (lV:fb->fb) (R:St->XK):TE:=fun σ H Q =>
 ∃ es vs,dY H P q es/\om ix σ vs/\∀ c H1,oM P q c H H1->lV (IW c q (W vs)) H1 Q (R σ)
structure iS (X:Cx) (N':List Str) (ix:List Nat) (cH:List (Str×Addr)):Prop where
 len:ix.length=N'.length
 at':∀ (i j:Nat),ix[i]?=some j->∃ x,N'[i]?=some x/\X.N[j]?=some x/\X.env.scope.names.lookup x=some .cell
 iC:∀ x c,cH.lookup x=some c->X.env.cells.lookup x=some c
 Kx:∀ x∈N',cH.lookup x=X.env.cells.lookup x
 own:∀ x c,cH.lookup x=some c->X.fn x=true
def Ud {X:Cx} {P:Addr} {q:Str} {ix:List Nat} {W:List V->fb} {lV:fb->fb} {R:St->XK} {params:Arguments} {body:Expr} {scope:Scope} {cH:List (Str×Addr)} {N':List Str} {fj p pos:Pos} {x y:Str} {g:Addr} {fd:FuncData} {k k':Nat}
  (L:jL X P params scope cH q) (S:hZ N' scope cH) (C:iS X N' ix cH)
  (F:sW X.prog X.w X.K X.mg X.base (bo X.prog X.w) k' g fd [y] (Cq X.prog X.w X.K X.mg X.base (k+1) lV)) (hr:bc k' X.A) (hg:Gl X x) (hm:X.mg x=some (.ref g)) (hk:PySem.W.keepIn X.K (.ref g)=true) (hb:Binds X.K fd [y] []) (hx:gH X R)
  (pd:∀ pm cd ct,bindArgs (PySem.W.kla_fn "<lambda>" q params body scope cH pm cd ct) ⟨[],[]⟩=pure [])
  (ji:∀ (f:Addr) (ag:Value) (vs:List V) (A:Around) (outer:List Env) (s:Shared) (H:Hp) (Q:VK) (E:XK),bc k (A.deeper (PySem.W.envX q scope s.heap.objs.size f ag cH))->W vs H Q E ->
   ∃ t,PE (mW X.prog X.w X.K X.mg X.base N' q scope f ag cH A outer s H E) body t/\t (vs.map some) H Q)
  (bR:(x == ("__debug__" : Str))=false:=by decide):PE X (.Call (.Name x p) [.Lambda params body scope fj] [] pos) (Es P q ix W lV R):=by
 intro pins s σ H Q I h;obtain ⟨es,vs,T,hc,dj⟩:=h;refine GE (lA I hg hm ?_ bR);refine Os (h₀:=X.base) I.ok.mod.ia hk ?_;show wpAny _ _ (spliced ((false,eval (.Lambda params body scope fj) X.env)::backTo pos (starEach [] X.env))) _ _ s;refine Ty (Ue I L T fun f c ct pm s1 H1 I1 St pH kb aY vt kp=>?_);refine WP ⟨I1.bV,?_⟩;have OX:∀ b,X.s₀.heap.objs.size<=b->b≠X.env.locals->b ∉ bQ X.stack:=fun b hb hl z=>by
  rcases li.mp (I1.va b z) with e | z
  ·exact hl e
  ·obtain ⟨_,o,ho,_⟩:=I1.ok.eY.mem z;exact absurd (ul (sw ho) hb) (Id _)
 have D:mz X.prog X.w X.K X.mg X.base (k+1) s1 (fun b=>b=f\/∃ z,cH.lookup z=some b) f (IW c q (W vs)):=by
  refine Vi (N:=N') (vs:=vs) S vt rfl (fun H Q E z=>⟨c,rfl,z.1⟩) (.inl rfl) (fun z c' e=>.inr ⟨z,e⟩) (by rw [hc.1,C.len]) (fun z c' e=>I1.cell z c' (C.iC z c' e)) (fun i z v h1 h2=>?_) (pd _ _ _) (fun A outer s' H' Q' E' r z=>ji f (.ref c) vs A outer s' H' Q' E' r z.2);have hi:i < ix.length:=by
   have:=(lm.mp h1).1;rw [C.len]; exact this
  obtain ⟨z',e1,e2,e3⟩:=C.at' i _ (mo hi);rw [h1] at e1; cases e1;have e4:=hc.2 i _ v (mo hi) h2;obtain ⟨m,hn,hl⟩:=I1.loc;obtain ⟨u,r,l⟩:=hl _ z v e2 e4 (.inr (.inl e3));rcases l with ⟨hk',_⟩ | ⟨_,c',e5,e6⟩
  ·have:X.env.scope.names.lookup z=some .local:=hk';rw [e3] at this; cases this
  ·exact ⟨c',u,by rw [C.Kx z (KK h1)]; exact e5,r,e6⟩
 have hH:xy X.stack H1 s1 (fun b=>b=f\/∃ z,cH.lookup z=some b):=fun b hb=>by
  rcases hb with rfl | ⟨z,e⟩
  ·exact ⟨⟨_,vt⟩,pH,OX _ kb aY⟩
  ·have e':=C.iC z b e;obtain ⟨v,o,ho,_⟩:=I1.cell z b e';exact ⟨⟨o,ho⟩,I1.e9 z b e',OX b (I1.ok.ku z b (C.own z b e) e') (I1.jN z b e')⟩
 have hl:([.ref f]:List Value).length=[y].length:=rfl;refine TD (_k (F.run X.A X.stack s1 H1 ⟨[.ref f],[]⟩ [.ref f] [.ref f] Q (R σ) hr I1.pV (hb s1 [.ref f] I1.bV hl) (.cons rfl .nil) ⟨f,_,_,rfl,D,hH,⟨_,_,_,_,vt⟩,.inl rfl,dj c H1 St⟩) fun r s' hq=>?_);cases r with
 | error e=>exact hx.pass pins σ H1 s1 e s' I1 hq
 | ok fl =>
  cases fl with
  | ret u=>exact I1.after hq
  | next=>exact False.elim hq
  | brk=>exact False.elim hq
  | cont=>exact False.elim hq
abbrev oz:=List (Addr×Addr)
def yo (tabs:oz) (H:Hp):Prop:=∀ q∈tabs,∃ es,H q.2=some (jA q.2 es)
structure oR (tabs:oz) (H:Hp):Prop where
 all:∀ b,H b=none\/(∃ o xs,H b=some (.eA o (.lst xs)))\/∃ q∈tabs,b=q.2
 tab:∀ q∈tabs,H q.2=some (jA q.2 [])
def oR.ok {tabs:oz} {H:Hp} (h:oR tabs H) {c P:Addr} (q:Str) (hm:(c,P)∈tabs):dY H P q []:=⟨h.tab _ hm,fun _ z=>nomatch z⟩
def V2 {P:Program} {w:World} {K:PySem.W.Frag} {mg mb:Str->Option Value} {CX:dN} {k:Nat} {fa a:Addr} {fd:FuncData} {x:Str} {sp:Sp} {s₁:Shared} {vs:List Value} {ns:List Int} {tabs:oz}
  (KX:K.In s₁.heap) (eJ:s₁.heap.Ns mainGlobals mg) (hb:s₁.heap.Ns builtinsNs mb) (hbb:∀ x:Str,x ≠ "__name__" -> mb x=bootBuiltins x) (hlim:s₁.heap.NoLimit) (hg:s₁.gens=#[])
  (hT:PySem.W.TabsAt tabs s₁.heap) (pI:PySem.W.noTabs K=true) (hbm:∃ bm ob,mg "__builtins__" = some (.ref bm)/\bm≠builtinsNs/\s₁.heap.get? bm=some ob/\ob.cls=.type "module" /\ ob.dict=some builtinsNs/\ob.data=.plain)
  (ha:s₁.heap.get? a=some { cls:=.type "list",data:=.seq vs.toArray }) (hi:IntsAre vs ns) (hl:ns.length<=sizeLine) (hr:bc k callerA)
  (F:∀ base:Heap,K.In base->base.Ns mainGlobals mg->(∀ q∈tabs,PySem.W.CodeHd base q.1 q.2/\base.BuiltinsAt mg q.2)->aC P w K mg base CX k fa fd [x] sp) (pd:∀ (s:Shared) (u:Value),BindsTo s fd ⟨[u],[]⟩ [(x,u)])
  (dj:∀ H:Hp,oR tabs H->aD K H a (ns.map V.int)->sp [.ref a] H (fun v H'=>v=.bl true/\yo tabs H') fun _ _ _=>False)
  (Gr:∀ H e s',CX [] H s₁ (fun _ _ _=>False) e s'->False) :
  codeAny (model P w) callerA (.call (.ref fa) ⟨[.ref a],[]⟩) (fun r s'=>r=.ok (.ret (.bool true))/\OldK s₁.heap s'.heap/\s'.os=s₁.os/\AllBare s'.gens) s₁:=by
 have rv:=Hg hi;have lenV:=hi.length;have tabAt:∀ b,(∃ q∈tabs,b=q.2)->s₁.heap.get? b=some (PySem.W.tabObj #[]):=fun b ⟨q,hq,e⟩=>e ▸ (hT q hq).2;have O3:¬ ∃ q∈tabs,a=q.2:=fun z=>by
  have:=tabAt a z;rw [ha] at this; cases this
 have core:∀ H:Hp,oR tabs H->aD K H a (ns.map V.int)->ck P w H s₁.heap->(∀ b,H b≠none->b=a\/∃ q∈tabs,b=q.2)->(H a≠none->K.lookup a=none) ->
   codeAny (model P w) callerA (.call (.ref fa) ⟨[.ref a],[]⟩) (fun r s'=>r=.ok (.ret (.bool true))/\OldK s₁.heap s'.heap/\s'.os=s₁.os/\AllBare s'.gens) s₁:=by
  intro H hO hS aB hA hK;have zd:∀ {b:Addr} {o:Obj},s₁.heap.get? b=some o->H b=none->(iZ s₁.heap H).get? b=some o:=fun e n=>aaF e n;have EH:∀ {b:Addr} {o:Obj},s₁.heap.get? b=some o->b≠a->(∀ ps,o.data≠.fields ps\/o.cls≠.none)->H b=none:=fun {b o} e na d=>by
   cases q:H b with
   | none=>rfl
   | some u =>
    rcases hA b (by rw [q]; simp) with e' | e'
    ·exact absurd e' na
    ·have e2:=tabAt b e';rw [e] at e2; cases e2;rcases d #[] with d | d
     ·exact absurd rfl d
     ·exact absurd rfl d
  have lU:∀ {b:Addr} {o:Obj} {es:Array DictEntry} {ep:Nat},s₁.heap.get? b=some o->o.data=.dict es ep->H b=none:=fun {b o es ep} e d=>by
   refine EH e (fun z=>?_) fun ps=>.inl (by rw [d]; simp);subst z;rw [ha] at e; cases e;have d':Data.seq vs.toArray _=Data.dict es ep:=d;cases d'
  have y3:∀ {b:Addr} {m:Str->Option Value},s₁.heap.Ns b m->(iZ s₁.heap H).Ns b m:=fun {b m} ⟨o,es,ep,e,d,r⟩=>⟨o,es,ep,zd e (lU e d),d,r⟩;have NH:K.In (iZ s₁.heap H):=fun b o e=>zd (KX b o e) (by
   cases q:H b with
   | none=>rfl
   | some u =>
    rcases hA b (by rw [q]; simp) with e' | e'
    ·subst e';rw [hK (by rw [q]; simp)] at e; cases e
    ·have e2:=tabAt b e';rw [KX b o e] at e2; cases e2;have h2:=At.mp pI (b,_) (PySem.W.mem_of_lookupK e);exact absurd (show false=true from h2) ut)
  have hM:Mod K mg (iZ s₁.heap H):=⟨NH,y3 eJ,⟨mb,y3 hb,hbb⟩,let ⟨mc,h1,h2⟩:=hlim; ⟨mc,y3 h1,h2⟩⟩;have e0:kF P w K mg (iZ s₁.heap H) callerA [] s₁ H:=⟨rfl,hM,fun b o e=>abu e,Nat.le_of_eq (UT _ _),trivial,fun b hb=>absurd (show b∈([]:List Addr) from hb) (by simp),aB,.of_eq hg⟩;have hcodes:∀ q∈tabs,PySem.W.CodeHd (iZ s₁.heap H) q.1 q.2/\(iZ s₁.heap H).BuiltinsAt mg q.2:=fun q hq=>by
   obtain ⟨o,vs',file,tf,flags,tg,inF,text,tt,e1,r1,r⟩:=(hT q hq).1;obtain ⟨bm,ob,b1,b2,b3,b4,b5,b6⟩:=hbm;refine ⟨⟨o,vs',file,tf,flags,tg,inF,text,tt,zd e1 (EH e1 (fun z=>?_) fun ps=>.inr (by rw [r1]; simp)),r1,r⟩,bm,ob,b1,b2,fun z=>?_,fun z=>?_,zd b3 (EH b3 (fun z=>?_) fun ps=>.inr (by rw [b4]; simp)),b4,b5,b6⟩
   ·subst z; rw [ha] at e1; cases e1; simp at r1
   ·obtain ⟨o',es,ep,e,d,_⟩:=eJ;rw [z,e] at b3; cases b3; rw [d] at b6; cases b6
   ·rw [z,(hT q hq).2] at b3; cases b3; cases b6
   ·subst z; rw [ha] at b3; cases b3; cases b6
  refine _k ((F _ NH (y3 eJ) hcodes).run callerA [] s₁ H ⟨[.ref a],[]⟩ [.ref a] [.ref a] _ _ hr e0 (pd s₁ (.ref a)) (.cons rfl .nil) (dj H hO hS)) fun r s' h=>?_;cases r with
  | error e=>exact (Gr H e s' h).elim
  | ok fl =>
   cases fl with
   | next=>exact False.elim h
   | brk=>exact False.elim h
   | cont=>exact False.elim h
   | ret u =>
    obtain ⟨v,H',os,bare,un,hok',r',q',qt⟩:=h;subst q';obtain rfl:u=Value.bool true:=r';refine ⟨rfl,⟨fun b o e=>?_,fun b o e=>un.there b o e (by simp)⟩,os,bare⟩;cases q:H b with
    | none=>exact .inl (un.keep b o e q (by intro z; exact absurd (show b∈([]:List Addr) from z) (by simp)) (by simp))
    | some u =>
     rcases hO.all b with z | ⟨ob,xs,z⟩ | ⟨qq,y8,z⟩
     ·rw [q] at z; cases z
     ·have z2:=un.fG b ob _ z;obtain ⟨e1,_⟩:=aB b _ z;obtain ⟨e2,_⟩:=hok' b _ z2;rw [e] at e1; cases e1;exact .inl e2
     ·subst z;obtain ⟨es,he⟩:=qt qq y8;have e3:s'.heap.get? qq.2=some (PySem.W.tabObj (dD es).toArray):=(hok' _ _ he).1;have e4:=(hT qq y8).2;rw [e] at e4; cases e4;exact .inr (.inl ⟨((hT qq y8).1.tab (hT qq y8).2).isCodeTable,rfl,#[],(dD es).toArray,rfl,by rw [e3]; simp⟩)
 have N3:∀ b,(∃ q∈tabs,b=q.2)->∀ H:Hp,bM P w H s₁.heap b (jA b []):=fun b z H=>⟨tabAt b z,⟨_,tabAt b z⟩,fun h1 h2 y k=>k _ y⟩
 classical
 cases hk:K.lookup a with
 | some o =>
  have e:=KX a o hk;rw [ha] at e;cases e;refine core (fun b=>if (∃ q∈tabs,b=q.2) then some (jA b []) else none) ⟨fun b=>?_,fun q hq=>wT ⟨q,hq,rfl⟩⟩ (.inr ⟨_,vs.toArray,_,hk,rfl,rfl,rfl,by rw [sB,lenV]; exact hl,by simpa using rv⟩) (fun b u z=>?_) (fun b z=>?_) fun z=>absurd (wS O3) z
  ·by_cases h:∃ q∈tabs,b=q.2
   ·exact .inr (.inr h)
   ·exact .inl (wS h)
  ·by_cases h:∃ q∈tabs,b=q.2
   ·have z':=(wT h).symm.trans z;cases z';exact N3 b h _
   ·have z':=(wS h).symm.trans z;cases z'
  ·by_cases h:∃ q∈tabs,b=q.2
   ·exact .inr h
   ·exact absurd (wS h) z
 | none =>
  refine core (fun b=>if b=a then some (.eA { cls:=.type "list",data:=.seq vs.toArray } (.lst (ns.map V.int))) else if (∃ q∈tabs,b=q.2) then some (jA b []) else none) ⟨fun b=>?_,fun q hq=>?_⟩ (.inl (.inr ⟨{ cls:=.type "list",data:=.seq vs.toArray },wT rfl⟩)) (fun b u z=>?_) (fun b z=>?_) fun _=>hk
  ·by_cases hb:b=a
   ·exact .inr (.inl ⟨_,_,wT hb⟩)
   ·by_cases h:∃ q∈tabs,b=q.2
    ·exact .inr (.inr h)
    ·exact .inl ((wS hb).trans (wS h))
  ·have dS:q.2≠a:=fun z=>O3 ⟨q,hq,z.symm⟩;exact (wS dS).trans (wT ⟨q,hq,rfl⟩)
  ·by_cases hb:b=a
   ·have z':=(wT hb).symm.trans z;cases z';subst hb;exact ⟨ha,by rw [nn]; exact hl,vs,_,rv,ha⟩
   ·have z':=(wS hb).symm.trans z;by_cases h:∃ q∈tabs,b=q.2
    ·have z2:=(wT h).symm.trans z';cases z2;exact N3 b h _
    ·have z2:=(wS h).symm.trans z';cases z2
  ·by_cases hb:b=a
   ·exact .inl hb
   ·by_cases h:∃ q∈tabs,b=q.2
    ·exact .inr h
    ·exact absurd ((wS hb).trans (wS h)) z
def UG {l:PySem.W.OpenLaw} {n k:Nat} {q:Program} {loose:List Str} {XP:(Str->Option Value)->Heap->Prop} {YP:World->Heap->Prop} {d:DefRec} {K:Params->PySem.W.Frag} {CX:World->dN} {sp:World->Sp} {x:Str} {tabs:oz}
  (hn:l.most=some n) (iM:n<=sizeLine) (vF:d.params.defaults=[]) (hr:bc k callerA)
  (hY:∀ (w:World) (h:Heap),YP w h->(K w.params).In h)
  (pI:∀ w:World,PySem.W.noTabs (K w.params)=true) (lW:∀ (w:World),∀ t∈tabs,∃ y e,(recsOf q).find? (fun e=>e.name == y)=some e/\PySem.W.tabIn (K w.params) y=some t)
  (F:∀ (w:World) (mg:Str->Option Value) (fa:Addr) (h:Heap),(K w.params).In h->h.Ns mainGlobals mg->mg d.name=some (.ref fa) ->
   ∃ fd:FuncData,(∀ (s:Shared) (u:Value),BindsTo s fd ⟨[u],[]⟩ [(x,u)]) /\
    ∀ base:Heap,(K w.params).In base->base.Ns mainGlobals mg->(∀ t∈tabs,PySem.W.CodeHd base t.1 t.2/\base.BuiltinsAt mg t.2)->aC l.prog w (K w.params) mg base (CX w) k fa fd [x] (sp w))
  (dj:∀ (w:World) (H:Hp) (a:Addr) (ns:List Int),ns.length<=n->oR tabs H->aD (K w.params) H a (ns.map V.int)->sp w [.ref a] H (fun v H'=>v=.bl true/\yo tabs H') fun _ _ _=>False)
  (Gr:∀ (w:World) (H:Hp) (s:Shared) (e:Value) (s':Shared),CX w [] H s (fun _ _ _=>False) e s'->False) :
  PySem.W.WalkO q loose XP YP l.row.toRowW d [] (fun f vs=>PySem.call f vs):=by
 refine Att.UN hn vF fun w s₀ s₁ mg mb fa o pm cd doc a vs ns G Y ho hd bL hmg vv hints hlen hg=>?_;have KX:=hY w _ Y;obtain ⟨fd,hb,hF⟩:=F w mg fa _ KX G.T.g hmg;exact V2 KX G.T.g G.T.b G.T.builtins G.T.nolimit hg (fun t ht=>by
  obtain ⟨y,e,h1,h2⟩:=lW w t ht;exact PySem.W.tab_of G.T KX h1 h2) (pI w) G.T.bmain vv hints (wf hlen iM) hr hF hb (fun H hO hS=>dj w H a ns hlen hO hS) fun H e s'=>Gr w H s₁ e s'
section
variable {prog:Program} {w:World} {A:Around} {R:Result->Shared->Prop} {I:Addr} {fp wr:List Addr} {P:Nat->Value->Prop} {St:Nat->Heap->Prop}
def ZH (a d:Value):argsOk "min" ⟨[a],[("default",d)]⟩:=by unfold argsOk; kernel_rfl
def VN (W:Walks prog w A.in1 I fp wr 0 P St) {S:Addr} {s:Shared} {c:Nat} {d:Value} (aU:St 0 s.heap)
  (hS:s.heap.get? S=some { cls:=.type "list",dict:=none,data:=.seq #[] c,slots:=#[] })
  (hR:∀ h' tk,(∀ b o,b ∉ wr->s.heap.get? b=some o->h'.get? b=some o)->R (.ok (.ret d)) { s with heap:=h',toks:=tk }) :
  codeAny (model prog w) A (.builtin "min.loop" ⟨[.ref I,.none,.ref S],[("default",d)]⟩) R s:=by
 refine _9 F.entry_min_loop ?_;rw [_6 _y _];show wpAny _ A.in1 (seqItems? (.ref S) >>= _) _ _ s;refine jp (Jaf hS rfl ?_);show wpAny _ A.in1 (tryCatch (pyNext (.ref I)) _ >>= _) _ _ s;refine jp (wpAny_tryCatch (W.done s _ _ aU fun h' tk hk'=>?_));exact jp (wpAny_rule (pp (hR h' tk hk')))
def Xf (W:Walks prog w A.in1 I fp wr 1 P St) {S:Addr} {s:Shared} {c:Nat} {d:Value} (r9:S ∉ fp) (aU:St 0 s.heap)
  (hS:s.heap.get? S=some { cls:=.type "list",dict:=none,data:=.seq #[] c,slots:=#[] })
  (hR:∀ v h' tk,P 0 v->(∀ b o,b ∉ wr->b≠S->s.heap.get? b=some o->h'.get? b=some o)->R (.ok (.ret v)) { s with heap:=h',toks:=tk }) :
  codeAny (model prog w) A (.builtin "min.loop" ⟨[.ref I,.none,.ref S],[("default",d)]⟩) R s:=by
 have OQ:S ∉ wr:=fun h=>r9 (W.sub _ h);have EX:(toString "min" ++ toString ".loop" : String) = "min.loop" := by decide
 refine _9 F.entry_min_loop ?_;rw [_6 _y _];show wpAny _ A.in1 (seqItems? (.ref S) >>= _) _ _ s;refine jp (Jaf hS rfl ?_);show wpAny _ A.in1 (tryCatch (pyNext (.ref I)) _ >>= _) _ _ s;refine jp (wpAny_tryCatch (W.item 0 s _ _ (by decide) aU fun v h' tk hP hst' hk'=>?_));have hS':=hk' S _ OQ hS;show wpAny _ A.in1 (updateSeq S (fun _=>#[v,v]) >>= _) _ _ _;refine jp ?_;refine wpAny_updateSeq hS' rfl ?_;rw [EX];refine pp ⟨plainId_quiet _y _,?_⟩;have key:∀ (s2:Shared) (c2:Nat),St 1 s2.heap->s2.heap.get? S=some { cls:=.type "list",dict:=none,data:=.seq #[v,v] c2,slots:=#[] }->(∀ h'' tk'',(∀ b o,b ∉ wr->b≠S->s2.heap.get? b=some o->h''.get? b=some o)->R (.ok (.ret v)) { s2 with heap:=h'',toks:=tk'' }) ->
   codeAny (model prog w) A (.builtin "min.loop" ⟨[.ref I,.none,.ref S],[("default",d)]⟩) R s2:=fun s2 c2 j4 hS2 hR2=>by
  refine _9 F.entry_min_loop ?_;rw [_6 _y _];show wpAny _ A.in1 (seqItems? (.ref S) >>= _) _ _ s2;refine jp (Jaf hS2 rfl ?_);show wpAny _ A.in1 (tryCatch (pyNext (.ref I)) _ >>= _) _ _ s2;refine jp (wpAny_tryCatch (W.done s2 _ _ j4 fun h3 tk3 Pg=>?_));have hS3:=Pg S _ OQ hS2;show wpAny _ A.in1 (updateSeq S (fun _=>#[]) >>= _) _ _ _;refine jp ?_;refine wpAny_updateSeq hS3 rfl (jp (wpAny_letGo (pp ?_)));exact hR2 _ tk3 fun b o hbw hbS e=>(GT _ _ (pi hbS)).trans (Pg b o hbw e)
 refine key _ _ (W.frame _ _ _ hst' fun b gg o e=>(GT _ _ (fun h:S=b=>r9 (by rw [h]; exact gg))).trans e) (Op _ hS' rfl) fun h'' tk'' hk''=>?_;exact hR v h'' tk'' hP fun b o hbw hbS e=>hk'' b o hbw hbS ((GT _ _ (pi hbS)).trans (hk' b o hbw e))
def QZ {E:Value->Shared->Prop} {s:Shared} {x d:Value} {Q:Value->Shared->Prop}
  (h:wpAny (model prog w) A.in1 (pyIter x) (fun it s₂=>∃ I fp wr n P St,it=.ref I/\Walks prog w A.in1 I fp wr n P St/\St 0 s₂.heap/\(∀ b∈fp,b < s₂.heap.objs.size)/\n<=1 /\
   ∀ v h' tk,(n=0/\v=d\/n=1/\P 0 v)->(∀ b o,b ∉ wr->s₂.heap.get? b=some o->h'.get? b=some o)->Q v { s₂ with heap:=h',toks:=tk }) E s) :
  wpAny (model prog w) A (call (.builtin "min") [x] [("default",d)]) Q E s:=by
 have EX:(toString "min" ++ toString ".loop" : String) = "min.loop" := by decide
 refine TD (W1 F.plain_min F.entry_min ?_);have Nt:wpAny (model prog w) A.in1 (Builtin.«min» ⟨[x],[("default",d)]⟩) (fun fin s'=>match fin with
   | .done f=>(match (Except.ok f:Result) with | .ok (.ret v)=>Q v s' | .ok _=>False | .error e=>E e s')
   | .again c'=>c'.quiet=true/\codeAny (model prog w) A c' (fun r s'=>match r with | .ok (.ret v)=>Q v s' | .ok _=>False | .error e=>E e s') s') E s:=by
  show wpAny _ A.in1 (Builtin.Builtins.bindParams "min" ["key","default"] 0 ⟨[],[("default",d)]⟩ >>= _) _ _ s;refine jp (wpAny_of_eq (show Builtin.Builtins.bindParams "min" ["key","default"] 0 ⟨[],[("default",d)]⟩=pure [none,some d] from rfl) ?_);refine jp (pp ?_);refine jp (IO h (fun it s₂ h₂=>?_) fun _ _ e=>e);obtain ⟨I,fp,wr,n,P,St,rfl,W,aU,FX,hn,hQ⟩:=h₂;refine jp (_r ?_);have r9:s₂.heap.objs.size ∉ fp:=fun hm=>Id _ (FX _ hm);rw [EX];refine pp ⟨plainId_quiet _y _,?_⟩;have j4:=W.frame _ _ _ aU (fun b _ o e=>kt { cls:=.type "list",data:=.seq ([]:List Value).toArray } e)
  match n,hn,W,hQ with
  | 0,_,W,hQ =>
   refine VN W j4 (tz _ rfl) fun h' tk hk=>?_;exact hQ d h' tk (.inl ⟨rfl,rfl⟩) fun b o hbw e=>hk b o hbw (kt _ e)
  | 1,_,W,hQ =>
   refine Xf W r9 j4 (tz _ rfl) fun v h' tk hP hk=>?_;exact hQ v h' tk (.inr ⟨rfl,hP⟩) fun b o hbw e=>hk b o hbw (ww (sw e)) (kt _ e)
 have ha:=ZH x d;simp only [checkBuiltinCall,F.kind_min];cases hsig:Manifest.signature? "min" with
 | none=>exact pp Nt
 | some sig =>
  have ha':Bind.checkArgs "min" sig ⟨[x],[("default",d)]⟩=pure ():=by simpa only [argsOk,hsig] using ha
  simp only [ha'];exact pp Nt
end
def h9 (h:Heap) (d:Addr) (es:Array DictEntry) (ep:Nat):Prop:=∃ o,h.get? d=some o/\o.ExactDict/\o.data=.dict es ep
def h9.at' {h h':Heap} {d:Addr} {es:Array DictEntry} {ep:Nat} (x:h9 h d es ep) (k:∀ o,h.get? d=some o->h'.get? d=some o):h9 h' d es ep:=let ⟨o,e,r⟩:=x; ⟨o,k o e,r⟩
section
variable {prog:Program} {w:World} {A:Around} {E:Value->Shared->Prop} {s:Shared} {es:Array DictEntry}
def h9.typeIs {d:Addr} {ep:Nat} (x:h9 s.heap d es ep):s.TypeIs (.ref d) "dict" := let ⟨o,e,c,_⟩:=x; ⟨o,e,c.1⟩
def zi {d:Addr} {ep:Nat} {Q:Value->Shared->Prop} (hd:(d == sysModules)=false) (hm:h9 s.heap d es ep)
  (hQ:Q (.ref s.heap.objs.size) { s with heap:=s.heap.push { cls:=.type "dict_keyiterator",data:=.fields #[.ref d,.int 0 0,.int es.size 0,.int ep 0] } }) :
  wpAny (model prog w) A (pyIter (.ref d)) Q E s:=by
 obtain ⟨o,ho,hc,fg⟩:=id hm;have hT:=hm.typeIs;refine wpAny_pyIter_slot hT F.slot_dict_iter (_x F.slot_dict_iter hT F.entry_dict_iter ?_ (F.args_dict_iter_1 _));unfold Builtin.«dict.__iter__» Builtin.Dict.dictSlotNone;refine jp (jp (wpAny_notOrdered_dict hT ?_));show wpAny _ _ (pure (Value.ref d)) _ _ s;refine pp ?_;show wpAny _ _ (Builtin.Dict.showsAll d >>= _) _ _ s;unfold Builtin.Dict.showsAll;rw [wS (by rw [hd]; exact ut)];refine jp (pp (jp (wpAny_dictEntries ho fg (jp (wpAny_dictEpoch ho fg ?_)))));refine jp (_r (pp ⟨_,rfl,"dict_keyiterator",_,⟨_,tz _ rfl,rfl⟩,_p.lookup,?_⟩))
 simpa [rawInt] using hQ
def Kj {it d:Addr} {i ep:Nat} {Q:Option Value->Shared->Prop} (hit:s.heap.IsKeyIter it d i es.size ep) (hm:h9 s.heap d es ep)
  (h1:∀ bD:i < es.size,∀ h',h'.IsKeyIter it d (i+1) es.size ep->Heap.SameBut it s.heap h'->Q (some es[i].key) { s with heap:=h' })
  (h2:es.size<=i->A.handled=none/\∀ h',Heap.ExtBut it s.heap h'->Q none { s with heap:=h' }) :
  wpAny (model prog w) A (pyNext (.ref it)) Q E s:=by
 obtain ⟨o,ho,hc,hd⟩:=id hit;obtain ⟨od,yN,bL,yA⟩:=id hm;unfold pyNext;refine jp (Jah (wpAny_callSpecial?_slot (name:=Str.ofString "__next__") hit.typeIs _p
  (_x _p hit.typeIs F.entry_dict_keyiterator_next ?_ (F.args_dict_keyiterator_next_1 _))))
 refine jp (pp (jp (jp ?_)));refine jp (_i hit.typeIs (pp ?_));refine jp (wpAny_fieldsOf ho hd ?_);simp only [show Builtin.Dict_items.ownsTuple "dict_keyiterator" = false by decide,Fa,Re];show wpAny _ _ (if (Value.ref d == Value.none)=true then _ else _) _ _ s;rw [wS (show ¬ ((Value.ref d == Value.none)=true) from ut)];refine jp (pp (jp (wpAny_dictEntries yN yA ?_)));rw [wS (by simp)];refine jp (pp (jp (wpAny_dictEpoch yN yA ?_)));rw [wS (by simp)];refine pp ?_;rcases Nat.lt_or_ge i es.size with bD | gy
 ·simp only [show ¬ ((i:Int) < 0) from by omega,Re,Int.toNat_natCast,Array.getElem?_eq_getElem bD];refine jp (jp (_i hit.typeIs (pp ?_)));refine jp (wpAny_isOneOf_keyiter hit.typeIs ?_);show wpAny _ _ (setField (.ref it) 1 (rawInt ((i:Int)+1)) >>= _) _ _ s;refine jp (wpAny_setField ho hd (by simp) ?_);have hit':(s.heap.update it (Obj.mapFields (·.setIfInBounds 1 (rawInt ((i:Int)+1))))).IsKeyIter it d (i+1) es.size ep :=
   ⟨_,Op _ ho (Obj.isFreed_of_fields (Jad hd _)),(Obj.cls_mapFields ..).trans hc,by rw [Jad hd]; simp [rawInt]⟩
  refine jp (FM (jp (wpAny_isOneOf_keyiter (s:={ s with heap:=s.heap.update it (Obj.mapFields (·.setIfInBounds 1 (rawInt ((i:Int)+1)))) }) hit'.typeIs ?_)));show wpAny _ _ (pure es[i].key) _ _ _;exact pp (pp ⟨_,rfl,pp (h1 bD _ hit' (Heap.SameBut.update ..))⟩)
 ·obtain ⟨hh,hQ⟩:=h2 gy;simp only [show ¬ ((i:Int) < 0) from by omega,Re,Int.toNat_natCast,Array.getElem?_eq_none gy];refine jp (jp (_i hit.typeIs (pp ?_)));show wpAny _ _ (setField (.ref it) 0 .none >>= _) _ _ s;refine jp (wpAny_setField ho hd (by simp) ?_);show wpAny _ _ (newExc (.type "StopIteration") [] >>= _) _ _ _;refine jp ?_;simp only [newExc,newTuple];refine jp (_r ?_ (by size_fits));refine jp (m:=firstArgMember _ _) (wpAny_of_eq (a:=Value.none) (by first | rfl | (simp only [firstArgMember]; rfl)) ?_);refine _r ?_ (by size_fits);simp only [raiseNew];refine jp (wpAny_handled ?_);rw [show A.in1.handled=none from hh];refine jp (pp (wpAny_throw ?_));refine jp (wpAny_isInstance (T := "StopIteration") (b:=true) ⟨_,tz _ rfl,rfl⟩ isSubtype_stop ?_);exact pp (hQ _ (((Heap.SameBut.update ..).extBut.push _).push _))
def Ec (hh:A.handled=none) (I d:Addr) (dS:d≠I) (es:Array DictEntry) (ep:Nat) :
  Walks prog w A I [I,d] [I] es.size (fun i v=>∃ e,es[i]?=some e/\v=e.key) (fun i h=>h.IsKeyIter I d i es.size ep/\h9 h d es ep) where
 sub:=fun b hb=>by simp at hb; simp [hb]
 frame:=fun _ _ _ st hk=>⟨st.1.at fun o e=>hk I (by simp) o e,st.2.at' fun o e=>hk d (by simp) o e⟩
 item:=fun i s Q E hi st hQ=>Kj st.1 st.2 (fun bD h' hit' hs'=>hQ _ h' s.toks ⟨es[i],by simp [bD],rfl⟩ ⟨hit',st.2.at' fun o e=>hs'.extBut d o dS e⟩ fun b o hb e=>hs'.extBut b o (fun h=>hb (by simp [h])) e) fun gy=>absurd hi (Nat.not_lt.mpr gy)
 done:=fun s Q E st hQ=>Kj st.1 st.2 (fun bD=>absurd bD (Id _)) fun _=>⟨hh,fun h' he'=>hQ h' s.toks fun b o hb e=>he' b o (fun h=>hb (by simp [h])) e⟩
 self:=fun _ _ _ _ st hQ=>wpAny_pyIter_keyiter st.1 hQ
end
section
variable {X:Cx}
def zy (te:TE):TE:=fun σ H Q=>te σ H fun x H1=>∃ a kvs,x=.ref a/\H1 a=some (.dT kvs)/\((kvs=[]/\Q .ay H1)\/∃ k v,kvs=[(k,v)]/\∀ p,H1 p=some (.tup (k.map kV))->Q (.ref p) H1)
def Vf {e:Expr} {te:TE} {p p2 p3 pos:Pos} {j:Nat} (hc:X.calm=true) (hg:Gl X "min") (hm:X.mg "min" = none) (he:PE X e te) (hs:starEach [e] X.env=[(false,eval e X.env)]:=by rfl) :
  PE X (.Call (.Name "min" p) [e] [⟨some "default",.Constant .none j p2,p3⟩] pos) (zy te):=by
 intro pins s σ H Q I h;refine GE (oU (u:=.builtin "min") I hg hm (by kernel_rfl) ?_);refine callWith_kw ?_ (by rw [hs]; rfl) (by rw [hs]; rfl);rw [hs];show wpAny _ _ (spliced ((false,eval e X.env)::backTo pos [])) _ _ s;refine Ty (aF (he pins s σ H _ I h) fun u s1 ⟨x,H1,I1,rx,a,kvs,ex,hd,q⟩=>WP ?_);subst ex;cases (show u=Value.ref a from rx);refine kws_cons (Constant_none (kws_nil ?_));show wpAny _ _ (call (.builtin "min") [.ref a] [("default",.none)]) _ _ s1;obtain ⟨hz,hS,xs,hp,o,es,ep,ho,hex,fg,ki,iJ⟩:=id (I1.aB a _ hd);refine QZ (zi hS ⟨o,ho,hex,fg⟩ ?_);have bD:a < s1.heap.objs.size:=sw ho;have hW:=Ec (prog:=X.prog) (w:=X.w) (A:=X.A.in1) (I1.ok.hd hc) s1.heap.objs.size a (ww bD) es ep;have zb:(s1.heap.push { cls:=.type "dict_keyiterator",data:=.fields #[.ref a,.int 0 0,.int es.size 0,.int ep 0] }).IsKeyIter s1.heap.objs.size a 0 es.size ep/\h9 (s1.heap.push { cls:=.type "dict_keyiterator",data:=.fields #[.ref a,.int 0 0,.int es.size 0,.int ep 0] }) a es ep :=
  ⟨⟨_,tz _ rfl,rfl,rfl⟩,⟨o,kt _ ho,hex,fg⟩⟩
 have FX:∀ b∈[s1.heap.objs.size,a],b < (s1.heap.push { cls:=.type "dict_keyiterator",data:=.fields #[.ref a,.int 0 0,.int es.size 0,.int ep 0] }).objs.size:=fun b hb=>by
  rw [Tm];rcases li.mp hb with e | hb
  ·rw [e]; exact KM _
  ·rw [AT.mp hb]; exact _N bD
 have kp:∀ h':Heap,(∀ b o,b ∉ [s1.heap.objs.size]->(s1.heap.push { cls:=.type "dict_keyiterator",data:=.fields #[.ref a,.int 0 0,.int es.size 0,.int ep 0] }).get? b=some o->h'.get? b=some o)->∀ b o,s1.heap.get? b=some o->h'.get? b=some o:=fun h' k b o e =>
  k b o (fun z=>by have z':=AT.mp z; have:=sw e; rw [z'] at this; exact Id _ this) (kt _ e)
 have hsz:es.size=xs.length:=by rw [<- LE,ki,nn]
 refine ⟨_,_,_,_,_,_,rfl,hW,zb,FX,?_,fun v h' tk hv hk=>?_⟩
 ·rcases q with ⟨rfl,_⟩ | ⟨k,v,rfl,_⟩
  ·cases hp; rw [hsz]; exact wP _
  ·cases hp with | cons _ t=>cases t; rw [hsz]; exact ss _
 ·have I2:Inv X pins σ H1 { s1 with heap:=h',toks:=tk }:=I1.kept (t':=tk) (kp h' hk);rcases q with ⟨rfl,q⟩ | ⟨k,v',rfl,q⟩
  ·cases hp;rcases hv with ⟨_,rfl⟩ | ⟨h1,_⟩
   ·exact ⟨.ay,H1,I2,rfl,q⟩
   ·rw [hsz] at h1; cases h1
  ·cases hp with
   | @cons _ y _ _ hh t =>
    cases t;rcases hv with ⟨h1,_⟩ | ⟨_,e,he,rfl⟩
    ·rw [hsz] at h1; cases h1
    ·rw [<- No,ki] at he;cases he;exact ⟨.ref y.2.1,H1,I2,rfl,q _ hh.2.1⟩
end
def bW {f:Str} {v:V} {fs:List (Str×V)} {m:Nat} (h:fs.length<=m):(aA f v fs).length<=m+1:=wf (Ej f v fs) (_0 h)
def dh (fs gs:List (Str×V)):Prop:=∀ f,fs.lookup f=gs.lookup f
def dh.refl (fs:List (Str×V)):dh fs fs:=fun _=>rfl
def dh.put {fs gs:List (Str×V)} (h:dh fs gs) (f:Str) (v:V):dh (aA f v fs) (aA f v gs):=fun g=>by rw [ef,ef,h g]
section
variable {X:Cx}
def JX {pins:List (Addr×Obj)} {σ:St} {H:Hp} {s:Shared} {Q:VK} {p:Addr} (hc:X.calm=true) (I:Inv X pins σ H s) (hd:H p=some (.dT [])) (q:∀ l,H l=none->Q (.ref l) (upd H l (.lst []))) :
  wpAny (model X.prog X.w) X.A (call (.builtin "sorted") [.ref p]) (EP X pins σ Q) X.xe s:=by
 obtain ⟨hz,hS,xs,hp,o,es,ep,ho,hex,fg,ki,iJ⟩:=id (I.aB p _ hd);cases hp;have he:es=#[]:=by
  have:es.toList=[]:=ki;exact Array.toList_eq_nil_iff.mp this
 subst he;have vC:s.heap.DictAt (eC X.prog X.w) p [] ep:=⟨o,#[],ho,hex,fg,fun e z=>absurd z (by simp),.nil,.nil⟩;refine _z kind_sorted plain_sorted entry_sorted (args_sorted1 _) ?_;unfold Builtin.«sorted»;refine jp (m:=checkCount "sorted" 1 1 _) (pp ?_);refine jp (Ja4 (A:=X.A.in1) (PySem.W.kdl_dict (knd:=eC X.prog X.w) (kvs:=[]) (ep:=ep) hS) (I.ok.hd hc) vC (wP _) fun h' tk acc hk' ff=>?_);have ha:acc=#[]:=Array.eq_empty_of_size_eq_zero ff.1;subst ha;refine jp (Jai ?_ (wP _));have gP:(h'.push (seqObj "list" ([]:List Value).toArray 0)).get? h'.objs.size=some (seqObj "list" ([]:List Value).toArray 0):=tz _ rfl;refine jp (FM (_x slot_list_sort ⟨_,gP,rfl⟩ entry_list_sort (list_sort_treeK strKind_oneLt (vs:=[]) gP (StrsAre.nil).keysOf (fun v₁ v₂ rest e=>nomatch e) (by decide) fun st' a1 a2=>⟨_,rfl,?_⟩) (args_list_sort _)));refine pp ⟨_,rfl,?_⟩;obtain ⟨e,he⟩:=sortedHeap_at (out:=(arrOf st').map (·.2)) gP;have aU:arrOf st'=#[]:=Array.eq_empty_of_size_eq_zero (a1.size_eq.trans (pairsOf_size []));rw [aU,Array.map_empty] at he;have I1:Inv X pins σ H { s with heap:=h',toks:=tk }:=I.kept (t':=tk) hk';rw [aU,Array.map_empty];refine ⟨.ref h'.objs.size,_,I1.laid (t':=tk) (fun b o z=>?_) (ss _) (show bM X.prog X.w _ _ _ (.lst []) from ⟨wP _,[],e,.nil,he⟩),rfl,q _ (I1.aB.fresh (ss _))⟩;have hb:b < h'.objs.size:=sw z;rw [sortedHeap_old (ww hb) (by have:=Tm h' (seqObj "list" ([]:List Value).toArray 0); rw [this]; exact _N hb)];exact kt _ z
def S4 (K:PySem.W.Frag):List V->Hp->VK->Prop:=fun xs H Q=>M4 K xs H Q\/G1 xs H Q\/∃ p,xs=[.ref p]/\H p=some (.dT [])/\∀ l,H l=none->Q (.ref l) (upd H l (.lst []))
def II {K:PySem.W.Frag} (h:X.K=K) (hc:X.calm=true):cM X (.builtin "sorted") (S4 K):=by
 subst h;intro pins s σ H xs us Q I r h;rcases h with h | h | ⟨p,rfl,hd,q⟩
 ·exact Tj pins s σ H xs us Q I r h
 ·exact RN hc pins s σ H xs us Q I r h
 ·obtain ⟨u,rfl,rx⟩:=vals1 r;cases rx;exact JX hc I hd q
def Be:bootBuiltins "sorted" = some (.builtin "sorted"):=by kernel_rfl
def Dv.minD {e:Expr} {te:TE} {p p2 p3 pos:Pos} {j:Nat} (hc:X.calm=true) (hm:X.mg "min" = none) (he:QE X e te) (hg:Gl X "min" := by rfl) (hs:starEach [e] X.env=[(false,eval e X.env)]:=by rfl) :
  QE X (.Call (.Name "min" p) [e] [⟨some "default",.Constant .none j p2,p3⟩] pos) (zy te):=⟨Vf hc hg hm he.h hs⟩
end
structure mL (K:PySem.W.Frag) (x qual:Str) (st:Stmt) (f:Addr) (fd:FuncData) (ds:List Value):Prop where
 ex:∃ (oc:Value) (od:Option Addr) (dt:Addr) (kV doc pm:Value) (an:Option Addr) (ag ct:Value) (da:Array (Option Value)) (o:Obj) (n:Nat),
  fd=PySem.W.fnOf x qual (eL st) (aR st) (aw st) (.ref dt) kV doc pm an ag ct/\K.lookup f=some ⟨oc,od,.func fd,da⟩/\PySem.W.codeIn K ag qual=true/\K.lookup dt=some o/\o.data=.seq ds.toArray n
 kp:PySem.W.keepIn K (.ref f)=true
section
variable {P:Program} {w:World} {K:PySem.W.Frag} {mg:Str->Option Value} {base:Heap} {CX:dN} {x qual:Str} {st:Stmt} {f:Addr} {fd:FuncData} {N ps:List Str} {k:Nat} {ds:List Value}
def mL.dE {sp:Sp} (F:mL K x qual st f fd ds) (S:aE N ps (aw st)) (len:∀ vs H Q E,sp vs H Q E->vs.length=ps.length)
  (hb:∀ (ag:Value) (A:Around) (outer:List Env) (s:Shared) (H:Hp) (vs:List V) (Q:VK) (E:XK),bc k (A.deeper (envOfC qual (aw st) s.heap.objs.size f ag))->sp vs H Q E ->
   ∃ t,c8 (cq CX P w K mg base N qual (aw st) f ag A outer s H E) (aR st) t/\t { nx:=fun _ H'=>Q .ay H',rt:=Q } (start N vs) H):aC P w K mg base CX (k+1) f fd ps sp:=by
 obtain ⟨oc,od,dt,kV,doc,pm,an,ag,ct,da,o,n,rfl,lk,bL,_⟩:=F.ex;exact xm lk bL S len fun A outer s H vs Q E hr dj=>hb ag A outer s H vs Q E hr dj
def mL.ok {sp:Sp} (F:mL K x qual st f fd ds) (S:aE N ps (aw st)) (len:∀ vs H Q E,sp vs H Q E->vs.length=ps.length)
  (hb:∀ (ag:Value) (A:Around) (outer:List Env) (s:Shared) (H:Hp) (vs:List V) (Q:VK) (E:XK),bc k (A.deeper (envOfC qual (aw st) s.heap.objs.size f ag))->sp vs H Q E ->
   ∃ t,c8 (cq aN P w K mg base N qual (aw st) f ag A outer s H E).qX (aR st) t/\t { nx:=fun _ H'=>Q .ay H',rt:=Q } (start N vs) H):aC P w K mg base aN (k+1) f fd ps sp :=
 F.dE S len fun ag A outer s H vs Q E hr dj=>by
  obtain ⟨t,h,q⟩:=hb ag A outer s H vs Q E hr dj;exact ⟨t,h.qX,q⟩
def abj {oc:Value} {od an:Option Addr} {da:Array (Option Value)} {kV doc pm ag ct:Value} {dt:Addr} {o:Obj} {n:Nat} (l:K.lookup f=some ⟨oc,od,.func (PySem.W.fnOf x qual (eL st) (aR st) (aw st) (.ref dt) kV doc pm an ag ct),da⟩)
  (c:PySem.W.codeIn K ag qual=true) (k:PySem.W.keepIn K (.ref f)=true) (ld:K.lookup dt=some o) (hd:o.data=.seq ds.toArray n):mL K x qual st f (PySem.W.fnOf x qual (eL st) (aR st) (aw st) (.ref dt) kV doc pm an ag ct) ds :=
 ⟨⟨oc,od,dt,kV,doc,pm,an,ag,ct,da,o,n,rfl,l,c,ld,hd⟩,k⟩
def eP.T3 {sp:vQ} (F:eP K x qual st f fd) (S:aE N ps (aw st)) (len:∀ outer s vs H Q E,sp outer s vs H Q E->vs.length=ps.length)
  (hb:∀ (ag:Value) (A:Around) (outer:List Env) (s:Shared) (H:Hp) (vs:List V) (Q:VK) (E:XK),bc k (A.deeper (envOfC qual (aw st) s.heap.objs.size f ag))->sp outer s vs H Q E ->
   ∃ t,c8 (cq CX P w K mg base N qual (aw st) f ag A outer s H E) (aR st) t/\t { nx:=fun _ H'=>Q .ay H',rt:=Q } (start N vs) H):sW P w K mg base CX (k+1) f fd ps sp:=by
 obtain ⟨oc,od,kV,doc,pm,an,ag,ct,da,rfl,lk,bL⟩:=F.ex;exact ab6 lk bL S len fun A outer s H vs Q E hr dj=>hb ag A outer s H vs Q E hr dj
end
section
variable {X:Cx}
def Dv.cO (i:Nat) {k:Nat} {x:Str} {p pos:Pos} {B:Addr->Prop} {f:Addr} {cu:Hp->VK->XK->Prop} {R:St->XK} (D:mz X.prog X.w X.K X.mg X.base k X.s₀ B f cu) (hB:xy X.outer X.H₀ X.s₀ B) (hf:zx X.s₀ f) (gg:B f) (hr:bc k X.A) (hx:gH X R)
  (hex:X.ex=[]:=by rfl) (hN:X.N[i]?=some x:=by rfl) (hv:mj X.env.scope x:=by first | exact Or.inl rfl | exact Or.inr (Or.inl rfl) | exact Or.inr (Or.inr rfl))
  (hd:(x == ("__debug__" : Str))=false:=by decide) (bL:(x == ("__classdict__" : Str))=false:=by decide):QE X (.Call (.Name x p) [] [] pos) (zO i f cu R):=⟨aaC hN hv D hB hf gg hex hr hx hd bL⟩
end
def di {X:Cx}:gH X (fun _=>E0) where
 pass:=fun pins σ H s e s' I hc=>by
  obtain ⟨ea,C,od,H',rfl,F,hE⟩:=hc;exact hE.elim
section
variable {X:Cx}
def Dv.ox {P:Addr} {q:Str} {ix:List Nat} {W:List V->fb} {lV:fb->fb} {R:St->XK} {params:Arguments} {body:Expr} {scope:Scope} {cH:List (Str×Addr)} {N':List Str} {fj p pos:Pos} {x y:Str} {g:Addr} {fd:FuncData} {k k':Nat}
  (F:sW X.prog X.w X.K X.mg X.base (bo X.prog X.w) k' g fd [y] (Cq X.prog X.w X.K X.mg X.base (k+1) lV)) (hr:bc k' X.A) (hm:X.mg x=some (.ref g)) (hk:PySem.W.keepIn X.K (.ref g)=true) (hb:Binds X.K fd [y] []) (hx:gH X R)
  (ji:∀ (f:Addr) (ag:Value) (vs:List V) (A:Around) (outer:List Env) (s:Shared) (H:Hp) (Q:VK) (E:XK),bc k (A.deeper (PySem.W.envX q scope s.heap.objs.size f ag cH))->W vs H Q E ->
   ∃ t,PE (mW X.prog X.w X.K X.mg X.base N' q scope f ag cH A outer s H E) body t/\t (vs.map some) H Q)
  (L:jL X P params scope cH q) (S:hZ N' scope cH) (C:iS X N' ix cH)
  (pd:∀ pm cd ct,bindArgs (PySem.W.kla_fn "<lambda>" q params body scope cH pm cd ct) ⟨[],[]⟩=pure []:=by exact fun _ _ _=>rfl) (hg:Gl X x:=by rfl)
  (bR:(x == ("__debug__" : Str))=false:=by decide):QE X (.Call (.Name x p) [.Lambda params body scope fj] [] pos) (Es P q ix W lV R):=⟨Ud L S C F hr hg hm hk hb hx pd ji bR⟩
end
def eU {α:Type} (p:α->Prop):List α->Prop
 | []=>True
 | a::r=>p a/\eU p r
def eU.mem {α:Type} {p:α->Prop}:∀ {l:List α},eU p l->∀ a∈l,p a
 | _::_,h,a,ha=>by
  rcases li.mp ha with rfl | ha
  ·exact h.1
  ·exact eU.mem h.2 a ha
def SK:∀ {cl:List (Str×Addr)},(cl.map (·.2)).Nodup->∀ x y c,cl.lookup x=some c->cl.lookup y=some c->x=y:=by
 intro cl nd x y c h1 h2;have m1:=Da h1;have m2:=Da h2
 induction cl with
 | nil=>cases m1
 | cons e r ih =>
  have nd':=Cl.mp (show (e.2::r.map (·.2)).Nodup from nd);rcases li.mp m1 with e1 | e1 <;> rcases li.mp m2 with e2 | e2
  ·rw [<- e1] at e2; exact (NE Prod.fst e2).symm
  ·exact absurd (AC.mpr ⟨_,e2,by rw [<- e1]⟩) nd'.1
  ·exact absurd (AC.mpr ⟨_,e1,by rw [<- e2]⟩) nd'.1
  ·have go:∀ {l:List (Str×Addr)},(l.map (·.2)).Nodup->(x,c)∈l->(y,c)∈l->x=y:=by
    intro l
    induction l with
    | nil=>intro _ a; cases a
    | cons e r ih =>
     intro nd a b;have nd':=Cl.mp (show (e.2::r.map (·.2)).Nodup from nd);rcases li.mp a with e1 | e1 <;> rcases li.mp b with e2 | e2
     ·rw [<- e1] at e2; exact (NE Prod.fst e2).symm
     ·exact absurd (AC.mpr ⟨_,e2,by rw [<- e1]⟩) nd'.1
     ·exact absurd (AC.mpr ⟨_,e1,by rw [<- e2]⟩) nd'.1
     ·exact ih nd'.2 e1 e2
   exact go nd'.2 e1 e2
def hZ.of {N:List Str} {scope:Scope} {cl:List (Str×Addr)} (kind:scope.kind=.function) (co:scope.isCoroutine=false) (gen:scope.isGenerator=false) (se:scope.names.all (fun x=>x.2 != .cell)=true)
  (free:N.all (fun x=>scope.names.lookup x == some .free)=true) (has:eU (fun e:Str×NameKind=>e.2=.free->∃ c,cl.lookup e.1=some c) scope.names) (nd:(cl.map (·.2)).Nodup):hZ N scope cl where
 kind:=kind
 co:=co
 gen:=gen
 se:=fun x hx=>by simpa using At.mp se x hx
 free:=fun x hx=>by simpa using At.mp free x hx
 has:=fun x hx=>eU.mem has _ (Da hx) rfl
 inj:=SK nd
def iS.of {X:Cx} {N':List Str} {ix:List Nat} {cH:List (Str×Addr)} (len:ix.length=N'.length) (own:X.fn=fun _=>true)
  (at':eU (fun e:Nat×Str=>X.N[e.1]?=some e.2/\X.env.scope.names.lookup e.2=some .cell/\cH.lookup e.2=X.env.cells.lookup e.2) (ix.zip N'))
  (iC:eU (fun e:Str×Addr=>X.env.cells.lookup e.1=some e.2) cH):iS X N' ix cH where
 len:=len
 at':=fun i j h=>by
  have hi:=(lm.mp h).1;have hi':i < N'.length:=len ▸ hi;have hm:(j,N'[i])∈ix.zip N':=by
   refine _U.mpr ⟨i,?_⟩;rw [_A];exact ⟨h,mo hi'⟩
  have z:=eU.mem at' _ hm;exact ⟨N'[i],mo hi',z.1,z.2.1⟩
 iC:=fun x c h=>eU.mem iC _ (Da h)
 Kx:=fun x hx=>by
  obtain ⟨i,hi,rfl⟩:=Sc hx;have hi':i < ix.length:=len ▸ hi;have hm:(ix[i],N'[i])∈ix.zip N':=by
   refine _U.mpr ⟨i,?_⟩;rw [_A];exact ⟨mo hi',mo hi⟩
  exact (eU.mem at' _ hm).2.2
 own:=fun _ _ _=>by rw [own]
def eP.tE {P:Program} {w:World} {K:PySem.W.Frag} {mg:Str->Option Value} {base:Heap} {CX:dN} {x qual:Str} {st:Stmt} {f:Addr} {fd:FuncData} {N ps:List Str} {k:Nat} {sp:Sp} (F:eP K x qual st f fd) (S:aE N ps (aw st)) (len:∀ vs H Q E,sp vs H Q E->vs.length=ps.length)
  (hb:∀ (ag:Value) (A:Around) (outer:List Env) (s:Shared) (H:Hp) (vs:List V) (Q:VK) (E:XK),fd.code=ag->bc k (A.deeper (envOfC qual (aw st) s.heap.objs.size f ag))->sp vs H Q E ->
   ∃ t,c8 (cq CX P w K mg base N qual (aw st) f ag A outer s H E) (aR st) t/\t { nx:=fun _ H'=>Q .ay H',rt:=Q } (start N vs) H):aC P w K mg base CX (k+1) f fd ps sp:=by
 obtain ⟨oc,od,kV,doc,pm,an,ag,ct,da,rfl,lk,bL⟩:=F.ex;exact xm lk bL S len fun A outer s H vs Q E hr dj=>hb ag A outer s H vs Q E rfl hr dj
section
variable {X:Cx}
def vP {pins:List (Addr×Obj)} {σ:St} {H:Hp} {s:Shared} {A:Around} {a b:Addr} {xs ys:List V} (I:Inv X pins σ H s) (ha:aD X.K H a xs) (hb:aD X.K H b ys) (h0:xs=[]\/ys=[]) (hu:A.units < cLine) :
  SeqAt.RcAt A s (.ref a) (.ref b) (decide (xs=ys))/\SeqAt.RcNeAt A s (.ref a) (.ref b) (!decide (xs=ys)):=by
 obtain ⟨i1,r1,p1,_⟩:=I.list ha;obtain ⟨i2,r2,p2,_⟩:=I.list hb;have n1:i1.toArray.size=xs.length:=by rw [sB,<- r1.length]
 have n2:i2.toArray.size=ys.length:=by rw [sB,<- r2.length]
 by_cases h:xs.length=ys.length
 ·have e1:xs=[]:=by
   rcases h0 with e | e
   ·exact e
   ·rw [e] at h; exact _f.mp h
  have e2:ys=[]:=by rw [e1] at h; exact _f.mp h.symm
  subst e1 e2;have hsz:i1.toArray.size=i2.toArray.size:=by rw [n1,n2]
  have hz:i1.toArray.size=0:=n1;have k1:=SeqAt.RcAt.lists (A:=A) (s:=s) (e:=fun _=>true) p1.isList p2.isList hsz hu (fun j g1 g2=>absurd g1 (by rw [hz]; exact Nat.not_lt_zero _));have k2:=SeqAt.RcNeAt.lists (A:=A) (s:=s) (e:=fun _=>true) p1.isList p2.isList hsz hu (fun j g1 g2=>absurd g1 (by rw [hz]; exact Nat.not_lt_zero _));rw [hz] at k1 k2;exact ⟨k1,k2⟩
 ·have hsz:(i1.toArray.size != i2.toArray.size)=true:=by rw [n1,n2]; simpa using h
  have e:decide (xs=ys)=false:=pc fun z=>h (by rw [z]);rw [e];exact ⟨SeqAt.RcAt.lists_lengths p1.isList p2.isList hsz hu,SeqAt.RcNeAt.lists_lengths p1.isList p2.isList hsz hu⟩
def qe (K:PySem.W.Frag) (neg:Bool):R2:=fun x y H Q=>match x,y with
 | .ref a,.ref b=>∃ xs ys:List V,aD K H a xs/\aD K H b ys/\((ys=[]/\Q (.bl (neg ^^ xs.isEmpty)) H)\/(xs=[]/\Q (.bl (neg ^^ ys.isEmpty)) H))
 | _,_=>False
def KG {xs ys:List V} (h:ys=[]):decide (xs=ys)=xs.isEmpty:=by subst h; cases xs <;> simp
def Ml {xs ys:List V} (h:xs=[]):decide (xs=ys)=ys.isEmpty:=by subst h; cases ys <;> simp
def We {K:PySem.W.Frag} (hK:X.K=K) (hu:X.A.units < cLine):bb X (compareOp .Eq) (qe K false):=by
 subst hK;intro pins s σ H x y v u Q I rx ry h;unfold qe at h;split at h
 ·obtain ⟨xs,ys,ha,hb,q⟩:=h;cases rx; cases ry;simp only [Bool.false_bne] at q;rcases q with ⟨e,q⟩ | ⟨e,q⟩
  ·exact (vP I ha hb (.inr e) hu).1 _ _ _ _ ⟨.bl _,H,I,rfl,by rw [KG e]; exact q⟩
  ·exact (vP I ha hb (.inl e) hu).1 _ _ _ _ ⟨.bl _,H,I,rfl,by rw [Ml e]; exact q⟩
 ·exact h.elim
def Zs {K:PySem.W.Frag} (hK:X.K=K) (hu:X.A.units < cLine):bb X (compareOp .NotEq) (qe K true):=by
 subst hK;intro pins s σ H x y v u Q I rx ry h;unfold qe at h;split at h
 ·obtain ⟨xs,ys,ha,hb,q⟩:=h;cases rx; cases ry;simp only [Bool.true_bne] at q;rcases q with ⟨e,q⟩ | ⟨e,q⟩
  ·exact (vP I ha hb (.inr e) hu).2 _ _ _ _ ⟨.bl _,H,I,rfl,by rw [KG e]; exact q⟩
  ·exact (vP I ha hb (.inl e) hu).2 _ _ _ _ ⟨.bl _,H,I,rfl,by rw [Ml e]; exact q⟩
 ·exact h.elim
def zC:V->List V->Hp->VK->Prop:=fun x vs H Q=>match x,vs with
 | .ref l,[]=>∃ xs y,H l=some (.lst (xs++[y]))/\Q y (upd H l (.lst xs))
 | _,_=>False
def LQ:dP X "list.pop" zC:=dP.imp (r:=IU) Sr fun x vs H Q h=>by
 unfold zC at h;split at h
 ·obtain ⟨xs,y,hl,q⟩:=h;refine ⟨_,xs++[y],y,rfl,rfl,hl,?_,?_⟩
  ·simp
  ·rw [List.dropLast_concat]; exact q
 ·exact h.elim
def W6:List V->Hp->VK->Prop:=fun xs H Q=>∃ p kvs,xs=[.ref p]/\H p=some (.dT kvs)/\∀ l (ks:List Addr),ks.length=kvs.length->(∀ (i:Nat) (a:Addr) (k:List Key) (v:V),ks[i]?=some a->kvs[i]?=some (k,v)->H a=some (.tup (k.map kV)))->H l=none ->
 Q (.ref l) (upd H l (.lst (ks.map V.ref)))
end
def YG {prog:Program} {w:World} {d:Addr} {es:Array DictEntry} {ep:Nat} (lo:(d == sysModules)=false):PySem.W.KdlSrc prog w "dict" d d es.size (fun i v=>∃ e,es[i]?=some e/\v=e.key) (fun h=>h9 h d es ep) where
 type:=fun _ hm=>hm.typeIs
 there:=fun _ hm=>let ⟨_,e,_⟩:=hm; ⟨sw e,sw e⟩
 keep:=fun _ _ hm hk=>hm.at' fun o e=>hk d (.inl rfl) o e
 notList:=by decide
 notTuple:=by decide
 hint:=fun _ _ _ _ hm hq=>PySem.W.kdl_hint_dict hm.typeIs hq
 iter:=fun _ _ hh hm=>⟨_,_,(fun _ _ hq=>zi lo hm hq),Ec hh _ d (let ⟨_,e,_⟩:=hm; ww (sw e)) es ep,⟨⟨_,tz _ rfl,rfl,rfl⟩,hm.at' fun o e=>kt _ e⟩⟩
def Ms {α β:Type} {F:α->β->Prop}:∀ {l₁:List α} {l₂:List β},Paired F l₁ l₂->∀ {i:Nat} {a:α} {b:β},l₁[i]?=some a->l₂[i]?=some b->F a b
 | _,_,.cons h _,0,_,_,e1,e2=>by cases e1; cases e2; exact h
 | _,_,.cons _ t,i+1,_,_,e1,e2=>Ms t e1 e2
section
variable {X:Cx}
def Br:∀ {vs:List V} {us:List Value},vs.length=us.length->(∀ (i:Nat) (v:V) (u:Value),vs[i]?=some v->us[i]?=some u->RelV v u)->Vals vs us
 | [],[],_,_=>.nil
 | v::vs,u::us,e,h=>.cons (h 0 v u rfl rfl) (Br (by simpa using e) fun i v u h1 h2=>h (i+1) v u h1 h2)
def RZ (hc:X.calm=true):cM X (.type "list") W6:=by
 intro pins s σ H xs us Q I r h;obtain ⟨p,kvs,rfl,hd,q⟩:=h;obtain ⟨u,rfl,rx⟩:=vals1 r;cases rx;obtain ⟨hz,hS,ys,hp,o,es,ep,ho,hex,fg,ki,iJ⟩:=id (I.aB p _ hd);have hsz:es.size=ys.length:=by rw [<- LE,ki,nn]
 have lI:kvs.length=ys.length:=hp.length;refine PySem.W.kdl_call (YG (prog:=X.prog) (w:=X.w) (ep:=ep) (es:=es) hS) (I.ok.hd hc) ⟨o,ho,hex,fg⟩ (by rw [hsz,<- lI]; exact hz) fun h' tk acc c hk hD ff=>?_;have hal:acc.toList.length=ys.length:=by rw [LE,ff.1,hsz]
 have hv:Vals ((ys.map (·.2.1)).map V.ref) acc.toList:=by
  refine Br (by simp [hal]) fun i v u h1 h2=>?_;obtain ⟨e,he,rfl⟩:=ff.2 i u (by rw [<- No]; exact h2);rw [<- No,ki,xL] at he;rw [SZ,xL] at h1;cases hy:ys[i]? with
  | none=>rw [hy] at h1; cases h1
  | some y =>
   rw [hy] at h1 he;cases h1; cases he;exact rfl
 refine ⟨.ref s.heap.objs.size,_,I.laid (t':=tk) hk (ss _) (show bM X.prog X.w _ _ _ (.lst ((ys.map (·.2.1)).map V.ref)) from ⟨?_,_,c,hv,?_⟩),rfl,q _ (ys.map (·.2.1)) ?_ (fun i a k v h1 h2=>?_) (I.aB.fresh (ss _))⟩
 ·simp only [nn]; rw [<- lI]; exact hz
 ·rw [_5]; exact hD
 ·rw [nn,lI]
 ·rw [xL] at h1;cases hy:ys[i]? with
  | none=>rw [hy] at h1; cases h1
  | some y =>
   rw [hy] at h1;cases h1;have z:=Ms hp h2 hy;exact z.2.1
end
def V8:typeLookup (.type "list_reverseiterator") "__len__" = pure none:=by rw [typeLookup_type,builtinLookup_eq_fast]; kernel_rfl
def VB:typeLookup (.type "list_reverseiterator") "__length_hint__" = pure (some (.builtin "list_reverseiterator.__length_hint__")):=by rw [typeLookup_type,builtinLookup_eq_fast]; kernel_rfl
section
variable {prog:Program} {w:World} {A:Around} {E:Value->Shared->Prop} {s:Shared} {I:Addr}
def XE {Q:Bool->Shared->Prop} (hT:s.TypeIs (.ref I) "list_reverseiterator") (h:Q false s):wpAny (model prog w) A (Builtin.List.listLengthHint (.ref I)) Q E s:=by
 unfold Builtin.List.listLengthHint;refine jp (wpAny_specialOf hT V8 ?_);show wpAny _ A (specialOf (Value.ref I) (Str.ofString "__length_hint__") >>= _) _ _ _;refine jp (wpAny_specialOf hT VB ?_);generalize hid:("list_reverseiterator.__length_hint__" : String)=id0
 wp_delta
 rw [show splitId id0=some ("list_reverseiterator","__length_hint__") from by subst hid; decide +kernel];subst hid;refine jp (wpAny_isInstance (T := "list_reverseiterator") (b:=true) hT (by rw [isSubtype_type]; kernel_rfl) ?_);refine Ja0 (fun fk=>absurd fk (by decide)) (fun _=>?_);refine Ja0 (fun _=>?_) (fun fk=>absurd (by decide +kernel) fk);refine Ja0 (fun fk=>absurd fk (by decide +kernel)) (fun _=>?_);exact pp h
def Tu {R:Result->Shared->Prop} {l S:Addr} {items:Array Value} {res:Value} {c₀:Nat} (hh:A.handled=none) (hit:s.heap.IsRevIter I l ((items.size:Int) - 1)) (hl:s.heap.IsList l items) (dS:l≠I) (N5:S≠I) (hSl:S≠l) (hn:items.size<=sizeLine)
  (hS:s.heap.get? S=some { cls:=.type "list",data:=.seq #[] c₀ })
  (hR:∀ h' tk acc' c',(∀ b o,b≠S->b≠I->s.heap.get? b=some o->h'.get? b=some o)->h'.get? S=some { cls:=.type "list",dict:=none,data:=.seq acc' c',slots:=#[] }->ItemsOf (fun i v=>items[items.size - 1 - i]?=some v) acc' items.size->R (.ok (.ret res)) { s with heap:=h',toks:=tk }) :
  wpAny (model prog w) A.in1 (Builtin.List.listExtendWith (.ref S) (.ref I) res)
   (fun fin s'=>match fin with | .done f=>R (.ok f) s' | .again c'=>c'.quiet=true/\codeAny (model prog w) A c' R s') (fun e s'=>R (.error e) s') s:=by
 have W:=Walks.listRev (prog:=prog) (w:=w) (A:=A.in1) hh I l dS items;have r9:S ∉ [I,l]:=by simp only [li,lv,wn,TW]; exact ⟨N5,hSl⟩
 have zb:0<=items.size/\s.heap.IsRevIter I l ((items.size:Int) - 1 - ((0:Nat):Int))/\s.heap.IsList l items:=⟨wP _,by simpa using hit,hl⟩;unfold Builtin.List.listExtendWith;refine jp (wpAny_typeOf hit.typeIs ?_);have h1:Builtin.List.listSameRef (.ref S) (.ref I)=false:=by simp [Builtin.List.listSameRef,N5]
 simp only [h1,show (Value.type "list_reverseiterator" == Value.type "list")=false by decide,show (Value.type "list_reverseiterator" == Value.type "tuple")=false by decide,Jag,Fa,Re];refine jp (W.self 0 _ _ _ zb ?_);refine jp (FM (XE hit.typeIs ?_));refine Ja0 (fun h=>absurd h (by decide)) (fun _=>pp ⟨plainId_quiet PySem.F.plain_extend_loop _,?_⟩);refine codeAny_extend_loopS W.toS hn S r9 res items.size 0 _ #[] c₀ rfl (wP _) zb hS (ItemsOf.nil _) fun s' acc' c' hm hS' ff=>?_;rw [Moved.eq_with hm];refine hR s'.heap s'.toks acc' c' (fun b o hb hb' e=>hm.heap b o (fun hmem=>?_) e) hS' ff;rcases li.mp hmem with e' | hmem
 ·exact hb e'
 ·exact hb' (AT.mp hmem)
def Vo {Q:Value->Shared->Prop} {l:Addr} {items:Array Value} (hh:A.handled=none) (hit:s.heap.IsRevIter I l ((items.size:Int) - 1)) (hl:s.heap.IsList l items) (dS:l≠I) (hn:items.size<=sizeLine)
  (hQ:∀ h' tk acc' c',(∀ b o,b≠I->s.heap.get? b=some o->h'.get? b=some o)->h'.get? s.heap.objs.size=some { cls:=.type "list",dict:=none,data:=.seq acc' c',slots:=#[] }->ItemsOf (fun i v=>items[items.size - 1 - i]?=some v) acc' items.size ->
   Q (.ref s.heap.objs.size) { s with heap:=h',toks:=tk }):wpAny (model prog w) A (call (.type "list") [.ref I]) Q E s:=by
 have hIlt:I < s.heap.objs.size:=let ⟨_,e,_⟩:=hit; sw e
 have hllt:l < s.heap.objs.size:=let ⟨_,e,_⟩:=hl; sw e
 refine callType_codes (Q₁:=fun obj s₁=>obj=.ref s.heap.objs.size/\s₁={ s with heap:=s.heap.push { cls:=.type "list",data:=.seq #[] } }) PySem.F.called_list (PySem.F.typeCall_list_1 _) PySem.F.entry_list_init
  (code_list_new _ ⟨rfl,rfl⟩) fun obj s₁ h₁=>?_
 obtain ⟨rfl,rfl⟩:=h₁;have hS:(s.heap.push { cls:=.type "list",data:=.seq #[] }).get? s.heap.objs.size=some { cls:=.type "list",data:=.seq #[] }:=tz _ rfl;refine ⟨⟨_,hS,rfl⟩,PySem.F.args_list_init_2 _ _,?_⟩;show wpAny _ _ (do let old <- Builtin.List.listItems (.ref s.heap.objs.size); Builtin.List.listUpdate (.ref s.heap.objs.size) (fun _=>#[]); letGo old.toList.reverse; Builtin.List.listExtendWith (.ref s.heap.objs.size) (.ref I) .none) _ _ _;refine jp ?_;unfold Builtin.List.listItems;refine jp (Jaf hS rfl (pp ?_));show wpAny _ _ (updateSeq s.heap.objs.size (fun _=>#[]) >>= fun _=>letGo (#[]:Array Value).toList.reverse >>= fun _=>Builtin.List.listExtendWith (.ref s.heap.objs.size) (.ref I) .none) _ _ _;refine jp (wpAny_updateSeq hS rfl ?_);have hS₂:=Op (Obj.mapSeq (fun _=>(#[]:Array Value))) hS rfl;have E8:∀ b o,s.heap.get? b=some o->((s.heap.push { cls:=.type "list",data:=.seq #[] }).update s.heap.objs.size (Obj.mapSeq (fun _=>(#[]:Array Value)))).get? b=some o :=
  fun b o e=>(GT _ _ (Ja7 (sw e))).trans (kt _ e)
 refine jp (wpAny_letGo ?_);refine Tu (A:=A.in1) hh (hit.at fun o e=>E8 _ o e) (hl.at fun o e=>E8 _ o e) dS (Ja7 hIlt) (Ja7 hllt) hn hS₂ fun h' tk acc' c' hk hS' ff=>?_;exact ⟨rfl,hQ h' tk acc' c' (fun b o hb e=>hk b o (ww (sw e)) hb (E8 b o e)) hS' ff⟩
end
section
variable {X:Cx}
def Dw (K:PySem.W.Frag) (te:TE):TE:=fun σ H Q=>te σ H fun x H1=>∃ p ys,x=.ref p/\aD K H1 p ys/\∀ l,H1 l=none->Q (.ref l) (upd H1 l (.lst ys.reverse))
def T2 {e:Expr} {te:TE} {p q pos qos:Pos} (hc:X.calm=true) (hg:Gl X "list") (hm:X.mg "list" = none) (Gk:Gl X "reversed") (rM:X.mg "reversed" = none) (he:PE X e te) (hs:starEach [e] X.env=[(false,eval e X.env)]:=by rfl) :
  PE X (.Call (.Name "list" p) [.Call (.Name "reversed" q) [e] [] qos] [] pos) (Dw X.K te):=by
 intro pins s σ H Q I h;refine GE (oU (u:=.type "list") I hg hm (by kernel_rfl) ?_);refine SC ?_;show wpAny _ _ (spliced ((false,eval (.Call (.Name "reversed" q) [e] [] qos) X.env)::backTo pos (starEach [] X.env))) _ _ s;refine Ty ?_;refine GE (oU (u:=.type "reversed") I Gk rM (by kernel_rfl) ?_);refine SC ?_ (by rw [hs]; rfl) (by rfl);rw [hs];show wpAny _ _ (spliced ((false,eval e X.env)::backTo qos [])) _ _ s;refine Ty (aF (he pins s σ H _ I h) fun u s1 ⟨x,H1,I1,rx,a,ys,ex,hl,q⟩=>WP ?_);subst ex;cases (show u=Value.ref a from rx);obtain ⟨aj,r',pl,hz⟩:=I1.list hl;have hlen:=r'.length;obtain ⟨oa,hoa,_⟩:=pl.isList;have halt:a < s1.heap.objs.size:=sw hoa;refine call_reversed_list pl.isList ?_;refine WP ?_;refine Vo (I1.ok.hd hc) (l:=a) (items:=aj.toArray) ⟨_,tz _ rfl,rfl,rfl⟩ (pl.isList.at fun o e=>kt _ e) (ww halt) (by rw [sB,<- hlen]; exact hz) fun h' tk acc c hk hD ff=>?_;have kp:∀ b o,s1.heap.get? b=some o->h'.get? b=some o:=fun b o e=>hk b o (ww (sw e)) (kt _ e);have hsz:s1.heap.objs.size<=(s1.heap.push (revObj a ((aj.toArray.size:Int) - 1))).objs.size:=by rw [Tm]; exact _3 _
 have hv:Vals ys.reverse acc.toList:=by
  have ha:acc.size=aj.length:=by rw [ff.1,sB]
  refine Br (by rw [Ja5,hlen,<- ha]; exact LE.symm) fun i v u h1 h2=>?_;have hu:=ff.2 i u (by rw [<- No]; exact h2);have hi:i < ys.length:=by have:=(lm.mp h1).1; rwa [Ja5] at this
  rw [List.getElem?_reverse hi] at h1;obtain ⟨w,hw,rw'⟩:=r'.get h1;rw [List.getElem?_toArray,sB,<- hlen,hw] at hu;cases hu;exact rw'
 refine ⟨.ref _,_,I1.laid (t':=tk) kp hsz (show bM X.prog X.w _ _ _ (.lst ys.reverse) from ⟨by rw [Ja5]; exact hz,_,c,hv,by rw [_5]; exact hD⟩),rfl,q _ (I1.aB.fresh hsz)⟩
def Dv.listRev {e:Expr} {te:TE} {p q pos qos:Pos} {K:PySem.W.Frag} (hK:X.K=K) (hc:X.calm=true) (hm:X.mg "list" = none) (rM:X.mg "reversed" = none) (he:QE X e te) (hg:Gl X "list" := by rfl) (Gk:Gl X "reversed" := by rfl) (hs:starEach [e] X.env=[(false,eval e X.env)]:=by rfl) :
  QE X (.Call (.Name "list" p) [.Call (.Name "reversed" q) [e] [] qos] [] pos) (Dw K te):=hK ▸ ⟨T2 hc hg hm Gk rM he.h hs⟩
end
def ub {K:PySem.W.Frag} {x:Str} {f c P:Addr} {oc occ:Value} {od odc:Option Addr} {fd:FuncData} {sl slc:Array (Option Value)} {vs:Array Value} (n:PySem.W.nsIn K mainGlobals x=some (some (.ref f))) (l:K.lookup f=some ⟨oc,od,.func fd,sl⟩) (hc:fd.code=.ref c)
  (lc:K.lookup c=some ⟨occ,odc,.fields vs,slc⟩) (hv:vs[11]?=some (.ref P)):PySem.W.tabIn K x=some (c,P):=by
 unfold PySem.W.tabIn;simp only [n,l,hc,lc,hv]
def cF (X:Cx) (scope:Scope) (cl:List (Str×Addr)) (N:List Str) (s:Shared) (H:Hp) (ex:List Addr) (C:Addr):Cx :=
 { X with N:=N,s₀:=s,H₀:=H,env:=compEnvC scope cl C X.env,outer:=X.stack,stack:=X.stack,ex:=ex,fn:=fun _=>false,pn:=[],xe:=fun _ _=>False }
structure jI (X:Cx) (scope:Scope) (cl:List (Str×Addr)) (caps:List Str) (ix:List Nat):Prop where
 iC:closureFor scope X.env=pure cl
 sub:∀ x c,cl.lookup x=some c->X.env.cells.lookup x=some c
 has:∀ y,((relabel scope X.env).names.lookup y=some .cell\/(relabel scope X.env).names.lookup y=some .free)->∃ c,cl.lookup y=some c
 len:ix.length=caps.length
 at':∀ (i j:Nat),ix[i]?=some j->∃ x,caps[i]?=some x/\X.N[j]?=some x/\X.env.scope.names.lookup x=some .cell/\(relabel scope X.env).names.lookup x=some .cell/\cl.lookup x=X.env.cells.lookup x
def jI.of {X:Cx} {scope:Scope} {cl:List (Str×Addr)} {caps:List Str} {ix:List Nat} (iC:closureFor scope X.env=pure cl) (sub:eU (fun e:Str×Addr=>X.env.cells.lookup e.1=some e.2) cl)
  (has:eU (fun e:Str×NameKind=>(e.2=.cell\/e.2=.free)->∃ c,cl.lookup e.1=some c) (relabel scope X.env).names) (len:ix.length=caps.length)
  (at':eU (fun e:Nat×Str=>X.N[e.1]?=some e.2/\X.env.scope.names.lookup e.2=some .cell/\(relabel scope X.env).names.lookup e.2=some .cell/\cl.lookup e.2=X.env.cells.lookup e.2) (ix.zip caps)):jI X scope cl caps ix where
 iC:=iC
 sub:=fun x c h=>eU.mem sub _ (Da h)
 has:=fun y hy=>by
  rcases hy with h | h
  ·exact eU.mem has _ (Da h) (.inl rfl)
  ·exact eU.mem has _ (Da h) (.inr rfl)
 len:=len
 at':=fun i j h=>by
  have hi:=(lm.mp h).1;have hi':i < caps.length:=len ▸ hi;have hm:(j,caps[i])∈ix.zip caps:=by
   refine _U.mpr ⟨i,?_⟩;rw [_A];exact ⟨h,mo hi'⟩
  have z:=eU.mem at' _ hm;exact ⟨caps[i],mo hi',z⟩
def nT (n:Nat) (ix:List Nat) (wi:TI) (g:TG) (tt:TT) (te:TE):TE:=fun σ H Q=>∃ vs,om ix σ vs/\wi σ H fun J H1=>∃ W:Nat->List V->Nat->Hp->Prop,(∃ m,W 0 [] m H1)/\∀ i ys m H,W i ys m H ->
 ys.length<=sizeLine/\((J.stop i H/\∀ l,H l=none->Q (.ref l) (upd H l (.lst ys))) \/
  (J.go i H/\ys.length < sizeLine/\∀ y H',J.k8 i H y H'->∀ σ0:St,σ0.length=n->g y (σ0++vs.map some) H' fun σ1 H1=>(∃ σ2:St,σ1=σ2++vs.map some/\σ2.length=n) /\
   tt σ1 H1 fun c H2=>if c=true then te σ1 H2 fun z H3=>∃ m',m' < m/\W (i+1) (ys++[z]) m' H3 else ∃ m',m' < m/\W (i+1) ys m' H2))
section
variable {X:Cx}
def S0 {pins:List (Addr×Obj)} {σ:St} {H:Hp} {s s4:Shared} {scope:Scope} {cl:List (Str×Addr)} {TN caps:List Str} {ix:List Nat} {vs:List V} {fp:List Addr} {C:Addr} {m:Str->Option Value} (I:Inv X pins σ H s) (CC:jI X scope cl caps ix) (hv:om ix σ vs) (hf:∀ b∈fp,kD X pins H b) (bD:∀ b∈fp,b < s.heap.objs.size)
  (hk:scope.kind=.function) (hC:s.heap.objs.size<=C)
  (hos:s4.os=s.os) (hgen:s4.gens=s.gens) (old:∀ b o,s.heap.get? b=some o->s4.heap.get? b=some o) (eJ:s4.heap.Ns C m):Inv (cF X scope cl (TN++caps) s H fp C) [] ((TN.map fun _=>none)++vs.map some) H s4:=by
 refine ⟨⟨I.ok.mod,hk,I.ok.glob,I.ok.blt,hC,fun x y c e1 e2=>I.ok.inj x y c (CC.sub x c e1) (CC.sub y c e2),fun y hy=>CC.has y hy,fun _ _ e=>(by cases e),I.ok.hd,I.ok.frames,.inl rfl,fun b hb=>⟨ww (ul (bD b hb) hC),fun x c e=>(hf b hb).2.2.2.2.1 x c (CC.sub x c e)⟩,
  fun b o e=>I.bs b o e,wf I.ok.gI I.sz,fun b o e hb=>?_,fun b hb hm=>?_,I.stack,I.wm⟩,
  hos,by rw [hgen]; exact I.bare,Un.kept old,⟨m,eJ,fun i y v e1 e2 _=>?_⟩,fun x c e=>?_,I.aB.fresh hC,fun x c e=>I.e9 x c (CC.sub x c e),fun p hp=>absurd (show p∈([]:List (Addr×Obj)) from hp) (by simp),I.aB.kept old,?_⟩
 ·rcases (hf b hb).2.2.2.1 with z | z
  ·exact I.ok.lX b o e z
  ·exact absurd (ul (ul (sw e) I.ok.gI) z) (Id _)
 ·rcases li.mp (I.va b hm) with z | z
  ·exact (hf b hb).2.1 z
  ·exact (hf b hb).2.2.1 z
 ·have e1':(TN++caps)[i]?=some y:=e1;have e2':((TN.map fun _=>(none:Option V))++vs.map some)[i]?=some (some v):=e2;by_cases hi:i < TN.length
  ·rw [Fk (by simpa using hi),xL] at e2';cases h:TN[i]? <;> rw [h] at e2' <;> simp at e2'
  ·rw [Do (by omega)] at e1';rw [Do (by simpa using Nat.not_lt.mp hi),nn,xL] at e2';have ev:vs[i - TN.length]?=some v:=by
    cases h:vs[i - TN.length]? with
    | none=>rw [h] at e2'; cases e2'
    | some a=>rw [h] at e2'; cases e2'; rfl
   have hlt':i - TN.length < ix.length:=by
    rw [<- hv.1]; exact (lm.mp ev).1
   obtain ⟨x,c1,c2,c3,c4,c5⟩:=CC.at' _ _ (mo hlt');rw [e1'] at c1; cases c1;have hσ:=hv.2 _ _ v (mo hlt') ev;obtain ⟨m0,_,hl⟩:=I.loc;obtain ⟨u,ru,lk⟩:=hl _ y v c2 hσ (.inr (.inl c3));rcases lk with ⟨k1,_⟩ | ⟨_,c,k2,o,k3,k4⟩
   ·have:X.env.scope.names.lookup y=some .local:=k1;rw [c3] at this; cases this
   ·exact ⟨u,ru,.inr ⟨.inl c4,c,by show cl.lookup y=some c; rw [c5]; exact k2,o,old _ _ k3,k4⟩⟩
 ·obtain ⟨v,o,e1,e2⟩:=I.cell x c (CC.sub x c e);exact ⟨v,o,old _ _ e1,e2⟩
 ·show ((TN.map fun _=>(none:Option V))++vs.map some).length=(TN++caps).length;rw [sK,sK,nn,nn,hv.1,CC.len]
def Ij {elt iter:Expr} {ifs:List Expr} {tg:Expr} {g:TG} {TN caps:List Str} {ix:List Nat} {cl:List (Str×Addr)} {pos:Pos} {scope:Scope} {wi:TI} {tt:TT} {te:TE} (hc:X.calm=true) (hi:PI X tg iter wi)
  (ht:∀ s H ex C,rf (cF X scope cl (TN++caps) s H ex C) ifs tt) (gT:∀ s H ex C,PG (cF X scope cl (TN++caps) s H ex C) tg g) (he:∀ s H ex C,PE (cF X scope cl (TN++caps) s H ex C) elt te) (CC:jI X scope cl caps ix)
  (hk:scope.kind=.function) (fc:∀ y∈scope.names,y.2≠.cell)
  {pins:List (Addr×Obj)} {s:Shared} {σ:St} {H:Hp} {Q:VK} {RR:Value->Addr->Result->Shared->Prop} (I:Inv X pins σ H s) (h:nT TN.length ix wi g tt te σ H Q)
  (FG:∀ (a C:Addr) (s6:Shared) (H6:Hp),Inv X pins σ H6 s6->(∃ m,s6.heap.Ns C m)->Ci X pins H6 C->Q (.ref a) H6->RR (.ref a) C (.ok .next) s6) :
  wpAny (model X.prog X.w) X.A (eval iter X.env) (fun v s1=>wpAny (model X.prog X.w) X.A (pyIter v) (fun it s2=>wpAny (model X.prog X.w) X.A (newList []) (fun acc s3 =>
   wpAny (model X.prog X.w) X.A (newFunctionEnv scope X.env.globals cl [] X.env.qual none .none (some X.env)) (fun OF s4 =>
    codeAny (model X.prog X.w) X.A (.compStart (.ListComp elt [⟨tg,iter,ifs,0⟩] scope pos) 0 it acc { OF with scope:=relabel scope X.env }) (RR acc OF.locals) s4) X.xe s3) X.xe s2) X.xe s1) X.xe s:=by
 obtain ⟨vs,hvs,h⟩:=h;refine aF (hi pins s σ H _ I h) fun v s1 h1=>aF h1 fun Fe s2 h2=>?_;obtain ⟨it,fp,tn,J,H2,rfl,I2,T,j4,f2,W,⟨m0,w0⟩,turn⟩:=h2;have bD:∀ b∈fp,b < s2.heap.objs.size:=fun b hb=>let ⟨o,e,_⟩:=T.obj _ _ j4 b hb; sw e
 refine _r (wpAny_newFunctionEnv fc (by intro y hy; simp at hy) (fun h1 hns1 hsb1=>?_) hk);dsimp only at hns1 hsb1 ⊢;generalize Fg:s2.heap.push { cls:=.type "list",dict:=none,data:=.seq ([]:List Value).toArray }=G at hns1 hsb1 ⊢;have hG:G.objs.size=s2.heap.objs.size+1:=by rw [<- Fg,Tm]
 have y2:s2.heap.objs.size≠G.objs.size:=by rw [hG]; exact ww (KM _)
 have o8:s2.heap.objs.size<=G.objs.size:=by rw [hG]; exact _3 _
 have old:∀ b o,s2.heap.get? b=some o->h1.get? b=some o:=fun b o e=>by
  exact hsb1.extBut b o (ww (ul (sw e) o8)) (kt _ (Fg ▸ kt _ e))
 have accO:h1.get? s2.heap.objs.size=some { cls:=.type "list",dict:=none,data:=.seq ([]:List Value).toArray } :=
  hsb1.extBut _ _ y2 (kt _ (Fg ▸ tz _ rfl))
 -- j6 state at j6 block's entry
 have main:∀ s4:Shared,s4={ s2 with heap:=h1,toks:=s2.toks+([]:List (Str×Value)).length } ->
   codeAny (model X.prog X.w) X.A (.compLoop (.ListComp elt [⟨tg,iter,ifs,0⟩] scope pos) 0 (.ref it) (.ref s2.heap.objs.size) (compEnvC scope cl G.objs.size X.env))
    (RR (.ref s2.heap.objs.size) G.objs.size) s4:=by
  rintro s4 rfl;have I4:Inv (cF X scope cl (TN++caps) s2 H2 fp G.objs.size) [] ((TN.map fun _=>none)++vs.map some) H2 { s2 with heap:=h1,toks:=s2.toks+([]:List (Str×Value)).length } :=
   S0 I2 CC hvs f2 bD hk o8 rfl rfl old hns1
  have Fb:∀ {H':Hp} {pl:List (Addr×Obj)},(∀ b∈fp,H' b=none)->(∀ p∈pl,p.1 ∉ fp)->∀ b∈fp,kD (cF X scope cl (TN++caps) s2 H2 fp G.objs.size) pl H' b:=fun hn hp b hb =>
   ⟨hn b hb,ww (ul (bD b hb) o8),I4.ok.lZ b hb,.inl hb,fun x c e=>(f2 b hb).2.2.2.2.1 x c (CC.sub x c e),fun p hp' e=>hp p (by simpa [cF] using hp') (e ▸ hb)⟩
  have OL:s2.heap.objs.size ∉ fp:=fun z=>Id _ (bD _ z);refine TJ (fun n s'=>∃ (i:Nat) (ys:List V) (aj:List Value) (k:Nat) (σ':St) (H':Hp),(∃ σ0:St,σ'=σ0++vs.map some/\σ0.length=TN.length)/\Inv (cF X scope cl (TN++caps) s2 H2 fp G.objs.size) [] σ' H' s'/\tn i s'.heap/\(∀ b∈fp,H' b=none)/\H' s2.heap.objs.size=none/\Vals ys aj /\
   s'.heap.get? s2.heap.objs.size=some { cls:=.type "list",dict:=none,data:=.seq aj.toArray k }/\W i ys n H') (fun _ _ _=>trivial) ?_ m0
   ⟨0,[],[],0,_,H2,⟨_,rfl,by simp⟩,I4,T.keep _ _ _ j4 (fun b _ o e=>old b o e),fun b hb=>(f2 b hb).1,I2.aB.fresh (ss _),.nil,accO,w0⟩
  rintro n s5 ⟨i,ys,aj,k,σ5,H5,⟨σ0,hq5,hσ⟩,I5,rR,yx,yu,rv,ea,w5⟩;subst hq5;have Ip:Inv (cF X scope cl (TN++caps) s2 H2 fp G.objs.size) [(s2.heap.objs.size,{ cls:=.type "list",dict:=none,data:=.seq aj.toArray k })] (σ0++vs.map some) H5 s5:=I5.sO fun p hp=>by
   have e:p=(s2.heap.objs.size,{ cls:=.type "list",dict:=none,data:=.seq aj.toArray k }):=by simpa using hp
   subst e;refine ⟨ea,yu,y2,fun z=>?_,fun v z=>by cases z⟩;exact I2.Hf (ss _) (by
    have hz:s2.heap.objs.size∈bQ X.stack:=z;rcases li.mp (I2.va _ hz) with q | q
    ·exact absurd I2.lt (by rw [<- q]; exact Id _)
    ·exact q)
  have F8:∀ p∈[((s2.heap.objs.size,{ cls:=.type "list",dict:=none,data:=.seq aj.toArray k }):Addr×Obj)],p.1 ∉ fp:=fun p hp=>by
   have e:p=(s2.heap.objs.size,{ cls:=.type "list",dict:=none,data:=.seq aj.toArray k }):=by simpa using hp
   subst e; exact OL
  obtain ⟨hyl,alt⟩:=turn i ys n H5 w5;rcases alt with ⟨stop,qn⟩ | ⟨go,hys,step⟩
  ·refine aF (T.done (cF X scope cl (TN++caps) s2 H2 fp G.objs.size) rfl rfl rfl hc i _ s5 (σ0++vs.map some) H5 (fun _ _=>False) Ip (Fb yx F8) rR stop) fun r s6 ⟨hr,I6⟩=>?_;subst hr;have ea6:=(I6.pin (s2.heap.objs.size,{ cls:=.type "list",dict:=none,data:=.seq aj.toArray k }) (wE _ (AT.mpr rfl))).1;obtain ⟨m,Pd,_⟩:=I6.loc;have hC6:H5 G.objs.size=none:=I6.free;have lt2:∀ b o,s2.heap.get? b=some o->b≠s2.heap.objs.size:=fun b o e=>ww (sw e);have Iout:Inv X pins σ (upd H5 s2.heap.objs.size (.lst ys)) s6:=by
    refine I2.KU (s':=s6) (ch:=fp) I6.os ⟨fun b o e n hb hx=>?_,fun b o e n hb hx=>?_,fun b o e n hx=>?_,fun b o e hx=>?_,fun b xs e=>?_,fun b o u e=>?_,fun b ps e=>?_⟩ ?_ I6.bare fun b hb=>?_
    ·exact I6.base.keep b o e n hb hx
    ·exact I6.base.slot b o e n hb hx
    ·rw [ah (lt2 b o e)]; exact I6.base.free b o e n hx
    ·exact I6.base.there b o e hx
    ·rw [ah (fW e (I2.aB.fresh (ss _)))]; exact I6.base.gf b xs e
    ·rw [ah (fW e (I2.aB.fresh (ss _)))]; exact I6.base.fG b o u e
    ·obtain ⟨more,e1⟩:=I6.base.f6 b ps e;exact ⟨more,by rw [ah (fW e (I2.aB.fresh (ss _)))]; exact e1⟩
    ·intro b u e;by_cases hb:b=s2.heap.objs.size
     ·subst hb;rw [ax] at e;cases e;exact ⟨hyl,aj,k,rv,ea6⟩
     ·rw [ah hb] at e;exact (I6.aB b u e).gi (fun c v _ q=>q) (fun c q=>by rw [ah (fW q yu)]; exact q) fun c xs q=>by rw [ah (fW q yu)]; exact q
    ·obtain ⟨g1,g2,g3,g4,g5,g6⟩:=f2 b hb;exact ⟨g4,g2,g5,g6⟩
   refine FG _ _ s6 _ Iout ⟨m,Pd⟩ ⟨by rw [ah (pi y2)]; exact hC6,?_,?_,fun y c e z=>?_,fun p hp z=>?_⟩ (qn _ yu)
   ·exact Ja7 (ul I2.lt o8)
   ·exact wf I2.sz o8
   ·obtain ⟨v',q⟩:=I2.cell y c e;exact absurd (ul q.lt o8) (by rw [z]; exact Id _)
   ·exact absurd (ul (sw (I2.pin p hp).1) o8) (by rw [z]; exact Id _)
  ·refine aF (T.item (cF X scope cl (TN++caps) s2 H2 fp G.objs.size) rfl rfl rfl hc i _ s5 (σ0++vs.map some) H5 (fun _ _=>False) Ip (Fb yx F8) rR go) fun r s6 ⟨u,hr,h6⟩=>?_;subst hr;refine aF h6 fun _ s7 ⟨y,H7,I7,ry,y7,EL,fr7⟩=>?_;have I7':=I7.pinned (Fb fr7 F8) (T.obj _ _ EL);refine aF (gT _ _ _ _ _ s7 (σ0++vs.map some) H7 y u _ I7' ry (step y H7 y7 σ0 hσ)) fun _ s8 ⟨σ8,H8,I8,NP,q8⟩=>?_;refine aF (ht _ _ _ _ _ s8 σ8 H8 _ I8 q8) fun ok s9 ⟨H9,I9,q9⟩=>?_
   -- what is pinned stays
   have NK:∀ {s':Shared} {H':Hp},Inv (cF X scope cl (TN++caps) s2 H2 fp G.objs.size) ([(s2.heap.objs.size,{ cls:=.type "list",dict:=none,data:=.seq aj.toArray k })]++ug fp s7.heap) σ8 H' s' ->
     tn (i+1) s'.heap/\(∀ b∈fp,H' b=none)/\H' s2.heap.objs.size=none/\s'.heap.get? s2.heap.objs.size=some { cls:=.type "list",dict:=none,data:=.seq aj.toArray k }:=fun {s' H'} J'=>by
    refine ⟨T.keep _ _ _ EL fun b hb o e=>(J'.pin (b,o) (wE _ (wE _ (yg hb e)))).1,fun b hb=>?_,(J'.pin (s2.heap.objs.size,{ cls:=.type "list",dict:=none,data:=.seq aj.toArray k }) (wE _ (Pi _ (AT.mpr rfl)))).2.1,(J'.pin (s2.heap.objs.size,{ cls:=.type "list",dict:=none,data:=.seq aj.toArray k }) (wE _ (Pi _ (AT.mpr rfl)))).1⟩;obtain ⟨o,e,_⟩:=T.obj _ _ EL b hb;exact (J'.pin (b,o) (wE _ (wE _ (yg hb e)))).2.1
   cases ok with
   | false =>
    obtain ⟨m',hm,w'⟩:=q9;obtain ⟨k1,k2,k3,k4⟩:=NK I9;exact ⟨m',hm,i+1,ys,aj,k,σ8,H9,NP,I9.sO (pins':=[]) (fun _ hp=>nomatch hp),k1,k2,k3,rv,k4,w'⟩
   | true =>
    refine aF (he _ _ _ _ _ s9 σ8 H9 _ I9 q9) fun zv pL ⟨z,rK,Pj,rz,rp⟩=>?_;obtain ⟨m',hm,w'⟩:=rp;obtain ⟨k1,k2,k3,k4⟩:=NK Pj;have hl:=rv.length;refine P3 F.slot_list_append ⟨_,k4,rfl⟩ F.entry_list_append (F.args_list_append_2 _ _) (PySem.list_append s2.heap.objs.size aj.toArray k zv (by rw [sB]; omega)) ⟨k4,?_⟩;have q:=PySem.IsL.update k4 (·.push zv);have ip:aj.toArray.push zv=(aj++[zv]).toArray:=by simp
    rw [ip] at q;have I11:Inv (cF X scope cl (TN++caps) s2 H2 fp G.objs.size) [] σ8 rK pL:=Pj.sO (pins':=[]) (fun _ hp=>nomatch hp);refine ⟨m',hm,i+1,ys++[z],aj++[zv],_,σ8,rK,NP,I11.turned (t':=pL.toks) (it:=s2.heap.objs.size) (fun b o hb e=>(GT pL.heap _ (pi hb)).trans e) k3 y2 (.inr (ss _)) (fun x c e z=>by obtain ⟨v',q⟩:=I2.cell x c (CC.sub x c e); exact absurd q.lt (by rw [z]; exact Id _)) (fun p hp=>absurd (show p∈([]:List (Addr×Obj)) from hp) (by simp)),
     T.keep _ _ _ k1 fun b hb o e=>(GT pL.heap _ (fun z=>OL (by rw [z]; exact hb))).trans e,k2,k3,rv.append (.cons rz .nil),q,w'⟩
 exact codeAny_compStart_list (main _ rfl) (T.self _ 0 _ _ _ (T.keep _ _ _ j4 fun b _ o e=>old b o e) (main _ rfl))
def aa8 {elt iter:Expr} {ifs:List Expr} {tg:Expr} {g:TG} {TN caps:List Str} {ix:List Nat} {cl:List (Str×Addr)} {pos:Pos} {scope:Scope} {wi:TI} {tt:TT} {te:TE} (hc:X.calm=true) (hi:PI X tg iter wi)
  (ht:∀ s H ex C,rf (cF X scope cl (TN++caps) s H ex C) ifs tt) (gT:∀ s H ex C,PG (cF X scope cl (TN++caps) s H ex C) tg g) (he:∀ s H ex C,PE (cF X scope cl (TN++caps) s H ex C) elt te) (CC:jI X scope cl caps ix)
  (hk:scope.kind=.function:=by rfl) (cw:∀ y∈scope.names,y.2=.local->scope.names.lookup y.1=some .local:=by decide +kernel) (fc:∀ y∈scope.names,y.2≠.cell:=by decide +kernel)
  (hs:∀ x,foldedSetIterable iter X.env x=pure x:=by intro _; rfl):PE X (.ListComp elt [⟨tg,iter,ifs,0⟩] scope pos) (nT TN.length ix wi g tt te):=by
 intro pins s σ H Q I h;rw [eval_ListComp];refine wpAny_comprehension_free (use:=none) (cl:=cl) rfl hs CC.iC hk cw ?_;refine Ij (RR:=fun acc C=>compPost (model X.prog X.w) X.A X.xe none (EP X pins σ Q) acc C) hc hi ht gT he CC hk fc I h ?_;intro a C s6 H6 I6 hm o q;obtain ⟨m,hn⟩:=hm;exact ⟨m,hn,fun h' nu=>⟨.ref a,H6,o.go I6 nu,rfl,q⟩⟩
def U6 {elt iter:Expr} {ifs:List Expr} {tg:Expr} {g:TG} {TN caps:List Str} {ix:List Nat} {cl:List (Str×Addr)} {y:Str} {i:Nat} {py pos spos:Pos} {scope:Scope} {wi:TI} {tt:TT} {te:TE} (hc:X.calm=true) (hN:X.N.Nodup) (vJ:X.N[i]?=some y) (rV:X.env.scope.names.lookup y=some .local) (hi:PI X tg iter wi)
  (ht:∀ s H ex C,rf (cF X scope cl (TN++caps) s H ex C) ifs tt) (gT:∀ s H ex C,PG (cF X scope cl (TN++caps) s H ex C) tg g) (he:∀ s H ex C,PE (cF X scope cl (TN++caps) s H ex C) elt te) (CC:jI X scope cl caps ix)
  (vp:swapsWith (.ListComp elt [⟨tg,iter,ifs,0⟩] scope pos) (some (.Name y py)) spos.line X.env=pure true:=by rfl)
  (hk:scope.kind=.function:=by rfl) (cw:∀ y∈scope.names,y.2=.local->scope.names.lookup y.1=some .local:=by decide +kernel) (fc:∀ y∈scope.names,y.2≠.cell:=by decide +kernel)
  (hs:∀ x,foldedSetIterable iter X.env x=pure x:=by intro _; rfl):PS X (.Assign [.Name y py] (.ListComp elt [⟨tg,iter,ifs,0⟩] scope pos) spos) (mR (nT TN.length ix wi g tt te) (fV i)):=by
 intro pins s σ H D I h;rw [exec_Assign_Name_used _ _ _ _ vp];refine jp (_2 (jp ?_));refine jp (IO (wpAny_comprehension_free (e:=.ListComp elt [⟨tg,iter,ifs,0⟩] scope pos) (use:=some (assign (.Name y py) X.env)) (cl:=cl) (Q:=fun _ s'=>SP X pins D .next s') rfl hs CC.iC hk cw
  (Ij (RR:=fun acc C=>compPost (model X.prog X.w) X.A X.xe (some (assign (.Name y py) X.env)) (fun _ s'=>SP X pins D .next s') acc C) hc hi ht gT he CC hk fc I h ?_)) (fun _ s' hq=>pp (pp hq)) fun _ _ e=>e)
 intro a C s6 H6 I6 hm o q;obtain ⟨m,hn⟩:=hm;refine (show wpAny (model X.prog X.w) X.A (assign (.Name y py) X.env (.ref a)) _ X.xe s6 from ?_);refine wpAny_assign_Name (LI I6 hN vJ (.inl rV) (v:=.ref a) rfl (fun s' I' nu=>?_) (.inr rV));obtain ⟨b,nu,hb⟩:=nu;have nb:C≠b:=by
  rcases hb with z | z
  ·rw [z]; exact o.nl
  ·exact fun e=>o.nc y b z e.symm
 exact ⟨m,hn.sameBut nu nb,fun h' hs'=>⟨_,H6,o.go I' hs',q⟩⟩
end
namespace Dv
section
variable {X:Cx}
def B7 {elt iter tg:Expr} {g:TG} {ifs:List Expr} {TN caps:List Str} {ix:List Nat} {cl:List (Str×Addr)} {pos:Pos} {scope:Scope} {wi:TI} {tt:TT} {te:TE} (hc:X.calm=true) (hi:QI X tg iter wi)
  (ht:∀ s H ex C,pS (cF X scope cl (TN++caps) s H ex C) ifs tt) (gT:∀ s H ex C,QG (cF X scope cl (TN++caps) s H ex C) tg g) (he:∀ s H ex C,QE (cF X scope cl (TN++caps) s H ex C) elt te) (CC:jI X scope cl caps ix)
  (hk:scope.kind=.function:=by rfl) (cw:∀ y∈scope.names,y.2=.local->scope.names.lookup y.1=some .local:=by decide +kernel) (fc:∀ y∈scope.names,y.2≠.cell:=by decide +kernel)
  (hs:∀ x,foldedSetIterable iter X.env x=pure x:=by intro _; rfl):QE X (.ListComp elt [⟨tg,iter,ifs,0⟩] scope pos) (nT TN.length ix wi g tt te):=⟨aa8 hc hi.h (fun s H ex C=>(ht s H ex C).h) (fun s H ex C=>(gT s H ex C).h) (fun s H ex C=>(he s H ex C).h) CC hk cw fc hs⟩
def BD (i:Nat) {elt iter tg:Expr} {g:TG} {ifs:List Expr} {TN caps:List Str} {ix:List Nat} {cl:List (Str×Addr)} {y:Str} {py pos spos:Pos} {scope:Scope} {wi:TI} {tt:TT} {te:TE} (hc:X.calm=true) (hN:X.N.Nodup) (hi:QI X tg iter wi)
  (ht:∀ s H ex C,pS (cF X scope cl (TN++caps) s H ex C) ifs tt) (gT:∀ s H ex C,QG (cF X scope cl (TN++caps) s H ex C) tg g) (he:∀ s H ex C,QE (cF X scope cl (TN++caps) s H ex C) elt te) (CC:jI X scope cl caps ix) (vJ:X.N[i]?=some y:=by rfl) (rV:X.env.scope.names.lookup y=some .local:=by rfl)
  (vp:swapsWith (.ListComp elt [⟨tg,iter,ifs,0⟩] scope pos) (some (.Name y py)) spos.line X.env=pure true:=by rfl)
  (hk:scope.kind=.function:=by rfl) (cw:∀ y∈scope.names,y.2=.local->scope.names.lookup y.1=some .local:=by decide +kernel) (fc:∀ y∈scope.names,y.2≠.cell:=by decide +kernel)
  (hs:∀ x,foldedSetIterable iter X.env x=pure x:=by intro _; rfl):QS X (.Assign [.Name y py] (.ListComp elt [⟨tg,iter,ifs,0⟩] scope pos) spos) (mR (nT TN.length ix wi g tt te) (fV i)):=⟨U6 hc hN vJ rV hi.h (fun s H ex C=>(ht s H ex C).h) (fun s H ex C=>(gT s H ex C).h) (fun s H ex C=>(he s H ex C).h) CC vp hk cw fc hs⟩
end
end Dv
section
variable {X:Cx}
end
def L7 {σ:St} (h:σ.length=1):∃ a,σ=[a]:=by
 match σ,h with
 | [a],_=>exact ⟨a,rfl⟩
def fm {f:Str} {v u:V}:∀ {fs:List (Str×V)},fs.lookup f=some u->(aA f v fs).length=fs.length
 | (g,x)::r,h=>by
  rw [show aA f v ((g,x)::r)=(if g=f then (g,v)::r else (g,x)::aA f v r) from rfl];by_cases e:g=f
  ·rw [wT e]; rfl
  ·rw [wS e];have hb:(f == g)=false:=Ch.mpr (pi e);have h':r.lookup f=some u:=by simpa [List.lookup,hb] using h
   rw [Ev,fm h']; rfl
def ze (r:V->List V->Hp->VK->Prop) (to:TE):TE:=fun σ H Q=>to σ H fun x H1=>match x with
 | .ref l=>(match H1 l with
  | some (.lst _)=>r (.ref l) [] H1 Q
  | _=>False)
 | _=>False
section
variable {X:Cx} {name:Str} {id:String} {r:V->List V->Hp->VK->Prop} {o:Expr} {to:TE} {apos bE:Pos}
def WI (slot:Slot "list" name id) (cI:typeOf (.builtin id)=pure (.type "method_descriptor")) (hm:dP X id r) (ho:PE X o to)
  (jg:attributeBase o name X.env (eval o X.env)=eval o X.env:=by rfl) (jn:(apos.endLine == bE.line)=true:=by rfl):PE X (.Call (.Attribute o name apos) [] [] bE) (ze r to):=by
 intro pins s σ H Q I h;refine wpAny_Call_method0_late jg jn (aF (ho pins s σ H _ I h) fun v s1 ⟨x,H1,I1,r1,q1⟩=>?_);dsimp only at q1;split at q1
 ·rename_i l;split at q1
  ·rename_i zs el;obtain ⟨h1,h2⟩:=Dm (T := "list") I1 r1 (.inl ⟨rfl,zs,aD.of el⟩);exact ⟨"list",id,PySem.F.plainAttrs_list,slot,cI,h1,h2,_m rfl (PySem.evalArgs_none (hm pins s1 σ H1 (.ref l) [] v [] Q I1 r1 .nil q1))⟩
  ·exact q1.elim
 ·exact q1.elim
def Dv.K5 (slot:Slot "list" name id) (cI:typeOf (.builtin id)=pure (.type "method_descriptor")) (hm:dP X id r) (ho:QE X o to)
  (jg:attributeBase o name X.env (eval o X.env)=eval o X.env:=by rfl) (jn:(apos.endLine == bE.line)=true:=by rfl):QE X (.Call (.Attribute o name apos) [] [] bE) (ze r to):=⟨WI slot cI hm ho.h jg jn⟩
end
def ao.fZ {H H1:Hp} {l:Addr} {o:HO} (s:ao H H1) (hl:H l=none):ao H (L2.upd H1 l o):=fun b u e=>by
 rw [ah (fun z=>by rw [z,hl] at e; cases e)]; exact s b u e
def mz.m {P:Program} {w:World} {K:PySem.W.Frag} {mg:Str->Option Value} {base:Heap} {k:Nat} {s1:Shared} {B:Addr->Prop} {f:Addr} {cu:fb} (D:mz P w K mg base k s1 B f cu) :
  mz P w K mg base k s1 B f (fun H Q E=>∃ (Q0:VK) (E0:XK),cu H Q0 E0/\(∀ v H',Q0 v H'->Q v H')/\∀ C od H',E0 C od H'->E C od H') :=
 fun A outer s H Q E hr e0 hk ⟨Q0,E0,hw,hq,he⟩=>_k (D A outer s H Q0 E0 hr e0 hk hw) fun r s' z=>by
  cases r with
  | error e =>
   obtain ⟨ea,C,od,H',e1,F,z⟩:=z;exact ⟨ea,C,od,H',e1,F,he _ _ _ z⟩
  | ok fl =>
   cases fl with
   | ret u =>
    obtain ⟨v,H',z1,z2,z3,z4,z5,z6⟩:=z;exact ⟨v,H',z1,z2,z3,z4,z5,hq _ _ z6⟩
   | next=>exact z
   | brk=>exact z
   | cont=>exact z
def oM.J2 {P:Addr} {q:Str} {c:Addr} {H H1:Hp} (L:oM P q c H H1):∀ b o,b≠P->H b=some o->H1 b=some o:=fun b o hb e=>by
 by_cases hc:b=c
 ·rcases L.old with h | h
  ·rw [hc,h] at e; cases e
  ·rw [h]; exact e
 ·rw [L.rest b hb hc]; exact e
section
variable {X:Cx}
def BK:List V->Hp->VK->Prop:=fun xs H Q=>match xs with
 | [.bl b]=>Q (.int (if b then 1 else 0)) H
 | _=>False
def LM:cM X (.type "int") BK:=by
 intro pins s σ H xs us Q I r h;unfold BK at h;split at h
 ·rename_i b;obtain ⟨u,rfl,rx⟩:=vals1 r;cases rx;exact call_int_bool ⟨.int (if b then 1 else 0),H,I.tok _,⟨_,rfl⟩,h⟩
 ·exact h.elim
def RL:bb X (binaryOp .Pow) (qS Nc fun i j=>i ^ j.toNat):=Wn.imp fun _ _ _ _ h=>AF h
end
def DN (K:PySem.W.Frag):R2:=fun x y H Q=>match y with
 | .ref p=>∃ xs,(aD K H p xs\/bw K H p xs)/\cG x=true/\xs.all cG=true/\Q (.bl (!gJ x xs)) H
 | _=>False
def CV {X:Cx} {K:PySem.W.Frag} (h:X.K=K):bb X (compareOp .NotIn) (DN K):=h ▸ QD.imp fun x y H Q z=>by
 unfold DN at z;split at z
 ·obtain ⟨xs,z1,z2,z3,z4⟩:=z;exact ⟨_,xs,rfl,z1,z2,z3,z4⟩
 ·exact z.elim
structure FT (K:PySem.W.Frag) (mg:Str->Option Value) (x y:Str) (st:Stmt) (ps:List Str) where
 f:Addr
 d:FuncData
 F:eP K x y st f d
 m:mg x=some (.ref f)
 b:Binds K d ps []
structure MT (K:PySem.W.Frag) (C:Addr) (x y:Str) (st:Stmt) (ps:List Str) where
 f:Addr
 d:FuncData
 F:eP K x y st f d
 h:Meth K C x f
 b:Binds K d ps []
def FA (K:PySem.W.Frag) (x y:Str) (st:Stmt):Prop:=∃ (f:Addr) (oc:Value) (od:Option Addr) (kV dc pm:Value) (an:Option Addr) (cd ct:Value) (sl:Array (Option Value)),
 PySem.W.nsIn K mainGlobals x=some (some (.ref f))/\K.lookup f=some ⟨oc,od,.func (PySem.W.fnOf x y (eL st) (aR st) (aw st) .none kV dc pm an cd ct),sl⟩/\PySem.W.codeIn K cd y=true/\PySem.W.keepIn K (.ref f)=true
def MA (K:PySem.W.Frag) (C:Addr) (x y:Str) (st:Stmt):Prop:=∃ (f:Addr) (oc:Value) (od:Option Addr) (kV dc pm:Value) (an:Option Addr) (cd ct:Value) (sl:Array (Option Value)),
 PySem.W.findIn K (.ref C) x=some (some (.ref f))/\K.lookup f=some ⟨oc,od,.func (PySem.W.fnOf x y (eL st) (aR st) (aw st) .none kV dc pm an cd ct),sl⟩/\PySem.W.codeIn K cd y=true/\PySem.W.keepIn K (.ref f)=true/\PySem.W.isFn K (.ref f)=true
section
variable {K:PySem.W.Frag} {mg:Str->Option Value} {h:Heap} {C:Addr} {x y:Str} {st:Stmt} {ps:List Str}
def FA.ft (X:K.In h) (G:h.Ns mainGlobals mg) (ps:List Str) (hb:∀ (kV dc pm:Value) (an:Option Addr) (cd ct:Value) (us:List Value),us.length=ps.length->bindArgs (PySem.W.fnOf x y (eL st) (aR st) (aw st) .none kV dc pm an cd ct) ⟨us,[]⟩=pure (ps.zip us)) (a:FA K x y st):Nonempty (FT K mg x y st ps):=by
 obtain ⟨f,oc,od,kV,dc,pm,an,cd,ct,sl,n,l,c,k⟩:=a;have F:=Bg (st:=st) l c k;exact ⟨⟨f,_,F,PySem.W.mg_of X G n,F.binds hb⟩⟩
def MA.ft (ps:List Str) (hb:∀ (kV dc pm:Value) (an:Option Addr) (cd ct:Value) (us:List Value),us.length=ps.length->bindArgs (PySem.W.fnOf x y (eL st) (aR st) (aw st) .none kV dc pm an cd ct) ⟨us,[]⟩=pure (ps.zip us)) (a:MA K C x y st):Nonempty (MT K C x y st ps):=by
 obtain ⟨f,oc,od,kV,dc,pm,an,cd,ct,sl,n,l,c,k,t⟩:=a;have F:=Bg (st:=st) l c k;exact ⟨⟨f,_,F,⟨n,t,k⟩,F.binds hb⟩⟩
end
section
variable {K:PySem.W.Frag} {mg:Str->Option Value} {h:Heap} {C:Addr} {x y:Str} {st:Stmt} {ps:List Str}
def FA.mk {f:Addr} {oc:Value} {od:Option Addr} {kV dc pm:Value} {an:Option Addr} {cd ct:Value} {sl:Array (Option Value)} (n:PySem.W.nsIn K mainGlobals x=some (some (.ref f))) (l:K.lookup f=some ⟨oc,od,.func (PySem.W.fnOf x y (eL st) (aR st) (aw st) .none kV dc pm an cd ct),sl⟩) (c:PySem.W.codeIn K cd y=true) (k:PySem.W.keepIn K (.ref f)=true):FA K x y st:=⟨_,_,_,_,_,_,_,_,_,_,n,l,c,k⟩
def MA.mk {f:Addr} {oc:Value} {od:Option Addr} {kV dc pm:Value} {an:Option Addr} {cd ct:Value} {sl:Array (Option Value)} (n:PySem.W.findIn K (.ref C) x=some (some (.ref f))) (l:K.lookup f=some ⟨oc,od,.func (PySem.W.fnOf x y (eL st) (aR st) (aw st) .none kV dc pm an cd ct),sl⟩) (c:PySem.W.codeIn K cd y=true) (k:PySem.W.keepIn K (.ref f)=true) (t:PySem.W.isFn K (.ref f)=true):MA K C x y st:=⟨_,_,_,_,_,_,_,_,_,_,n,l,c,k,t⟩
def FA.gt (X:K.In h) (G:h.Ns mainGlobals mg) (hb:∀ (kV dc pm:Value) (an:Option Addr) (cd ct:Value) (us:List Value),us.length=ps.length->bindArgs (PySem.W.fnOf x y (eL st) (aR st) (aw st) .none kV dc pm an cd ct) ⟨us,[]⟩=pure (ps.zip us)) (a:FA K x y st):Nonempty (FT K mg x y st ps):=FA.ft X G ps hb a
def MA.gt (hb:∀ (kV dc pm:Value) (an:Option Addr) (cd ct:Value) (us:List Value),us.length=ps.length->bindArgs (PySem.W.fnOf x y (eL st) (aR st) (aw st) .none kV dc pm an cd ct) ⟨us,[]⟩=pure (ps.zip us)) (a:MA K C x y st):Nonempty (MT K C x y st ps):=MA.ft ps hb a
def Ri {M:MT K C "__init__" y st ps} (a:PySem.W.makesIn K C=true) (b:PySem.W.keepIn K (.ref C)=true):Mk K C M.f:=⟨a,M.h.at_,M.h.fn,b⟩
def mv {dt:Addr} {kV doc pm ag ct:Value} {an:Option Addr} {o:Obj} {n:Nat} {ds:List Value} (j:Nat) (ld:K.lookup dt=some o) (hd:o.data=.seq ds.toArray n)
  (h:∀ (dt:Addr) (kV doc pm:Value) (an:Option Addr) (ag ct:Value) (us:List Value),(us++ds.drop j).length=ps.length ->
   ∃ k,bindArgs (PySem.W.fnOf x y (eL st) (aR st) (aw st) (.ref dt) kV doc pm an ag ct) ⟨us,[]⟩=seqItems? (.ref dt) >>= k/\k (some ds.toArray)=pure (ps.zip (us++ds.drop j))) :
  Binds K (PySem.W.fnOf x y (eL st) (aR st) (aw st) (.ref dt) kV doc pm an ag ct) ps (ds.drop j):=by
 intro s us X hl;obtain ⟨k,h1,h2⟩:=h dt kV doc pm an ag ct us hl;exact BindsTo.of_defaults rfl (X _ _ ld) hd h1 h2
end
section
variable {X:Cx} {tg:Expr}
end
section
variable {X:Cx}
def So:List V->Hp->VK->Prop:=fun xs H Q=>match xs with
 | [.int a]=>a.natAbs.log2 < 1920/\Q (.str (Str.ofString (toString a))) H
 | _=>False
end
section
variable {X:Cx}
def Rb:V->List V->Hp->VK->Prop:=fun x vs H Q=>match x,vs with
 | .ref l,[.int 0]=>∃ y xs,H l=some (.lst (y::xs))/\Q y (upd H l (.lst xs))
 | _,_=>False
end
section
variable {X:Cx}
def all_true (n:Nat):(List.range n).all (fun _=>true)=true:=by rw [At]; exact fun _ _=>rfl
def Z5 (K:PySem.W.Frag) (neg:Bool):R2:=fun x y H Q=>match x,y with
 | .ref a,.ref b=>∃ xs ys:List V,(aD K H a xs/\aD K H b ys\/bw K H a xs/\bw K H b ys)/\xs.length=ys.length/\xs.all cG=true/\ys.all cG=true/\(∀ i (h1:i < xs.length) (h2:i < ys.length),fA xs[i] ys[i]=true)/\Q (.bl (!neg)) H
 | _,_=>False
def MD {v:V} (h:cG v=true):fA v v=true:=by
 cases v <;> first | rfl | (cases h; done) | simp [fA]
end
def VA {α:Type} (us ws:List α):List α:=if ws.length=1 then us++ws else []
section
variable {K:PySem.W.Frag} {x qual nm:Str} {st:Stmt} {f:Addr} {fd:FuncData} {ps:List Str} {ds:List Value}
def abc {α:Type} {a b c d:α}:VA [a,b,c] [d]=[a,b,c,d]:=rfl
end
section
variable {X:Cx}
end
def tm (J:It) (n:Nat) (vs:List V) (g:TG) (tt:TT) (te:TE) (Q:VK) (H1:Hp):Prop:=∃ W:Nat->List V->Nat->Hp->Prop,(∃ m,W 0 [] m H1)/\∀ i ys m H,W i ys m H ->
 ys.length<=sizeLine/\((J.stop i H/\∀ l,H l=none->Q (.ref l) (upd H l (.lst ys))) \/
  (J.go i H/\ys.length < sizeLine/\∀ y H',J.k8 i H y H'->∀ σ0:St,σ0.length=n->g y (σ0++vs.map some) H' fun σ1 H1=>(∃ σ2:St,σ1=σ2++vs.map some/\σ2.length=n) /\
   tt σ1 H1 fun c H2=>if c=true then te σ1 H2 fun z H3=>∃ m',m' < m/\W (i+1) (ys++[z]) m' H3 else ∃ m',m' < m/\W (i+1) ys m' H2))
def Jw {n:Nat} {ix:List Nat} {wi:TI} {g:TG} {tt:TT} {te:TE} {σ:St} {H:Hp} {Q:VK}:nT n ix wi g tt te σ H Q=∃ vs,om ix σ vs/\wi σ H fun J H1=>tm J n vs g tt te Q H1:=rfl
def Yp {K:PySem.W.Frag} {C:Addr} {y:Str} {st:Stmt} {ps:List Str} {fld:Str} {M:MT K C "__init__" y st ps} (q:w6 K C=true) (sa:PySem.W.findIn K (.ref C) "__setattr__" = some (some (.builtin "object.__setattr__"))) (na:PySem.W.findIn K (.ref C) fld=some none) (ob:PySem.W.mroIn K C (.type "object")=some true)
  (be:PySem.W.mroIn K C (.type "BaseException")=some true) (self:PySem.W.mroIn K C (.ref C)=some true) (kp:PySem.W.keepIn K (.ref C)=true):gm K C M.f fld:=⟨q,M.h.at_,eq_of_beq M.h.fn,sa,na,ob,be,self,kp⟩
end L2
open PySem PySem.Spec PyProof.Rows
namespace L2
section
variable {X:Cx}
def xr (n b:Bool):Bool:=match n with | false=>b | true=>!b
def zV (n b:Bool):(n ^^ b)=xr n b:=by cases n <;> cases b <;> rfl
def ui (neg:Bool):R2:=fun x y H Q=>match x,y with
 | .int i,.int j=>Q (.bl (xr neg (decide (i=j)))) H
 | .str i,.str j=>Q (.bl (xr neg (decide (i=j)))) H
 | .bl i,.bl j=>Q (.bl (xr neg (decide (i=j)))) H
 | _,_=>ym x y=true/\Q (.bl (xr neg (decide (x=y)))) H
def Hm (neg:Bool):qg neg=ui neg:=by
 funext x y H Q; unfold qg ui; simp only [zV] <;> rfl
def ie:bb X (compareOp .Eq) (ui false):=Hm false ▸ UY
def kU:bb X (compareOp .NotEq) (ui true):=Hm true ▸ R3
def sd (neg:Bool):R2:=fun x y H Q=>match x,y with
 | .ref a,.ref b=>∃ ts us:List Str,H a=some (.lst (ts.map V.str))/\H b=some (.lst (us.map V.str))/\Q (.bl (xr neg (decide (ts=us)))) H
 | _,_=>False
def HI (neg:Bool):rk neg=sd neg:=by
 funext x y H Q; unfold rk sd; simp only [zV] <;> rfl
def Vb (hu:X.A.units < cLine):bb X (compareOp .Eq) (sd false):=HI false ▸ Wl hu
def Xu (hu:X.A.units < cLine):bb X (compareOp .NotEq) (sd true):=HI true ▸ Z2 hu
def sJ (K:PySem.W.Frag) (neg:Bool):R2:=fun x y H Q=>match x,y with
 | .ref a,.ref b=>∃ xs ys:List V,aD K H a xs/\aD K H b ys/\((ys=[]/\Q (.bl (xr neg xs.isEmpty)) H)\/(xs=[]/\Q (.bl (xr neg ys.isEmpty)) H))
 | _,_=>False
def IQ {K:PySem.W.Frag} (neg:Bool):qe K neg=sJ K neg:=by
 funext x y H Q; unfold qe sJ; simp only [zV] <;> rfl
def abJ {K:PySem.W.Frag} (hK:X.K=K) (hu:X.A.units < cLine):bb X (compareOp .Eq) (sJ K false):=IQ (K:=K) false ▸ We hK hu
def RJ {K:PySem.W.Frag} (hK:X.K=K) (hu:X.A.units < cLine):bb X (compareOp .NotEq) (sJ K true):=IQ (K:=K) true ▸ Zs hK hu
end
end L2
namespace L2
open PySem PySem.Spec PyProof.Rows
def aaY {J:It} {tt:TT} {te:TE} {Q:VK} {H:Hp}:sC J tt te Q H ↔ tm J 1 [] (fV 0) tt te Q H:=by
 constructor
 ·rintro ⟨W,w0,h⟩;refine ⟨W,w0,fun i ys m H hw=>⟨(h i ys m H hw).1,(h i ys m H hw).2.imp_right fun z=>⟨z.1,z.2.1,fun y H' hy σ0 hσ=>?_⟩⟩⟩;obtain ⟨a,rfl⟩:=L7 hσ;exact ⟨⟨[some y],rfl,rfl⟩,z.2.2 y H' hy⟩
 ·rintro ⟨W,w0,h⟩;exact ⟨W,w0,fun i ys m H hw=>⟨(h i ys m H hw).1,(h i ys m H hw).2.imp_right fun z=>⟨z.1,z.2.1,fun y H' hy=>(z.2.2 y H' hy [none] rfl).2⟩⟩⟩
def Kd {wi:TI} {tt:TT} {te:TE} {σ:St} {H:Hp} {Q:VK} (h:w9 wi tt te σ H Q):nT 1 [] wi (fV 0) tt te σ H Q:=by
 rw [IB] at h;rw [Jw];have e:(fun (J:It) H1=>sC J tt te Q H1)=fun J H1=>tm J 1 [] (fV 0) tt te Q H1:=by funext J H1; exact propext aaY
 rw [e] at h;exact ⟨[],⟨rfl,by simp⟩,h⟩
section
variable {X:Cx}
def Dv.J8 {elt iter tg:Expr} {ifs:List Expr} {x:Str} {cl:List (Str×Addr)} {pos:Pos} {scope:Scope} {wi:TI} {tt:TT} {te:TE} (hc:X.calm=true) (hi:QI X tg iter wi)
  (ht:∀ s H ex C,pS (cF X scope cl ([x]++[]) s H ex C) ifs tt) (gT:∀ s H ex C,QG (cF X scope cl ([x]++[]) s H ex C) tg (fV 0)) (he:∀ s H ex C,QE (cF X scope cl ([x]++[]) s H ex C) elt te) (CC:jI X scope cl [] [])
  (hk:scope.kind=.function:=by rfl) (cw:∀ y∈scope.names,y.2=.local->scope.names.lookup y.1=some .local:=by decide +kernel) (fc:∀ y∈scope.names,y.2≠.cell:=by decide +kernel)
  (hs:∀ x,foldedSetIterable iter X.env x=pure x:=by intro _; rfl):QE X (.ListComp elt [⟨tg,iter,ifs,0⟩] scope pos) (w9 wi tt te) :=
 ⟨fun pins s σ H Q I h=>(Dv.B7 hc hi ht gT he CC hk cw fc hs).h pins s σ H Q I (Kd h)⟩
def Dv.aam (i:Nat) {elt iter tg:Expr} {ifs:List Expr} {x:Str} {cl:List (Str×Addr)} {y:Str} {py pos spos:Pos} {scope:Scope} {wi:TI} {tt:TT} {te:TE} (hc:X.calm=true) (hN:X.N.Nodup) (hi:QI X tg iter wi)
  (ht:∀ s H ex C,pS (cF X scope cl ([x]++[]) s H ex C) ifs tt) (gT:∀ s H ex C,QG (cF X scope cl ([x]++[]) s H ex C) tg (fV 0)) (he:∀ s H ex C,QE (cF X scope cl ([x]++[]) s H ex C) elt te) (CC:jI X scope cl [] []) (vJ:X.N[i]?=some y:=by rfl) (rV:X.env.scope.names.lookup y=some .local:=by rfl)
  (vp:swapsWith (.ListComp elt [⟨tg,iter,ifs,0⟩] scope pos) (some (.Name y py)) spos.line X.env=pure true:=by rfl)
  (hk:scope.kind=.function:=by rfl) (cw:∀ y∈scope.names,y.2=.local->scope.names.lookup y.1=some .local:=by decide +kernel) (fc:∀ y∈scope.names,y.2≠.cell:=by decide +kernel)
  (hs:∀ x,foldedSetIterable iter X.env x=pure x:=by intro _; rfl):QS X (.Assign [.Name y py] (.ListComp elt [⟨tg,iter,ifs,0⟩] scope pos) spos) (mR (w9 wi tt te) (fV i)) :=
 ⟨fun pins s σ H D I h=>(Dv.BD i hc hN hi ht gT he CC vJ rV vp hk cw fc hs).h pins s σ H D I (Kd h)⟩
end
end L2
namespace L2
def LU {α:Type} {C:List α->Prop} (h:C []):∀ us:List α,us.length=0->C us
 | [],_=>h
def oV {α:Type} {C:List α->Prop} {n:Nat} (h:∀ a us,us.length=n->C (a::us)):∀ us:List α,us.length=n+1->C us
 | a::us,e=>h a us (Nat.succ.inj e)
def Ii {α:Type} {C:List α->Prop} (h:∀ a,C [a]):∀ us:List α,us.length=1->C us:=oV fun a=>LU (C:=fun us=>C (a::us)) (h a)
def GS {α:Type} {C:List α->Prop} (h:∀ a b,C [a,b]):∀ us:List α,us.length=2->C us:=oV fun a=>Ii (C:=fun us=>C (a::us)) (h a)
def xq {α:Type} {C:List α->Prop} (h:∀ a b c,C [a,b,c]):∀ us:List α,us.length=3->C us:=oV fun a=>GS (C:=fun us=>C (a::us)) (h a)
def ur {α:Type} {C:List α->Prop} (h:∀ a b c d,C [a,b,c,d]):∀ us:List α,us.length=4->C us:=oV fun a=>xq (C:=fun us=>C (a::us)) (h a)
def yl {α:Type} {C:List α->Prop} (h:∀ a b c d e,C [a,b,c,d,e]):∀ us:List α,us.length=5->C us:=oV fun a=>ur (C:=fun us=>C (a::us)) (h a)
def Bk {α:Type} {C:List α->Prop} (h:∀ a b c d e f,C [a,b,c,d,e,f]):∀ us:List α,us.length=6->C us:=oV fun a=>yl (C:=fun us=>C (a::us)) (h a)
def Qw {α:Type} {C:List α->Prop} (h:∀ a b c d e f g,C [a,b,c,d,e,f,g]):∀ us:List α,us.length=7->C us:=oV fun a=>Bk (C:=fun us=>C (a::us)) (h a)
end L2
namespace L2
open PySem PySem.Spec PyProof.Rows
section
open PySem.AutoSeq1 (wpAny_loadPart')
open PySem.MeetsSeq PySem.SeqAt
def CJ:∀ {ns:List Int} {us:List Value},Vals (ns.map V.int) us->IntsAre us ns
 | [],_,.nil=>.nil
 | _::_,_,.cons r t=>by
  obtain ⟨k,rfl⟩:=r;exact .cons _ _ (CJ t)
def Io:∀ {ns:List Int} {us:List Value},IntsAre us ns->∃ xs:List (Int×Tok),us=xs.map (fun p=>Value.int p.1 p.2)/\ns=xs.map (·.1)
 | _,_,.nil=>⟨[],rfl,rfl⟩
 | _,_,.cons n t h=>by
  obtain ⟨xs,e1,e2⟩:=Io h;exact ⟨(n,t)::xs,by rw [e1]; rfl,by rw [e2]; rfl⟩
end
section
variable {X:Cx}
def Ef (K:PySem.W.Frag):V->List V->Hp->VK->Prop:=fun x vs H Q=>match x,vs with
 | .ref l,[.int k]=>∃ ns:List Int,aD K H l (ns.map V.int)/\k∈ns/\Q (.int (ns.idxOf k:Nat)) H
 | _,_=>False
def Vc (K:PySem.W.Frag):V->List V->Hp->VK->Prop:=fun x vs H Q=>match x,vs with
 | .ref l,[.int k]=>∃ ns:List Int,bw K H l (ns.map V.int)/\k∈ns/\Q (.int (ns.idxOf k:Nat)) H
 | _,_=>False
def Ki {K:PySem.W.Frag} (hK:X.K=K):dP X "list.index" (Ef K):=by
 subst hK;intro pins s σ H x vs v us Q I rx rv h;unfold Ef at h;split at h
 ·rename_i l k;obtain ⟨ns,hl,hk,q⟩:=h;cases rx;obtain ⟨u,rfl,ru⟩:=vals1 rv;obtain ⟨t,rfl⟩:=ru;obtain ⟨aj,r',⟨⟨cls,dd,data,sl⟩,n,ho,hc,hd,hs⟩,hz⟩:=I.list hl;simp only at hc hd hs;subst hc hd hs;have hi:=CJ r';have hlen:=hi.length;have hj:ns.idxOf k < ns.length:=List.idxOf_lt_length_iff.mpr hk;rw [nn] at hz;have gX:sizeLine < 2 ^ 62:=by decide
  refine P3 _I ⟨_,ho,rfl⟩ PySem.F.entry_list_index (PySem.F.args_list_index_2 _ _)
   (PySem.SeqAt.list_indexAt l aj.toArray n none sl (.int k t) (isInt k) (ns.idxOf k) (by simpa [hlen] using hj) (by omega) ?_ ?_) ⟨ho,fun y hy=>(eq_isInt k t hi y (by simpa using hy)).at _ _,⟨.int _,H,I.kept (t':=s.toks+1) fun _ _ e=>e,⟨_,rfl⟩,q⟩⟩
  ·show isInt k aj[ns.idxOf k]=true;rw [isInt_at k hi _ (by omega) hj]
   simpa using List.getElem_idxOf hj
  ·intro j hjs bD;show isInt k aj[j]=false;rw [isInt_at k hi j (by simpa using hjs) (by omega)];exact ne_of_lt_idxOf bD _
 ·exact h.elim
def CB (K:PySem.W.Frag):List V->Hp->VK->Prop:=fun xs H Q=>match xs with
 | [.ref p]=>∃ (ns:List Int) (m:Int),aD K H p (ns.map V.int)/\m∈ns/\(∀ k∈ns,m<=k)/\Q (.int m) H
 | _=>False
def Vd {K:PySem.W.Frag} (hK:X.K=K) (hc:X.calm=true):cM X (.builtin "min") (CB K):=by
 subst hK;intro pins s σ H xs us Q I r h;unfold CB at h;split at h
 ·obtain ⟨ns,m,hl,hm,hle,q⟩:=h;obtain ⟨u,rfl,rx⟩:=vals1 r;cases rx;obtain ⟨aj,r',pl,hz⟩:=I.list hl;obtain ⟨xs,e1,e2⟩:=Io (CJ r');have he:aj.toArray=intItems xs.toArray:=by rw [e1]; simp [intItems]
  rw [he] at pl;have hx:0 < xs.length:=by
   rw [e2] at hm;cases xs with
   | nil=>cases hm
   | cons _ _=>exact Nat.succ_pos _
  refine min_intList (I.ok.hd hc) pl.isList (by simpa using hx) fun v h' tk hv hk=>?_;obtain ⟨t,rfl⟩:=intItems_at hv;obtain ⟨rX,yS⟩:=PySem.argBest_lt (numAt xs.toArray) (xs.toArray.size - 1);refine ⟨.int m,H,I.kept (t':=tk) hk,⟨t,?_⟩,q⟩;have hn:∀ i (h:i < xs.length),numAt xs.toArray i=xs[i].1:=fun i h=>by simp [numAt,h]
  have hsz:xs.toArray.size=xs.length:=by simp
  rw [hsz] at rX yS ⊢;generalize argBest _ (xs.length - 1)=a at rX yS ⊢;have ha:a < xs.length:=by omega
  have h1:m<=numAt xs.toArray a:=hle _ (by rw [e2,hn a ha]; exact List.mem_map_of_mem (_Z ha));rw [e2] at hm;obtain ⟨p,hp,hpm⟩:=AC.mp hm;obtain ⟨i,hi,rfl⟩:=Sc hp;have h2:=yS i (by omega);rw [hn i hi,hpm] at h2;rw [show numAt xs.toArray a=m by omega]
 ·exact h.elim
end
end L2
namespace HT
open PySem PySem.Spec PyProof.Rows
section
variable {prog:Program} {w:World} {A:Around} {E:Value->Shared->Prop} {s:Shared}
end
end HT
namespace L2
open PySem PySem.Spec PyProof.Rows
section
variable {X:Cx}
def Yq (K:PySem.W.Frag):R2:=fun x y H Q=>match x,y with
 | .ref a,.ref b=>∃ xs ys,bw K H a xs/\bw K H b ys/\xs.length+ys.length<=sizeLine/\((xs=[]/\Q (.ref b) H)\/(xs≠[]/\ys≠[]/\∀ p,H p=none->Q (.ref p) (upd H p (.tup (xs++ys)))))
 | _,_=>False
def ZF (K:PySem.W.Frag):R2:=fun x y H Q=>match x,y with
 | .ref a,.ref b=>∃ xs,bw K H a xs/\bw K H b []/\Q (.bl xs.isEmpty) H
 | _,_=>False
def UE (K:PySem.W.Frag):V->Option Int->Option Int->Hp->VK->Prop:=fun x lo hi H Q=>match x with
 | .ref a=>∃ xs,bw K H a xs/\(HT.dz xs.length 0 lo=0/\HT.dz xs.length xs.length hi=xs.length->Q (.ref a) H)/\(∀ p,H p=none->Q (.ref p) (upd H p (.tup (gr xs lo hi))))
 | _=>False
def S3 (r:V->List V->Hp->VK->Prop) (to:TE) (t:TA):TE:=fun σ H Q=>to σ H fun x H1=>match x with
 | .ref l=>(match H1 l with
  | some (.tup _)=>t σ H1 fun xs H2=>r (.ref l) xs H2 Q
  | _=>False)
 | _=>False
section
variable {o e:Expr} {es:List Expr} {name:Str} {id:String} {r:V->List V->Hp->VK->Prop} {to:TE} {t:TA} {apos bE:Pos}
end
def PK:bootBuiltins "min" = some (.builtin "min"):=by kernel_rfl
end
def bc.m {j k:Nat} {A:Around} (r:bc k A) (h:j<=k:=by decide):bc j A:=r.mono h
def fI {C d x:Addr} {f:Str} {fs gs:List (Str×V)} {v:V} {H:Hp} {Q:V->Prop} (h:H x=some (.ins C d fs)) (s:dh fs gs) (e:List.lookup f gs=some v) (q:Q v):FI C f (.ref x) H Q:=⟨x,_,_,_,rfl,h,(s f).trans e,q⟩
def mI {C d x:Addr} {f:Str} {fs gs:List (Str×V)} {H:Hp} {q:Prop} (h:H x=some (.ins C d fs)) (s:dh fs gs) (r:q) (e:List.lookup f gs=none:=by rfl):MI C f (.ref x) H q:=⟨x,_,_,rfl,h,(s f).trans e,r⟩
@[elab_as_elim] theorem ee {H:Hp} {p:Addr} {o:HO} {C:Hp->Prop} (h:H p=none) (k:∀ H1,ao H H1->H1 p=some o->C H1):C (upd H p o):=k _ (ao.upd h) ax
section
variable {prog:Program} {w:World} {A:Around} {E:Value->Shared->Prop} {s:Shared}
def Td {d:Addr} {es:Array DictEntry} {ep:Nat} (lo:(d == sysModules)=false):PySem.W.KdlSrc prog w "dict" d d es.size (fun i v=>∃ e,es[i]?=some e/\v=e.key) (fun h=>h9 h d es ep) where
 type:=fun _ x=>x.typeIs
 there:=fun _ x=>let ⟨_,e,_⟩:=x; ⟨sw e,sw e⟩
 keep:=fun _ _ x k=>x.at' (k d (.inl rfl))
 notList:=by decide
 notTuple:=by decide
 hint:=fun _ _ _ _ x q=>PySem.W.kdl_hint_dict x.typeIs q
 iter:=fun _ _ hh x=>⟨_,_,fun _ _ q=>zi lo x q,Ec hh _ d (ww (let ⟨_,e,_⟩:=x; sw e)) es ep,⟨⟨_,tz _ rfl,rfl,rfl⟩,x.at' fun _ e=>kt _ e⟩⟩
def sort_1 {a:Addr} {v:Value} {n:Nat} {P:Fin->Shared->Prop} (ho:s.heap.get? a=some (seqObj "list" [v].toArray n)) (h:P (.done (.ret .none)) { s with heap:=sortedHeap s.heap a [v] #[v] }) :
  wpAny (model prog w) A (Builtin.«list.sort» ⟨[.ref a],[]⟩) P E s:=by
 rw [list_sort_plain];have ha:=sw ho;refine jp (listItems_at ho rfl (jp (listUpdate_at ho rfl ?_)));obtain ⟨e1,h1⟩:∃ e1,(s.heap.update a (Obj.mapSeq fun _=>#[])).get? a=some (seqObj "list" #[] e1):=⟨_,get?_update_seq ho _⟩;refine jp (seqEpoch_at h1 rfl (jp (wpAny_newTuple (jp (Jai (FM ?_))))));have h6:(((s.heap.update a (Obj.mapSeq fun _=>#[])).push (seqObj "tuple" [v].toArray 0)).push (seqObj "list" #[] 0)).get? a=some (seqObj "list" #[] e1) :=
  kt _ (kt _ h1)
 show wpAny (model prog w) A _ P E { s with heap:=((s.heap.update a (Obj.mapSeq fun _=>#[])).push (seqObj "tuple" [v].toArray 0)).push (seqObj "list" #[] 0) };dsimp only;have h2:([v]:List Value).toArray.size < 2:=by simp
 rw [wT h2,wT h2];refine jp (pp ?_);rw [StateT.run_pure];refine jp (pp ?_);dsimp only;refine jp (seqEpoch_at h6 rfl (jp (listUpdate_at h6 rfl ?_ (hsz2:=by rw [Array.size_map]; show (pairsOf [v]).size<=_; rw [pairsOf_size,_s]; exact _0 (wP _)))));simp only [bne_self_eq_false,Fa,Re];have hx:(arrOf (SortSt.mk' general' (#[v].zip #[v]) #[] 7 none)).map (·.2)=#[v]:=by
  show (#[v].zip #[v]).map (·.2)=#[v];simp
 rw [hx];exact pp h
end
section
variable {X:Cx}
def VE {pins:List (Addr×Obj)} {σ:St} {H:Hp} {s:Shared} {Q:VK} {p:Addr} {k:List Key} {v:V} (hc:X.calm=true) (I:Inv X pins σ H s) (hd:H p=some (.dT [(k,v)])) (q:∀ y l,H y=some (.tup (k.map kV))->H l=none->Q (.ref l) (upd H l (.lst [.ref y]))) :
  wpAny (model X.prog X.w) X.A (call (.builtin "sorted") [.ref p]) (EP X pins σ Q) X.xe s:=by
 obtain ⟨hz,hS,xs,hp,o,es,ep,ho,hex,fg,ki,iJ⟩:=id (I.aB p _ hd);cases hp with
 | @cons _ y _ _ hh t =>
 cases t;have hsz:es.size=1:=by rw [<- LE,ki]; rfl
 have vC:h9 s.heap p es ep:=⟨o,ho,hex,fg⟩;refine _z kind_sorted plain_sorted entry_sorted (args_sorted1 _) ?_;unfold Builtin.«sorted»;refine jp (m:=checkCount "sorted" 1 1 _) (pp ?_);refine jp (Ja4 (A:=X.A.in1) (Td hS) (I.ok.hd hc) vC (by rw [hsz,_s]; decide) fun h' tk acc hk' ff=>?_);obtain ⟨u,hu⟩:∃ u,acc=#[u]:=by
  have e:=ff.1;rw [hsz] at e;obtain ⟨l⟩:=acc
  match l,e with
  | [u],_=>exact ⟨u,rfl⟩
 subst hu;obtain ⟨e,he,rfl⟩:=ff.2 0 u rfl;rw [<- No,ki] at he;cases he;refine jp (Jai ?_ (by rw [_s]; exact _0 (wP _)));have gP:(h'.push (seqObj "list" ([Value.ref y.2.1]:List Value).toArray 0)).get? h'.objs.size=some (seqObj "list" ([Value.ref y.2.1]:List Value).toArray 0):=tz _ rfl;refine jp (FM (_x slot_list_sort ⟨_,gP,rfl⟩ entry_list_sort (sort_1 gP ⟨_,rfl,?_⟩) (args_list_sort _)));refine pp ⟨_,rfl,?_⟩;obtain ⟨e,he⟩:=sortedHeap_at (out:=#[Value.ref y.2.1]) gP;have I1:Inv X pins σ H { s with heap:=h',toks:=tk }:=I.kept (t':=tk) hk';refine ⟨.ref h'.objs.size,_,I1.laid (t':=tk) (fun b o z=>?_) (ss _) (show bM X.prog X.w _ _ _ (.lst [.ref y.2.1]) from ⟨by rw [_s]; exact _0 (wP _),[Value.ref y.2.1],e,.cons rfl .nil,he⟩),rfl,q _ _ hh.2.1 (I1.aB.fresh (ss _))⟩;have hb:b < h'.objs.size:=sw z;exact (sortedHeap_old (ww hb) (show b < (h'.push _).objs.size by rw [Tm]; exact _N hb)).trans (kt _ z)
def XO:List V->Hp->VK->Prop:=fun xs H Q=>∃ p kvs,xs=[.ref p]/\H p=some (.dT kvs)/\((kvs=[]/\∀ l,H l=none->Q (.ref l) (upd H l (.lst [])))\/∃ k v,kvs=[(k,v)]/\∀ y l,H y=some (.tup (k.map kV))->H l=none->Q (.ref l) (upd H l (.lst [.ref y])))
def PZ (hc:X.calm=true):cM X (.builtin "sorted") XO:=by
 intro pins s σ H xs us Q I r h;obtain ⟨p,kvs,rfl,hd,h⟩:=h;obtain ⟨u,rfl,rx⟩:=vals1 r;cases rx;rcases h with ⟨rfl,q⟩ | ⟨k,v,rfl,q⟩
 ·exact JX hc I hd q
 ·exact VE hc I hd q
def AL {te:TE} {H:Hp} {Q:VK} {vs:List V} (m:Nat) (W:Nat->List V->Hp->Prop) (hm:m<=1000) (w0:W 0 [] H) (wl:∀ i ys H1,W i ys H1->ys.length=i)
  (he:∀ k ys H1,k < m->W k ys H1->∀ R:VK,(∀ z H2,W (k+1) (ys++[z]) H2->R z H2)->te (some (.int (k:Int))::vs.map some) H1 R)
  (q:∀ ys H1 l,W m ys H1->H1 l=none->Q (.ref l) (upd H1 l (.lst ys))) :
  tm (jF 0 ((m:Int)).toNat) 1 vs (fV 0) mq te Q H:=by
 have hsz:m<=sizeLine:=fits hm;refine ⟨fun i zs k H1=>W i zs H1/\i<=m/\k=m - i,⟨_,w0,wP _,rfl⟩,?_⟩;rintro i zs k H1 ⟨hw,hi,rfl⟩;have hlen:=wl _ _ _ hw;refine ⟨by omega,?_⟩;by_cases h:i < m
 ·refine .inr ⟨show i < ((m:Int)).toNat by omega,by omega,?_⟩;rintro v H' ⟨rfl,rfl⟩ σ0 hσ0;obtain ⟨a,rfl⟩:=L7 hσ0;refine ⟨⟨[some (.int (0+(i:Int)))],rfl,rfl⟩,?_⟩;have e0:(0+(i:Int))=(i:Int):=by omega
  show mq _ _ _;unfold mq;dsimp only;rw [wT rfl];have st:=he i zs _ h hw (fun z H3=>∃ m',m' < m - i/\W (i+1) (zs++[z]) H3/\i+1<=m/\m'=m - (i+1)) (fun v H2 x=>⟨m - (i+1),by omega,x,h,rfl⟩);rw [<- e0] at st;exact st
 ·have e:i=m:=by omega
  subst e;exact .inl ⟨show ((i:Int)).toNat<=i by omega,fun l hl=>q _ _ _ hw hl⟩
end
def DE (K:PySem.W.Frag) (H:Hp):Nat->V->V->Prop
 | 0,x,y=>cG x=true/\cG y=true/\fA x y=true
 | n+1,x,y=>(cG x=true/\cG y=true/\fA x y=true)\/∃ a b xs ys,x=.ref a/\y=.ref b/\(aD K H a xs/\aD K H b ys\/bw K H a xs/\bw K H b ys)/\xs.length=ys.length/\∀ i (h1:i < xs.length) (h2:i < ys.length),DE K H n xs[i] ys[i]
section
variable {X:Cx}
def xg {xs:List V} {i1:List Value} (r1:Vals xs i1) (j:Nat) (g1:j < i1.toArray.size):∃ (j1:j < xs.length),RelV xs[j] i1.toArray[j]:=by
 have j1:j < xs.length:=by rw [r1.length]; simpa using g1
 obtain ⟨u1,e1,ru1⟩:=r1.get (mo j1);have w1:i1.toArray[j]=u1:=by
  have:=(lm.mp e1).2
  simpa using this
 exact ⟨j1,by rw [w1]; exact ru1⟩
def Kl {pins:List (Addr×Obj)} {σ:St} {H:Hp} {s:Shared} (I:Inv X pins σ H s) {n:Nat} (ih:∀ {A:Around} {x y:V} {v u:Value},DE X.K H n x y->RelV x v->RelV y u->A.units+n < cLine->SeqAt.EqAt A s v u true)
  {A:Around} {a b:Addr} {xs ys:List V} (fk:aD X.K H a xs/\aD X.K H b ys\/bw X.K H a xs/\bw X.K H b ys) (hl:xs.length=ys.length) (he:∀ i (h1:i < xs.length) (h2:i < ys.length),DE X.K H n xs[i] ys[i]) (hu:A.units+(n+1) < cLine):SeqAt.RcAt A s (.ref a) (.ref b) true:=by
 have el:∀ {i1 i2:List Value},Vals xs i1->Vals ys i2->∀ (j:Nat) (g1:j < i1.toArray.size) (g2:j < i2.toArray.size),SeqAt.EqAt A.in1 s i1.toArray[j] i2.toArray[j] true:=fun r1 r2 j g1 g2=>by
  obtain ⟨j1,u1⟩:=xg r1 j g1;obtain ⟨j2,u2⟩:=xg r2 j g2;exact ih (he j j1 j2) u1 u2 (show A.units+1+n < cLine by omega)
 rcases fk with ⟨ha,hb⟩ | ⟨ha,hb⟩
 ·obtain ⟨i1,r1,p1,_⟩:=I.list ha;obtain ⟨i2,r2,p2,_⟩:=I.list hb;have hsz:i1.toArray.size=i2.toArray.size:=by rw [sB,sB,<- r1.length,<- r2.length,hl]
  have k:=SeqAt.RcAt.lists (A:=A) (s:=s) (e:=fun _=>true) p1.isList p2.isList hsz (by omega) (el r1 r2);rw [all_true] at k;exact k
 ·obtain ⟨i1,r1,p1,_⟩:=I.tuple ha;obtain ⟨i2,r2,p2,_⟩:=I.tuple hb;have hsz:i1.toArray.size=i2.toArray.size:=by rw [sB,sB,<- r1.length,<- r2.length,hl]
  have k:=SeqAt.RcAt.tuples (A:=A) (s:=s) (e:=fun _=>true) p1 p2 (by omega) (el r1 r2);rw [all_true,hsz,beq_self_eq_true,Bool.and_self] at k;exact k
def AB {pins:List (Addr×Obj)} {σ:St} {H:Hp} {s:Shared} (I:Inv X pins σ H s):∀ (n:Nat) {A:Around} {x y:V} {v u:Value},DE X.K H n x y->RelV x v->RelV y u->A.units+n < cLine->SeqAt.EqAt A s v u true
 | 0,A,x,y,v,u,h,rx,ry,hu=>by
  have:=zQ (A:=A) (s:=s) rx ry h.1 h.2.1;rw [h.2.2] at this;exact this
 | n+1,A,x,y,v,u,h,rx,ry,hu=>by
  rcases h with h | ⟨a,b,xs,ys,rfl,rfl,fk,hl,he⟩
  ·have:=zQ (A:=A) (s:=s) rx ry h.1 h.2.1;rw [h.2.2] at this;exact this
  ·cases rx; cases ry;by_cases e:a=b
   ·subst e; exact SeqAt.EqAt.same _
   ·exact SeqAt.EqAt.of_refs e (Kl I (AB I n) fk hl he hu)
def uf (K:PySem.W.Frag) (n:Nat):R2:=fun x y H Q=>match x,y with
 | .ref a,.ref b=>∃ xs ys:List V,(aD K H a xs/\aD K H b ys\/bw K H a xs/\bw K H b ys)/\xs.length=ys.length/\(∀ i (h1:i < xs.length) (h2:i < ys.length),DE K H n xs[i] ys[i])/\Q (.bl true) H
 | _,_=>False
def jz {K:PySem.W.Frag} (n:Nat) (hK:X.K=K) (hu:X.A.units+(n+1) < cLine):bb X (compareOp .Eq) (uf K n):=by
 subst hK;intro pins s σ H x y v u Q I rx ry h;unfold uf at h;split at h
 ·obtain ⟨xs,ys,fk,hl,he,q⟩:=h;cases rx; cases ry;exact Kl I (AB I n) fk hl he hu _ _ _ _ ⟨.bl _,H,I,rfl,q⟩
 ·exact h.elim
end
def bc.i0 {k:Nat} {A:Around} (r:bc k A):A.units+(4+1) < cLine:=by have:=r.un; omega
def aaD:List V->Hp->VK->Prop:=fun xs H Q=>match xs with
 | [.int a,.int b]=>Q (.int (if b < a then b else a)) H
 | _=>False
def KH (K:PySem.W.Frag) (n:Nat):R2:=fun x y H Q=>match x,y with
 | .ref a,.ref b=>∃ xs ys:List V,bw K H a xs/\bw K H b ys/\xs.length=ys.length/\(∀ i (h1:i < xs.length) (h2:i < ys.length),DE K H n xs[i] ys[i])/\Q (.bl false) H
 | _,_=>False
def YU {X:Cx} {K:PySem.W.Frag} (n:Nat) (hK:X.K=K) (hu:X.A.units+(n+1) < cLine):bb X (compareOp .NotEq) (KH K n):=by
 subst hK;intro pins s σ H x y v u Q I rx ry h;unfold KH at h;split at h
 ·obtain ⟨xs,ys,ha,hb,hl,he,q⟩:=h;cases rx; cases ry;obtain ⟨i1,r1,p1,_⟩:=I.tuple ha;obtain ⟨i2,r2,p2,_⟩:=I.tuple hb;have hsz:i1.toArray.size=i2.toArray.size:=by rw [sB,sB,<- r1.length,<- r2.length,hl]
  have k:=SeqAt.RcNeAt.tuples (A:=X.A) (s:=s) (e:=fun _=>true) p1 p2 (by omega) (fun j g1 g2=>by
   obtain ⟨j1,u1⟩:=xg r1 j g1;obtain ⟨j2,u2⟩:=xg r2 j g2;exact AB I n (he j j1 j2) u1 u2 (show X.A.units+1+n < cLine by omega))
  rw [all_true,hsz,beq_self_eq_true,Bool.and_self] at k;exact k _ _ _ _ ⟨.bl _,H,I,rfl,q⟩
 ·exact h.elim
def Kt:∀ es:List Ent,(dD es).length=3 * es.length
 | []=>rfl
 | e::r=>by show (dD r).length+1+1+1=3 * (r.length+1); rw [Kt r]; omega
def SQ {P:Addr} {es:List Ent} {q:Str}:jA P es≠n6 P q:=fun e=>by
 have e:=HO.ext.inj e
 let o:Obj:={ cls:=.none,data:=.fields #[.none,.str q 0] }
 let h:Heap:=Heap.push ⟨Array.replicate P o,{}⟩ o
 have hg:h.get? P=some o:=by
  have:=tz (⟨Array.replicate P o,{}⟩:Heap) (o:=o) rfl;rw [show (⟨Array.replicate P o,{}⟩:Heap).objs.size=P from Array.size_replicate] at this;exact this
 have h1:h.CodeRec (.ref P) q:=⟨P,o,_,0,rfl,hg,rfl,rfl⟩;have h2:h.get? P=some (PySem.W.tabObj (dD es).toArray):=(congrFun e h).mpr h1;rw [hg] at h2;have h3:=NE Obj.data (EQ h2);have h4:#[Value.none,.str q 0]=(dD es).toArray:=by injection h3
 have h5:=NE Array.size h4;rw [sB,sB,Kt] at h5;have h6:(2:Nat)=3 * es.length:=h5;omega
end L2
set_option maxHeartbeats 0
namespace L2.bN
open PySem PySem.Spec PyProof.Rows
local macro_rules | `(tactic| walk_at "s")=>`(tactic| exact ⟨rfl,rfl,rfl,by decide +kernel,rfl,by decide +kernel,by decide +kernel⟩)
abbrev e_ (N:List Str) (s:Stmt):Prop:=aE N N (aw s)
abbrev _root_.L2.FT.k {K:PySem.W.Frag} {mg:Str->Option Value} {a b:Str} {st:Stmt} {ps:List Str} (t:FT K mg a b st ps) (P:Program) (w:World) (base:Heap) (n:Nat) (q:Sp):Prop:=aC P w K mg base aN n t.f t.d ps q
abbrev _root_.L2.MT.k {K:PySem.W.Frag} {C:Addr} {a b:Str} {st:Stmt} {ps:List Str} (t:MT K C a b st ps) (P:Program) (w:World) (mg:Str->Option Value) (base:Heap) (n:Nat) (q:Sp):Prop:=aC P w K mg base aN n t.f t.d ps q
def top (i:Nat):Stmt:=PySem.Challenge.pw_leadnames_k47_read_written_looked.main.body.getD i (.Pass ⟨0,0,0,0⟩)
abbrev G0:=top 12
abbrev K7:=top 13
abbrev KW:=top 14
abbrev DP:=top 15
abbrev Iu:=top 25
abbrev Jp:=top 26
abbrev IJ:=top 27
abbrev Ik:=top 28
abbrev IK:=top 29
abbrev K2:=top 30
abbrev IF:=top 31
abbrev Ho:=top 32
abbrev Lv:=top 33
abbrev HG:=top 34
abbrev Ay:=top 35
abbrev zU:=top 49
abbrev BM:=top 50
abbrev B6:=top 51
abbrev BP:=top 52
abbrev vd:=top 53
abbrev zp:=top 56
abbrev Eo:=top 57
abbrev zY:=top 58
abbrev BR:=top 59
abbrev IP:=top 60
abbrev DV:=top 61
abbrev D6:=top 62
abbrev BV:=top 63
abbrev Cb:=top 64
abbrev En:=top 65
abbrev Bv:=top 66
abbrev Bm:=top 67
abbrev zr:=top 68
abbrev qY:=top 69
abbrev qr:=top 70
abbrev CP:=top 71
abbrev zh:=top 72
abbrev zS:=top 73
abbrev Dz:=top 74
abbrev zI:=top 75
abbrev IV:=top 80
abbrev J5:=top 81
abbrev J9:=top 82
abbrev D1:=top 83
abbrev C9:=top 84
abbrev DA:=top 85
abbrev Ep:=top 86
abbrev jC:=top 87
abbrev BH:=top 88
abbrev DS:=top 89
abbrev CQ:=top 90
abbrev EF:=top 91
abbrev qw:=top 92
abbrev qJ:=top 93
abbrev qQ:=top 94
abbrev l9:=top 95
def ab0:e_ ["house","folder"] G0:=by walk_at "s"
def Bt:aE ["house","folder","base"] ["house","folder"] (aw K7):=by walk_at "s"
def Hu:aE ["house","folder","stack"] ["house","folder"] (aw KW):=by walk_at "s"
def nG:aE ["house","asker","folder","root","here","stack","place"] ["house","asker","folder"] (aw DP):=by walk_at "s"
def WM:e_ ["number"] Iu:=by walk_at "s"
def R5:e_ ["text"] Jp:=by walk_at "s"
def Zx:e_ ["text"] IJ:=by walk_at "s"
def R1:e_ ["text"] Ik:=by walk_at "s"
def PR:e_ ["text"] IK:=by walk_at "s"
def My:aE ["path","parts"] ["path"] (aw K2):=by walk_at "s"
def abk:e_ ["text"] IF:=by walk_at "s"
def Ua:e_ ["text"] Ho:=by walk_at "s"
def Rx:e_ ["text"] Lv:=by walk_at "s"
def aaA:e_ ["text"] HG:=by walk_at "s"
def aac:e_ ["path"] Ay:=by walk_at "s"
def qi:aE ["house","asker","folder","root","names","stack","place"] ["house","asker","folder"] (aw zU):=by walk_at "s"
def KY:aE ["leads","first"] ["leads"] (aw BM):=by walk_at "s"
def Mo:aE ["house","asker","from_root","parts","last","ended"] ["house","asker","from_root","parts","last"] (aw B6):=by walk_at "s"
def Nf:aE ["house","asker","path","last","read"] ["house","asker","path","last"] (aw BP):=by walk_at "s"
def SH:e_ ["house","asker","path","last"] vd:=by walk_at "s"
def Iy:aE ["path","parts"] ["path"] (aw zp):=by walk_at "s"
def zA:aE ["house","asker","path","asked","ended"] ["house","asker","path"] (aw Eo):=by walk_at "s"
def Uv:e_ ["house","seat"] zY:=by walk_at "s"
def aa1:e_ ["told"] BR:=by walk_at "s"
def R9:e_ ["house","number"] IP:=by walk_at "s"
def aaK:e_ ["house","asker","path"] DV:=by walk_at "s"
def Jh:aE ["house","asker","path","number"] ["house","asker","path"] (aw D6):=by walk_at "s"
def G8:aE ["house","asker","path","number"] ["house","asker","path"] (aw BV):=by walk_at "s"
def Te:e_ ["house","asker","number","right","reason"] Cb:=by walk_at "s"
def Po:e_ ["house","asker","folder"] En:=by walk_at "s"
def Ul:e_ ["house","seat"] Bv:=by walk_at "s"
def Ke:aE ["house","asker","path","seat"] ["house","asker","path"] (aw Bm):=by walk_at "s"
def Wq:e_ ["house","seat","number"] zr:=by walk_at "s"
def JP:aE ["house","asker","path","mine","rest","seat"] ["house","asker","path","mine","rest"] (aw qY):=by walk_at "s"
def Ln:aE ["house","asker","path","text","mine","rest","seat"] ["house","asker","path","text","mine","rest"] (aw qr):=by walk_at "s"
def Hq:aE ["house","asker","path","lead","seat"] ["house","asker","path","lead"] (aw CP):=by walk_at "s"
def LV:aE ["house","asker","path","mine","rest","number"] ["house","asker","path","mine","rest"] (aw zh):=by walk_at "s"
def Iw:aE ["house","asker","path","number"] ["house","asker","path"] (aw zS):=by walk_at "s"
def Jv:aE ["house","asker","path","text","number"] ["house","asker","path","text"] (aw Dz):=by walk_at "s"
def Hk:aE ["house","asker","path","number"] ["house","asker","path"] (aw zI):=by walk_at "s"
def By:aE ["_law_cell","_law_k","_law_number"] ["_law_cell","_law_k"] (aw IV):=by walk_at "s"
def Wm:e_ ["_law_cell"] J5:=by walk_at "s"
def HZ:aE ["_law_source_here","_law_size","_law_found"] ["_law_source_here","_law_size"] (aw J9):=by walk_at "s"
def Qm:e_ ["_law_source_here"] D1:=by walk_at "s"
def sv:aE ["_law_source_here","_law_most","_law_many","_law_parts","_law_joint","_law_text_here"] ["_law_source_here","_law_most"] (aw C9):=by walk_at "s"
def kC:aE ["_law_ask","_law_found","e"] ["_law_ask"] (aw DA):=by walk_at "s"
def Yg:e_ ["_law_told_here"] Ep:=by walk_at "s"
def mQ:aE ["_law_house","_law_cell","_law_source_here","_law_asker","_law_path_here","_law_way","_law_lead","_law_mine","_law_rest"] ["_law_house","_law_cell"] (aw jC):=by walk_at "s"
def Am:aE ["_law_house","_law_found","_law_number"] ["_law_house"] (aw BH):=by walk_at "s"
def Ux:e_ ["_law_found","_law_due_here"] DS:=by walk_at "s"
def yf:aE ["_law_source_here","_law_some","_law_many"] ["_law_source_here"] (aw CQ):=by walk_at "s"
def GP:aE ["_law_house","_law_asker","_law_path_here","_law_kind","_law_sign","_law_word_here","_law_told_here"] ["_law_house","_law_asker","_law_path_here","_law_kind","_law_sign","_law_word_here"] (aw EF):=by walk_at "s"
def Cu:aE ["_law_house","_law_texts","_law_asker","_law_path_here","_law_due_here","_law_found"] ["_law_house","_law_texts","_law_asker","_law_path_here"] (aw qw):=by walk_at "s"
def xA:aE ["_law_house","_law_texts","_law_asker","_law_path_here","_law_text_here","_law_due_here","_law_ahead","_law_found"] ["_law_house","_law_texts","_law_asker","_law_path_here","_law_text_here"] (aw qJ):=by walk_at "s"
def xC:aE ["_law_house","_law_asker","_law_path_here","_law_due_here","_law_found","_law_names"] ["_law_house","_law_asker","_law_path_here"] (aw qQ):=by walk_at "s"
def iT:aE ["_law_script","_law_house","_law_cell","_law_texts","_law_source_here","_law_asker","_law_path_here","_law_some","_law_mine","_law_other"] ["_law_script"] (aw l9):=by walk_at "s"
abbrev Lz:=inClass (top 9) 0
def Uq:e_ ["self","told"] Lz:=by walk_at "s"
abbrev J0:=inClass (top 10) 0
def Rp:e_ ["self","reason"] J0:=by walk_at "s"
abbrev HF:=inClass (top 40) 0
def Su:e_ ["self","number","kind","owner","mine","rest","text"] HF:=by walk_at "s"
abbrev LS:=inClass (top 40) 1
def abx:e_ ["self","asker"] LS:=by walk_at "s"
abbrev Mv:=inClass (top 41) 0
def abt:e_ ["self"] Mv:=by walk_at "s"
abbrev JE:=inClass (top 41) 1
def Hy:aE ["self","kind","owner","mine","rest","text","number"] ["self","kind","owner","mine","rest","text"] (aw JE):=by walk_at "s"
abbrev Ib:=inClass (top 41) 2
def Qa:e_ ["self","owner","mine","rest"] Ib:=by walk_at "s"
abbrev HB:=inClass (top 41) 3
def aa9:e_ ["self","owner","text","mine","rest"] HB:=by walk_at "s"
abbrev MY:=inClass (top 41) 4
def XG:e_ ["self","owner","path"] MY:=by walk_at "s"
abbrev Ks:=inClass (top 41) 5
def PB:e_ ["self"] Ks:=by walk_at "s"
abbrev Iq:=inClass (top 41) 6
def Pn:e_ ["self","number"] Iq:=by walk_at "s"
abbrev IS:=inClass (top 41) 7
def abw:e_ ["self","folder","name"] IS:=by walk_at "s"
abbrev MC:=inClass (top 41) 8
def Tw:e_ ["self","number"] MC:=by walk_at "s"
abbrev KA:=inClass (top 41) 9
def Ts:e_ ["self","number"] KA:=by walk_at "s"
abbrev JT:=inClass (top 41) 10
def WX:e_ ["self","number"] JT:=by walk_at "s"
abbrev KI:=inClass (top 41) 11
def KD:aE ["self","number","mine","rest","thing"] ["self","number","mine","rest"] (aw KI):=by walk_at "s"
abbrev AG:=inClass (top 41) 12
def LZ:aE ["self","number","text","thing"] ["self","number","text"] (aw AG):=by walk_at "s"
abbrev MR:=inClass (top 41) 13
def xi:aE ["self","folder","name","number","thing","former","known"] ["self","folder","name","number"] (aw MR):=by walk_at "s"
abbrev HR:=inClass (top 41) 14
def KJ:aE ["self","folder","name","number"] ["self","folder","name"] (aw HR):=by walk_at "s"
abbrev ID:=inClass (top 45) 0
def VY:e_ ["self","number","way"] ID:=by walk_at "s"
abbrev GO:=inClass (top 46) 0
def WJ:e_ ["self","step","reason"] GO:=by walk_at "s"
abbrev Ap:=inClass (top 47) 0
def WW:e_ ["self","leads"] Ap:=by walk_at "s"
abbrev Bi:=inClass (top 48) 0
def UW:e_ ["self","house","asker","last"] Bi:=by walk_at "s"
abbrev DO:=inClass (top 48) 1
def Lh:aE ["self","from_root","parts","start"] ["self","from_root","parts"] (aw DO):=by walk_at "s"
abbrev DU:=inClass (top 48) 2
def Mb:aE ["self","part"] ["self"] (aw DU):=by walk_at "s"
abbrev Al:=inClass (top 48) 3
def Z7:e_ ["self","reason"] Al:=by walk_at "s"
abbrev zL:=inClass (top 48) 4
def Q6:e_ ["self","part"] zL:=by walk_at "s"
abbrev zX:=inClass (top 48) 5
def JW:aE ["self","stack"] ["self"] (aw zX):=by walk_at "s"
abbrev DJ:=inClass (top 48) 6
def Dl:aE ["self","name","number","kind"] ["self","name"] (aw DJ):=by walk_at "s"
abbrev Bz:=inClass (top 48) 7
def abv:e_ ["self","number"] Bz:=by walk_at "s"
abbrev Ax:=inClass (top 48) 8
def M8:aE ["self","number","read"] ["self","number"] (aw Ax):=by walk_at "s"
abbrev CI:=inClass (top 48) 9
def tI:aE ["self","names","folder"] ["self"] (aw CI):=by walk_at "s"
abbrev JY:=inClass (top 55) 0
def Vp:e_ ["self","folder","name"] JY:=by walk_at "s"
abbrev Hw:=inClass (top 78) 0
def abg:e_ ["self","owner"] Hw:=by walk_at "s"
abbrev Jk:=inClass (top 78) 1
def SY:e_ ["self","name"] Jk:=by walk_at "s"
abbrev Lx:=inClass (top 78) 4
def P7:e_ ["self","asker"] Lx:=by walk_at "s"
abbrev Ie:=inClass (top 78) 5
def RE:e_ ["self","asker"] Ie:=by walk_at "s"
abbrev JM:=inClass (top 78) 6
def PQ:e_ ["self","number"] JM:=by walk_at "s"
abbrev Kn:=inClass (top 78) 7
def Ur:e_ ["self","number"] Kn:=by walk_at "s"
abbrev M5:=inClass (top 78) 8
def GQ:aE ["self","number","thing"] ["self","number"] (aw M5):=by walk_at "s"
abbrev IM:=inClass (top 78) 9
def UJ:e_ ["self"] IM:=by walk_at "s"
abbrev HA:=inClass (top 78) 10
def Tc:e_ ["self","number","name"] HA:=by walk_at "s"
abbrev Jq:=inClass (top 78) 11
def Y7:e_ ["self","number"] Jq:=by walk_at "s"
abbrev G7:=inClass (top 78) 12
def RI:e_ ["self","number"] G7:=by walk_at "s"
abbrev GV:=inClass (top 78) 13
def RX:e_ ["self","number"] GV:=by walk_at "s"
abbrev Ji:=inClass (top 78) 14
def WR:e_ ["self","number"] Ji:=by walk_at "s"
abbrev IG:=inClass (top 78) 17
def P2:e_ ["self","asker","number","right"] IG:=by walk_at "s"
abbrev MZ:=inClass (top 78) 23
def UM:e_ ["self","asker"] MZ:=by walk_at "s"
abbrev LL:=inClass (top 78) 25
def Zw:e_ ["self","number"] LL:=by walk_at "s"
abbrev Lj:=inClass (top 78) 26
def Uk:e_ ["self","name"] Lj:=by walk_at "s"
abbrev M6:=inClass (top 78) 27
def Vx:e_ ["self","asker","folder"] M6:=by walk_at "s"
abbrev Jl:=inClass (top 78) 28
def Ww:e_ ["self","asker","folder"] Jl:=by walk_at "s"
abbrev IZ:=inClass (top 78) 29
def LN:aE ["self","tree","owner","root"] ["self","tree","owner"] (aw IZ):=by walk_at "s"
set_option genInjectivity false in
set_option genSizeOf false in
structure Tx (K:PySem.W.Frag) (mg:Str->Option Value) where
 fR:FT K mg "top_of" "top_of" G0 ["house","folder"]
 rb:FT K mg "base_of" "base_of" K7 ["house","folder"]
 dZ:FT K mg "stack_of" "stack_of" KW ["house","folder"]
 qV:FT K mg "is_seen" "is_seen" DP ["house","asker","folder"]
 kE:FT K mg "is_whole" "is_whole" Iu ["number"]
 ib:FT K mg "is_name" "is_name" Jp ["text"]
 qm:FT K mg "is_rights" "is_rights" IJ ["text"]
 qW:FT K mg "is_text" "is_text" Ik ["text"]
 pQ:FT K mg "is_part" "is_part" IK ["text"]
 cy:FT K mg "parts_of" "parts_of" K2 ["path"]
 ic:FT K mg "check_name" "check_name" IF ["text"]
 dW:FT K mg "check_rights" "check_rights" Ho ["text"]
 qd:FT K mg "check_one_right" "check_one_right" Lv ["text"]
 kG:FT K mg "check_text" "check_text" HG ["text"]
 pX:FT K mg "check_lead" "check_lead" Ay ["path"]
 pO:FT K mg "names_to" "names_to" zU ["house","asker","folder"]
 qG:FT K mg "from_least" "from_least" BM ["leads"]
 kW:FT K mg "walk_parts" "walk_parts" B6 ["house","asker","from_root","parts","last"]
 qo:FT K mg "walk_path" "walk_path" BP ["house","asker","path","last"]
 {EV:Addr}
 {yE:FuncData}
 sL:mL K "walk" "walk" vd EV yE [.bool true]
 LC:mg "walk" = some (.ref EV)
 Jy:Binds K yE ["house","asker","path","last"] []
 wk:Binds K yE ["house","asker","path","last"] [.bool true]
 qR:FT K mg "check_seat" "check_seat" zp ["path"]
 qy:FT K mg "seat_of" "seat_of" Eo ["house","asker","path"]
 qK:FT K mg "thing_at" "thing_at" zY ["house","seat"]
 kx:FT K mg "number_found" "number_found" BR ["told"]
 kH:FT K mg "is_folder" "is_folder" IP ["house","number"]
 iB:FT K mg "find_any" "find_any" DV ["house","asker","path"]
 kN:FT K mg "find_file" "find_file" D6 ["house","asker","path"]
 qN:FT K mg "find_folder" "find_folder" BV ["house","asker","path"]
 fQ:FT K mg "check_may" "check_may" Cb ["house","asker","number","right","reason"]
 qh:FT K mg "check_kept" "check_kept" En ["house","asker","folder"]
 pZ:FT K mg "check_free" "check_free" Bv ["house","seat"]
 iq:FT K mg "free_seat_of" "free_seat_of" Bm ["house","asker","path"]
 hV:FT K mg "seat_thing" "seat_thing" zr ["house","seat","number"]
 {Fm:Addr}
 {vG:FuncData}
 {OZ:Tok}
 {ET:Tok}
 xQ:mL K "make_folder" "make_folder" qY Fm vG [.str "lgw" OZ,.str "" ET]
 UO:mg "make_folder" = some (.ref Fm)
 Cr:Binds K vG ["house","asker","path","mine","rest"] []
 Hl:Binds K vG ["house","asker","path","mine","rest"] [.str "" ET]
 IY:Binds K vG ["house","asker","path","mine","rest"] [.str "lgw" OZ,.str "" ET]
 {Fj:Addr}
 {vy:FuncData}
 {Ny:Tok}
 {EY:Tok}
 xw:mL K "make_file" "make_file" qr Fj vy [.str "lgw" Ny,.str "" EY]
 QF:mg "make_file" = some (.ref Fj)
 zN:Binds K vy ["house","asker","path","text","mine","rest"] []
 MP:Binds K vy ["house","asker","path","text","mine","rest"] [.str "" EY]
 Jz:Binds K vy ["house","asker","path","text","mine","rest"] [.str "lgw" Ny,.str "" EY]
 qF:FT K mg "make_lead" "make_lead" CP ["house","asker","path","lead"]
 qz:FT K mg "set_rights" "set_rights" zh ["house","asker","path","mine","rest"]
 pP:FT K mg "read" "read" zS ["house","asker","path"]
 rq:FT K mg "write" "write" Dz ["house","asker","path","text"]
 kL:FT K mg "look" "look" zI ["house","asker","path"]
 qB:FT K mg "_law_mixed" "_law_mixed" IV ["_law_cell","_law_k"]
 lb:FT K mg "_law_source" "_law_source" J5 ["_law_cell"]
 bH:FT K mg "_law_next" "_law_next" J9 ["_law_source_here","_law_size"]
 qf:FT K mg "_law_word" "_law_word" D1 ["_law_source_here"]
 g8:FT K mg "_law_path" "_law_path" C9 ["_law_source_here","_law_most"]
 dq:FT K mg "_law_asked" "_law_asked" DA ["_law_ask"]
 lq:FT K mg "_law_told" "_law_told" Ep ["_law_told_here"]
 {Gh:Addr}
 {yD:FuncData}
 xD:eP K "_law_built" "_law_built" jC Gh yD
 Tr:mg "_law_built" = some (.ref Gh)
 C0:Binds K yD ["_law_house","_law_cell"] []
 iA:FT K mg "_law_all" "_law_all" BH ["_law_house"]
 ig:FT K mg "_law_same" "_law_same" DS ["_law_found","_law_due_here"]
 qA:FT K mg "_law_text" "_law_text" CQ ["_law_source_here"]
 hJ:FT K mg "_law_due" "_law_due" EF ["_law_house","_law_asker","_law_path_here","_law_kind","_law_sign","_law_word_here"]
 {Fc:Addr}
 {yM:FuncData}
 xh:eP K "_law_read" "_law_read" qw Fc yM
 T8:mg "_law_read" = some (.ref Fc)
 Bj:Binds K yM ["_law_house","_law_texts","_law_asker","_law_path_here"] []
 {FU:Addr}
 {yZ:FuncData}
 yi:eP K "_law_written" "_law_written" qJ FU yZ
 T6:mg "_law_written" = some (.ref FU)
 zf:Binds K yZ ["_law_house","_law_texts","_law_asker","_law_path_here","_law_text_here"] []
 {FY:Addr}
 {y6:FuncData}
 wq:eP K "_law_looked" "_law_looked" qQ FY y6
 abK:mg "_law_looked" = some (.ref FY)
 Ez:Binds K y6 ["_law_house","_law_asker","_law_path_here"] []
 {Fp:Addr}
 {vx:FuncData}
 xu:eP K "law" "law" l9 Fp vx
 ZJ:mg "law" = some (.ref Fp)
 MB:Binds K vx ["_law_script"] []
 {FV:Addr}
 YY:mg "DOTS" = some (.ref FV)
 BW:∀ H:Hp,bw K H FV [.str ".",.str ".."]
 {t_FILE:Tok}
 A0:mg "FILE" = some (.str "file" t_FILE)
 {t_FIRST_TREE:Tok}
 Q7:mg "FIRST_TREE" = some (.str "main" t_FIRST_TREE)
 {t_FOLDER:Tok}
 tN:mg "FOLDER" = some (.str "folder" t_FOLDER)
 {ei:Addr}
 Np:mg "Failed" = some (.ref ei)
 {dH:Addr}
 xS:mg "Found" = some (.ref dH)
 {aI:Addr}
 Vt:mg "House" = some (.ref aI)
 {t_LEAD:Tok}
 Xl:mg "LEAD" = some (.str "lead" t_LEAD)
 {t_LETTERS:Tok}
 aaH:mg "LETTERS" = some (.str "abcdefghijklmnopqrstuvwxyz" t_LETTERS)
 {Ft:Addr}
 YW:mg "LeadError" = some (.ref Ft)
 {t_MOST_IN_LEAD:Tok}
 Pp:mg "MOST_IN_LEAD" = some (.int 120 t_MOST_IN_LEAD)
 {t_MOST_IN_NAME:Tok}
 Vl:mg "MOST_IN_NAME" = some (.int 8 t_MOST_IN_NAME)
 {t_MOST_IN_PATH:Tok}
 U9:mg "MOST_IN_PATH" = some (.int 2000 t_MOST_IN_PATH)
 {t_MOST_IN_TEXT:Tok}
 U8:mg "MOST_IN_TEXT" = some (.int 60 t_MOST_IN_TEXT)
 {t_MOST_LEADS:Tok}
 VI:mg "MOST_LEADS" = some (.int 40 t_MOST_LEADS)
 {rE:Addr}
 U7:mg "NoAsker" = some (.ref rE)
 {eV:Addr}
 oE:mg "NoDeed" = some (.ref eV)
 {vL:Addr}
 YO:mg "NoRights" = some (.ref vL)
 {rH:Addr}
 WS:mg "NoThing" = some (.ref rH)
 {eX:Addr}
 MF:mg "NoWay" = some (.ref eX)
 {Fo:Addr}
 Tg:mg "RIGHTS" = some (.ref Fo)
 BN:∀ H:Hp,bw K H Fo [.str "",.str "l",.str "g",.str "w",.str "lg",.str "lw",.str "gw",.str "lgw"]
 {fL:Addr}
 Zi:mg "Ring" = some (.ref fL)
 {FW:Addr}
 aaR:mg "SINGLE_RIGHTS" = some (.ref FW)
 BJ:∀ H:Hp,bw K H FW [.str "l",.str "g",.str "w"]
 {lG:Addr}
 aaQ:mg "Seat" = some (.ref lG)
 {aW:Addr}
 Xj:mg "Thing" = some (.ref aW)
 {aP:Addr}
 XJ:mg "Things" = some (.ref aP)
 {bj:Addr}
 XZ:mg "Walk" = some (.ref bj)
 Ku:mg "all" = none
 g_bool:mg "bool" = none
 BA:mg "int" = none
 gF:mg "isinstance" = none
 nS:mg "len" = none
 rn:mg "list" = none
 LF:mg "min" = none
 vh:mg "range" = none
 Av:mg "reversed" = none
 An:mg "sorted" = none
 qD:mg "str" = none
 uN:MT K eX "__init__" "NoWay.__init__" Lz ["self","told"]
 jD:MT K eV "__init__" "NoDeed.__init__" J0 ["self","reason"]
 sT:MT K aW "__init__" "Thing.__init__" HF ["self","number","kind","owner","mine","rest","text"]
 sA:MT K aW "rights_for" "Thing.rights_for" LS ["self","asker"]
 tZ:MT K aP "__init__" "Things.__init__" Mv ["self"]
 kQ:MT K aP "add_thing" "Things.add_thing" JE ["self","kind","owner","mine","rest","text"]
 oj:MT K aP "add_folder" "Things.add_folder" Ib ["self","owner","mine","rest"]
 uC:MT K aP "add_file" "Things.add_file" HB ["self","owner","text","mine","rest"]
 sr:MT K aP "add_lead" "Things.add_lead" MY ["self","owner","path"]
 tq:MT K aP "many" "Things.many" Ks ["self"]
 cE:MT K aP "at" "Things.at" Iq ["self","number"]
 nY:MT K aP "child" "Things.child" IS ["self","folder","name"]
 sU:MT K aP "names_in" "Things.names_in" MC ["self","number"]
 sY:MT K aP "places_of" "Things.places_of" KA ["self","number"]
 tS:MT K aP "place_of" "Things.place_of" JT ["self","number"]
 uG:MT K aP "put_rights" "Things.put_rights" KI ["self","number","mine","rest"]
 uT:MT K aP "put_text" "Things.put_text" AG ["self","number","text"]
 sZ:MT K aP "put_name" "Things.put_name" MR ["self","folder","name","number"]
 uv:MT K aP "drop_name" "Things.drop_name" HR ["self","folder","name"]
 sE:MT K dH "__init__" "Found.__init__" ID ["self","number","way"]
 sy:MT K ei "__init__" "Failed.__init__" GO ["self","step","reason"]
 tG:MT K fL "__init__" "Ring.__init__" Ap ["self","leads"]
 vb:MT K bj "__init__" "Walk.__init__" Bi ["self","house","asker","last"]
 vf:MT K bj "begin" "Walk.begin" DO ["self","from_root","parts"]
 tJ:MT K bj "go_on" "Walk.go_on" DU ["self"]
 gG:MT K bj "fail" "Walk.fail" Al ["self","reason"]
 sV:MT K bj "take_step" "Walk.take_step" zL ["self","part"]
 uW:MT K bj "go_up" "Walk.go_up" zX ["self"]
 uA:MT K bj "go_by" "Walk.go_by" DJ ["self","name"]
 su:MT K bj "meet_lead" "Walk.meet_lead" Bz ["self","number"]
 uM:MT K bj "read_lead" "Walk.read_lead" Ax ["self","number"]
 uK:MT K bj "true_path" "Walk.true_path" CI ["self"]
 tL:MT K lG "__init__" "Seat.__init__" JY ["self","folder","name"]
 vc:MT K aI "__init__" "House.__init__" Hw ["self","owner"]
 uc:MT K aI "enroll" "House.enroll" Jk ["self","name"]
 kM:MT K aI "root_of" "House.root_of" Lx ["self","asker"]
 tj:MT K aI "standing_of" "House.standing_of" Ie ["self","asker"]
 fX:MT K aI "kind_of" "House.kind_of" JM ["self","number"]
 nJ:MT K aI "owner_of" "House.owner_of" Kn ["self","number"]
 tO:MT K aI "rights_of" "House.rights_of" M5 ["self","number"]
 kX:MT K aI "many" "House.many" IM ["self"]
 oG:MT K aI "child" "House.child" HA ["self","number","name"]
 iY:MT K aI "names_in" "House.names_in" Jq ["self","number"]
 gO:MT K aI "text_of" "House.text_of" G7 ["self","number"]
 ly:MT K aI "place_of" "House.place_of" GV ["self","number"]
 uO:MT K aI "places_of" "House.places_of" Ji ["self","number"]
 ko:MT K aI "may" "House.may" IG ["self","asker","number","right"]
 dU:MT K aI "check_asker" "House.check_asker" MZ ["self","asker"]
 ue:MT K aI "check_thing" "House.check_thing" LL ["self","number"]
 oI:MT K aI "add_asker" "House.add_asker" Lj ["self","name"]
 uI:MT K aI "put_root" "House.put_root" M6 ["self","asker","folder"]
 sG:MT K aI "put_standing" "House.put_standing" Jl ["self","asker","folder"]
 ux:MT K aI "add_tree" "House.add_tree" IZ ["self","tree","owner"]
 mK:cS K ei
 Zn:Mk K ei sy.f
 iQ:cS K dH
 WL:Mk K dH sE.f
 aJ:cS K aI
 XU:Mk K aI vc.f
 rh:cS K fL
 Rr:Mk K fL tG.f
 oW:cS K lG
 Tq:Mk K lG tL.f
 cP:cS K aW
 Xr:Mk K aW sT.f
 bS:cS K aP
 abq:Mk K aP tZ.f
 aL:cS K bj
 Qq:Mk K bj vb.f
 Mx:bI K ei "reason"
 JC:bI K ei "step"
 qC:bI K dH "number"
 KN:bI K dH "way"
 wN:bI K aI "changes"
 C8:bI K aI "first_root"
 B0:bI K aI "folder_under"
 ZO:bI K aI "holds"
 WZ:bI K aI "holds_given"
 AV:bI K aI "root_over"
 tR:bI K aI "roots"
 Bl:bI K aI "standings"
 eE:bI K aI "things"
 HE:bI K aI "tree_roots"
 HW:bI K fL "leads"
 wG:bI K lG "folder"
 Ct:bI K lG "name"
 BF:bI K aW "kind"
 wX:bI K aW "mine"
 wZ:bI K aW "names"
 Y9:bI K aW "number"
 Bs:bI K aW "owner"
 tT:bI K aW "places"
 yj:bI K aW "rest"
 BC:bI K aW "text"
 tX:bI K aP "changes"
 rg:bI K aP "made"
 HU:bI K bj "asked"
 tH:bI K bj "asker"
 fE:bI K bj "here"
 fz:bI K bj "house"
 JO:bI K bj "last"
 Dd:bI K bj "leads_read"
 nR:bI K bj "left"
 LW:bI K bj "looked_up"
 xV:bI K bj "place"
 rm:bI K bj "reading"
 uy:bI K bj "root"
 B8:bI K bj "step"
 mF:bI K bj "told"
 mw:gm K eV jD.f "reason"
 qp:PySem.W.typeIn K (.ref eV)=some (.type "type")
 Ca:gm K eX uN.f "told"
 Rn:PySem.W.typeIn K (.ref eX)=some (.type "type")
 {pJ:Addr}
 DH:yD.code=.ref pJ
 {oZ:Addr}
 ab4:yM.code=.ref oZ
 {o9:Addr}
 Z6:yZ.code=.ref o9
 {pG:Addr}
 YV:y6.code=.ref pG
 {rA:Addr}
 SM:vx.code=.ref rA
 Sa:PySem.W.excIn K rE [.type "ValueError",.type "Exception",.type "BaseException",.type "object"] "ValueError.__new__" = true
 P0:PySem.W.excIn K vL [.type "ValueError",.type "Exception",.type "BaseException",.type "object"] "ValueError.__new__" = true
 Sh:PySem.W.excIn K rH [.type "ValueError",.type "Exception",.type "BaseException",.type "object"] "ValueError.__new__" = true
 RQ:PySem.W.instIn K (.ref Ft) (.type "tuple")=some false
 VC:PySem.W.mroIn K Ft (.type "BaseException")=some true
 aak:PySem.W.instIn K (.ref eV) (.type "tuple")=some false
 Y5:PySem.W.mroIn K eV (.type "BaseException")=some true
 Us:PySem.W.instIn K (.ref eX) (.type "tuple")=some false
 Wz:PySem.W.mroIn K eX (.type "BaseException")=some true
 Zk:PySem.W.findIn K (.ref eX) "__class__" = some (some (.builtin "object.__class__"))
 Zg:PySem.W.specialIn K (.builtin "object.__class__") "__get__" = some (some (.builtin "getset_descriptor.__get__"))
 abD:PySem.W.takesIn K (.builtin "object.__class__")=some true
 XR:PySem.W.mroIn K eX (.type "object")=some true
 V3:PySem.W.findIn K (.ref eX) "__getattribute__" = some (some (.builtin "BaseException.__getattribute__"))
 V1:PySem.W.findIn K (.ref eX) "__getattr__" = some none
 Vu:PySem.W.mroIn K eX (.type "BaseException")=some true
 XF:PySem.W.findIn K (.ref eV) "__class__" = some (some (.builtin "object.__class__"))
 Uw:PySem.W.specialIn K (.builtin "object.__class__") "__get__" = some (some (.builtin "getset_descriptor.__get__"))
 ab2:PySem.W.takesIn K (.builtin "object.__class__")=some true
 TV:PySem.W.mroIn K eV (.type "object")=some true
 Z1:PySem.W.findIn K (.ref eV) "__getattribute__" = some (some (.builtin "BaseException.__getattribute__"))
 aba:PySem.W.findIn K (.ref eV) "__getattr__" = some none
 Si:PySem.W.mroIn K eV (.type "BaseException")=some true
 q1:PySem.W.findIn K (.ref dH) "__class__" = some (some (.builtin "object.__class__"))
 q2:PySem.W.specialIn K (.builtin "object.__class__") "__get__" = some (some (.builtin "getset_descriptor.__get__"))
 q3:PySem.W.takesIn K (.builtin "object.__class__")=some true
 q4:PySem.W.mroIn K dH (.type "object")=some true
 q5:PySem.W.kitOne K (.ref dH) (.ref dH)=some true
 q6:PySem.W.findIn K (.ref ei) "__class__" = some (some (.builtin "object.__class__"))
 q7:PySem.W.mroIn K ei (.type "object")=some true
 q8:PySem.W.kitOne K (.ref ei) (.ref dH)=some false
 q9:PySem.W.kitOne K (.ref dH) (.ref ei)=some false
 Qj:PySem.W.kitOne K (.ref ei) (.ref ei)=some true
 xO:PySem.W.findIn K (.ref fL) "__class__" = some (some (.builtin "object.__class__"))
 wF:PySem.W.mroIn K fL (.type "object")=some true
 DL:PySem.W.kitOne K (.ref fL) (.ref dH)=some false
 q18:PySem.W.kitOne K (.ref fL) (.ref ei)=some false
 ZW:PySem.W.subIn K (.ref eX) (.ref eX)=some true
 Rz:PySem.W.subIn K (.ref eV) (.ref eX)=some false
 Qh:PySem.W.subIn K (.ref eV) (.ref eV)=some true
def qH:List Nat:=List.range' 97 26
def isNm (l:List Nat):Bool:=decide (1<=l.length) && decide (l.length<=8) && l.all (qH.contains ·)
def fq:V->Bool
 | .str z=>isNm z.cps.toList
 | _=>false
def Jj:V->Prop
 | .str z=>z.length<=1000
 | _=>True
def stI {t:TS} {D:Ends} {H:Hp} {σ:L2.St} (τ:L2.St) (h:t D τ H) (e:σ=τ:=by rfl):t D σ H:=e ▸ h
inductive X1 {α0:Type} (R:α0->Prop):Prop | mk:∀ x0,R x0->X1 R
inductive X2 {α0 α1:Type} (R:α0->α1->Prop):Prop | mk:∀ x0 x1,R x0 x1->X2 R
inductive X3 {α0 α1 α2:Type} (R:α0->α1->α2->Prop):Prop | mk:∀ x0 x1 x2,R x0 x1 x2->X3 R
inductive X4 {α0 α1 α2 α3:Type} (R:α0->α1->α2->α3->Prop):Prop | mk:∀ x0 x1 x2 x3,R x0 x1 x2 x3->X4 R
inductive X5 {α0 α1 α2 α3 α4:Type} (R:α0->α1->α2->α3->α4->Prop):Prop | mk:∀ x0 x1 x2 x3 x4,R x0 x1 x2 x3 x4->X5 R
inductive X6 {α0 α1 α2 α3 α4 α5:Type} (R:α0->α1->α2->α3->α4->α5->Prop):Prop | mk:∀ x0 x1 x2 x3 x4 x5,R x0 x1 x2 x3 x4 x5->X6 R
inductive X7 {α0 α1 α2 α3 α4 α5 α6:Type} (R:α0->α1->α2->α3->α4->α5->α6->Prop):Prop | mk:∀ x0 x1 x2 x3 x4 x5 x6,R x0 x1 x2 x3 x4 x5 x6->X7 R
inductive X8 {α0 α1 α2 α3 α4 α5 α6 α7:Type} (R:α0->α1->α2->α3->α4->α5->α6->α7->Prop):Prop | mk:∀ x0 x1 x2 x3 x4 x5 x6 x7,R x0 x1 x2 x3 x4 x5 x6 x7->X8 R
inductive X9 {α0 α1 α2 α3 α4 α5 α6 α7 α8:Type} (R:α0->α1->α2->α3->α4->α5->α6->α7->α8->Prop):Prop | mk:∀ x0 x1 x2 x3 x4 x5 x6 x7 x8,R x0 x1 x2 x3 x4 x5 x6 x7 x8->X9 R
inductive Kz {α0 α1 α2 α3 α4 α5 α6 α7 α8 α9:Type} (R:α0->α1->α2->α3->α4->α5->α6->α7->α8->α9->Prop):Prop | mk:∀ x0 x1 x2 x3 x4 x5 x6 x7 x8 x9,R x0 x1 x2 x3 x4 x5 x6 x7 x8 x9->Kz R
inductive LB {α0 α1 α2 α3 α4 α5 α6 α7 α8 α9 α10:Type} (R:α0->α1->α2->α3->α4->α5->α6->α7->α8->α9->α10->Prop):Prop | mk:∀ x0 x1 x2 x3 x4 x5 x6 x7 x8 x9 x10,R x0 x1 x2 x3 x4 x5 x6 x7 x8 x9 x10->LB R
inductive A2 (p0 p1:Prop):Prop | mk:p0->p1->A2 p0 p1
inductive A3 (p0 p1 p2:Prop):Prop | mk:p0->p1->p2->A3 p0 p1 p2
inductive A4 (p0 p1 p2 p3:Prop):Prop | mk:p0->p1->p2->p3->A4 p0 p1 p2 p3
inductive A5 (p0 p1 p2 p3 p4:Prop):Prop | mk:p0->p1->p2->p3->p4->A5 p0 p1 p2 p3 p4
inductive A6 (p0 p1 p2 p3 p4 p5:Prop):Prop | mk:p0->p1->p2->p3->p4->p5->A6 p0 p1 p2 p3 p4 p5
inductive A7 (p0 p1 p2 p3 p4 p5 p6:Prop):Prop | mk:p0->p1->p2->p3->p4->p5->p6->A7 p0 p1 p2 p3 p4 p5 p6
inductive A8 (p0 p1 p2 p3 p4 p5 p6 p7:Prop):Prop | mk:p0->p1->p2->p3->p4->p5->p6->p7->A8 p0 p1 p2 p3 p4 p5 p6 p7
inductive A9 (p0 p1 p2 p3 p4 p5 p6 p7 p8:Prop):Prop | mk:p0->p1->p2->p3->p4->p5->p6->p7->p8->A9 p0 p1 p2 p3 p4 p5 p6 p7 p8
inductive AQ (p0 p1 p2 p3 p4 p5 p6 p7 p8 p9:Prop):Prop | mk:p0->p1->p2->p3->p4->p5->p6->p7->p8->p9->AQ p0 p1 p2 p3 p4 p5 p6 p7 p8 p9
inductive Df (p0 p1 p2 p3 p4 p5 p6 p7 p8 p9 p10 p11 p12:Prop):Prop | mk:p0->p1->p2->p3->p4->p5->p6->p7->p8->p9->p10->p11->p12->Df p0 p1 p2 p3 p4 p5 p6 p7 p8 p9 p10 p11 p12
inductive JA (p0 p1 p2 p3 p4 p5 p6 p7 p8 p9 p10 p11 p12 p13:Prop):Prop | mk:p0->p1->p2->p3->p4->p5->p6->p7->p8->p9->p10->p11->p12->p13->JA p0 p1 p2 p3 p4 p5 p6 p7 p8 p9 p10 p11 p12 p13
def a1 (f:V->Hp->VK->XK->Prop):Sp:=fun vs H Q E=>match vs with
 | [x1]=>f x1 H Q E
 | _=>False
def a1.o {f:V->Hp->VK->XK->Prop} {vs:List V} {H:Hp} {Q:VK} {E:XK} (h:a1 f vs H Q E):∃ x1,vs=[x1]/\f x1 H Q E:=by
 unfold a1 at h;split at h
 ·exact ⟨_,rfl,h⟩
 ·exact h.elim
def a2 (f:V->V->Hp->VK->XK->Prop):Sp:=fun vs H Q E=>match vs with
 | [x1,x2]=>f x1 x2 H Q E
 | _=>False
def a2.o {f:V->V->Hp->VK->XK->Prop} {vs:List V} {H:Hp} {Q:VK} {E:XK} (h:a2 f vs H Q E):∃ x1 x2,vs=[x1,x2]/\f x1 x2 H Q E:=by
 unfold a2 at h;split at h
 ·exact ⟨_,_,rfl,h⟩
 ·exact h.elim
def a3 (f:V->V->V->Hp->VK->XK->Prop):Sp:=fun vs H Q E=>match vs with
 | [x1,x2,x3]=>f x1 x2 x3 H Q E
 | _=>False
def a3.o {f:V->V->V->Hp->VK->XK->Prop} {vs:List V} {H:Hp} {Q:VK} {E:XK} (h:a3 f vs H Q E):∃ x1 x2 x3,vs=[x1,x2,x3]/\f x1 x2 x3 H Q E:=by
 unfold a3 at h;split at h
 ·exact ⟨_,_,_,rfl,h⟩
 ·exact h.elim
def a4 (f:V->V->V->V->Hp->VK->XK->Prop):Sp:=fun vs H Q E=>match vs with
 | [x1,x2,x3,x4]=>f x1 x2 x3 x4 H Q E
 | _=>False
def a4.o {f:V->V->V->V->Hp->VK->XK->Prop} {vs:List V} {H:Hp} {Q:VK} {E:XK} (h:a4 f vs H Q E):∃ x1 x2 x3 x4,vs=[x1,x2,x3,x4]/\f x1 x2 x3 x4 H Q E:=by
 unfold a4 at h;split at h
 ·exact ⟨_,_,_,_,rfl,h⟩
 ·exact h.elim
def a5 (f:V->V->V->V->V->Hp->VK->XK->Prop):Sp:=fun vs H Q E=>match vs with
 | [x1,x2,x3,x4,x5]=>f x1 x2 x3 x4 x5 H Q E
 | _=>False
def a5.o {f:V->V->V->V->V->Hp->VK->XK->Prop} {vs:List V} {H:Hp} {Q:VK} {E:XK} (h:a5 f vs H Q E):∃ x1 x2 x3 x4 x5,vs=[x1,x2,x3,x4,x5]/\f x1 x2 x3 x4 x5 H Q E:=by
 unfold a5 at h;split at h
 ·exact ⟨_,_,_,_,_,rfl,h⟩
 ·exact h.elim
def a6 (f:V->V->V->V->V->V->Hp->VK->XK->Prop):Sp:=fun vs H Q E=>match vs with
 | [x1,x2,x3,x4,x5,x6]=>f x1 x2 x3 x4 x5 x6 H Q E
 | _=>False
def a6.o {f:V->V->V->V->V->V->Hp->VK->XK->Prop} {vs:List V} {H:Hp} {Q:VK} {E:XK} (h:a6 f vs H Q E):∃ x1 x2 x3 x4 x5 x6,vs=[x1,x2,x3,x4,x5,x6]/\f x1 x2 x3 x4 x5 x6 H Q E:=by
 unfold a6 at h;split at h
 ·exact ⟨_,_,_,_,_,_,rfl,h⟩
 ·exact h.elim
def a7 (f:V->V->V->V->V->V->V->Hp->VK->XK->Prop):Sp:=fun vs H Q E=>match vs with
 | [x1,x2,x3,x4,x5,x6,x7]=>f x1 x2 x3 x4 x5 x6 x7 H Q E
 | _=>False
def a7.o {f:V->V->V->V->V->V->V->Hp->VK->XK->Prop} {vs:List V} {H:Hp} {Q:VK} {E:XK} (h:a7 f vs H Q E):∃ x1 x2 x3 x4 x5 x6 x7,vs=[x1,x2,x3,x4,x5,x6,x7]/\f x1 x2 x3 x4 x5 x6 x7 H Q E:=by
 unfold a7 at h;split at h
 ·exact ⟨_,_,_,_,_,_,_,rfl,h⟩
 ·exact h.elim
def vR (v:V) (k:Addr->Prop):Prop:=match v with
 | .ref x=>k x
 | _=>False
def vR.o {v:V} {k:Addr->Prop} (h:vR v k):∃ x,v=.ref x/\k x:=by
 unfold vR at h;split at h
 ·exact ⟨_,rfl,h⟩
 ·exact h.elim
def vS (v:V) (k:Str->Prop):Prop:=match v with
 | .str x=>k x
 | _=>False
def vS.o {v:V} {k:Str->Prop} (h:vS v k):∃ x,v=.str x/\k x:=by
 unfold vS at h;split at h
 ·exact ⟨_,rfl,h⟩
 ·exact h.elim
def vI (v:V) (k:Int->Prop):Prop:=match v with
 | .int x=>k x
 | _=>False
def vI.o {v:V} {k:Int->Prop} (h:vI v k):∃ x,v=.int x/\k x:=by
 unfold vI at h;split at h
 ·exact ⟨_,rfl,h⟩
 ·exact h.elim
def vB (v:V) (k:Bool->Prop):Prop:=match v with
 | .bl x=>k x
 | _=>False
def vB.o {v:V} {k:Bool->Prop} (h:vB v k):∃ x,v=.bl x/\k x:=by
 unfold vB at h;split at h
 ·exact ⟨_,rfl,h⟩
 ·exact h.elim
def HP (f:Int->Hp->VK->XK->Prop):Sp:=a1 fun q1 H Q E=>vI q1 fun x1=>f x1 H Q E
@[elab_as_elim] theorem JR {f:Int->Hp->VK->XK->Prop} {vs:List V} {H:Hp} {Q:VK} {E:XK} {G:List V->Prop} (h:HP f vs H Q E) (k:∀ x1,f x1 H Q E->G [.int x1]):G vs:=by
 obtain ⟨_,rfl,h⟩:=a1.o h;obtain ⟨x1,rfl,h⟩:=vI.o h;exact k x1 h
def K3 (f:Int->Int->Hp->VK->XK->Prop):Sp:=a2 fun q1 q2 H Q E=>vI q1 fun x1=>vI q2 fun x2=>f x1 x2 H Q E
@[elab_as_elim] theorem Mg {f:Int->Int->Hp->VK->XK->Prop} {vs:List V} {H:Hp} {Q:VK} {E:XK} {G:List V->Prop} (h:K3 f vs H Q E) (k:∀ x1 x2,f x1 x2 H Q E->G [.int x1,.int x2]):G vs:=by
 obtain ⟨_,_,rfl,h⟩:=a2.o h;obtain ⟨x1,rfl,h⟩:=vI.o h;obtain ⟨x2,rfl,h⟩:=vI.o h;exact k x1 x2 h
def gL (f:Addr->Hp->VK->XK->Prop):Sp:=a1 fun q1 H Q E=>vR q1 fun x1=>f x1 H Q E
@[elab_as_elim] theorem cX {f:Addr->Hp->VK->XK->Prop} {vs:List V} {H:Hp} {Q:VK} {E:XK} {G:List V->Prop} (h:gL f vs H Q E) (k:∀ x1,f x1 H Q E->G [.ref x1]):G vs:=by
 obtain ⟨_,rfl,h⟩:=a1.o h;obtain ⟨x1,rfl,h⟩:=vR.o h;exact k x1 h
def MG (f:Addr->Bool->Addr->Hp->VK->XK->Prop):Sp:=a3 fun q1 q2 q3 H Q E=>vR q1 fun x1=>vB q2 fun x2=>vR q3 fun x3=>f x1 x2 x3 H Q E
@[elab_as_elim] theorem KQ {f:Addr->Bool->Addr->Hp->VK->XK->Prop} {vs:List V} {H:Hp} {Q:VK} {E:XK} {G:List V->Prop} (h:MG f vs H Q E) (k:∀ x1 x2 x3,f x1 x2 x3 H Q E->G [.ref x1,.bl x2,.ref x3]):G vs:=by
 obtain ⟨_,_,_,rfl,h⟩:=a3.o h;obtain ⟨x1,rfl,h⟩:=vR.o h;obtain ⟨x2,rfl,h⟩:=vB.o h;obtain ⟨x3,rfl,h⟩:=vR.o h;exact k x1 x2 x3 h
def jw (f:Addr->Int->Hp->VK->XK->Prop):Sp:=a2 fun q1 q2 H Q E=>vR q1 fun x1=>vI q2 fun x2=>f x1 x2 H Q E
@[elab_as_elim] theorem bY {f:Addr->Int->Hp->VK->XK->Prop} {vs:List V} {H:Hp} {Q:VK} {E:XK} {G:List V->Prop} (h:jw f vs H Q E) (k:∀ x1 x2,f x1 x2 H Q E->G [.ref x1,.int x2]):G vs:=by
 obtain ⟨_,_,rfl,h⟩:=a2.o h;obtain ⟨x1,rfl,h⟩:=vR.o h;obtain ⟨x2,rfl,h⟩:=vI.o h;exact k x1 x2 h
def uE (f:Addr->Int->Str->Hp->VK->XK->Prop):Sp:=a3 fun q1 q2 q3 H Q E=>vR q1 fun x1=>vI q2 fun x2=>vS q3 fun x3=>f x1 x2 x3 H Q E
@[elab_as_elim] theorem mT {f:Addr->Int->Str->Hp->VK->XK->Prop} {vs:List V} {H:Hp} {Q:VK} {E:XK} {G:List V->Prop} (h:uE f vs H Q E) (k:∀ x1 x2 x3,f x1 x2 x3 H Q E->G [.ref x1,.int x2,.str x3]):G vs:=by
 obtain ⟨_,_,_,rfl,h⟩:=a3.o h;obtain ⟨x1,rfl,h⟩:=vR.o h;obtain ⟨x2,rfl,h⟩:=vI.o h;obtain ⟨x3,rfl,h⟩:=vS.o h;exact k x1 x2 x3 h
def Ht (f:Addr->Int->Str->Int->Hp->VK->XK->Prop):Sp:=a4 fun q1 q2 q3 q4 H Q E=>vR q1 fun x1=>vI q2 fun x2=>vS q3 fun x3=>vI q4 fun x4=>f x1 x2 x3 x4 H Q E
@[elab_as_elim] theorem KL {f:Addr->Int->Str->Int->Hp->VK->XK->Prop} {vs:List V} {H:Hp} {Q:VK} {E:XK} {G:List V->Prop} (h:Ht f vs H Q E) (k:∀ x1 x2 x3 x4,f x1 x2 x3 x4 H Q E->G [.ref x1,.int x2,.str x3,.int x4]):G vs:=by
 obtain ⟨_,_,_,_,rfl,h⟩:=a4.o h;obtain ⟨x1,rfl,h⟩:=vR.o h;obtain ⟨x2,rfl,h⟩:=vI.o h;obtain ⟨x3,rfl,h⟩:=vS.o h;obtain ⟨x4,rfl,h⟩:=vI.o h;exact k x1 x2 x3 x4 h
def MO (f:Addr->Int->Str->Str->Hp->VK->XK->Prop):Sp:=a4 fun q1 q2 q3 q4 H Q E=>vR q1 fun x1=>vI q2 fun x2=>vS q3 fun x3=>vS q4 fun x4=>f x1 x2 x3 x4 H Q E
@[elab_as_elim] theorem Kb {f:Addr->Int->Str->Str->Hp->VK->XK->Prop} {vs:List V} {H:Hp} {Q:VK} {E:XK} {G:List V->Prop} (h:MO f vs H Q E) (k:∀ x1 x2 x3 x4,f x1 x2 x3 x4 H Q E->G [.ref x1,.int x2,.str x3,.str x4]):G vs:=by
 obtain ⟨_,_,_,_,rfl,h⟩:=a4.o h;obtain ⟨x1,rfl,h⟩:=vR.o h;obtain ⟨x2,rfl,h⟩:=vI.o h;obtain ⟨x3,rfl,h⟩:=vS.o h;obtain ⟨x4,rfl,h⟩:=vS.o h;exact k x1 x2 x3 x4 h
def uj (f:Addr->Addr->Hp->VK->XK->Prop):Sp:=a2 fun q1 q2 H Q E=>vR q1 fun x1=>vR q2 fun x2=>f x1 x2 H Q E
@[elab_as_elim] theorem mx {f:Addr->Addr->Hp->VK->XK->Prop} {vs:List V} {H:Hp} {Q:VK} {E:XK} {G:List V->Prop} (h:uj f vs H Q E) (k:∀ x1 x2,f x1 x2 H Q E->G [.ref x1,.ref x2]):G vs:=by
 obtain ⟨_,_,rfl,h⟩:=a2.o h;obtain ⟨x1,rfl,h⟩:=vR.o h;obtain ⟨x2,rfl,h⟩:=vR.o h;exact k x1 x2 h
def HC (f:Addr->Addr->Int->Hp->VK->XK->Prop):Sp:=a3 fun q1 q2 q3 H Q E=>vR q1 fun x1=>vR q2 fun x2=>vI q3 fun x3=>f x1 x2 x3 H Q E
@[elab_as_elim] theorem M7 {f:Addr->Addr->Int->Hp->VK->XK->Prop} {vs:List V} {H:Hp} {Q:VK} {E:XK} {G:List V->Prop} (h:HC f vs H Q E) (k:∀ x1 x2 x3,f x1 x2 x3 H Q E->G [.ref x1,.ref x2,.int x3]):G vs:=by
 obtain ⟨_,_,_,rfl,h⟩:=a3.o h;obtain ⟨x1,rfl,h⟩:=vR.o h;obtain ⟨x2,rfl,h⟩:=vR.o h;obtain ⟨x3,rfl,h⟩:=vI.o h;exact k x1 x2 x3 h
def Ia (f:Addr->Addr->Str->Bool->Hp->VK->XK->Prop):Sp:=a4 fun q1 q2 q3 q4 H Q E=>vR q1 fun x1=>vR q2 fun x2=>vS q3 fun x3=>vB q4 fun x4=>f x1 x2 x3 x4 H Q E
@[elab_as_elim] theorem HV {f:Addr->Addr->Str->Bool->Hp->VK->XK->Prop} {vs:List V} {H:Hp} {Q:VK} {E:XK} {G:List V->Prop} (h:Ia f vs H Q E) (k:∀ x1 x2 x3 x4,f x1 x2 x3 x4 H Q E->G [.ref x1,.ref x2,.str x3,.bl x4]):G vs:=by
 obtain ⟨_,_,_,_,rfl,h⟩:=a4.o h;obtain ⟨x1,rfl,h⟩:=vR.o h;obtain ⟨x2,rfl,h⟩:=vR.o h;obtain ⟨x3,rfl,h⟩:=vS.o h;obtain ⟨x4,rfl,h⟩:=vB.o h;exact k x1 x2 x3 x4 h
def MK (f:Addr->Addr->Str->Str->Hp->VK->XK->Prop):Sp:=a4 fun q1 q2 q3 q4 H Q E=>vR q1 fun x1=>vR q2 fun x2=>vS q3 fun x3=>vS q4 fun x4=>f x1 x2 x3 x4 H Q E
@[elab_as_elim] theorem JQ {f:Addr->Addr->Str->Str->Hp->VK->XK->Prop} {vs:List V} {H:Hp} {Q:VK} {E:XK} {G:List V->Prop} (h:MK f vs H Q E) (k:∀ x1 x2 x3 x4,f x1 x2 x3 x4 H Q E->G [.ref x1,.ref x2,.str x3,.str x4]):G vs:=by
 obtain ⟨_,_,_,_,rfl,h⟩:=a4.o h;obtain ⟨x1,rfl,h⟩:=vR.o h;obtain ⟨x2,rfl,h⟩:=vR.o h;obtain ⟨x3,rfl,h⟩:=vS.o h;obtain ⟨x4,rfl,h⟩:=vS.o h;exact k x1 x2 x3 x4 h
def K8 (f:Addr->Addr->Str->Str->Str->Hp->VK->XK->Prop):Sp:=a5 fun q1 q2 q3 q4 q5 H Q E=>vR q1 fun x1=>vR q2 fun x2=>vS q3 fun x3=>vS q4 fun x4=>vS q5 fun x5=>f x1 x2 x3 x4 x5 H Q E
@[elab_as_elim] theorem JV {f:Addr->Addr->Str->Str->Str->Hp->VK->XK->Prop} {vs:List V} {H:Hp} {Q:VK} {E:XK} {G:List V->Prop} (h:K8 f vs H Q E) (k:∀ x1 x2 x3 x4 x5,f x1 x2 x3 x4 x5 H Q E->G [.ref x1,.ref x2,.str x3,.str x4,.str x5]):G vs:=by
 obtain ⟨_,_,_,_,_,rfl,h⟩:=a5.o h;obtain ⟨x1,rfl,h⟩:=vR.o h;obtain ⟨x2,rfl,h⟩:=vR.o h;obtain ⟨x3,rfl,h⟩:=vS.o h;obtain ⟨x4,rfl,h⟩:=vS.o h;obtain ⟨x5,rfl,h⟩:=vS.o h;exact k x1 x2 x3 x4 x5 h
def jO (f:Addr->Str->Hp->VK->XK->Prop):Sp:=a2 fun q1 q2 H Q E=>vR q1 fun x1=>vS q2 fun x2=>f x1 x2 H Q E
@[elab_as_elim] theorem eT {f:Addr->Str->Hp->VK->XK->Prop} {vs:List V} {H:Hp} {Q:VK} {E:XK} {G:List V->Prop} (h:jO f vs H Q E) (k:∀ x1 x2,f x1 x2 H Q E->G [.ref x1,.str x2]):G vs:=by
 obtain ⟨_,_,rfl,h⟩:=a2.o h;obtain ⟨x1,rfl,h⟩:=vR.o h;obtain ⟨x2,rfl,h⟩:=vS.o h;exact k x1 x2 h
def K9 (f:Addr->Str->Bool->Addr->Bool->Hp->VK->XK->Prop):Sp:=a5 fun q1 q2 q3 q4 q5 H Q E=>vR q1 fun x1=>vS q2 fun x2=>vB q3 fun x3=>vR q4 fun x4=>vB q5 fun x5=>f x1 x2 x3 x4 x5 H Q E
@[elab_as_elim] theorem Mt {f:Addr->Str->Bool->Addr->Bool->Hp->VK->XK->Prop} {vs:List V} {H:Hp} {Q:VK} {E:XK} {G:List V->Prop} (h:K9 f vs H Q E) (k:∀ x1 x2 x3 x4 x5,f x1 x2 x3 x4 x5 H Q E->G [.ref x1,.str x2,.bl x3,.ref x4,.bl x5]):G vs:=by
 obtain ⟨_,_,_,_,_,rfl,h⟩:=a5.o h;obtain ⟨x1,rfl,h⟩:=vR.o h;obtain ⟨x2,rfl,h⟩:=vS.o h;obtain ⟨x3,rfl,h⟩:=vB.o h;obtain ⟨x4,rfl,h⟩:=vR.o h;obtain ⟨x5,rfl,h⟩:=vB.o h;exact k x1 x2 x3 x4 x5 h
def vi (f:Addr->Str->Int->Hp->VK->XK->Prop):Sp:=a3 fun q1 q2 q3 H Q E=>vR q1 fun x1=>vS q2 fun x2=>vI q3 fun x3=>f x1 x2 x3 H Q E
@[elab_as_elim] theorem jV {f:Addr->Str->Int->Hp->VK->XK->Prop} {vs:List V} {H:Hp} {Q:VK} {E:XK} {G:List V->Prop} (h:vi f vs H Q E) (k:∀ x1 x2 x3,f x1 x2 x3 H Q E->G [.ref x1,.str x2,.int x3]):G vs:=by
 obtain ⟨_,_,_,rfl,h⟩:=a3.o h;obtain ⟨x1,rfl,h⟩:=vR.o h;obtain ⟨x2,rfl,h⟩:=vS.o h;obtain ⟨x3,rfl,h⟩:=vI.o h;exact k x1 x2 x3 h
def Mf (f:Addr->Str->Int->Str->Str->Hp->VK->XK->Prop):Sp:=a5 fun q1 q2 q3 q4 q5 H Q E=>vR q1 fun x1=>vS q2 fun x2=>vI q3 fun x3=>vS q4 fun x4=>vS q5 fun x5=>f x1 x2 x3 x4 x5 H Q E
@[elab_as_elim] theorem Jm {f:Addr->Str->Int->Str->Str->Hp->VK->XK->Prop} {vs:List V} {H:Hp} {Q:VK} {E:XK} {G:List V->Prop} (h:Mf f vs H Q E) (k:∀ x1 x2 x3 x4 x5,f x1 x2 x3 x4 x5 H Q E->G [.ref x1,.str x2,.int x3,.str x4,.str x5]):G vs:=by
 obtain ⟨_,_,_,_,_,rfl,h⟩:=a5.o h;obtain ⟨x1,rfl,h⟩:=vR.o h;obtain ⟨x2,rfl,h⟩:=vS.o h;obtain ⟨x3,rfl,h⟩:=vI.o h;obtain ⟨x4,rfl,h⟩:=vS.o h;obtain ⟨x5,rfl,h⟩:=vS.o h;exact k x1 x2 x3 x4 x5 h
def jJ (f:Addr->Str->Str->Hp->VK->XK->Prop):Sp:=a3 fun q1 q2 q3 H Q E=>vR q1 fun x1=>vS q2 fun x2=>vS q3 fun x3=>f x1 x2 x3 H Q E
@[elab_as_elim] theorem eQ {f:Addr->Str->Str->Hp->VK->XK->Prop} {vs:List V} {H:Hp} {Q:VK} {E:XK} {G:List V->Prop} (h:jJ f vs H Q E) (k:∀ x1 x2 x3,f x1 x2 x3 H Q E->G [.ref x1,.str x2,.str x3]):G vs:=by
 obtain ⟨_,_,_,rfl,h⟩:=a3.o h;obtain ⟨x1,rfl,h⟩:=vR.o h;obtain ⟨x2,rfl,h⟩:=vS.o h;obtain ⟨x3,rfl,h⟩:=vS.o h;exact k x1 x2 x3 h
def AE (f:Addr->Str->Str->Bool->Hp->VK->XK->Prop):Sp:=a4 fun q1 q2 q3 q4 H Q E=>vR q1 fun x1=>vS q2 fun x2=>vS q3 fun x3=>vB q4 fun x4=>f x1 x2 x3 x4 H Q E
@[elab_as_elim] theorem wx {f:Addr->Str->Str->Bool->Hp->VK->XK->Prop} {vs:List V} {H:Hp} {Q:VK} {E:XK} {G:List V->Prop} (h:AE f vs H Q E) (k:∀ x1 x2 x3 x4,f x1 x2 x3 x4 H Q E->G [.ref x1,.str x2,.str x3,.bl x4]):G vs:=by
 obtain ⟨_,_,_,_,rfl,h⟩:=a4.o h;obtain ⟨x1,rfl,h⟩:=vR.o h;obtain ⟨x2,rfl,h⟩:=vS.o h;obtain ⟨x3,rfl,h⟩:=vS.o h;obtain ⟨x4,rfl,h⟩:=vB.o h;exact k x1 x2 x3 x4 h
def zH (f:Addr->Str->Str->Str->Hp->VK->XK->Prop):Sp:=a4 fun q1 q2 q3 q4 H Q E=>vR q1 fun x1=>vS q2 fun x2=>vS q3 fun x3=>vS q4 fun x4=>f x1 x2 x3 x4 H Q E
@[elab_as_elim] theorem xH {f:Addr->Str->Str->Str->Hp->VK->XK->Prop} {vs:List V} {H:Hp} {Q:VK} {E:XK} {G:List V->Prop} (h:zH f vs H Q E) (k:∀ x1 x2 x3 x4,f x1 x2 x3 x4 H Q E->G [.ref x1,.str x2,.str x3,.str x4]):G vs:=by
 obtain ⟨_,_,_,_,rfl,h⟩:=a4.o h;obtain ⟨x1,rfl,h⟩:=vR.o h;obtain ⟨x2,rfl,h⟩:=vS.o h;obtain ⟨x3,rfl,h⟩:=vS.o h;obtain ⟨x4,rfl,h⟩:=vS.o h;exact k x1 x2 x3 x4 h
def AD (f:Addr->Str->Str->Str->Str->Hp->VK->XK->Prop):Sp:=a5 fun q1 q2 q3 q4 q5 H Q E=>vR q1 fun x1=>vS q2 fun x2=>vS q3 fun x3=>vS q4 fun x4=>vS q5 fun x5=>f x1 x2 x3 x4 x5 H Q E
@[elab_as_elim] theorem vO {f:Addr->Str->Str->Str->Str->Hp->VK->XK->Prop} {vs:List V} {H:Hp} {Q:VK} {E:XK} {G:List V->Prop} (h:AD f vs H Q E) (k:∀ x1 x2 x3 x4 x5,f x1 x2 x3 x4 x5 H Q E->G [.ref x1,.str x2,.str x3,.str x4,.str x5]):G vs:=by
 obtain ⟨_,_,_,_,_,rfl,h⟩:=a5.o h;obtain ⟨x1,rfl,h⟩:=vR.o h;obtain ⟨x2,rfl,h⟩:=vS.o h;obtain ⟨x3,rfl,h⟩:=vS.o h;obtain ⟨x4,rfl,h⟩:=vS.o h;obtain ⟨x5,rfl,h⟩:=vS.o h;exact k x1 x2 x3 x4 x5 h
def Dx (f:Addr->Str->Str->Str->Str->Str->Hp->VK->XK->Prop):Sp:=a6 fun q1 q2 q3 q4 q5 q6 H Q E=>vR q1 fun x1=>vS q2 fun x2=>vS q3 fun x3=>vS q4 fun x4=>vS q5 fun x5=>vS q6 fun x6=>f x1 x2 x3 x4 x5 x6 H Q E
@[elab_as_elim] theorem ye {f:Addr->Str->Str->Str->Str->Str->Hp->VK->XK->Prop} {vs:List V} {H:Hp} {Q:VK} {E:XK} {G:List V->Prop} (h:Dx f vs H Q E) (k:∀ x1 x2 x3 x4 x5 x6,f x1 x2 x3 x4 x5 x6 H Q E->G [.ref x1,.str x2,.str x3,.str x4,.str x5,.str x6]):G vs:=by
 obtain ⟨_,_,_,_,_,_,rfl,h⟩:=a6.o h;obtain ⟨x1,rfl,h⟩:=vR.o h;obtain ⟨x2,rfl,h⟩:=vS.o h;obtain ⟨x3,rfl,h⟩:=vS.o h;obtain ⟨x4,rfl,h⟩:=vS.o h;obtain ⟨x5,rfl,h⟩:=vS.o h;obtain ⟨x6,rfl,h⟩:=vS.o h;exact k x1 x2 x3 x4 x5 x6 h
def CM (f:Addr->V->Hp->VK->XK->Prop):Sp:=a2 fun q1 x2 H Q E=>vR q1 fun x1=>f x1 x2 H Q E
@[elab_as_elim] theorem vM {f:Addr->V->Hp->VK->XK->Prop} {vs:List V} {H:Hp} {Q:VK} {E:XK} {G:List V->Prop} (h:CM f vs H Q E) (k:∀ x1 x2,f x1 x2 H Q E->G [.ref x1,x2]):G vs:=by
 obtain ⟨_,x2,rfl,h⟩:=a2.o h;obtain ⟨x1,rfl,h⟩:=vR.o h;exact k x1 x2 h
def zW (f:Addr->V->V->Hp->VK->XK->Prop):Sp:=a3 fun q1 x2 x3 H Q E=>vR q1 fun x1=>f x1 x2 x3 H Q E
@[elab_as_elim] theorem mh {f:Addr->V->V->Hp->VK->XK->Prop} {vs:List V} {H:Hp} {Q:VK} {E:XK} {G:List V->Prop} (h:zW f vs H Q E) (k:∀ x1 x2 x3,f x1 x2 x3 H Q E->G [.ref x1,x2,x3]):G vs:=by
 obtain ⟨_,x2,x3,rfl,h⟩:=a3.o h;obtain ⟨x1,rfl,h⟩:=vR.o h;exact k x1 x2 x3 h
def BL (f:Addr->V->V->V->Hp->VK->XK->Prop):Sp:=a4 fun q1 x2 x3 x4 H Q E=>vR q1 fun x1=>f x1 x2 x3 x4 H Q E
@[elab_as_elim] theorem w8 {f:Addr->V->V->V->Hp->VK->XK->Prop} {vs:List V} {H:Hp} {Q:VK} {E:XK} {G:List V->Prop} (h:BL f vs H Q E) (k:∀ x1 x2 x3 x4,f x1 x2 x3 x4 H Q E->G [.ref x1,x2,x3,x4]):G vs:=by
 obtain ⟨_,x2,x3,x4,rfl,h⟩:=a4.o h;obtain ⟨x1,rfl,h⟩:=vR.o h;exact k x1 x2 x3 x4 h
def Ka (f:Addr->V->V->V->V->Hp->VK->XK->Prop):Sp:=a5 fun q1 x2 x3 x4 x5 H Q E=>vR q1 fun x1=>f x1 x2 x3 x4 x5 H Q E
@[elab_as_elim] theorem KC {f:Addr->V->V->V->V->Hp->VK->XK->Prop} {vs:List V} {H:Hp} {Q:VK} {E:XK} {G:List V->Prop} (h:Ka f vs H Q E) (k:∀ x1 x2 x3 x4 x5,f x1 x2 x3 x4 x5 H Q E->G [.ref x1,x2,x3,x4,x5]):G vs:=by
 obtain ⟨_,x2,x3,x4,x5,rfl,h⟩:=a5.o h;obtain ⟨x1,rfl,h⟩:=vR.o h;exact k x1 x2 x3 x4 x5 h
def MX (f:Addr->V->V->V->V->V->Hp->VK->XK->Prop):Sp:=a6 fun q1 x2 x3 x4 x5 x6 H Q E=>vR q1 fun x1=>f x1 x2 x3 x4 x5 x6 H Q E
@[elab_as_elim] theorem Hb {f:Addr->V->V->V->V->V->Hp->VK->XK->Prop} {vs:List V} {H:Hp} {Q:VK} {E:XK} {G:List V->Prop} (h:MX f vs H Q E) (k:∀ x1 x2 x3 x4 x5 x6,f x1 x2 x3 x4 x5 x6 H Q E->G [.ref x1,x2,x3,x4,x5,x6]):G vs:=by
 obtain ⟨_,x2,x3,x4,x5,x6,rfl,h⟩:=a6.o h;obtain ⟨x1,rfl,h⟩:=vR.o h;exact k x1 x2 x3 x4 x5 x6 h
def Jr (f:Addr->V->V->V->V->V->V->Hp->VK->XK->Prop):Sp:=a7 fun q1 x2 x3 x4 x5 x6 x7 H Q E=>vR q1 fun x1=>f x1 x2 x3 x4 x5 x6 x7 H Q E
@[elab_as_elim] theorem IX {f:Addr->V->V->V->V->V->V->Hp->VK->XK->Prop} {vs:List V} {H:Hp} {Q:VK} {E:XK} {G:List V->Prop} (h:Jr f vs H Q E) (k:∀ x1 x2 x3 x4 x5 x6 x7,f x1 x2 x3 x4 x5 x6 x7 H Q E->G [.ref x1,x2,x3,x4,x5,x6,x7]):G vs:=by
 obtain ⟨_,x2,x3,x4,x5,x6,x7,rfl,h⟩:=a7.o h;obtain ⟨x1,rfl,h⟩:=vR.o h;exact k x1 x2 x3 x4 x5 x6 x7 h
def lB (f:Str->Hp->VK->XK->Prop):Sp:=a1 fun q1 H Q E=>vS q1 fun x1=>f x1 H Q E
@[elab_as_elim] theorem fC {f:Str->Hp->VK->XK->Prop} {vs:List V} {H:Hp} {Q:VK} {E:XK} {G:List V->Prop} (h:lB f vs H Q E) (k:∀ x1,f x1 H Q E->G [.str x1]):G vs:=by
 obtain ⟨_,rfl,h⟩:=a1.o h;obtain ⟨x1,rfl,h⟩:=vS.o h;exact k x1 h
def vg (f:V->Hp->VK->XK->Prop):Sp:=a1 fun x1 H Q E=>f x1 H Q E
@[elab_as_elim] theorem mO {f:V->Hp->VK->XK->Prop} {vs:List V} {H:Hp} {Q:VK} {E:XK} {G:List V->Prop} (h:vg f vs H Q E) (k:∀ x1,f x1 H Q E->G [x1]):G vs:=by
 obtain ⟨x1,rfl,h⟩:=a1.o h;exact k x1 h
def ZI (K:PySem.W.Frag):Sp:=vg fun x H Q _=>A3 (∃ T,clsName H x=some T) (Jj x) (∀ H',ao H H'->Q (.bl (fq x)) H')
def G9 {nm:List Nat} (h:isNm nm=true):1<=nm.length/\nm.length<=8/\nm.all (qH.contains ·)=true:=by
 unfold isNm at h;simp only [zn,_q] at h;exact ⟨h.1.1,h.1.2,h.2⟩
def Zl:Str.ofString "abcdefghijklmnopqrstuvwxyz" = Tx.S qH:=by decide +kernel
def cL (l:List Nat):Bool:=decide (l=[46]) || decide (l=[46,46]) || isNm l
def pY {l:List Nat} (h:cL l=true):47 ∉ l/\l≠[]/\l.length<=8:=by
 unfold cL at h;simp only [Bool.or_eq_true,_q] at h;rcases h with (rfl | rfl) | h
 ·exact ⟨by decide,by decide,by decide⟩
 ·exact ⟨by decide,by decide,by decide⟩
 ·obtain ⟨h1,h2,h3⟩:=G9 h;refine ⟨fun m=>?_,fun e=>by rw [e] at h1; simp at h1,h2⟩;have:=At.mp h3 47 m;exact absurd this (by decide +kernel)
abbrev PV (ps:List (List Nat)):List V:=(ps.map Tx.S).map V.str
def told (ps:List (List Nat)) (t:List Nat):List (List Nat):=if ps≠[]/\t.getLast?=some 47 then ps++[[46]] else ps
def dJ (t:List Nat):Bool:=decide (t.head?=some 47)
def Cy {ps:List (List Nat)} {t:List Nat} (h:ps.all cL=true):(told ps t).all cL=true:=by
 unfold told;split
 ·rw [List.all_append,h]; rfl
 ·exact h
def Et {ps:List (List Nat)} {t:List Nat}:(told ps t).length<=ps.length+1:=by
 unfold told;split
 ·rw [sK]; exact ss _
 ·omega
def aa6 (K:PySem.W.Frag):Sp:=lB fun z H Q _=>X1 fun (w:List Nat)=>A3 (z=Tx.S w) (w.length<=1000) (∀ H',ao H H'->Q (.bl (cL w)) H')
def Qs (K:PySem.W.Frag):Sp:=lB fun z H Q _=>X1 fun (t:List Nat)=>A5 (z=Tx.S t) (1<=t.length) (t.length<=2000) ((Tx.words 47 t).all cL=true) (∀ (H':Hp) (l p:Addr),ao H H'->H l=none->H' l=some (.lst (PV (told (Tx.words 47 t) t)))->H' p=some (.tup [.bl (dJ t),.ref l])->Q (.ref p) H')
structure Pth (ps:List (List Nat)) (t:List Nat):Prop where
 words:Tx.words 47 t=ps
 one:1<=t.length
 most:t.length<=150
def sH (n kd ow mi re tx nm pl:V):List (Str×V):=[("number",n),("kind",kd),("owner",ow),("mine",mi),("rest",re),("text",tx),("names",nm),("places",pl)]
def sP (ml:Addr) (c:Int):List (Str×V):=[("made",.ref ml),("changes",.int c)]
structure Th where
 kd:Str
 ow:Str
 mi:Str
 re:Str
 tx:Str
 aQ:List (Str×Nat)
 bP:List (Nat×Str)
structure Hs where
 ts:List Th
 ro:List (Str×Nat)
 st:List (Str×Nat)
 tr:List (Str×Nat)
 ov:List (Nat×Nat)
 un:List (Nat×Nat)
structure Ta where
 th:Addr
 dB:Addr
 nm:Addr
 pl:Addr
structure Ad where
 a:Addr
 dx:Addr
 t:Addr
 dt:Addr
 ml:Addr
 ro:Addr
 st:Addr
 tr:Addr
 ov:Addr
 un:Addr
 ho:Addr
def uV (c:Int) (A:Ad):List (Str×V):=[("things",.ref A.t),("changes",.int c),("roots",.ref A.ro),("standings",.ref A.st),("tree_roots",.ref A.tr),("root_over",.ref A.ov),("folder_under",.ref A.un),("holds",.ref A.ho),("holds_given",.int 0),("first_root",.int 0)]
def W5 {f:Str} {c c':Int} {A:Ad} (h:f ≠ "changes"):(uV c A).lookup f=(uV c' A).lookup f:=by
 unfold uV;simp only [List.lookup];have:(f == ("changes" : Str))=false:=Ch.mpr h;rw [this]
def sD (l:List (Str×Nat)):List (Key×V):=l.map fun e=>(.inr e.1,.int e.2)
def nD (l:List (Nat×Nat)):List (Key×V):=l.map fun e=>(.inl (e.1:Int),.int e.2)
def pD (l:List (Nat×Str)):List (List Key×V):=l.map fun e=>([.inl (e.1:Int),.inr e.2],.bl true)
structure jQ (CT:Addr) (H:Hp) (a:Ta) (i:Nat) (t:Th):Prop where
 o:∃ fs,H a.th=some (.ins CT a.dB fs)/\fs.length<=40/\dh fs (sH (.int i) (.str t.kd) (.str t.ow) (.str t.mi) (.str t.re) (.str t.tx) (.ref a.nm) (.ref a.pl))
 nm:H a.nm=some (.dK (sD t.aQ))
 pl:H a.pl=some (.dT (pD t.bP))
def Ad.w (A:Ad):List Addr:=[A.a,A.t,A.ml,A.ro,A.st,A.tr,A.ov,A.un]
def Ta.l (a:Ta):List Addr:=[a.th,a.nm,a.pl]
structure aH (CH CS CT:Addr) (H:Hp) (A:Ad) (L:List Ta) (M:Hs):Prop where
 h:∃ fs c,H A.a=some (.ins CH A.dx fs)/\fs.length<=40/\dh fs (uV c A)
 t:∃ fs c,H A.t=some (.ins CS A.dt fs)/\fs.length<=40/\dh fs (sP A.ml c)
 ml:H A.ml=some (.lst (L.map fun a=>.ref a.th))
 len:L.length=M.ts.length
 th:∀ i t,M.ts[i]?=some t->∃ a,L[i]?=some a/\jQ CT H a i t
 ro:H A.ro=some (.dK (sD M.ro))
 st:H A.st=some (.dK (sD M.st))
 tr:H A.tr=some (.dK (sD M.tr))
 ov:H A.ov=some (.dK (nD M.ov))
 un:H A.un=some (.dK (nD M.un))
 nd:(A.w++L.flatMap Ta.l).Nodup
def Kp (W:List Addr) (H H':Hp):Prop:=∀ b o,b ∉ W->H b=some o->H' b=some o
def Kp.trans {W:List Addr} {H H1 H2:Hp} (a:Kp W H H1) (b:Kp W H1 H2):Kp W H H2:=fun c o h e=>b c o h (a c o h e)
def Kp.of {W:List Addr} {H H':Hp} (s:ao H H'):Kp W H H':=fun b o _ e=>s b o e
def bX {H:Hp} {a b:Addr} {o u:HO} (h1:H a=some o) (h2:H b=some u) (h:o≠u):a≠b:=fun e=>h (by rw [e,h2] at h1; cases h1; rfl)
def aK {H:Hp} {a b:Addr} {o:HO} (h1:H a=some o) (h2:H b=none):a≠b:=fun e=>by rw [e,h2] at h1; cases h1
def AY {H:Hp} {x d:Addr} {o O oo:HO} (hn:H d=none) (hx:H x=some oo):upd (upd H d o) x O x=some O/\upd (upd H d o) x O d=some o/\(∀ b u,b≠x->H b=some u->upd (upd H d o) x O b=some u)/\d≠x:=by
 have n:=aK hx hn;refine ⟨ax,by rw [ah (pi n),ax],fun b u hb e=>?_,pi n⟩;rw [ah hb,ah (aK e hn)]; exact e
section
variable {CH CS CT:Addr} {H H':Hp} {A:Ad} {L:List Ta} {M:Hs}
def jQ.keep {W:List Addr} {a:Ta} {i:Nat} {t:Th} (h:jQ CT H a i t) (k:Kp W H H') (hw:∀ b∈a.l,b ∉ W):jQ CT H' a i t where
 o:=let ⟨fs,e,r⟩:=h.o; ⟨fs,k _ _ (hw _ (by simp [Ta.l])) e,r⟩
 nm:=k _ _ (hw _ (by simp [Ta.l])) h.nm
 pl:=k _ _ (hw _ (by simp [Ta.l])) h.pl
def jv {i:Nat} {a:Ta} (h:L[i]?=some a) {b:Addr} (hb:b∈a.l):b∈L.flatMap Ta.l:=_1.mpr ⟨a,KK h,hb⟩
def aH.keep {W:List Addr} (i:aH CH CS CT H A L M) (k:Kp W H H') (hw:∀ b∈A.w++L.flatMap Ta.l,b ∉ W):aH CH CS CT H' A L M where
 h:=let ⟨fs,c,e,r⟩:=i.h; ⟨fs,c,k _ _ (hw _ (by simp [Ad.w])) e,r⟩
 t:=let ⟨fs,c,e,r⟩:=i.t; ⟨fs,c,k _ _ (hw _ (by simp [Ad.w])) e,r⟩
 ml:=k _ _ (hw _ (by simp [Ad.w])) i.ml
 len:=i.len
 th:=fun j t e=>let ⟨a,e1,h⟩:=i.th j t e; ⟨a,e1,h.keep k fun b hb=>hw b (wE _ (jv e1 hb))⟩
 ro:=k _ _ (hw _ (by simp [Ad.w])) i.ro
 st:=k _ _ (hw _ (by simp [Ad.w])) i.st
 tr:=k _ _ (hw _ (by simp [Ad.w])) i.tr
 ov:=k _ _ (hw _ (by simp [Ad.w])) i.ov
 un:=k _ _ (hw _ (by simp [Ad.w])) i.un
 nd:=i.nd
def aH.same (i:aH CH CS CT H A L M) (s:ao H H'):aH CH CS CT H' A L M:=i.keep (W:=[]) (.of s) fun _ _=>by simp
def vY:∀ {L:List Ta} {i j:Nat} {a a':Ta} {b:Addr},(L.flatMap Ta.l).Nodup->L[i]?=some a->L[j]?=some a'->b∈a.l->b∈a'.l->i=j
 | [],_,_,_,_,_,_,h,_,_,_=>by simp at h
 | c::r,0,0,_,_,_,_,_,_,_,_=>rfl
 | c::r,0,j+1,a,a',b,nd,h1,h2,m1,m2=>by
  rw [Ps,Go] at nd;simp only [List.getElem?_cons_zero,Option.some.injEq] at h1;simp only [List.getElem?_cons_succ] at h2;subst h1;exact absurd rfl (nd.2.2 b m1 b (jv h2 m2))
 | c::r,i+1,0,a,a',b,nd,h1,h2,m1,m2=>by
  rw [Ps,Go] at nd;simp only [List.getElem?_cons_zero,Option.some.injEq] at h2;simp only [List.getElem?_cons_succ] at h1;subst h2;exact absurd rfl (nd.2.2 b m2 b (jv h1 m1))
 | c::r,i+1,j+1,a,a',b,nd,h1,h2,m1,m2=>by
  rw [Ps,Go] at nd;simp only [List.getElem?_cons_succ] at h1 h2;rw [vY nd.2.1 h1 h2 m1 m2]
def aH.write {k:Nat} {a:Ta} {t':Th} (i:aH CH CS CT H A L M) (hk:L[k]?=some a) (hh:∃ fs c,H' A.a=some (.ins CH A.dx fs)/\fs.length<=40/\dh fs (uV c A)) (ht:∃ fs c,H' A.t=some (.ins CS A.dt fs)/\fs.length<=40/\dh fs (sP A.ml c))
  (aG:jQ CT H' a k t') (kp:Kp [A.a,A.t,a.th,a.nm,a.pl] H H'):aH CH CS CT H' A L { M with ts:=M.ts.set k t' }:=by
 have nd:=i.nd;rw [Go] at nd;obtain ⟨n1,n2,n3⟩:=nd;have ma:∀ b∈a.l,b∈L.flatMap Ta.l:=fun b hb=>jv hk hb;have rW:∀ b∈[A.ml,A.ro,A.st,A.tr,A.ov,A.un],b ∉ [A.a,A.t,a.th,a.nm,a.pl]:=by
  intro b hb hm;have hw:b∈A.w:=by
   simp only [Ad.w,li,lv,wn] at hb ⊢;rcases hb with h | h | h | h | h | h <;> simp [h]
  simp only [li,lv,wn] at hm;rcases hm with rfl | rfl | rfl | rfl | rfl
  ·have:=(Cl.mp n1).1;simp only [li,lv,wn,TW] at hb this;rcases hb with h | h | h | h | h | h <;> simp [h] at this
  ·have:=(Cl.mp (Cl.mp n1).2).1;simp only [li,lv,wn,TW] at hb this;rcases hb with h | h | h | h | h | h <;> simp [h] at this
  ·exact n3 _ hw _ (ma _ (by simp [Ta.l])) rfl
  ·exact n3 _ hw _ (ma _ (by simp [Ta.l])) rfl
  ·exact n3 _ hw _ (ma _ (by simp [Ta.l])) rfl
 refine ⟨hh,ht,kp _ _ (rW _ (by simp)) i.ml,by rw [i.len]; simp,fun j t e=>?_,kp _ _ (rW _ (by simp)) i.ro,kp _ _ (rW _ (by simp)) i.st,kp _ _ (rW _ (by simp)) i.tr,kp _ _ (rW _ (by simp)) i.ov,kp _ _ (rW _ (by simp)) i.un,i.nd⟩;by_cases hj:j=k
 ·subst hj;have bD:j < M.ts.length:=by rw [<- i.len]; exact (lm.mp hk).1
  have e':(M.ts.set j t')[j]?=some t:=e;rw [Fr bD] at e';cases e';exact ⟨a,hk,aG⟩
 ·have e':(M.ts.set k t')[j]?=some t:=e;rw [FB (pi hj)] at e';obtain ⟨a',e1,h1⟩:=i.th j t e';refine ⟨a',e1,h1.keep kp fun b hb hm=>?_⟩;have gg:=jv e1 hb;simp only [li,lv,wn] at hm;rcases hm with rfl | rfl | rfl | rfl | rfl
  ·exact n3 _ (by simp [Ad.w]) _ gg rfl
  ·exact n3 _ (by simp [Ad.w]) _ gg rfl
  ·exact hj (vY n2 e1 hk hb (by simp [Ta.l]))
  ·exact hj (vY n2 e1 hk hb (by simp [Ta.l]))
  ·exact hj (vY n2 e1 hk hb (by simp [Ta.l]))
end
def GN:V->Bool
 | .int _=>true
 | _=>false
def V6:Sp:=vg fun v H Q _=>(∃ T,clsName H v=some T)/\Q (.bl (GN v)) H
def RV:Sp:=vg fun x H Q _=>A4 (∃ T,clsName H x=some T) (Jj x) (fq x=true) (∀ H',ao H H'->Q .ay H')
def Rl (C:Addr):Sp:=Jr fun x n kd ow mi re tx H Q _=>X1 fun dx=>A2 (H x=some (.ins C dx [])) (∀ l1 l2 H',H l1=none->H l2=none->l1≠l2->l1≠x->l2≠x->(∀ b,b≠x->b≠l1->b≠l2->H' b=H b)->H' l1=some (.dK [])->H' l2=some (.dT []) ->
   (∀ fs,fs.length<=40->dh fs (sH n kd ow mi re tx (.ref l1) (.ref l2))->H' x=some (.ins C dx fs)->Q .ay H'))
def PU (C:Addr):Sp:=gL fun x H Q _=>X1 fun dx=>A2 (H x=some (.ins C dx [])) (∀ l H',H l=none->l≠x->(∀ b,b≠x->b≠l->H' b=H b)->H' l=some (.lst [])->(∀ fs,fs.length<=40->dh fs (sP l 0)->H' x=some (.ins C dx fs)->Q .ay H'))
structure lh (CS:Addr) (H:Hp) (x dt ml:Addr) (rs:List V):Prop where
 o:∃ fs c,H x=some (.ins CS dt fs)/\fs.length<=40/\dh fs (sP ml c)
 ml:H ml=some (.lst rs)
def si (CS CT:Addr) (x dt ml:Addr) (rs:List V) (kd ow mi re tx:V) (H:Hp) (Q:VK):Prop :=
 ∀ th dB nm pl ks H',H th=none->H nm=none->H pl=none->lh CS H' x dt ml (rs++[.ref th])->H' th=some (.ins CT dB ks)->ks.length<=40->dh ks (sH (.int rs.length) kd ow mi re tx (.ref nm) (.ref pl)) ->
  H' nm=some (.dK [])->H' pl=some (.dT [])->Kp [x,ml] H H'->Q (.int rs.length) H'
def Wu (CS CT:Addr):Sp:=MX fun x kd ow mi re tx H Q _=>X3 fun dt ml rs=>A3 (lh CS H x dt ml rs) (rs.length<=500) (si CS CT x dt ml rs kd ow mi re tx H Q)
def XI (CS CT:Addr):Sp:=BL fun x ow mi re H Q _=>X3 fun dt ml rs=>A3 (lh CS H x dt ml rs) (rs.length<=500) (si CS CT x dt ml rs (.str "folder") ow mi re (.str "") H Q)
def RU (CS CT:Addr):Sp:=Ka fun x ow tx mi re H Q _=>X3 fun dt ml rs=>A3 (lh CS H x dt ml rs) (rs.length<=500) (si CS CT x dt ml rs (.str "file") ow mi re tx H Q)
def Zj (CS CT:Addr):Sp:=zW fun x ow tx H Q _=>X3 fun dt ml rs=>A3 (lh CS H x dt ml rs) (rs.length<=500) (si CS CT x dt ml rs (.str "lead") ow (.str "") (.str "") tx H Q)
def Hh (CH CS CT CN:Addr):Sp:=CM fun x v H Q E=>X3 fun A L M=>A5 (aH CH CS CT H A L M) (A.t=x) (∃ T,clsName H v=some T) (∀ (k:Nat) a t,v=.int k->L[k]?=some a->M.ts[k]?=some t->Q (.ref a.th) H) ((∀ k:Nat,v=.int k->¬ k < M.ts.length)->E (.ref CN) none H)
abbrev kT:=Ad->List Ta->Hs->Nat->Ta->Th->Hp->VK->Prop
def gq (CH CS CT:Addr) (sel:Ad->Addr) (f:kT):Sp:=jw fun x n H Q _=>X6 fun A L M (k:Nat) a t=>A6 (aH CH CS CT H A L M) (sel A=x) (n=(k:Int)) (L[k]?=some a) (M.ts[k]?=some t) (f A L M k a t H Q)
def SN (CH CS CT:Addr) (sel:Ad->Addr):Sp:=uE fun x n z H Q _=>X6 fun A L M (k:Nat) a t=>A6 (aH CH CS CT H A L M) (sel A=x) (n=(k:Int)) (L[k]?=some a) (M.ts[k]?=some t) (Q ((aS (sD t.aQ) (.inr z)).getD .ay) H)
def aaS (CH CS CT:Addr):Sp:=uE fun x n z H Q _=>X6 fun A L M (k:Nat) a t=>A8 (aH CH CS CT H A L M) (A.a=x) (n=(k:Int)) (L[k]?=some a) (M.ts[k]?=some t) (fq (.str z)=true) (z.length<=1000) (∀ H',ao H H'->Q ((aS (sD t.aQ) (.inr z)).getD .ay) H')
def z7 (CH CS CT:Addr) (sel:Ad->Addr):Sp:=gL fun x H Q _=>X3 fun A L M=>A3 (aH CH CS CT H A L M) (sel A=x) (Q (.int M.ts.length) H)
abbrev JJ:kT:=fun _ _ _ _ _ t H Q=>t.aQ.length < 64/\∀ l,H l=none->Q (.ref l) (upd H l (.lst ((dQ (t.aQ.map (·.1))).map V.str)))
abbrev LG:kT:=fun _ _ _ _ _ t H Q=>(t.bP=[]/\Q .ay H)\/∃ f z,t.bP=[(f,z)]/\∀ p,H p=some (.tup [.int (f:Nat),.str z])->Q (.ref p) H
abbrev xj:kT:=fun _ _ _ _ _ t H Q=>Q (.str t.kd) H
abbrev Vy:kT:=fun _ _ _ _ _ t H Q=>Q (.str t.ow) H
abbrev DM:kT:=fun _ _ _ _ _ t H Q=>Q (.str t.tx) H
abbrev VG:kT:=fun _ _ _ _ _ t H Q=>∀ l,H l=none->Q (.ref l) (upd H l (.tup [.str t.mi,.str t.re]))
abbrev Yo:kT:=fun _ _ _ _ _ _ H Q=>Q .ay H
def GY (CH CS CT CA:Addr):Sp:=CM fun x v H Q E=>X3 fun A L M=>A5 (aH CH CS CT H A L M) (A.a=x) (∃ T,clsName H v=some T) (∀ z,v=.str z->(aS (sD M.ro) (.inr z)).isSome=true->Q .ay H) ((∀ z,v=.str z->aS (sD M.ro) (.inr z)=none)->E (.ref CA) none H)
def VF (CH CS CT:Addr):Sp:=jO fun x z H Q _=>X4 fun A L M (r:Nat)=>A4 (aH CH CS CT H A L M) (A.a=x) (aS (sD M.ro) (.inr z)=some (.int r)) (Q (.int r) H)
def cZ (t:Th) (asker:Str):Str:=if asker=t.ow then t.mi else t.re
def aa7 (CT:Addr):Sp:=jO fun x z H Q _=>X3 fun a i t=>A3 (jQ CT H a i t) (a.th=x) (Q (.str (cZ t z)) H)
def i8 (v:V):Bool:=decide (v=.str "l") || decide (v=.str "g") || decide (v=.str "w")
def abh (CR:Addr):Sp:=vg fun v H Q E=>A3 (∃ T,clsName H v=some T) (i8 v=true->Q .ay H) (i8 v=false->E (.ref CR) none H)
def dw (s:Str) (z:Str):Bool:=!(Builtin.Str.occurrences z s 0 z.length 1).isEmpty
def KR (CH CS CT CA CR CN:Addr):Sp:=BL fun x w v r H Q E=>X3 fun A L M=>A7 (aH CH CS CT H A L M) (A.a=x) (∃ T,clsName H w=some T) (∃ T,clsName H v=some T) (∃ T,clsName H r=some T) ((∀ z,w=.str z->aS (sD M.ro) (.inr z)=none)->E (.ref CA) none H) (∀ z,w=.str z->(aS (sD M.ro) (.inr z)).isSome=true->(i8 r=false->E (.ref CR) none H) /\
    ∀ s,r=.str s->i8 r=true->((∀ k:Nat,v=.int k->¬ k < M.ts.length)->E (.ref CN) none H)/\∀ (k:Nat) t,v=.int k->M.ts[k]?=some t->Q (.bl (dw s (cZ t z))) H)
local macro_rules | `(tactic| walk_at "rd")=>`(tactic| dsimp only [Ex,Ak,Ae,B3,mR,fV,Cd,iX,tC,lz,B1,wt,oF,oQ,kO,zo,xT,BX,Ba,Ei,BO,qS,jy,ui,xr,v8,wC,mm,D8,Aq,D7,AR,xv,DT,xW,zu,abS,XN,S6,Q3,ra,xl,D4,zE,CL,Ar,abm,abL,Aj,rJoin,Cp,B2,sd,AO,wU,sj,Ek,Jg,zC,Rb,So,DN,BK,ze,AJ,uU,qT,Bf,Eh,Dk,Cm,AU,C5,aaD,zO,Es,Ends.DR,zj,zq,B4,EB,BU,BQ,zy,zM,YF,sJ,Z5,Vg,abc,Jw,D9,zT,DF,EE,Ac,Ce,BZ,AN,Ef,Vc,CB,S3,Yq,ZF,UE,wJ,DK,Af,DC,zg,S2,IB,zD,xt,VO,List.getElem?_cons_zero,List.getElem?_cons_succ,List.set_cons_zero,List.set_cons_succ,List.cons_append,List.nil_append])
local macro_rules | `(tactic| walk_at "w")=>`(tactic| (first | walk_at "rd" | skip))
local macro_rules | `(tactic| left)=>`(tactic| walk_at "w")
local macro_rules | `(tactic| right)=>`(tactic| (refine ai ?_;left))
local macro_rules | `(tactic| walk_at "f")=>`(tactic| (refine _n (m:=40) ?_ (by decide); (repeat (refine bW ?_)); exact wP _))
local macro_rules | `(tactic| walk_at "c")=>`(tactic| (repeat (first | exact trivial | (refine ⟨fun z=>(by first | exact ⟨_,rfl⟩ | (rcases z with z | z <;> cases z)),?_⟩))))
open Dv (aa ae aq aM aO aV bf bu bC cf cB cK cY cW dk ij il hX iN jB ay ky kq mJ og nH oT nU ox pR qj uu tD t9 sI u9 sX tQ wM wb yt Di Dy zm B9 Bq J8 JG Iz Mr K5 Jo BD J3 B7 VL Z4 Xa aam XT Zr W4 ZD ZR TH Tf Qb cO ZL)
abbrev ad:=@Dv.v
abbrev am:=@Dv.cut
abbrev ap:=@Dv.str
abbrev bi:=@Dv.fld
abbrev bn:=@Dv.int
abbrev bv:=@Dv.call
abbrev ce:=@Dv.ix
abbrev ci:=@Dv.nil
abbrev cr:=@Dv.lst
abbrev db:=@Dv.op
abbrev dl:=@Dv.glob
abbrev dL:=@Dv.cmp
abbrev em:=@Dv.tup
abbrev f8:=@Dv.w_or
abbrev ge:=@Dv.bl
abbrev gl:=@Dv.un
abbrev ii:=@Dv.one
abbrev im:=@Dv.make
abbrev io:=@Dv.slice
section
variable {P:Program} {w:World} {K:PySem.W.Frag} {mg:Str->Option Value} {base:Heap}
variable (T:Tx K mg)
def D5:T.ib.k P w base 1 (ZI K):=by
 refine T.ib.F.ok R5 (fun _ _ _ _ h=>mO h fun _ _=>rfl) fun ag A outer s H vs Q E hr h=>mO h fun x h=>?_;obtain ⟨⟨ty,h1⟩,lJ,q⟩:=h;refine ⟨_,((am (bu (ij (f8 (dk (cK (cY kI T.gF gK (aa (ad 0) (aa (ky (.ty "str") T.qD pT rfl) ae))))) (kq (dk (Di qZ qZ bn (cY (oA (K:=K) rfl) T.nS _g (aa (ad 0) ae)) (dl (.int 8) T.Vl ⟨_,rfl⟩)))))) (aq (aM ge)) ci)
 (aq (aM (cY (Kw (K:=K) rfl rfl) T.Ku Md (aa (J8 rfl (x:=("sign" : Str)) (VL (ad 0)) (fun _ _ _ _=>by exact pR) (fun _ _ _ _=>by exact (il 0 (show List.Nodup (["sign"]:List Str) by decide))) (fun _ _ _ _=>by exact (dL (AZ (K:=K) rfl) (ad 0) (dl (.str "abcdefghijklmnopqrstuvwxyz") T.aaH ⟨_,rfl⟩))) (.of rfl (by exact trivial) (by walk_at "c") rfl (by exact trivial))) ae)))))).h,?_⟩
 refine stI [some x] ?_;refine ai ?_;walk_at "rd";simp only [h1,BB h1];refine ⟨vT _ rfl,?_⟩;cases x with
 | str z =>
  simp only [xP,_B,Fa,Re];have hsh':z.length<=1000:=lJ;have hl:z.cps.toList.length=z.length:=by simp [Str.length]
  refine ⟨fits hsh',?_⟩;by_cases a1:1<=z.length
  ·rw [u8 (show (1:Int)<=(z.length:Int) by omega)];refine bK ?_;by_cases a2:z.length<=8
   ·rw [u8 (show (z.length:Int)<=8 by omega)];refine bg ?_;refine Rw (fun c=>.bl (qH.contains c)) (fits hsh') ?_ ?_
    ·intro c _ H1 _ R hR;walk_at "rd";rw [Zl,show (⟨#[c]⟩:Str)=Tx.S [c] from rfl,Tx.aaO];exact hR H1 (ao.refl H1)
    ·intro H1 s1 l lY;refine ⟨_,aD.of ax,z.cps.toList.map (qH.contains ·),by rw [SZ]; rfl,?_⟩;have e:((z.cps.toList.map (qH.contains ·)).all id)=fq (.str z):=by
      show _=isNm z.cps.toList;unfold isNm;rw [hl,u8 a1,u8 a2,List.all_map];rfl
     rw [e];exact q _ (s1.trans (ao.upd lY))
   ·rw [pc (show ¬ (z.length:Int)<=8 by omega)];refine bK ?_;have e:fq (.str z)=false:=by
     show isNm z.cps.toList=false;unfold isNm;rw [hl,pc a2,Bool.and_false,Jab]
    have:=q H (ao.refl H);rw [e] at this;exact this
  ·rw [pc (show ¬ (1:Int)<=(z.length:Int) by omega)];refine bg (bK ?_);have e:fq (.str z)=false:=by
    show isNm z.cps.toList=false;unfold isNm;rw [hl,pc a1,Jab,Jab]
   have:=q H (ao.refl H);rw [e] at this;exact this
 | _=>exact q H (ao.refl H)
def bF {X:Cx} {b:List Stmt} {t:TS} {D:Ends} {σ:St} {H:Hp} (h:QB X b t) (q:t D σ H):∃ t,c8 X b t/\t D σ H:=⟨t,h.h,q⟩
def aa5:V->Bool
 | .int _=>true
 | .bl _=>true
 | _=>false
def ZA {H:Hp} {v:V} {ty:String} (h:clsName H v=some ty):vZ ty "int" = aa5 v:=by
 unfold clsName at h;split at h
 ·cases h; rfl
 ·cases h; rfl
 ·cases h; rfl
 ·cases h; rfl
 ·split at h
  ·cases h; rfl
  ·cases h; rfl
  ·cases h; rfl
  ·cases h
 ·cases h
def MS:T.kE.k P w base 1 V6:=by
 refine T.kE.F.ok WM (fun _ _ _ _ h=>mO h fun _ _=>rfl) fun ag A outer s H vs Q E hr h=>mO h fun v h=>?_;obtain ⟨⟨ty,cI⟩,q⟩:=h;refine ⟨_,((aq (aM (mJ (cY kI T.gF gK (aa (ad 0) (aa (ky (.ty "int") T.BA zF rfl) ae))) (ii (Z4 (cY kI T.gF gK (aa (ad 0) (aa (ky (.ty "bool") T.g_bool YB rfl) ae))))))))).h,?_⟩;refine stI [some v] ?_;left;simp only [cI];refine ⟨by decide,?_⟩;cases v with
 | int i=>cases cI; exact bK ⟨by decide,q⟩
 | bl b=>cases cI; exact bK ⟨by decide,q⟩
 | _ =>
  rw [ZA cI];exact bg q
def Cz:T.ic.k P w base 2 RV:=by
 refine T.ic.F.ok abk (fun _ _ _ _ h=>mO h fun _ _=>rfl) fun ag A outer s H vs Q E hr h=>mO h fun x h=>?_;obtain ⟨hc,lJ,hn,q1⟩:=h;refine ⟨_,((aq (bu (dk (cK (bv (D5 T) hr.m T.ib.m T.ib.F.kp T.ib.b .nil au (aa (ad 0) ae)))) (aq iN) ci))).h,?_⟩;refine stI [some x] ?_;left;refine ⟨hc,lJ,fun H' s'=>?_⟩;rw [hn];exact bg (q1 H' s')
def iu:List Str:=["","l","g","w","lg","lw","gw","lgw"]
def aby:Sp:=lB fun z H Q _=>z∈iu/\Q (.bl true) H
def ZP:Sp:=lB fun z H Q _=>z∈iu/\Q .ay H
def RY {z:Str} {zs:List Str} (h:z∈zs):gJ (V.str z) (zs.map V.str)=true:=by
 unfold gJ;rw [List.any_map,List.any_eq_true];exact ⟨z,h,show (z == z)=true from beq_self_eq_true z⟩
def R8:T.qm.k P w base 1 aby:=by
 refine T.qm.F.ok Zx (fun _ _ _ _ h=>fC h fun _ _=>rfl) fun ag A outer s H vs Q E hr h=>fC h fun z h=>?_;obtain ⟨hz,q⟩:=h;refine ⟨_,((aq (aM (mJ (cY kI T.gF gK (aa (ad 0) (aa (ky (.ty "str") T.qD pT rfl) ae))) (ii (dL (Dh (K:=K) rfl) (ad 0) (dl (.ref T.Fo) T.Tg rfl))))))).h,?_⟩;refine stI [some (V.str z)] ?_;left;refine ⟨by decide,bK ⟨_,.inr (T.BN H),rfl,rfl,?_⟩⟩;rw [show [V.str (Str.ofString ""),V.str (Str.ofString "l"),V.str (Str.ofString "g"),V.str (Str.ofString "w"),V.str (Str.ofString "lg"),V.str (Str.ofString "lw"),V.str (Str.ofString "gw"),V.str (Str.ofString "lgw")]=iu.map V.str from rfl,RY hz];exact q
def pU:T.dW.k P w base 2 ZP:=by
 refine T.dW.F.ok Ua (fun _ _ _ _ h=>fC h fun _ _=>rfl) fun ag A outer s H vs Q E hr h=>fC h fun z h=>?_;obtain ⟨hz,q⟩:=h;refine ⟨_,((aq (bu (dk (cK (bv (R8 T) hr.m T.qm.m T.qm.F.kp T.qm.b .nil au (aa (ad 0) ae)))) (aq iN) ci))).h,?_⟩;refine stI [some (V.str z)] ?_;left;exact ⟨hz,bg q⟩
def RD (v:V):gJ v [V.str (Str.ofString "l"),V.str (Str.ofString "g"),V.str (Str.ofString "w")]=i8 v:=by
 unfold gJ i8;simp only [XV,List.any_nil,Jag];have key:∀ z:Str,fA (.str z) v=decide (v=.str z):=fun z=>by
  cases v with
  | str y =>
   show (z == y)=decide (V.str y=V.str z);by_cases e:z=y
   ·subst e; simp
   ·rw [pc (by intro h; injection h with h; exact e h.symm)];exact Ch.mpr e
  | _=>rfl
 rw [key,key,key,Bool.or_assoc]
def UH:aC P w K mg base (bo P w) 1 T.qd.f T.qd.d ["text"] (abh T.vL):=by
 refine T.qd.F.dE Rx (fun _ _ _ _ h=>mO h fun _ _=>rfl) fun ag A outer s H vs Q E hr h=>mO h fun v h=>?_;obtain ⟨⟨ty,cI⟩,q1,q2⟩:=h;refine ⟨_,((aq (bu (ij (f8 (dk (cK (cY kI T.gF gK (aa (ad 0) (aa (ky (.ty "str") T.qD pT rfl) ae))))) (kq (cf (CV (K:=K) rfl) (ad 0) (dl (.ref T.FW) T.aaR rfl))))) (aq (Dy DD rfl T.YO T.P0 (aa ap ae))) ci))).h,?_⟩;refine stI [some v] ?_;left;simp only [cI,BB cI];refine ⟨vT _ rfl,?_⟩;cases v with
 | str z =>
  simp only [xP,_B,Fa,Re];refine ⟨_,.inr (T.BJ H),rfl,rfl,?_⟩;rw [RD];cases ho:i8 (.str z) with
  | true=>exact bg (q1 ho)
  | false=>exact bK ⟨fits (by simp),q2 ho⟩
 | _=>exact ⟨fits (by simp),q2 rfl⟩
def aav:T.pQ.k P w base 2 (aa6 K):=by
 refine T.pQ.F.ok PR (fun _ _ _ _ h=>fC h fun _ _=>rfl) fun ag A outer s H vs Q E hr h=>fC h fun z h=>?_;obtain ⟨w',rfl,hw,q⟩:=h;refine ⟨_,((aq (aM (Xa (dL (Dh (K:=K) rfl) (ad 0) (dl (.ref T.FV) T.YY rfl)) (ii (bv (D5 T) hr.m T.ib.m T.ib.F.kp T.ib.b .nil au (aa (ad 0) ae))))))).h,?_⟩;refine stI [some (V.str (Tx.S w'))] ?_;walk_at "rd";refine ⟨_,.inr (T.BW H),rfl,rfl,?_⟩;have e:gJ (V.str (Tx.S w')) [V.str (Str.ofString "."),V.str (Str.ofString "..")]=(decide (w'=[46]) || decide (w'=[46,46])):=by
  rw [show Str.ofString "." = Tx.S [46] from by decide +kernel,show Str.ofString ".." = Tx.S [46,46] from by decide +kernel];unfold gJ fA;simp only [XV,List.any_nil,Jag];have b:∀ m:List Nat,(Tx.S m == Tx.S w')=decide (w'=m):=fun m=>by
   by_cases h:w'=m
   ·rw [h]; simp
   ·have:Tx.S m≠Tx.S w':=fun e=>h (Tx.ML e).symm;rw [pc h];exact Ch.mpr this
  rw [b,b]
 rw [e];cases hd:(decide (w'=[46]) || decide (w'=[46,46])) with
 | true =>
  refine bK ?_;have:=q H (ao.refl H);unfold cL at this;rw [hd] at this;exact this
 | false =>
  refine bg ?_;refine ⟨⟨_,rfl⟩,(by show (Tx.S w').length<=1000; rw [Tx.cQ]; exact hw),fun H' s'=>?_⟩;have:=q H' s';unfold cL at this;rw [hd,Bool.false_or] at this;have e2:fq (V.str (Tx.S w'))=isNm w':=by show isNm _=_; rw [Tx.l7]
  rw [e2];exact this
def jr:T.cy.k P w base 3 (Qs K):=by
 refine T.cy.F.ok My (fun _ _ _ _ h=>fC h fun _ _=>rfl) fun ag A outer s H vs Q E hr h=>fC h fun z h=>?_;obtain ⟨t,rfl,t1,t2,lQ,q⟩:=h;refine ⟨_,((am (bu (ij (f8 (dk (cK (cY kI T.gF gK (aa (ad 0) (aa (ky (.ty "str") T.qD pT rfl) ae))))) (kq (dk (Di qZ qZ bn (cY (oA (K:=K) rfl) T.nS _g (aa (ad 0) ae)) (dl (.int 2000) T.U9 ⟨_,rfl⟩)))))) (aq iN) ci)
 (am (aam 1 rfl My.nd (x:=("part" : Str)) (uu (K:=K) rfl (qj PySem.F.slot_str_split PySem.F.type_str_split Y8 (ad 0) (aa ap ae))) (fun _ _ _ _=>by exact (XT (cf kU (ad 0) ap))) (fun _ _ _ _=>by exact (il 0 (show List.Nodup (["part"]:List Str) by decide))) (fun _ _ _ _=>by exact (ad 0)) (.of rfl (by exact trivial) (by walk_at "c") rfl (by exact trivial)))
 (am (bu (dk (cK (cY (Kw (K:=K) rfl rfl) T.Ku Md (aa (J8 rfl (x:=("part" : Str)) (uu (K:=K) rfl (ad 1)) (fun _ _ _ _=>by exact pR) (fun _ _ _ _=>by exact (il 0 (show List.Nodup (["part"]:List Str) by decide))) (fun _ _ _ _=>by exact (bv (aav T) hr.m T.pQ.m T.pQ.F.kp T.pQ.b .nil au (aa (ad 0) ae))) (.of rfl (by exact trivial) (by walk_at "c") rfl (by exact trivial))) ae)))) (aq iN) ci)
 (am (bu (ij (Dv.w_and (cf (Xu hr.xp) (ad 1) (cr ae)) (zm (cK (qj PySem.F.slot_str_endswith PySem.F.type_str_endswith U0 (ad 0) (aa ap ae)))))) (aq (aV (hX FS Gc kz (ad 1) (aa ap ae)))) ci)
 (aq (aM (em (aa (qj PySem.F.slot_str_startswith PySem.F.type_str_startswith Wb (ad 0) (aa ap ae)) (aa (ad 1) ae)))))))))).h,?_⟩
 refine stI [some (V.str (Tx.S t)),none] ?_;refine ai ?_;walk_at "rd";have kg:Str.ofString "/" = Tx.S [47]:=by decide +kernel
 have e0:Str.ofString "" = Tx.S []:=by decide +kernel
 simp only [Tx.cQ,kg,e0];refine ⟨vT _ rfl,bg ⟨wf t2 (by decide),?_⟩⟩;rw [u8 (show (1:Int)<=(t.length:Int) by omega),u8 (show (t.length:Int)<=2000 by omega)];refine bK (bg (ai ?_));walk_at "rd";have lP:=Tx.Cg 47 t;refine ⟨rfl,by rw [Tx.cQ]; exact wf t2 (by decide),?_,?_⟩
 ·rw [Tx.IL,Tx.oC,Tx.LP,Tx.vW,nn];exact wf (show _<=2001 by omega) (by decide)
 intro l hl;rw [Tx.QU t 47 (by decide)];refine ee (o:=.lst (((Tx.cut 47 t).map Tx.S).map V.str)) hl fun H1 s1 b1=>?_;refine ⟨⟨_,aD.of b1⟩,IT (fun x=>match x with | .str z=>!decide (z=Tx.S []) | _=>false) id (aD.of b1) (by rw [nn,nn]; exact wf (show _<=2001 by omega) (by decide)) ?_ ?_ ?_⟩
 ·intro x hx H2 _ R hR;obtain ⟨z,_,rfl⟩:=AC.mp hx;walk_at "rd";exact hR H2 (ao.refl H2)
 ·intro x hx _ H2 _ R hR;walk_at "rd";exact hR H2 (ao.refl H2)
 intro H2 s2 l2 cm;have ew:((((Tx.cut 47 t).map Tx.S).map V.str).filter (fun x=>match x with | .str z=>!decide (z=Tx.S []) | _=>false)).map id=PV (Tx.words 47 t):=by
  rw [List.map_id,List.filter_map];show ((((Tx.cut 47 t).map Tx.S)).filter _).map V.str=_
  congr 1
  rw [<- Tx.aax];refine List.filter_congr fun z _=>?_;show (!decide (z=Tx.S []))=decide (z≠Tx.S []);by_cases h:z=Tx.S [] <;> simp [h]
 rw [ew];have iM:H l2=none:=(s1.trans s2).free cm;refine ee (o:=.lst (PV (Tx.words 47 t))) cm fun H3 s3 b3=>?_;have sH3:ao H H3:=(s1.trans s2).trans s3;have rD:(Tx.words 47 t).length<=2001:=wf (_S _ _) (by omega);refine ai ?_;walk_at "rd";refine ⟨⟨_,aD.of b3⟩,IT (fun _=>true) (fun x=>match x with | .str z=>.bl (cL z.cps.toList) | _=>.bl false) (aD.of b3) (by rw [nn,nn]; exact wf rD (by decide)) ?_ ?_ ?_⟩
 ·intro x _ H4 _ R hR;exact hR H4 (ao.refl H4)
 ·intro x hx _ H4 _ R hR;obtain ⟨z,hz,rfl⟩:=AC.mp hx;obtain ⟨w',hw,rfl⟩:=AC.mp hz;walk_at "rd";obtain ⟨_,_,g3⟩:=pY (At.mp lQ w' hw);refine ⟨w',rfl,by omega,fun H5 s5=>?_⟩;have:=hR H5 s5;simp only [Tx.l7] at this;exact this
 intro H4 s4 l4 nA;have eb:((PV (Tx.words 47 t)).filter (fun _=>true)).map (fun x=>match x with | .str z=>V.bl (cL z.cps.toList) | _=>V.bl false)=((Tx.words 47 t).map cL).map V.bl:=by
  rw [List.filter_eq_self.mpr (fun _ _=>rfl),SZ,SZ,SZ];refine List.map_congr_left fun w' _=>?_;show V.bl (cL (Tx.S w').cps.toList)=V.bl (cL w');rw [Tx.l7]
 rw [eb];refine ⟨_,aD.of ax,_,rfl,?_⟩;have ea:((Tx.words 47 t).map cL).all id=true:=by rw [List.all_map]; exact lQ
 rw [ea];refine bg ?_;have s5:=ao.upd (o:=.lst (((Tx.words 47 t).map cL).map V.bl)) nA;generalize upd H4 l4 (.lst (((Tx.words 47 t).map cL).map V.bl))=H5 at s5 ⊢;have b5:H5 l2=some (.lst (PV (Tx.words 47 t))):=s5 _ _ (s4 _ _ b3);have Gm:ao H H5:=(sH3.trans s4).trans s5;refine kS (fun σ' H'=>σ'=[some (V.str (Tx.S t)),some (V.ref l2)]/\ao H H'/\H' l2=some (.lst (PV (told (Tx.words 47 t) t)))) ?_ ?_
 ·walk_at "rd";refine ⟨fits (by simp),fun p hp=>?_⟩;have s6:=ao.upd (o:=.lst []) hp;have c6:upd H5 p (.lst []) p=some (.lst ((([]:List Str)).map V.str)):=ax;generalize upd H5 p (.lst [])=H6 at s6 c6 ⊢;have b6:H6 l2=some (.lst (PV (Tx.words 47 t))):=s6 _ _ b5;refine ⟨(Tx.words 47 t).map Tx.S,[],b6,c6,?_⟩;by_cases yF:Tx.words 47 t=[]
  ·rw [u8 (show (Tx.words 47 t).map Tx.S=[] by rw [yF]; rfl)];refine bg (bg ⟨by trivial,Gm.trans s6,?_⟩);unfold told;rw [wS (fun z=>z.1 yF)];exact b6
  ·rw [pc (show ¬ (Tx.words 47 t).map Tx.S=[] by simpa using yF)];refine bK ?_;rw [Tx.UB];by_cases yB:t.getLast?=some 47
   ·rw [u8 yB];refine bK ?_;simp only [b6];refine ⟨by rw [nn,nn]; exact _n rD (by decide),by trivial,cb.same (Gm.trans s6) iM cb.upd,?_⟩;unfold told;rw [wT ⟨yF,yB⟩,ax,show Str.ofString "." = Tx.S [46] from by decide +kernel];simp only [PV,IN,xz,On]
   ·rw [pc yB];refine bg ⟨by trivial,Gm.trans s6,?_⟩;unfold told;rw [wS (fun z=>yB z.2)];exact b6
 ·rintro σ' H6 ⟨rfl,s6,b6⟩;walk_at "rd";simp only [kg,Tx.Zc];refine ⟨fits (by simp),fun p hp=>?_⟩;exact q _ l2 p (s6.trans (ao.upd hp)) iM (QC b6 hp) ax
def abV:T.sT.k P w mg base 1 (Rl T.aW):=by
 refine T.sT.F.ok Su (fun _ _ _ _ h=>IX h fun _ _ _ _ _ _ _ _=>rfl) fun ag A outer s H vs Q E hr h=>IX h fun x n kd ow mi re tx h=>?_;obtain ⟨dx,hx,q⟩:=h;refine ⟨_,((am (bC T.cP T.Y9 (ad 0) (ad 1))
 (am (bC T.cP T.BF (ad 0) (ad 2))
 (am (bC T.cP T.Bs (ad 0) (ad 3))
 (am (bC T.cP T.wX (ad 0) (ad 4))
 (am (bC T.cP T.yj (ad 0) (ad 5))
 (am (bC T.cP T.BC (ad 0) (ad 6))
 (am (bC T.cP T.wZ (ad 0) og)
 (aq (bC T.cP T.tT (ad 0) Zr)))))))))).h,?_⟩
 refine stI [some (.ref x),some n,some kd,some ow,some mi,some re,some tx] ?_;refine ai ?_;walk_at "rd";refine ⟨x,dx,_,rfl,hx,by decide,ai ?_⟩;walk_at "rd";refine ⟨x,dx,_,rfl,ax,by walk_at "f",ai ?_⟩;walk_at "rd";refine ⟨x,dx,_,rfl,ax,by walk_at "f",ai ?_⟩;walk_at "rd";refine ⟨x,dx,_,rfl,ax,by walk_at "f",ai ?_⟩;walk_at "rd";refine ⟨x,dx,_,rfl,ax,by walk_at "f",ai ?_⟩;walk_at "rd";refine ⟨x,dx,_,rfl,ax,by walk_at "f",ai ?_⟩;simp only [mr];walk_at "rd";intro l1 h1;have n1:l1≠x:=fun e=>by rw [e,ax] at h1; cases h1
 have h1':H l1=none:=by rw [ah n1] at h1; exact h1
 refine ⟨x,dx,_,rfl,by rw [ah (pi n1),ax],by walk_at "f",fun l2 h2=>?_⟩;have n2:l2≠x:=fun e=>by rw [e,ax] at h2; cases h2
 rw [ah n2] at h2;have n3:l2≠l1:=fun e=>by rw [e,ax] at h2; cases h2
 rw [ah n3,ah n2] at h2;refine ⟨x,dx,_,rfl,by rw [ah (pi n2),ax],by walk_at "f",?_⟩;refine q l1 l2 _ h1' h2 (pi n3) n1 n2 (fun b b1 b2 b3=>?_) ?_ ?_ _ ?_ (fun f=>?_) ax
 ·rw [ah b1,ah b3,ah b1,ah b2,ah b1]
 ·rw [ah n1,ah (pi n3),ah n1,ax]
 ·rw [ah n2,ax]
 ·exact wf (by (repeat (refine bW ?_)); exact wP _) (ss 40)
 ·rfl
def ZE:T.tZ.k P w mg base 1 (PU T.aP):=by
 refine T.tZ.F.ok abt (fun _ _ _ _ h=>cX h fun _ _=>rfl) fun ag A outer s H vs Q E hr h=>cX h fun x h=>?_;obtain ⟨dx,hx,q⟩:=h;refine ⟨_,((am (bC T.bS T.rg (ad 0) (cr ae))
 (aq (bC T.bS T.tX (ad 0) bn)))).h,?_⟩
 refine stI [some (.ref x)] ?_;refine ai ?_;walk_at "rd";refine ⟨fits (by simp),fun l hl=>?_⟩;have n1:l≠x:=fun e=>by rw [e,hx] at hl; cases hl
 refine ⟨x,dx,_,rfl,by rw [ah (pi n1)]; exact hx,by decide,?_⟩;refine ⟨x,dx,_,rfl,ax,by walk_at "f",?_⟩;refine q l _ hl n1 (fun b b1 b2=>?_) ?_ _ ?_ (fun f=>?_) ax
 ·rw [ah b1,ah b1,ah b2]
 ·rw [ah n1,ah n1,ax]
 ·exact wf (bW (bW (wP _))) (show 0+1+1<=40 by decide)
 ·rfl
def Vs:T.sA.k P w mg base 1 (aa7 T.aW):=by
 refine T.sA.F.ok abx (fun _ _ _ _ h=>eT h fun _ _ _=>rfl) fun ag A outer s H vs Q E hr h=>eT h fun x z h=>?_;obtain ⟨a,i,t,bU,rfl,q⟩:=h;obtain ⟨fs,hx,aY,sf⟩:=bU.o;refine ⟨_,((aq (aM (JG (cf ie (ad 1) (bi T.cP T.Bs (ad 0))) (bi T.cP T.wX (ad 0)) (bi T.cP T.yj (ad 0)))))).h,?_⟩;refine stI [some (V.ref a.th),some (V.str z)] ?_;left;refine (fI hx sf rfl ?_);dsimp only;unfold cZ at q;by_cases e:z=t.ow
 ·rw [u8 e];rw [wT e] at q;exact bK (fI hx sf rfl q)
 ·rw [pc e];rw [wS e] at q;exact bg (fI hx sf rfl q)
def Cf:T.kQ.k P w mg base 3 (Wu T.aP T.aW):=by
 refine T.kQ.F.ok Hy (fun _ _ _ _ h=>Hb h fun _ _ _ _ _ _ _=>rfl) fun ag A outer s H vs Q E hr h=>Hb h fun x kd ow mi re tx h=>?_;obtain ⟨dt,ml,rs,⟨⟨fs,c,hx,aY,sf⟩,iK⟩,dG,q⟩:=h;refine ⟨_,((am (jB T.bS T.tX jE (ad 0) bn)
  (am (aO 6 Hy.nd (cY (oA (K:=K) rfl) T.nS _g (aa (bi T.bS T.rg (ad 0)) ae)))
  (am (aV (hX FS Gc kz (bi T.bS T.rg (ad 0)) (aa (im T.Xr (abV T) hr.m T.Xj T.sT.b .nil au (aa (ad 6) (aa (ad 1) (aa (ad 2) (aa (ad 3) (aa (ad 4) (aa (ad 5) ae))))))) ae)))
  (aq (aM (ad 6))))))).h,?_⟩
 refine stI [some (.ref x),some kd,some ow,some mi,some re,some tx,none] ?_;have dS:ml≠x:=fun e=>by rw [e,hx] at iK; cases iK
 refine ai ?_;walk_at "rd";refine ⟨x,dt,fs,.int c,rfl,hx,(sf _).trans rfl,_,_,rfl,rfl,dt,fs,hx,by omega,ai ?_⟩;have cT:dh (aA "changes" (.int (c+1)) fs) (sP ml (c+1)):=fun f=>by rw [(sf.put "changes" (.int (c+1))) f]; rfl
 have jd:(aA "changes" (.int (c+1)) fs).length<=41:=bW aY;have bx:upd H x (.ins T.aP dt (aA "changes" (.int (c+1)) fs)) x=some (.ins T.aP dt (aA "changes" (.int (c+1)) fs)):=ax;have lT:upd H x (.ins T.aP dt (aA "changes" (.int (c+1)) fs)) ml=some (.lst rs):=by rw [ah dS]; exact iK
 have iF:Kp [x] H (upd H x (.ins T.aP dt (aA "changes" (.int (c+1)) fs))):=fun b o hb e=>by rw [ah (fun z=>hb (by simp [z]))]; exact e
 have pq:∀ b,b≠x->upd H x (.ins T.aP dt (aA "changes" (.int (c+1)) fs)) b=H b:=fun b hb=>ah hb;generalize upd H x (.ins T.aP dt (aA "changes" (.int (c+1)) fs))=H1 at bx lT iF pq ⊢;walk_at "rd";refine ⟨x,dt,_,.ref ml,rfl,bx,(cT _).trans rfl,?_⟩;simp only [bJ,lT];refine ai ?_;walk_at "rd";refine ⟨x,dt,_,.ref ml,rfl,bx,(cT _).trans rfl,?_⟩;simp only [lT];intro th dB aG hdth lF;refine ⟨dB,ax,fun nm pl H2 cw bB hnp Gg iM fr2 hnm2 hpl2 ks gz sk hth2=>⟨rfl,?_⟩⟩;have Fz:∀ b o,H1 b=some o->upd (upd H1 dB (HO.own th)) th (HO.ins T.aW dB []) b=some o:=fun b o e=>by
  rw [ah (aK e aG),ah (aK e hdth)]; exact e
 have Fv:∀ b o,H1 b=some o->H2 b=some o:=fun b o e=>by
  rw [fr2 b (aK e aG) (aK (Fz b o e) cw) (aK (Fz b o e) bB)]; exact Fz b o e
 have dn:∀ d,d≠th->upd (upd H1 dB (HO.own th)) th (HO.ins T.aW dB []) d=none->H1 d=none:=fun d n e=>by
  rw [ah n] at e;by_cases z:d=dB
  ·rw [z,ax] at e; cases e
  ·rw [ah z] at e; exact e
 have OG:=dn nm Gg cw;have OM:=dn pl iM bB;have EJ:∀ d,H1 d=none->H d=none:=fun d e=>by rw [<- pq d (pi (aK bx e))]; exact e
 simp only [Fv _ _ lT];refine ⟨kj (by omega),?_⟩;refine q th dB nm pl ks _ (EJ _ aG) (EJ _ OG) (EJ _ OM) ⟨⟨_,c+1,by rw [ah (pi dS)]; exact Fv _ _ bx,?_,cT⟩,ax⟩ (by rw [ah (pi (aK lT aG))]; exact hth2) gz sk
  (by rw [ah (pi (aK lT OG))]; exact hnm2) (by rw [ah (pi (aK lT OM))]; exact hpl2) (fun b o hb e=>?_)
 ·rw [fm (u:=.int c) ((sf _).trans rfl)]; exact aY
 ·simp only [li,lv,wn,TW] at hb;rw [ah hb.2];exact Fv _ _ (iF b o (by simp [hb.1]) e)
def K6:T.oj.k P w mg base 4 (XI T.aP T.aW):=by
 refine T.oj.F.ok Qa (fun _ _ _ _ h=>w8 h fun _ _ _ _ _=>rfl) fun ag A outer s H vs Q E hr h=>w8 h fun x ow mi re h=>?_;obtain ⟨dt,ml,rs,at',dG,q⟩:=h;obtain ⟨fs,c,hx,aY,sf⟩:=at'.o;refine ⟨_,((aq (aM (bf T.bS T.kQ.h (Cf T) hr.m T.kQ.b .nil au (ad 0) (aa (dl (.str "folder") T.tN ⟨_,rfl⟩) (aa (ad 1) (aa (ad 2) (aa (ad 3) (aa ap ae))))))))).h,?_⟩;refine stI [some (.ref x),some ow,some mi,some re] ?_;left;exact ⟨x,dt,fs,rfl,hx,(sf _).trans rfl,dt,ml,rs,at',dG,q⟩
def gn:aC P w K mg base (bo P w) 2 T.cE.f T.cE.d ["self","number"] (Hh T.aI T.aP T.aW T.rH):=by
 refine T.cE.F.dE Pn (fun _ _ _ _ h=>vM h fun _ _ _=>rfl) fun ag A outer s H vs Q E hr h=>vM h fun x v h=>?_;obtain ⟨AA,L,M,i,rfl,lP,q1,q2⟩:=h;obtain ⟨fs,c,hx,aY,sf⟩:=i.t;refine ⟨_,((am (bu (ij (f8 (dk (cK (bv (MS T) hr.m T.kE.m T.kE.F.kp T.kE.b .nil au (aa (ad 1) ae)))) (kq (dk (Di qZ wo bn (ad 1) (cY (oA (K:=K) rfl) T.nS _g (aa (bi T.bS T.rg (ad 0)) ae))))))) (aq (Dy DD rfl T.WS T.Sh (aa ap ae))) ci)
 (aq (aM (ce (bh (K:=K) rfl) (bi T.bS T.rg (ad 0)) (ad 1)))))).h,?_⟩
 refine stI [some (.ref AA.t),some v] ?_;right;refine ⟨lP,?_⟩;cases v with
 | int n =>
  simp only [GN,_B,Fa,Re];refine mS (fun h0=>?_) (fun h0=>bK ⟨fits (by simp),q2 fun j e=>?_⟩)
  ·have h0':0<=n:=of_decide_eq_true h0;refine ⟨AA.t,_,_,.ref AA.ml,rfl,hx,(sf _).trans rfl,?_⟩;simp only [bJ,i.ml,nn,i.len];obtain ⟨k,rfl⟩:=PP h0';by_cases hk:k < M.ts.length
   ·rw [u8 (show (k:Int) < (M.ts.length:Int) by omega)];refine bg ⟨AA.t,_,_,.ref AA.ml,rfl,hx,(sf _).trans rfl,?_⟩;simp only [bJ,i.ml];have N0:k < L.length:=by rw [i.len]; exact hk
    rw [eR (xs:=L.map fun a=>V.ref a.th) (j:=k) (by rw [xL,mo N0]; rfl)];exact q1 k _ _ rfl (mo N0) (mo hk)
   ·rw [pc (show ¬ (k:Int) < (M.ts.length:Int) by omega)];refine bK ⟨fits (by simp),q2 fun j e=>?_⟩;injection e with e;have:k=j:=by omega
    rw [<- this]; exact hk
  ·injection e with e;exact absurd (u8 (show (0:Int)<=n by omega)) h0
 | _=>exact ⟨fits (by simp),q2 fun k e=>by cases e⟩
def V7:T.tq.k P w mg base 1 (z7 T.aI T.aP T.aW Ad.t):=by
 refine T.tq.F.ok PB (fun _ _ _ _ h=>cX h fun _ _=>rfl) fun ag A outer s H vs Q E hr h=>cX h fun x h=>?_;obtain ⟨AA,L,M,i,rfl,q⟩:=h;obtain ⟨fs,c,hx,aY,sf⟩:=i.t;refine ⟨_,((aq (aM (cY (oA (K:=K) rfl) T.nS _g (aa (bi T.bS T.rg (ad 0)) ae))))).h,?_⟩;refine stI [some (.ref AA.t)] ?_;left;refine ⟨AA.t,_,_,.ref AA.ml,rfl,hx,(sf _).trans rfl,?_⟩;simp only [bJ,i.ml,nn,i.len];exact q
section
variable {T:Tx K mg} {H:Hp} {A:Ad} {L:List Ta} {M:Hs}
def gN {k:Nat} {a:Ta} {t:Th} {Q:VK} {E:XK} (i:aH T.aI T.aP T.aW H A L M) (ha:L[k]?=some a) (ht:M.ts[k]?=some t) (q:Q (.ref a.th) H):Hh T.aI T.aP T.aW T.rH [.ref A.t,.int (k:Int)] H Q E :=
 ⟨A,L,M,i,rfl,⟨_,rfl⟩,fun j a' t' e h1 h2=>by
  injection e with e;have:k=j:=by omega
  subst this;rw [ha] at h1; cases h1;exact q,fun h=>absurd (lm.mp ht).1 (h k rfl)⟩
def dX {k:Nat} {a:Ta} {t:Th} (i:aH T.aI T.aP T.aW H A L M) (ha:L[k]?=some a) (ht:M.ts[k]?=some t):jQ T.aW H a k t:=by
 obtain ⟨a',e,h⟩:=i.th k t ht;rw [ha] at e; cases e;exact h
end
def Ll:T.nY.k P w mg base 3 (SN T.aI T.aP T.aW Ad.t):=by
 refine T.nY.F.ok abw (fun _ _ _ _ h=>mT h fun _ _ _ _=>rfl) fun ag A outer s H vs Q E hr h=>mT h fun x n z h=>?_;obtain ⟨AA,L,M,k,a,t,i,rfl,rfl,ha,aG,q⟩:=h;obtain ⟨fs,c,hx,aY,sf⟩:=i.h;obtain ⟨gs,c2,ht,cJ,sg⟩:=i.t;have bU:=dX i ha aG;obtain ⟨ks,ho,fe,so⟩:=bU.o;refine ⟨_,((aq (aM (W4 (gk hr) (bi T.cP T.wZ (cW T.bS T.cE.h (gn T) hr.m T.cE.b .nil di (ad 0) (aa (ad 1) ae))) (ad 2))))).h,?_⟩;refine stI [some (V.ref AA.t),some (V.int (k:Int)),some (V.str z)] ?_;left;refine (mI ht sg (gN i ha aG ⟨a.th,_,_,.ref a.nm,rfl,ho,(so _).trans rfl,a.nm,rfl,.inl ⟨_,.inl bU.nm⟩,_,eh.k (k:=.inr z) bU.nm,q⟩))
def aaM:T.tS.k P w mg base 3 (gq T.aI T.aP T.aW Ad.t LG):=by
 refine T.tS.F.ok WX (fun _ _ _ _ h=>bY h fun _ _ _=>rfl) fun ag A outer s H vs Q E hr h=>bY h fun x n h=>?_;obtain ⟨AA,L,M,k,a,t,i,rfl,rfl,ha,aG,q⟩:=h;obtain ⟨fs,c,hx,aY,sf⟩:=i.h;obtain ⟨gs,c2,ht,cJ,sg⟩:=i.t;have bU:=dX i ha aG;obtain ⟨ks,ho,fe,so⟩:=bU.o;refine ⟨_,((aq (aM (Dv.minD rfl T.LF (bi T.cP T.tT (cW T.bS T.cE.h (gn T) hr.m T.cE.b .nil di (ad 0) (aa (ad 1) ae))))))).h,?_⟩;refine stI [some (V.ref AA.t),some (V.int (k:Int))] ?_;left;refine (mI ht sg (gN i ha aG ⟨a.th,_,_,.ref a.pl,rfl,ho,(so _).trans rfl,a.pl,_,rfl,bU.pl,?_⟩));rcases q with ⟨e,q⟩ | ⟨f,z,e,q⟩
 ·rw [e]; exact .inl ⟨rfl,q⟩
 ·rw [e]; exact .inr ⟨_,_,rfl,q⟩
def pN:T.fX.k P w mg base 3 (gq T.aI T.aP T.aW Ad.a xj):=by
 refine T.fX.F.ok PQ (fun _ _ _ _ h=>bY h fun _ _ _=>rfl) fun ag A outer s H vs Q E hr h=>bY h fun x n h=>?_;obtain ⟨AA,L,M,k,a,t,i,rfl,rfl,ha,aG,q⟩:=h;obtain ⟨fs,c,hx,aY,sf⟩:=i.h;obtain ⟨gs,c2,ht,cJ,sg⟩:=i.t;have bU:=dX i ha aG;obtain ⟨ks,ho,fe,so⟩:=bU.o;refine ⟨_,((aq (aM (bi T.cP T.BF (cW T.bS T.cE.h (gn T) hr.m T.cE.b .nil di (bi T.aJ T.eE (ad 0)) (aa (ad 1) ae)))))).h,?_⟩;refine stI [some (V.ref AA.a),some (V.int (k:Int))] ?_;left;exact ⟨AA.a,_,_,.ref AA.t,rfl,hx,(sf _).trans rfl,AA.t,_,_,rfl,ht,(sg _).trans rfl,gN i ha aG (fI ho so rfl q)⟩
def DZ:T.ly.k P w mg base 4 (gq T.aI T.aP T.aW Ad.a LG):=by
 refine T.ly.F.ok RX (fun _ _ _ _ h=>bY h fun _ _ _=>rfl) fun ag A outer s H vs Q E hr h=>bY h fun x n h=>?_;obtain ⟨AA,L,M,k,a,t,i,rfl,rfl,ha,aG,q⟩:=h;obtain ⟨fs,c,hx,aY,sf⟩:=i.h;obtain ⟨gs,c2,ht,cJ,sg⟩:=i.t;have bU:=dX i ha aG;obtain ⟨ks,ho,fe,so⟩:=bU.o;refine ⟨_,((aq (aM (bf T.bS T.tS.h (aaM T) hr.m T.tS.b .nil au (bi T.aJ T.eE (ad 0)) (aa (ad 1) ae))))).h,?_⟩;refine stI [some (V.ref AA.a),some (V.int (k:Int))] ?_;left;exact ⟨AA.a,_,_,.ref AA.t,rfl,hx,(sf _).trans rfl,AA.t,_,_,rfl,ht,(sg _).trans rfl,AA,L,M,k,a,t,i,rfl,rfl,ha,aG,q⟩
def Q4:T.ue.k P w mg base 3 (gq T.aI T.aP T.aW Ad.a Yo):=by
 refine T.ue.F.ok Zw (fun _ _ _ _ h=>bY h fun _ _ _=>rfl) fun ag A outer s H vs Q E hr h=>bY h fun x n h=>?_;obtain ⟨AA,L,M,k,a,t,i,rfl,rfl,ha,aG,q⟩:=h;obtain ⟨fs,c,hx,aY,sf⟩:=i.h;obtain ⟨gs,c2,ht,cJ,sg⟩:=i.t;have bU:=dX i ha aG;obtain ⟨ks,ho,fe,so⟩:=bU.o;refine ⟨_,((aq (aV (cW T.bS T.cE.h (gn T) hr.m T.cE.b .nil di (bi T.aJ T.eE (ad 0)) (aa (ad 1) ae))))).h,?_⟩;refine stI [some (V.ref AA.a),some (V.int (k:Int))] ?_;left;exact ⟨AA.a,_,_,.ref AA.t,rfl,hx,(sf _).trans rfl,AA.t,_,_,rfl,ht,(sg _).trans rfl,gN i ha aG q⟩
def Az:T.kX.k P w mg base 2 (z7 T.aI T.aP T.aW Ad.a):=by
 refine T.kX.F.ok UJ (fun _ _ _ _ h=>cX h fun _ _=>rfl) fun ag A outer s H vs Q E hr h=>cX h fun x h=>?_;obtain ⟨AA,L,M,i,rfl,q⟩:=h;obtain ⟨fs,c,hx,aY,sf⟩:=i.h;obtain ⟨gs,c2,ht,cJ,sg⟩:=i.t;refine ⟨_,((aq (aM (nH T.bS T.tq.h (V7 T) hr.m T.tq.b .nil au (bi T.aJ T.eE (ad 0)))))).h,?_⟩;refine stI [some (V.ref AA.a)] ?_;left;exact ⟨AA.a,_,_,.ref AA.t,rfl,hx,(sf _).trans rfl,AA.t,_,_,rfl,ht,(sg _).trans rfl,AA,L,M,i,rfl,q⟩
section
variable {CH CS CT:Addr} {H:Hp} {A:Ad} {L:List Ta} {M:Hs}
def aH.ql (i:aH CH CS CT H A L M) {k:Nat} {a:Ta} (ha:L[k]?=some a):∀ b∈A.w,∀ c∈a.l,b≠c:=fun b hb c hc=>by
 have nd:=i.nd;rw [Go] at nd;exact nd.2.2 b hb c (jv ha hc)
def aH.aT (i:aH CH CS CT H A L M):A.a≠A.t:=by
 have nd:=i.nd;rw [Go] at nd;have:=(Cl.mp nd.1).1;exact fun e=>this (by rw [e]; simp)
def LH:∀ {L:List Ta} {k:Nat} {a:Ta},(L.flatMap Ta.l).Nodup->L[k]?=some a->a.l.Nodup
 | c::r,0,a,nd,h=>by
  rw [Ps,Go] at nd;simp only [List.getElem?_cons_zero,Option.some.injEq] at h;subst h; exact nd.1
 | c::r,k+1,a,nd,h=>by
  rw [Ps,Go] at nd;simp only [List.getElem?_cons_succ] at h;exact LH nd.2.1 h
def aH.own (i:aH CH CS CT H A L M) {k:Nat} {a:Ta} (ha:L[k]?=some a):a.th≠a.nm/\a.th≠a.pl/\a.nm≠a.pl:=by
 have nd:=i.nd;rw [Go] at nd;have:=LH nd.2.1 ha;simp only [Ta.l,Cl,li,lv,wn,TW,_O,_M,and_true] at this;exact ⟨this.1.1,this.1.2,this.2⟩
end
def Q1 (CH CS CT:Addr):Sp:=uE fun x n z H Q _=>X6 fun A L M (k:Nat) a t=>A7 (aH CH CS CT H A L M) (A.t=x) (n=(k:Int)) (L[k]?=some a) (M.ts[k]?=some t) (aS (sD t.aQ) (.inr z)=none) (Q .ay H)
def WA:T.uv.k P w mg base 4 (Q1 T.aI T.aP T.aW):=by
 refine T.uv.F.ok KJ (fun _ _ _ _ h=>mT h fun _ _ _ _=>rfl) fun ag A outer s H vs Q E hr h=>mT h fun x n z h=>?_;obtain ⟨AA,L,M,k,a,t,i,rfl,rfl,ha,aG,hv,q⟩:=h;obtain ⟨gs,c2,ht,cJ,sg⟩:=i.t;refine ⟨_,((am (aO 3 KJ.nd (bf T.bS T.nY.h (Ll T) hr.m T.nY.b .nil au (ad 0) (aa (ad 1) (aa (ad 2) ae))))
 (aq (bu (cf MQ (ad 3) ay) (am iN
 (am iN
 (aq iN))) ci)))).h,?_⟩
 refine stI [some (V.ref AA.t),some (V.int (k:Int)),some (V.str z),none] ?_;right;refine (mI ht sg ⟨AA,L,M,k,a,t,i,rfl,rfl,ha,aG,?_⟩);rw [hv];refine ⟨by trivial,?_⟩;exact bg q
def Yb (CH CS CT:Addr):Sp:=Ht fun x fn z kn H Q _=>X9 fun A L M (f:Nat) (k:Nat) af tf ak tk=>Df (aH CH CS CT H A L M) (A.t=x) (fn=(f:Int)) (kn=(k:Int)) (L[f]?=some af) (M.ts[f]?=some tf) (L[k]?=some ak) (M.ts[k]?=some tk) (f≠k) (aS (sD tf.aQ) (.inr z)=none) (tf.aQ.length<=500) (tk.bP=[]) (∀ H',aH CH CS CT H' A L { M with ts:=(M.ts.set f { tf with aQ:=tf.aQ++[(z,k)] }).set k { tk with bP:=[(f,z)] } }->Kp [A.t,af.nm,ak.pl] H H'->Q .ay H')
def CU {l:List (Str×Nat)} {z:Str} {k:Nat} (h:aS (sD l) (.inr z)=none):putK (sD l) (.inr z) (.int (k:Int))=sD (l++[(z,k)]):=by
 have e:((sD l).any fun kv=>decide (kv.1=(Sum.inr z:Key)))=false:=by rw [Dg,h]; rfl
 unfold putK;rw [e];simp [sD]
def S7:T.sZ.k P w mg base 5 (Yb T.aI T.aP T.aW):=by
 refine T.sZ.F.ok xi (fun _ _ _ _ h=>KL h fun _ _ _ _ _=>rfl) fun ag A outer s H vs Q E hr h=>KL h fun x fn z kn h=>?_;obtain ⟨AA,L,M,f,k,af,tf,ak,tk,i,rfl,rfl,rfl,gv,cj,iI,f9,hfk,hv,gC,bB,q⟩:=h;obtain ⟨fs,c,hx,aY,sf⟩:=i.h;obtain ⟨gs,c2,ht,cJ,sg⟩:=i.t;have Od:=dX i iI f9;obtain ⟨ks,ho,fe,so⟩:=Od.o;refine ⟨_,((am (aO 4 xi.nd (cW T.bS T.cE.h (gn T) hr.m T.cE.b .nil di (ad 0) (aa (ad 3) ae)))
 (am (jB T.bS T.tX jE (ad 0) bn)
 (am (aV (bf T.bS T.uv.h (WA T) hr.m T.uv.b .nil au (ad 0) (aa (ad 1) (aa (ad 2) ae))))
 (am (bu (cf kU (bi T.cP T.BF (ad 4)) (dl (.str "file") T.A0 ⟨_,rfl⟩)) (aq (wM Wp rfl (uu (K:=K) rfl (wb (RZ rfl) T.rn Bc (aa (bi T.cP T.tT (ad 4)) ae))) (ZD (K:=K) (n:=2) rfl rfl (Iz (il 5 xi.nd) (Iz (il 6 xi.nd) ZR))) (aq iN))) ci)
 (am (tD (gk hr) (bi T.cP T.wZ (cW T.bS T.cE.h (gn T) hr.m T.cE.b .nil di (ad 0) (aa (ad 1) ae))) (ad 2) (ad 3))
 (aq (tD (gk hr) (bi T.cP T.tT (ad 4)) (em (aa (ad 1) (aa (ad 2) ae))) ge)))))))).h,?_⟩
 refine stI [some (V.ref AA.t),some (V.int (f:Int)),some (V.str z),some (V.int (k:Int)),none,none,none] ?_;right;refine (mI ht sg (gN i iI f9 ?_));right;refine ⟨AA.t,_,_,.int c2,rfl,ht,(sg _).trans rfl,_,_,rfl,rfl,_,_,ht,by omega,ai ?_⟩;have tn:∀ b∈ak.l,AA.t≠b:=i.ql iI _ (by simp [Ad.w]);have i1:aH T.aI T.aP T.aW (upd H AA.t (.ins T.aP AA.dt (aA "changes" (.int (c2+1)) gs))) AA L M:=by
  have w:=i.write (H':=upd H AA.t (.ins T.aP AA.dt (aA "changes" (.int (c2+1)) gs))) (t':=tk) iI ⟨fs,c,by rw [ah i.aT]; exact hx,aY,sf⟩ ⟨_,c2+1,ax,by rw [fm (u:=.int c2) ((sg _).trans rfl)]; exact cJ,fun f=>by rw [(sg.put "changes" (.int (c2+1))) f]; rfl⟩
   (Od.keep (W:=[AA.t]) (fun b o hb e=>by rw [ah (fun z=>hb (by simp [z]))]; exact e) fun b hb=>by simp [pi (tn b hb)]) (fun b o hb e=>by simp only [li,lv,wn,TW] at hb; rw [ah hb.2.1]; exact e)
  have e:M.ts.set k tk=M.ts:=by
   apply List.ext_getElem?;intro j;by_cases hj:k=j
   ·subst hj; rw [Fr (lm.mp f9).1,f9]
   ·rw [FB hj]
  rw [e] at w;exact w
 have iF:Kp [AA.t] H (upd H AA.t (.ins T.aP AA.dt (aA "changes" (.int (c2+1)) gs))):=fun b o hb e=>by rw [ah (fun z=>hb (by simp [z]))]; exact e
 generalize upd H AA.t (.ins T.aP AA.dt (aA "changes" (.int (c2+1)) gs))=H1 at i1 iF ⊢;obtain ⟨gs1,c3,gZ,Og,GL⟩:=i1.t;have Nr:=dX i1 iI f9;have ithf1:=dX i1 gv cj;obtain ⟨ks1,NR,hol1,OW⟩:=Nr.o;obtain ⟨gW,hf1,jd,cT⟩:=ithf1.o;left;refine (mI gZ GL ⟨AA,L,M,f,af,tf,i1,rfl,rfl,gv,cj,hv,?_⟩);refine kS (fun σ' H'=>ao H1 H'/\∃ t5 t6,σ'=[some (V.ref AA.t),some (V.int (f:Int)),some (V.str z),some (V.int (k:Int)),some (.ref ak.th),t5,t6]) ?_ ?_
 ·left;refine (fI NR OW rfl ?_);refine mS (fun _=>?_) (fun _=>⟨ao.refl _,_,_,rfl⟩);refine (fI NR OW rfl ?_);have FP:H1 ak.pl=some (.dT []):=by have:=Nr.pl; rw [bB] at this; exact this
  refine ⟨ak.pl,_,rfl,FP,?_⟩;intro l ks hk _ hl;have ES:ks=[]:=_f.mp hk;subst ES;refine ⟨⟨_,aD.of ax⟩,Du (xs:=[]) (fun _ σ' H'=>H'=upd H1 l (.lst [])/\σ'=[some (V.ref AA.t),some (V.int (f:Int)),some (V.str z),some (V.int (k:Int)),some (.ref ak.th),none,none]) ⟨rfl,rfl⟩ (fun _ σ' H' _ h=>by rw [h.1]; exact aD.of ax) (fun j x σ' H' hx _=>by simp at hx) (fun σ' H' h=>?_)⟩;obtain ⟨rfl,rfl⟩:=h;exact ⟨ao.upd hl,_,_,rfl⟩
 ·rintro σ' H2 ⟨s2,t5,t6,rfl⟩;have i2:=i1.same s2;obtain ⟨gs2,c4,eW,hgl2,OA⟩:=i2.t;obtain ⟨yw,d2,bZ,hxl2,sx2⟩:=i2.h;have E1:=dX i2 gv cj;obtain ⟨jb,Ov,jj,cg⟩:=E1.o;have Pc:=i2.own gv;have OT:=i2.own iI;have NI:=i2.ql gv;have Oe:=i2.ql iI;right;refine (mI eW OA (gN i2 gv cj ⟨af.th,_,_,.ref af.nm,rfl,Ov,(cg _).trans rfl,af.nm,_,rfl,iO.k (k:=.inr z) E1.nm (kj (by unfold sD; rw [nn]; omega)),?_⟩));rw [CU hv];have i3:aH T.aI T.aP T.aW (upd H2 af.nm (.dK (sD (tf.aQ++[(z,k)])))) AA L { M with ts:=M.ts.set f { tf with aQ:=tf.aQ++[(z,k)] } }:=by
   refine i2.write gv ⟨yw,d2,by rw [ah (NI _ (by simp [Ad.w]) _ (by simp [Ta.l]))]; exact bZ,hxl2,sx2⟩ ⟨gs2,c4,by rw [ah (NI _ (by simp [Ad.w]) _ (by simp [Ta.l]))]; exact eW,hgl2,OA⟩ ⟨⟨jb,by rw [ah Pc.1]; exact Ov,jj,cg⟩,ax,by rw [ah (pi Pc.2.2)]; exact E1.pl⟩ (fun b o hb e=>?_);simp only [li,lv,wn,TW] at hb;rw [ah hb.2.2.2.1]; exact e
  have NU:Kp [AA.t,af.nm] H (upd H2 af.nm (.dK (sD (tf.aQ++[(z,k)])))):=fun b o hb e=>by
   simp only [li,lv,wn,TW] at hb;rw [ah hb.2];exact s2 _ _ (iF b o (by simp [hb.1]) e)
  generalize upd H2 af.nm (.dK (sD (tf.aQ++[(z,k)])))=H3 at i3 NU ⊢;have OD:(M.ts.set f { tf with aQ:=tf.aQ++[(z,k)] })[k]?=some tk:=by rw [FB hfk]; exact f9
  have ithk3:=dX i3 iI OD;obtain ⟨ks3,ho3,hol3,so3⟩:=ithk3.o;left;refine ⟨ak.th,_,_,.ref ak.pl,rfl,ho3,(so3 _).trans rfl,fits (by simp),fun p hp=>?_⟩;refine ee (o:=.tup [V.int (f:Int),V.str z]) hp fun H4 s4 b4=>?_;have i4:=i3.same s4;have FC:=dX i4 iI OD;obtain ⟨ks4,ho4,hol4,so4⟩:=FC.o;obtain ⟨gs4,c5,vk,hgl4,sg4⟩:=i4.t;obtain ⟨hs4,d4,jc,hxl4,sx4⟩:=i4.h;have hpl4:H4 ak.pl=some (.dT []):=by have:=FC.pl; rw [bB] at this; exact this
  refine ⟨ak.pl,_,rfl,iO.t (k:=[.inl (f:Int),.inr z]) hpl4 b4 (by decide),?_⟩;refine q _ (i4.write iI ⟨hs4,d4,by rw [ah (Oe _ (by simp [Ad.w]) _ (by simp [Ta.l]))]; exact jc,hxl4,sx4⟩ ⟨gs4,c5,by rw [ah (Oe _ (by simp [Ad.w]) _ (by simp [Ta.l]))]; exact vk,hgl4,sg4⟩ ⟨⟨ks4,by rw [ah OT.2.1]; exact ho4,hol4,so4⟩,by rw [ah OT.2.2]; exact FC.nm,ax⟩ (fun b o hb e=>?_)) (fun b o hb e=>?_)
  ·simp only [li,lv,wn,TW] at hb;rw [ah hb.2.2.2.2]; exact e
  ·simp only [li,lv,wn,TW] at hb;rw [ah hb.2.2];exact s4 _ _ (NU b o (by simp [hb.1,hb.2.1]) e)
def JI (CH:Addr) (fld:Str):Sp:=vi fun x z n H Q _=>X5 fun dx fs c d kvs=>A7 (H x=some (.ins CH dx fs)) (fs.length<=40) (fs.lookup ("changes" : Str)=some (.int c)) (fs.lookup fld=some (.ref d)) (H d=some (.dK kvs)) (kvs.length<=40) (Q .ay (upd (upd H x (.ins CH dx (aA "changes" (.int (c+1)) fs))) d (.dK (putK kvs (.inr z) (.int n)))))
def VS (CH:Addr):Sp:=jO fun x z H Q _=>X7 fun dx fs c ro st kr ks=>JA (H x=some (.ins CH dx fs)) (fs.length<=40) (fs.lookup ("changes" : Str)=some (.int c)) (fs.lookup ("roots" : Str)=some (.ref ro)) (fs.lookup ("standings" : Str)=some (.ref st)) (fs.lookup ("first_root" : Str)=some (.int 0)) (fs.lookup ("put_root" : Str)=none) (fs.lookup ("put_standing" : Str)=none) (H ro=some (.dK kr)) (kr.length<=40) (H st=some (.dK ks)) (ks.length<=40) (ro≠st) (∀ fs' c' H',H' x=some (.ins CH dx fs')->fs'.length<=40->dh fs' (aA "changes" (.int c') fs)->H' ro=some (.dK (putK kr (.inr z) (.int 0)))->H' st=some (.dK (putK ks (.inr z) (.int 0)))->(∀ b,b≠x->b≠ro->b≠st->H' b=H b)->Q .ay H')
def T4:T.uI.k P w mg base 1 (JI T.aI "roots"):=by
 refine T.uI.F.ok Vx (fun _ _ _ _ h=>jV h fun _ _ _ _=>rfl) fun ag A outer s H vs Q E hr h=>jV h fun x z n h=>?_;obtain ⟨dx,fs,c,d,kvs,hx,aY,hc,hd,hD,gz,q⟩:=h;refine ⟨_,((am (jB T.aJ T.wN jE (ad 0) bn)
 (aq (tD (gk hr) (bi T.aJ T.tR (ad 0)) (ad 1) (ad 2))))).h,?_⟩
 refine stI [some (V.ref x),some (V.str z),some (V.int n)] ?_;have dS:d≠x:=fun e=>by rw [e,hx] at hD; cases hD
 right;refine ⟨x,dx,fs,.int c,rfl,hx,hc,_,_,rfl,rfl,dx,fs,hx,by omega,?_⟩;left;refine ⟨x,dx,_,.ref d,rfl,ax,by rw [ef,wS (by decide)]; exact hd,d,_,rfl,iO.k (k:=.inr z) (by rw [ah dS]; exact hD) (kj (by omega)),q⟩
def Za:T.sG.k P w mg base 1 (JI T.aI "standings"):=by
 refine T.sG.F.ok Ww (fun _ _ _ _ h=>jV h fun _ _ _ _=>rfl) fun ag A outer s H vs Q E hr h=>jV h fun x z n h=>?_;obtain ⟨dx,fs,c,d,kvs,hx,aY,hc,hd,hD,gz,q⟩:=h;refine ⟨_,((am (jB T.aJ T.wN jE (ad 0) bn)
 (aq (tD (gk hr) (bi T.aJ T.Bl (ad 0)) (ad 1) (ad 2))))).h,?_⟩
 refine stI [some (V.ref x),some (V.str z),some (V.int n)] ?_;have dS:d≠x:=fun e=>by rw [e,hx] at hD; cases hD
 right;refine ⟨x,dx,fs,.int c,rfl,hx,hc,_,_,rfl,rfl,dx,fs,hx,by omega,?_⟩;left;refine ⟨x,dx,_,.ref d,rfl,ax,by rw [ef,wS (by decide)]; exact hd,d,_,rfl,iO.k (k:=.inr z) (by rw [ah dS]; exact hD) (kj (by omega)),q⟩
def Nb:T.oI.k P w mg base 2 (VS T.aI):=by
 refine T.oI.F.ok Uk (fun _ _ _ _ h=>eT h fun _ _ _=>rfl) fun ag A outer s H vs Q E hr h=>eT h fun x z h=>?_;obtain ⟨dx,fs,c,ro,st,kr,ks,hx,aY,hc,yv,aU,lN,yz,eK,FF,FZ,Gn,ES,lO,q⟩:=h;refine ⟨_,((am (aV (bf T.aJ T.uI.h (T4 T) hr.m T.uI.b .nil au (ad 0) (aa (ad 1) (aa (bi T.aJ T.C8 (ad 0)) ae))))
 (aq (aV (bf T.aJ T.sG.h (Za T) hr.m T.sG.b .nil au (ad 0) (aa (ad 1) (aa (bi T.aJ T.C8 (ad 0)) ae))))))).h,?_⟩
 refine stI [some (V.ref x),some (V.str z)] ?_;have n1:ro≠x:=fun e=>by rw [e,hx] at FF; cases FF
 have n2:st≠x:=fun e=>by rw [e,hx] at Gn; cases Gn
 right;refine ⟨x,dx,fs,rfl,hx,yz,x,dx,fs,.int 0,rfl,hx,lN,?_⟩;refine ⟨dx,fs,c,ro,kr,hx,by omega,hc,yv,FF,FZ,?_⟩;have bx:upd (upd H x (.ins T.aI dx (aA "changes" (.int (c+1)) fs))) ro (.dK (putK kr (.inr z) (.int 0))) x=some (.ins T.aI dx (aA "changes" (.int (c+1)) fs)):=by rw [ah (pi n1),ax]
 have gS:upd (upd H x (.ins T.aI dx (aA "changes" (.int (c+1)) fs))) ro (.dK (putK kr (.inr z) (.int 0))) ro=some (.dK (putK kr (.inr z) (.int 0))):=ax;have Fq:upd (upd H x (.ins T.aI dx (aA "changes" (.int (c+1)) fs))) ro (.dK (putK kr (.inr z) (.int 0))) st=some (.dK ks):=by rw [ah (pi lO),ah n2]; exact Gn
 have pq:∀ b,b≠x->b≠ro->upd (upd H x (.ins T.aI dx (aA "changes" (.int (c+1)) fs))) ro (.dK (putK kr (.inr z) (.int 0))) b=H b:=fun b b1 b2=>by rw [ah b2,ah b1]
 generalize upd (upd H x (.ins T.aI dx (aA "changes" (.int (c+1)) fs))) ro (.dK (putK kr (.inr z) (.int 0)))=H1 at bx gS Fq pq ⊢;have lk:∀ f:Str,f ≠ "changes" -> (aA "changes" (.int (c+1)) fs).lookup f=fs.lookup f:=fun f hf=>by rw [ef,wS hf]
 left;refine ⟨x,dx,_,rfl,bx,(lk _ (by decide)).trans eK,x,dx,_,.int 0,rfl,bx,(lk _ (by decide)).trans lN,?_⟩;refine ⟨dx,_,c+1,st,ks,bx,by rw [fm hc]; exact aY,by rw [ef,wT rfl],(lk _ (by decide)).trans aU,Fq,ES,?_⟩;refine q _ (c+1+1) _ (by rw [ah (pi n2),ax]) (by rw [fm (u:=.int (c+1)) (by rw [ef,wT rfl]),fm hc]; exact aY) (fun f=>?_) (by rw [ah lO,ah n1]; exact gS) ax (fun b b1 b2 b3=>by rw [ah b3,ah b1]; exact pq b b1 b2);rw [ef,ef,ef];by_cases e:f = "changes"
 ·rw [wT e,wT e]
 ·rw [wS e,wS e,wS e]
def ZZ (CH CS CT:Addr):Sp:=jJ fun x m own H Q _=>A2 (m = "main") (X7 fun dx fs c t dt ml tr=>A9 (H x=some (.ins CH dx fs)) (fs.length<=40) (fs.lookup ("things" : Str)=some (.ref t)) (fs.lookup ("changes" : Str)=some (.int c)) (fs.lookup ("tree_roots" : Str)=some (.ref tr)) (fs.lookup ("add_folder" : Str)=none) (lh CS H t dt ml []) (H tr=some (.dK [])) (∀ th dB nm pl fs' ks c' H',H th=none->H nm=none->H pl=none->H' x=some (.ins CH dx fs')->fs'.length<=fs.length->dh fs' (aA "changes" (.int c') fs)->lh CS H' t dt ml [.ref th]->H' th=some (.ins CT dB ks)->ks.length<=40 ->
    dh ks (sH (.int 0) (.str "folder") (.str own) (.str "lgw") (.str "lg") (.str "") (.ref nm) (.ref pl))->H' nm=some (.dK [])->H' pl=some (.dT [])->H' tr=some (.dK [(.inr "main",.int 0)])->Kp [x,t,ml,tr] H H'->Q (.int 0) H'))
def Ti:T.ux.k P w mg base 5 (ZZ T.aI T.aP T.aW):=by
 refine T.ux.F.ok LN (fun _ _ _ _ h=>eQ h fun _ _ _ _=>rfl) fun ag A outer s H vs Q E hr h=>eQ h fun x m own h=>?_;obtain ⟨rfl,dx,fs,c,t,dt,ml,tr,hx,aY,aG,hc,iL,gv,FR,jX,q⟩:=h;obtain ⟨gs,d,ht,cJ,sg⟩:=FR.o;have iK:=FR.ml;refine ⟨_,((am (aO 3 LN.nd (bf T.bS T.oj.h (K6 T) hr.m T.oj.b .nil au (bi T.aJ T.eE (ad 0)) (aa (ad 2) (aa ap (aa ap ae)))))
 (am (jB T.aJ T.wN jE (ad 0) bn)
 (am (tD (gk hr) (bi T.aJ T.HE (ad 0)) (ad 1) (ad 3))
 (aq (aM (ad 3))))))).h,?_⟩
 refine stI [some (V.ref x),some (V.str "main"),some (V.str own),none] ?_;have n1:t≠x\/True:=.inr trivial;right;refine ⟨x,dx,fs,.ref t,rfl,hx,aG,t,dt,gs,rfl,ht,(sg _).trans rfl,?_⟩;refine ⟨dt,ml,[],FR,by simp,?_⟩;intro th dB nm pl ks H1 fth fnm fpl at1 hth1 hkl1 sk1 hnm1 FP iF;obtain ⟨gs',d',gZ,Og,GL⟩:=at1.o;have lT:=at1.ml;have gb:x≠t:=fun e=>by
  rw [e,ht] at hx;injection hx with hx;injection hx with _ _ kb;rw [<- kb] at aG;have:=(sg "things").symm.trans aG;cases this
 have Nv:x≠ml:=fun e=>by rw [e,iK] at hx; cases hx
 have NM:tr≠t:=fun e=>by rw [e,ht] at jX; cases jX
 have O9:tr≠ml:=fun e=>by rw [e,iK] at jX; cases jX
 have O8:tr≠x:=fun e=>by rw [e,hx] at jX; cases jX
 have bx:H1 x=some (.ins T.aI dx fs):=iF _ _ (by simp [gb,Nv]) hx;have hTr1:H1 tr=some (.dK []):=iF _ _ (by simp [NM,O9]) jX;right;refine ⟨x,dx,fs,.int c,rfl,bx,hc,_,_,rfl,rfl,dx,fs,bx,by omega,ai ?_⟩;left;refine ⟨x,dx,_,.ref tr,rfl,ax,by rw [ef,wS (by decide)]; exact iL,tr,_,rfl,iO.k (k:=.inr "main") (by rw [ah O8]; exact hTr1) (by decide),?_⟩;left;have old:∀ b o,H1 b=some o->b≠x->b≠tr->upd (upd H1 x (.ins T.aI dx (aA "changes" (.int (c+1)) fs))) tr (.dK (putK [] (.inr "main") (.int 0))) b=some o:=fun b o e b1 b2=>by rw [ah b2,ah b1]; exact e
 have Oj:th≠x/\th≠tr:=⟨pi (aK hx fth),pi (aK jX fth)⟩;have Pm:nm≠x/\nm≠tr:=⟨pi (aK hx fnm),pi (aK jX fnm)⟩;have za:pl≠x/\pl≠tr:=⟨pi (aK hx fpl),pi (aK jX fpl)⟩;refine q th dB nm pl _ ks (c+1) _ fth fnm fpl (by rw [ah (pi O8),ax]) (Nat.le_of_eq (fm hc)) (dh.refl _) ⟨⟨gs',d',old _ _ gZ (pi gb) (pi NM),Og,GL⟩,old _ _ lT (pi Nv) (pi O9)⟩ (old _ _ hth1 Oj.1 Oj.2) hkl1 sk1 (old _ _ hnm1 Pm.1 Pm.2) (old _ _ FP za.1 za.2) ax ?_;intro b o hb e;simp only [li,lv,wn,TW] at hb;exact old _ _ (iF b o (by simp [hb.2.1,hb.2.2.1]) e) hb.1 hb.2.2.2
def kP:aC P w K mg base (bo P w) 1 T.dU.f T.dU.d ["self","asker"] (GY T.aI T.aP T.aW T.rE):=by
 refine T.dU.F.dE UM (fun _ _ _ _ h=>vM h fun _ _ _=>rfl) fun ag A outer s H vs Q E hr h=>vM h fun x v h=>?_;obtain ⟨AA,L,M,i,rfl,⟨ty,cI⟩,q1,q2⟩:=h;obtain ⟨fs,c,hx,aY,sf⟩:=i.h;refine ⟨_,((aq (bu (ij (f8 (dk (cK (cY kI T.gF gK (aa (ad 1) (aa (ky (.ty "str") T.qD pT rfl) ae))))) (kq (TH (gk hr) (ad 1) (bi T.aJ T.tR (ad 0)))))) (aq (Dy DD rfl T.U7 T.Sa (aa ap ae))) ci))).h,?_⟩;refine stI [some (V.ref AA.a),some v] ?_;left;simp only [cI,BB cI];refine ⟨vT _ rfl,?_⟩;cases v with
 | str z =>
  simp only [xP,_B,Fa,Re];refine ⟨AA.a,_,_,.ref AA.ro,rfl,hx,(sf _).trans rfl,AA.ro,_,rfl,eh.k (k:=.inr z) i.ro,?_⟩;cases hz:aS (sD M.ro) (.inr z) with
  | none=>exact bK ⟨fits (by simp),q2 fun z' e=>by cases e; exact hz⟩
  | some u=>exact bg (q1 z rfl (by rw [hz]; rfl))
 | _=>exact ⟨fits (by simp),q2 fun z' e=>by cases e⟩
section
variable {T:Tx K mg} {H:Hp} {A:Ad} {L:List Ta} {M:Hs}
def me {z:Str} {Q:VK} {E:XK} (i:aH T.aI T.aP T.aW H A L M) (hz:(aS (sD M.ro) (.inr z)).isSome=true) (q:Q .ay H):GY T.aI T.aP T.aW T.rE [.ref A.a,.str z] H Q E :=
 ⟨A,L,M,i,rfl,⟨_,rfl⟩,fun _ _ _=>q,fun h=>by rw [h z rfl] at hz; cases hz⟩
end
def Eb:T.kM.k P w mg base 2 (VF T.aI T.aP T.aW):=by
 refine T.kM.F.ok P7 (fun _ _ _ _ h=>eT h fun _ _ _=>rfl) fun ag A outer s H vs Q E hr h=>eT h fun x z h=>?_;obtain ⟨AA,L,M,r,i,rfl,hz,q⟩:=h;obtain ⟨fs,c,hx,aY,sf⟩:=i.h;refine ⟨_,((am (aV (cW T.aJ T.dU.h (kP T) hr.m T.dU.b .nil di (ad 0) (aa (ad 1) ae)))
 (aq (aM (yt (gk hr) (bi T.aJ T.tR (ad 0)) (ad 1)))))).h,?_⟩
 refine stI [some (V.ref AA.a),some (V.str z)] ?_;right;refine (mI hx sf (me i (by rw [hz]; rfl) ?_));refine ⟨AA.a,_,_,.ref AA.ro,rfl,hx,(sf _).trans rfl,AA.ro,.int r,rfl,?_,q⟩;have:=eh.k (k:=.inr z) i.ro;rw [hz] at this;exact this
def Xv (CH CS CT:Addr):Sp:=jO fun x z H Q _=>X4 fun A L M (r:Nat)=>A5 (aH CH CS CT H A L M) (A.a=x) ((aS (sD M.ro) (.inr z)).isSome=true) (aS (sD M.st) (.inr z)=some (.int r)) (Q (.int r) H)
def T9:T.tj.k P w mg base 2 (Xv T.aI T.aP T.aW):=by
 refine T.tj.F.ok RE (fun _ _ _ _ h=>eT h fun _ _ _=>rfl) fun ag A outer s H vs Q E hr h=>eT h fun x z h=>?_;obtain ⟨AA,L,M,r,i,rfl,hzr,hz,q⟩:=h;obtain ⟨fs,c,hx,aY,sf⟩:=i.h;refine ⟨_,((am (aV (cW T.aJ T.dU.h (kP T) hr.m T.dU.b .nil di (ad 0) (aa (ad 1) ae)))
 (aq (aM (yt (gk hr) (bi T.aJ T.Bl (ad 0)) (ad 1)))))).h,?_⟩
 refine stI [some (V.ref AA.a),some (V.str z)] ?_;right;refine (mI hx sf (me i hzr ?_));refine ⟨AA.a,_,_,.ref AA.st,rfl,hx,(sf _).trans rfl,AA.st,.int r,rfl,?_,q⟩;have:=eh.k (k:=.inr z) i.st;rw [hz] at this;exact this
def Mi:T.oG.k P w mg base 4 (aaS T.aI T.aP T.aW):=by
 refine T.oG.F.ok Tc (fun _ _ _ _ h=>mT h fun _ _ _ _=>rfl) fun ag A outer s H vs Q E hr h=>mT h fun x n z h=>?_;obtain ⟨AA,L,M,k,a,t,i,rfl,rfl,ha,aG,hn,hl,q⟩:=h;refine ⟨_,((am (aV (bv (Cz T) hr.m T.ic.m T.ic.F.kp T.ic.b .nil au (aa (ad 2) ae)))
 (aq (aM (bf T.bS T.nY.h (Ll T) hr.m T.nY.b .nil au (bi T.aJ T.eE (ad 0)) (aa (ad 1) (aa (ad 2) ae))))))).h,?_⟩
 refine stI [some (V.ref AA.a),some (V.int (k:Int)),some (V.str z)] ?_;right;refine ⟨⟨_,rfl⟩,hl,hn,fun H1 s1=>?_⟩;have i1:=i.same s1;obtain ⟨fs,c,hx,aY,sf⟩:=i1.h;obtain ⟨gs,c2,ht,cJ,sg⟩:=i1.t;exact ⟨AA.a,_,_,.ref AA.t,rfl,hx,(sf _).trans rfl,AA.t,_,_,rfl,ht,(sg _).trans rfl,AA,L,M,k,a,t,i1,rfl,rfl,ha,aG,q H1 s1⟩
def Bu:aC P w K mg base (bo P w) 3 T.ko.f T.ko.d ["self","asker","number","right"] (KR T.aI T.aP T.aW T.rE T.vL T.rH):=by
 refine T.ko.F.dE P2 (fun _ _ _ _ h=>w8 h fun _ _ _ _ _=>rfl) fun ag A outer s H vs Q E hr h=>w8 h fun x wv v r h=>?_;obtain ⟨AA,L,M,i,rfl,hcw,hcv,hcr,q1,q2⟩:=h;obtain ⟨fs,c,hx,aY,sf⟩:=i.h;obtain ⟨gs,c2,ht,cJ,sg⟩:=i.t;refine ⟨_,((am (aV (cW T.aJ T.dU.h (kP T) hr.m T.dU.b .nil cz (ad 0) (aa (ad 1) ae)))
 (am (aV (cB (UH T) hr.m T.qd.m T.qd.F.kp T.qd.b .nil cz (aa (ad 3) ae)))
 (aq (aM (dL (AZ (K:=K) rfl) (ad 3) (bf T.cP T.sA.h (Vs T) hr.m T.sA.b .nil au (cW T.bS T.cE.h (gn T) hr.m T.cE.b .nil cz (bi T.aJ T.eE (ad 0)) (aa (ad 2) ae)) (aa (ad 1) ae)))))))).h,?_⟩
 refine stI [some (V.ref AA.a),some wv,some v,some r] ?_;right;refine (mI hx sf ⟨AA,L,M,i,rfl,hcw,fun z ez hz=>?_,q1⟩);obtain ⟨q3,q4⟩:=q2 z ez hz;subst ez;right;refine ⟨hcr,fun h1=>?_,q3⟩;obtain ⟨st,rfl⟩:∃ st,r=.str st:=by
  unfold i8 at h1;simp only [Bool.or_eq_true,_q] at h1;rcases h1 with (h1 | h1) | h1 <;> exact ⟨_,h1⟩
 obtain ⟨q5,q6⟩:=q4 st rfl h1;refine ⟨AA.a,_,_,.ref AA.t,rfl,hx,(sf _).trans rfl,AA.t,_,_,rfl,ht,(sg _).trans rfl,AA,L,M,i,rfl,hcv,fun k a t ev ha aG=>?_,q5⟩;have bU:=dX i ha aG;obtain ⟨ks,ho,fe,so⟩:=bU.o;exact (mI ho so ⟨a,k,t,bU,rfl,q6 k t ev aG⟩)
def M0 (z:Str):Hs:={ ts:=[{ kd := "folder",ow:=z,mi := "lgw",re := "lg",tx := "",aQ:=[],bP:=[] }],ro:=[(z,0)],st:=[(z,0)],tr:=[("main",0)],ov:=[],un:=[] }
def W2 (CH CS CT:Addr):Sp:=jO fun x z H Q _=>A4 (∃ dx,H x=some (.ins CH dx [])) (z.length<=1000) (fq (.str z)=true) (∀ A L H',A.a=x->aH CH CS CT H' A L (M0 z)->(∀ b∈A.w++L.flatMap Ta.l,b≠x->H b=none)->Kp [x] H H'->Q .ay H')
structure iP (C dx x:Addr) (H H':Hp) (F:List (Str×V)) (W:List (Addr×HO)):Prop where
 k:Kp [x] H H'
 h:H' x=some (.ins C dx F)
 w:∀ e∈W,H' e.1=some e.2/\H e.1=none/\e.1≠x
 n:(W.map (·.1)).Nodup
section
variable {C dx x:Addr} {H H':Hp} {F:List (Str×V)} {W:List (Addr×HO)}
def iP.fresh (v:iP C dx x H H' F W) {p:Addr} (hp:H' p=none):H p=none/\p≠x:=by
 have hx:p≠x:=pi (aK v.h hp);refine ⟨?_,hx⟩;cases e:H p with
 | none=>rfl
 | some o=>rw [v.k p o (by simp [hx]) e] at hp; cases hp
def iP.set (v:iP C dx x H H' F W) (f:Str) (u:V):iP C dx x H (upd H' x (.ins C dx (aA f u F))) (aA f u F) W :=
 ⟨fun b o hb e=>by rw [ah (fun z=>hb (by simp [z]))]; exact v.k b o hb e,ax,fun e he=>let ⟨a,b,c⟩:=v.w e he; ⟨by rw [ah c]; exact a,b,c⟩,v.n⟩
def iP.y (v:iP C dx x H H' F W) {p:Addr} {o:HO} (hp:H' p=none):upd H' p o x=some (.ins C dx F):=by rw [ah (aK v.h hp)]; exact v.h
def iP.new (v:iP C dx x H H' F W) {p:Addr} (o:HO) (f:Str) (hp:H' p=none):iP C dx x H (upd (upd H' p o) x (.ins C dx (aA f (.ref p) F))) (aA f (.ref p) F) ((p,o)::W):=by
 obtain ⟨f0,nx⟩:=v.fresh hp;have old:∀ b u,b≠x->H' b=some u->upd (upd H' p o) x (.ins C dx (aA f (.ref p) F)) b=some u:=fun b u hb e=>by rw [ah hb,ah (aK e hp)]; exact e
 refine ⟨fun b u hb e=>old b u (fun z=>hb (by simp [z])) (v.k b u hb e),ax,fun e he=>?_,Cl.mpr ⟨fun hm=>?_,v.n⟩⟩
 ·rcases li.mp he with rfl | he
  ·exact ⟨by rw [ah nx,ax],f0,nx⟩
  ·obtain ⟨a,b,c⟩:=v.w e he;exact ⟨old _ _ c a,b,c⟩
 ·obtain ⟨e,he,z⟩:=AC.mp hm;have:=(v.w e he).1;rw [show e.1=p from z,hp] at this;cases this
end
def QL:T.vc.k P w mg base 6 (W2 T.aI T.aP T.aW):=by
 refine T.vc.F.ok abg (fun _ _ _ _ h=>eT h fun _ _ _=>rfl) fun ag A outer s H vs Q E hr h=>eT h fun x z h=>?_;obtain ⟨⟨dx,hx0⟩,lJ,hn,q⟩:=h;refine ⟨_,((am (aV (bv (Cz T) hr.m T.ic.m T.ic.F.kp T.ic.b .nil au (aa (ad 1) ae)))
 (am (bC T.aJ T.eE (ad 0) (Tf T.abq (ZE T) hr.m T.XJ T.tZ.b .nil au))
 (am (bC T.aJ T.wN (ad 0) bn)
 (am (bC T.aJ T.tR (ad 0) og)
 (am (bC T.aJ T.Bl (ad 0) og)
 (am (bC T.aJ T.HE (ad 0) og)
 (am (bC T.aJ T.AV (ad 0) og)
 (am (bC T.aJ T.B0 (ad 0) og)
 (am (bC T.aJ T.ZO (ad 0) og)
 (am (bC T.aJ T.WZ (ad 0) bn)
 (am (bC T.aJ T.C8 (ad 0) (bf T.aJ T.ux.h (Ti T) hr.m T.ux.b .nil au (ad 0) (aa (dl (.str "main") T.Q7 ⟨_,rfl⟩) (aa (ad 1) ae))))
 (aq (aV (bf T.aJ T.oI.h (Nb T) hr.m T.oI.b .nil au (ad 0) (aa (ad 1) ae)))))))))))))))).h,?_⟩
 refine stI [some (V.ref x),some (V.str z)] ?_;right;refine ⟨⟨_,rfl⟩,lJ,hn,fun H1 s1=>?_⟩;have bx:=s1 _ _ hx0;right;intro t dt ht yX lF;refine ⟨dt,ax,fun ml H2 iK nml fr2 hml2 gs cJ sg eW=>⟨rfl,?_⟩⟩;have gb:x≠t:=aK bx ht;have nxd:x≠dt:=aK bx yX;have hml':H1 ml=none:=by
  rw [ah nml] at iK;by_cases e:ml=dt
  ·rw [e,ax] at iK; cases iK
  ·rw [ah e] at iK; exact iK
 have s2:ao H1 H2:=fun b o e=>by
  rw [fr2 b (aK e ht) (aK e hml'),ah (aK e ht),ah (aK e yX)]; exact e
 refine ⟨x,dx,_,rfl,s2 _ _ bx,by decide,ai ?_⟩;have V:iP T.aI dx x H (upd H2 x (.ins T.aI dx (aA "things" (.ref t) []))) (aA "things" (.ref t) []) [(t,.ins T.aP dt gs),(ml,.lst [])]:=⟨fun b o hb e=>by rw [ah (fun z=>hb (by simp [z]))]; exact s2 _ _ (s1 _ _ e),ax,fun e he=>?_,by simp [pi nml]⟩
 case refine_1 =>
  have fr:∀ {d},H1 d=none->H d=none:=fun {d} h=>by
   cases e:H d with
   | none=>rfl
   | some o=>rw [s1 _ _ e] at h; cases h
  simp only [li,lv,wn] at he;rcases he with rfl | rfl
  ·exact ⟨by rw [ah (pi gb)]; exact eW,fr ht,pi gb⟩
  ·exact ⟨by rw [ah (pi (aK bx hml'))]; exact hml2,fr hml',pi (aK bx hml')⟩
 clear fr2;generalize upd H2 x _=H3 at V ⊢;left;refine ⟨x,dx,_,rfl,V.h,by walk_at "f",ai ?_⟩
 replace V:=V.set "changes" (.int 0)
 generalize upd H3 x _=H4 at V ⊢;left;intro ro yv;refine ⟨x,dx,_,rfl,V.y yv,by walk_at "f",ai ?_⟩
 replace V:=V.new (.dK []) "roots" yv
 generalize upd (upd H4 ro _) x _=H5 at V ⊢;left;intro st aU;refine ⟨x,dx,_,rfl,V.y aU,by walk_at "f",ai ?_⟩
 replace V:=V.new (.dK []) "standings" aU
 generalize upd (upd H5 st _) x _=H6 at V ⊢;left;intro tr iL;refine ⟨x,dx,_,rfl,V.y iL,by walk_at "f",ai ?_⟩
 replace V:=V.new (.dK []) "tree_roots" iL
 generalize upd (upd H6 tr _) x _=H7 at V ⊢;left;intro ov hov;refine ⟨x,dx,_,rfl,V.y hov,by walk_at "f",ai ?_⟩
 replace V:=V.new (.dK []) "root_over" hov
 generalize upd (upd H7 ov _) x _=H8 at V ⊢;left;intro un hun;refine ⟨x,dx,_,rfl,V.y hun,by walk_at "f",ai ?_⟩
 replace V:=V.new (.dK []) "folder_under" hun
 generalize upd (upd H8 un _) x _=H9 at V ⊢;left;intro ho hho;refine ⟨x,dx,_,rfl,V.y hho,by walk_at "f",ai ?_⟩
 replace V:=V.new (.dK []) "holds" hho
 generalize upd (upd H9 ho _) x _=rK at V ⊢;left;refine ⟨x,dx,_,rfl,V.h,by walk_at "f",ai ?_⟩
 replace V:=V.set "holds_given" (.int 0)
 generalize upd rK x _=H11 at V ⊢;left;have nz:=V.h;have FJ:=V.k;have hw:=V.w;have iM:=V.n;simp only [List.forall_mem_cons] at hw;simp only [xz,On,Cl,li,lv,wn,TW,_O,_M,and_true] at iM;obtain ⟨⟨gho11,fr_ho,nho⟩,⟨nk,fr_un,Fl⟩,⟨mZ,fr_ov,Ff⟩,⟨rS,Oa,NB⟩,⟨gY,Of,GD⟩,⟨gQ,OE,Ga⟩,⟨fK,ft,n1⟩,⟨fN,Oi,n2⟩,_⟩:=hw;obtain ⟨_,⟨unov,untr,unst,unro,_⟩,⟨ovtr,ovst,ovro,_⟩,⟨trst,trro,_⟩,⟨stro,_⟩,_⟩:=iM;have Nx:=pi stro;have Fy:=pi trro;have F4:=pi trst;have Oz:=pi ovro;have Ot:=pi ovst;have Oy:=pi ovtr;have OY:=pi unro;have Oo:=pi unst;have N9:=pi untr;have eovun:=pi unov;have fresh:∀ {d:Addr},d≠x->H11 d=none->H d=none:=fun {d} _ h=>(V.fresh h).1;refine ⟨x,dx,_,rfl,nz,rfl,?_⟩;refine ⟨rfl,dx,_,0,t,dt,ml,tr,nz,by (repeat (refine bW ?_)); exact wP _,rfl,rfl,rfl,rfl,⟨⟨gs,0,fK,cJ,sg⟩,fN⟩,rS,?_⟩;intro th dB nm pl fs' ks c' H12 fth fnm fpl hxA hflA GA atA hthA hklA skA hnmA hplA htrA vj;obtain ⟨gs',d',htA,hglA,sgA⟩:=atA.o;have hmlA:=atA.ml;have lkA:=fun (f:Str) (hf:f ≠ "changes")=>(GA f).trans ((ef _ _ _ _).trans (wS hf));have qro:H12 ro=some (.dK []):=vj _ _ (by simp [Ga,bX gQ fK (by nofun),bX gQ fN (by nofun),Fy]) gQ;have qst:H12 st=some (.dK []):=vj _ _ (by simp [GD,bX gY fK (by nofun),bX gY fN (by nofun),F4]) gY;have qun:H12 un=some (.dK []):=vj _ _ (by simp [Fl,bX nk fK (by nofun),bX nk fN (by nofun),pi N9]) nk;have qov:H12 ov=some (.dK []):=vj _ _ (by simp [Ff,bX mZ fK (by nofun),bX mZ fN (by nofun),pi Oy]) mZ;have vn:=fun (f:Str) (h1:f ≠ "first_root") (h2:f ≠ "changes")=>((ef "first_root" f (.int 0) fs').trans (wS h1)).trans (lkA f h2);refine ⟨x,dx,fs',rfl,hxA,_n hflA (by walk_at "f"),?_⟩;refine ⟨x,dx,_,rfl,ax,(vn _ (by decide) (by decide)).trans rfl,?_⟩;refine ⟨dx,_,c',ro,st,[],[],ax,wf (bW (wf hflA (show _<=9 by (repeat (refine bW ?_)); exact wP _))) (by decide),by rw [ef,wS (by decide),GA,ef,wT rfl],(vn _ (by decide) (by decide)).trans rfl,(vn _ (by decide) (by decide)).trans rfl,by rw [ef,wT rfl],(vn _ (by decide) (by decide)).trans rfl,(vn _ (by decide) (by decide)).trans rfl,by rw [ah Ga]; exact qro,by decide,by rw [ah GD]; exact qst,by decide,Nx,?_⟩;intro iG c3 H13 hx13 gR ed hro3 hst3 yT;have old:∀ b o,b≠x->b≠ro->b≠st->H12 b=some o->H13 b=some o:=fun b o b1 b2 b3 e=>by rw [yT b b1 b2 b3,ah b1]; exact e
 refine q ⟨x,dx,t,dt,ml,ro,st,tr,ov,un,ho⟩ [⟨th,dB,nm,pl⟩] H13 rfl ⟨⟨iG,c3,hx13,gR,fun f=>?_⟩,⟨gs',d',old _ _ (n1) (bX fK gQ (by nofun)) (bX fK gY (by nofun)) htA,hglA,sgA⟩,old _ _ (n2) (bX fN gQ (by nofun)) (bX fN gY (by nofun)) hmlA,rfl,fun j tt e=>?_,hro3,hst3,old _ _ (NB) (pi Fy) (pi F4) htrA,old _ _ (Ff) (pi Oz) (pi Ot) qov,old _ _ (Fl) (pi OY) (pi Oo) qun,?_⟩ ?_ ?_
 ·rw [ed f];refine ((GA.put "first_root" (.int 0)).put "changes" (.int c3) f).trans rfl
 ·have hj:j=0:=by
   have:=(lm.mp e).1;have h1:(M0 z).ts.length=1:=rfl;omega
  subst hj;cases e;exact ⟨_,rfl,⟨⟨ks,old _ _ (pi (aK nz fth)) (pi (aK gQ fth)) (pi (aK gY fth)) hthA,hklA,skA⟩,old _ _ (pi (aK nz fnm)) (pi (aK gQ fnm)) (pi (aK gY fnm)) hnmA,old _ _ (pi (aK nz fpl)) (pi (aK gQ fpl)) (pi (aK gY fpl)) hplA⟩⟩
 ·show List.Nodup [x,t,ml,ro,st,tr,ov,un,th,nm,pl];simp only [Cl,li,lv,wn,TW,_O,_M,and_true];exact ⟨⟨pi n1,pi n2,pi Ga,pi GD,pi NB,pi Ff,pi Fl,aK nz fth,aK nz fnm,aK nz fpl⟩,⟨bX fK fN (by nofun),bX fK gQ (by nofun),bX fK gY (by nofun),bX fK rS (by nofun),bX fK mZ (by nofun),bX fK nk (by nofun),aK fK fth,aK fK fnm,aK fK fpl⟩,⟨bX fN gQ (by nofun),bX fN gY (by nofun),bX fN rS (by nofun),bX fN mZ (by nofun),bX fN nk (by nofun),aK fN fth,aK fN fnm,aK fN fpl⟩,⟨Nx,Fy,Oz,OY,aK gQ fth,aK gQ fnm,aK gQ fpl⟩,⟨F4,Ot,Oo,aK gY fth,aK gY fnm,aK gY fpl⟩,⟨Oy,N9,aK rS fth,aK rS fnm,aK rS fpl⟩,⟨eovun,aK mZ fth,aK mZ fnm,aK mZ fpl⟩,⟨aK nk fth,aK nk fnm,aK nk fpl⟩,⟨bX hthA hnmA (by nofun),bX hthA hplA (by nofun)⟩,bX hnmA hplA (by nofun)⟩
 ·intro b hb pb;have hb':b∈[x,t,ml,ro,st,tr,ov,un,th,nm,pl]:=hb;simp only [li,lv,wn] at hb';rcases hb' with rfl | rfl | rfl | rfl | rfl | rfl | rfl | rfl | rfl | rfl | rfl
  ·exact absurd rfl pb
  ·exact ft
  ·exact Oi
  ·exact OE
  ·exact Of
  ·exact Oa
  ·exact fr_ov
  ·exact fr_un
  ·exact fresh pb fth
  ·exact fresh pb fnm
  ·exact fresh pb fpl
 ·intro b o hb e;have pb:b≠x:=fun z=>hb (by simp [z]);refine old b o pb (aK e OE) (aK e Of) (vj b o ?_ (FJ b o hb e));simp only [li,lv,wn,TW];exact ⟨pb,aK e ft,aK e Oi,aK e Oa⟩
def aaJ (CH CS CT:Addr):Sp:=jO fun x z H Q _=>X3 fun A L M=>A9 (aH CH CS CT H A L M) (A.a=x) (z.length<=1000) (fq (.str z)=true) (M.ro.length<=30) (M.st.length<=30) (aS (sD M.ro) (.inr z)=none) (aS (sD M.st) (.inr z)=none) (∀ H',aH CH CS CT H' A L { M with ro:=M.ro++[(z,0)],st:=M.st++[(z,0)] }->Kp [A.a,A.ro,A.st] H H'->Q .ay H')
def PF:T.uc.k P w mg base 3 (aaJ T.aI T.aP T.aW):=by
 refine T.uc.F.ok SY (fun _ _ _ _ h=>eT h fun _ _ _=>rfl) fun ag A outer s H vs Q E hr h=>eT h fun x z h=>?_;obtain ⟨AA,L,M,i,rfl,lJ,hn,dG,gX,OU,hs0,q⟩:=h;refine ⟨_,((am (aV (bv (Cz T) hr.m T.ic.m T.ic.F.kp T.ic.b .nil au (aa (ad 1) ae)))
 (am (bu (B9 (gk hr) (ad 1) (bi T.aJ T.tR (ad 0))) (aq iN) ci)
 (aq (aV (bf T.aJ T.oI.h (Nb T) hr.m T.oI.b .nil au (ad 0) (aa (ad 1) ae))))))).h,?_⟩
 refine stI [some (V.ref AA.a),some (V.str z)] ?_;right;refine ⟨⟨_,rfl⟩,lJ,hn,fun H1 s1=>?_⟩;have i1:=i.same s1;obtain ⟨fs,c,hx,aY,sf⟩:=i1.h;have nd:=i1.nd;rw [Go] at nd;have Gb:=nd.1;simp only [Ad.w,Cl,li,lv,wn,TW] at Gb;right;refine ⟨AA.a,_,_,.ref AA.ro,rfl,hx,(sf _).trans rfl,AA.ro,_,rfl,eh.k (k:=.inr z) i1.ro,?_⟩;rw [OU];refine bg ?_;left;refine (mI hx sf ⟨AA.dx,fs,c,AA.ro,AA.st,_,_,hx,aY,(sf _).trans rfl,(sf _).trans rfl,(sf _).trans rfl,(sf _).trans rfl,(sf _).trans rfl,(sf _).trans rfl,i1.ro,by unfold sD; rw [nn]; omega,i1.st,by unfold sD; rw [nn]; omega,Gb.2.2.2.1.1,?_⟩);intro fs' c' H' hx' hfl' sf' hro' hst' fr';have e1:putK (sD M.ro) (.inr z) (.int 0)=sD (M.ro++[(z,0)]):=CU OU;have e2:putK (sD M.st) (.inr z) (.int 0)=sD (M.st++[(z,0)]):=CU hs0;rw [e1] at hro';rw [e2] at hst';have kp:Kp [AA.a,AA.ro,AA.st] H1 H':=fun b o hb e=>by
  simp only [li,lv,wn,TW] at hb;rw [fr' b hb.1 hb.2.1 hb.2.2]; exact e
 have vD:∀ b∈[AA.t,AA.ml,AA.tr,AA.ov,AA.un],b ∉ [AA.a,AA.ro,AA.st]:=by
  intro b hb hm;simp only [li,lv,wn] at hb hm;obtain ⟨⟨a1,a2,a3,a4,a5,a6,a7⟩,⟨b1,b2,b3,b4,b5,b6⟩,⟨c1,c2,c3,c4,c5⟩,⟨d1,d2,d3,d4⟩,⟨f1,f2,f3⟩,_⟩:=Gb;rcases hb with rfl | rfl | rfl | rfl | rfl <;> rcases hm with h | h | h <;> first
   | exact a1 h.symm | exact a2 h.symm | exact a5 h.symm | exact a6 h.symm | exact a7 h.symm
   | exact b2 h | exact b3 h | exact c1' h | exact c1 h | exact c2 h | exact c3 h
   | exact d2 h.symm | exact d3 h.symm | exact d4 h.symm | exact f1 h.symm | exact f2 h.symm | exact f3 h.symm | exact b1 h | exact b4 h
 refine q H' ⟨⟨fs',c',hx',hfl',fun f=>?_⟩,?_,kp _ _ (vD _ (by simp)) i1.ml,i1.len,fun j t e=>?_,hro',hst',kp _ _ (vD _ (by simp)) i1.tr,kp _ _ (vD _ (by simp)) i1.ov,kp _ _ (vD _ (by simp)) i1.un,i1.nd⟩ (fun b o hb e=>kp b o hb (s1 b o e))
 ·rw [sf' f,ef,sf f];by_cases e:f = "changes"
  ·rw [wT e,e]; rfl
  ·rw [wS e];exact W5 e
 ·obtain ⟨gs,d,e,r⟩:=i1.t;exact ⟨gs,d,kp _ _ (vD _ (by simp)) e,r⟩
 ·obtain ⟨a,e1,h1⟩:=i1.th j t e;refine ⟨a,e1,h1.keep kp fun b hb hm=>?_⟩;have:=i1.ql e1;simp only [li,lv,wn] at hm;rcases hm with rfl | rfl | rfl
  ·exact this _ (by simp [Ad.w]) _ hb rfl
  ·exact this _ (by simp [Ad.w]) _ hb rfl
  ·exact this _ (by simp [Ad.w]) _ hb rfl
def kJ (M:Hs):Nat->Nat->Nat->Prop
 | 0,k,b=>aS (nD M.un) (.inl (k:Int))=none/\b=k
 | n+1,k,b=>∃ k':Nat,aS (nD M.un) (.inl (k:Int))=some (.int (k':Int))/\kJ M n k' b
def jG (M:Hs):Nat->Nat->List Nat->Prop
 | 0,k,l=>aS (nD M.ov) (.inl (k:Int))=none/\l=[]
 | n+1,k,l=>∃ (k':Nat) (r:List Nat),aS (nD M.ov) (.inl (k:Int))=some (.int (k':Int))/\jG M n k' r/\l=k'::r
def du (M:Hs) (k b:Nat) (r:List Nat):Prop:=(∃ n,kJ M n k b)/\∃ n,jG M n b r/\n<=100
def jG.len {M:Hs}:∀ {n k:Nat} {l:List Nat},jG M n k l->l.length=n
 | 0,_,_,h=>by rw [h.2]; rfl
 | n+1,_,_,h=>by obtain ⟨k',r,_,h2,rfl⟩:=h; simp [h2.len]
abbrev nV (l:List Nat):List V:=l.map fun n:Nat=>V.int (n:Int)
def dF (b:Nat) (r:List Nat):Nat:=(b::r).getLast (by simp)
def UX (CH CS CT:Addr):Sp:=jw fun x n H Q _=>X7 fun A L M (k:Nat) (b:Nat) a t=>A7 (aH CH CS CT H A L M) (A.a=x) (n=(k:Int)) (L[k]?=some a) (M.ts[k]?=some t) (∃ m,kJ M m k b) (Q (.int (b:Int)) H)
def WQ (CH CS CT:Addr):Sp:=jw fun x n H Q _=>X8 fun A L M (k:Nat) (b:Nat) r a t=>A7 (aH CH CS CT H A L M) (A.a=x) (n=(k:Int)) (L[k]?=some a) (M.ts[k]?=some t) (du M k b r) (∀ l H',ao H H'->H l=none->H' l=some (.lst (nV (b::r)))->Q (.ref l) H')
def Zz (CH CS CT:Addr):Sp:=jw fun x n H Q _=>X8 fun A L M (k:Nat) (b:Nat) r a t=>A7 (aH CH CS CT H A L M) (A.a=x) (n=(k:Int)) (L[k]?=some a) (M.ts[k]?=some t) (du M k b r) (∀ H',ao H H'->Q (.int (dF b r:Nat)) H')
def Yj:T.rb.k P w base 4 (UX T.aI T.aP T.aW):=by
 refine T.rb.F.ok Bt (fun _ _ _ _ h=>bY h fun _ _ _=>rfl) fun ag A outer s H vs Q E hr h=>bY h fun x n h=>?_;obtain ⟨AA,L,M,k,b,a,t,i,rfl,rfl,ha,aG,⟨m,hb⟩,q⟩:=h;obtain ⟨fs,c,hx,aY,sf⟩:=i.h;refine ⟨_,((am (aV (bf T.aJ T.ue.h (Q4 T) hr.m T.ue.b .nil au (ad 0) (aa (ad 1) ae)))
 (am (aO 2 Bt.nd (ad 1))
 (am (t9 Wp (B9 (gk hr) (ad 2) (bi T.aJ T.B0 (ad 0))) (aq (aO 2 Bt.nd (yt (gk hr) (bi T.aJ T.B0 (ad 0)) (ad 2)))))
 (aq (aM (ad 2))))))).h,?_⟩
 refine stI [some (V.ref AA.a),some (V.int (k:Int)),none] ?_;right;refine (mI hx sf ⟨AA,L,M,k,a,t,i,rfl,rfl,ha,aG,?_⟩);right;refine ai ⟨fun m σ' H'=>∃ j:Nat,σ'=[some (V.ref AA.a),some (V.int (k:Int)),some (V.int (j:Int))]/\H'=H/\kJ M m j b,⟨m,k,rfl,rfl,hb⟩,?_⟩;rintro m σ' H' ⟨j,rfl,rfl,hj⟩;left;refine ⟨AA.a,_,_,.ref AA.un,rfl,hx,(sf _).trans rfl,AA.un,_,rfl,eh.k (k:=.inl (j:Int)) i.un,?_⟩;cases m with
 | zero =>
  obtain ⟨h0,rfl⟩:=hj;rw [h0];exact bg q
 | succ m =>
  obtain ⟨k',h0,h1⟩:=hj;rw [h0];refine bK ⟨fun σ' H''=>∃ j:Nat,σ'=[some (V.ref AA.a),some (V.int (k:Int)),some (V.int (j:Int))]/\H''=H'/\kJ M m j b,fun σ' H' z=>⟨m,KM m,z⟩,?_⟩;left;refine ⟨AA.a,_,_,.ref AA.un,rfl,hx,(sf _).trans rfl,AA.un,.int (k':Int),rfl,?_,k',rfl,by trivial,h1⟩;have:=eh.k (k:=.inl (j:Int)) i.un;rw [h0] at this;exact this
def oP {a b:List Nat}:nV (a++b)=nV a++nV b:=IN
def qa:T.dZ.k P w base 5 (WQ T.aI T.aP T.aW):=by
 refine T.dZ.F.ok Hu (fun _ _ _ _ h=>bY h fun _ _ _=>rfl) fun ag A outer s H vs Q E hr h=>bY h fun x n h=>?_;obtain ⟨AA,L,M,k,b,r,a,t,i,rfl,rfl,ha,aG,⟨hb,⟨m,hu,hm⟩⟩,q⟩:=h;have hlen:=hu.len;refine ⟨_,((am (aO 2 Hu.nd (cr (aa (bv (Yj T) hr.m T.rb.m T.rb.F.kp T.rb.b .nil au (aa (ad 0) (aa (ad 1) ae))) ae)))
 (am (t9 Wp (B9 (gk hr) (ce (bh (K:=K) rfl) (ad 2) (gl lC bn)) (bi T.aJ T.AV (ad 0))) (aq (aV (hX FS Gc kz (ad 2) (aa (yt (gk hr) (bi T.aJ T.AV (ad 0)) (ce (bh (K:=K) rfl) (ad 2) (gl lC bn))) ae)))))
 (aq (aM (ad 2)))))).h,?_⟩
 refine stI [some (V.ref AA.a),some (V.int (k:Int)),none] ?_;right;refine ⟨AA,L,M,k,b,a,t,i,rfl,rfl,ha,aG,hb,fits (by simp),fun l hl=>?_⟩;refine ee (o:=.lst [V.int (b:Int)]) hl fun H1 s1 b1=>?_;refine ai ⟨fun m σ' H'=>ao H H'/\∃ (pre:List Nat) (j:Nat) (r':List Nat),σ'=[some (V.ref AA.a),some (V.int (k:Int)),some (V.ref l)]/\H' l=some (.lst (nV pre++[V.int (j:Int)]))/\jG M m j r'/\pre++j::r'=b::r,⟨m,s1,[],b,r,rfl,b1,hu,rfl⟩,?_⟩;rintro m σ' H' ⟨s',pre,j,r',rfl,hl',hj,hp⟩;have i1:=i.same s';obtain ⟨fs,c,hx,aY,sf⟩:=i1.h;left;simp only [bJ,hl',oS];refine ⟨AA.a,_,_,.ref AA.ov,rfl,hx,(sf _).trans rfl,AA.ov,_,rfl,eh.k (k:=.inl (j:Int)) i1.ov,?_⟩;cases m with
 | zero =>
  obtain ⟨h0,rfl⟩:=hj;rw [h0];refine bg (q l H' s' hl ?_);rw [hl',<- hp,oP];rfl
 | succ m =>
  obtain ⟨k',r2,h0,h1,rfl⟩:=hj;rw [h0];refine bK ⟨fun σ' H'=>ao H H'/\∃ (pre:List Nat) (j:Nat) (r':List Nat),σ'=[some (V.ref AA.a),some (V.int (k:Int)),some (V.ref l)]/\H' l=some (.lst (nV pre++[V.int (j:Int)]))/\jG M m j r'/\pre++j::r'=b::r,fun σ' H' z=>⟨m,KM m,z⟩,?_⟩;left;refine ⟨AA.a,_,_,.ref AA.ov,rfl,hx,(sf _).trans rfl,AA.ov,.int (k':Int),rfl,?_,?_⟩
  ·have:=eh.k (k:=.inl (j:Int)) i1.ov;rw [h0] at this;exact this
  have bB:(pre++[j]).length<=102:=by
   have:=NE List.length hp;simp at this ⊢;omega
  refine ⟨kj (by simp at bB ⊢; omega),s'.fZ hl,pre++[j],k',r2,by trivial,?_,h1,?_⟩
  ·rw [ax,oP]; rfl
  ·rw [<- hp]; simp
def IH {b:Nat} {r:List Nat}:∃ pre,b::r=pre++[dF b r]:=⟨(b::r).dropLast,by unfold dF; exact (List.dropLast_concat_getLast (by simp)).symm⟩
def wW:T.fR.k P w base 6 (Zz T.aI T.aP T.aW):=by
 refine T.fR.F.ok ab0 (fun _ _ _ _ h=>bY h fun _ _ _=>rfl) fun ag A outer s H vs Q E hr h=>bY h fun x n h=>?_;obtain ⟨AA,L,M,k,b,r,a,t,i,rfl,rfl,ha,aG,hs,q⟩:=h;refine ⟨_,((aq (aM (ce (bh (K:=K) rfl) (bv (qa T) hr.m T.dZ.m T.dZ.F.kp T.dZ.b .nil au (aa (ad 0) (aa (ad 1) ae))) (gl lC bn))))).h,?_⟩;refine stI [some (V.ref AA.a),some (V.int (k:Int))] ?_;left;refine ⟨AA,L,M,k,b,r,a,t,i,rfl,rfl,ha,aG,hs,fun l H' s' _ hl=>?_⟩;dsimp only;obtain ⟨pre,hp⟩:=IH (b:=b) (r:=r);rw [hp,oP] at hl;simp only [bJ,hl,xz,On,oS];exact q _ s'
def fU (r:Nat) (l:List Nat):Bool:=l.any (· == r)
def tF {r:Nat}:∀ {l:List Nat},gJ (V.int (r:Int)) (nV l)=fU r l
 | []=>rfl
 | x::l=>by
  have ih:=tF (r:=r) (l:=l);unfold gJ at ih ⊢;unfold fU at ih ⊢;simp only [nV,xz,XV] at ih ⊢;rw [ih]
  congr 1
  unfold fA;by_cases e:x=r
  ·subst e; simp
  ·rw [Ch.mpr e]
   first | exact Ch.mpr (by omega) | (simp; omega)
def kK (M:Hs) (L:List Ta) (root:Nat):Nat->Nat->Bool->Prop
 | n,k,v=>∃ b r a t,L[k]?=some a/\M.ts[k]?=some t/\du M k b r /\
  if k=dF b r then
   if fU root (b::r)=true then v=true
   else ∃ ab tb,L[b]?=some ab/\M.ts[b]?=some tb/\((tb.bP=[]/\v=false)\/∃ f z,tb.bP=[(f,z)]/\match n with | 0=>False | n+1=>kK M L root n f v)
  else v=false
def U2 (CH CS CT:Addr):Sp:=vi fun x z n H Q _=>X6 fun A L M (k:Nat) (root:Nat) v=>A6 (aH CH CS CT H A L M) (A.a=x) (n=(k:Int)) (aS (sD M.ro) (.inr z)=some (.int (root:Int))) (∃ m,kK M L root m k v) (∀ H',ao H H'->Q (.bl v) H')
def Qp:T.qV.k P w base 6 (U2 T.aI T.aP T.aW):=by
 refine T.qV.F.ok nG (fun _ _ _ _ h=>jV h fun _ _ _ _=>rfl) fun ag A outer s H vs Q E hr h=>jV h fun x z n h=>?_;obtain ⟨AA,L,M,k,root,v,i,rfl,rfl,hz,⟨m,hm⟩,q⟩:=h;obtain ⟨fs,c,hx,aY,sf⟩:=i.h;refine bF (b:=aR DP) ((am (aO 3 nG.nd (bf T.aJ T.kM.h (Eb T) hr.m T.kM.b .nil au (ad 0) (aa (ad 1) ae)))
 (am (aO 4 nG.nd (ad 2))
 (am (aO 5 nG.nd (bv (qa T) hr.m T.dZ.m T.dZ.F.kp T.dZ.b .nil au (aa (ad 0) (aa (ad 4) ae))))
 (am (t9 Wp (cf ie (ad 4) (ce (bh (K:=K) rfl) (ad 5) (gl lC bn))) (am (bu (cf (AZ (K:=K) rfl) (ad 3) (ad 5)) (aq (aM ge)) ci)
 (am (aO 6 nG.nd (bf T.aJ T.ly.h (DZ T) hr.m T.ly.b .nil au (ad 0) (aa (ce (bh (K:=K) rfl) (ad 5) bn) ae)))
 (am (bu (cf xN (ad 6) ay) (aq (aM ge)) ci)
 (am (aO 4 nG.nd (ce (bh (K:=K) rfl) (ad 6) bn))
 (aq (aO 5 nG.nd (bv (qa T) hr.m T.dZ.m T.dZ.F.kp T.dZ.b .nil au (aa (ad 0) (aa (ad 4) ae))))))))))
 (aq (aM ge))))))) ?_
 refine stI [some (V.ref AA.a),some (V.str z),some (V.int (k:Int)),none,none,none,none] ?_;right;refine (mI hx sf ⟨AA,L,M,root,i,rfl,hz,?_⟩);right;right;obtain ⟨b,r,a,t,ha,ht,aU,dR⟩:=(by unfold kK at hm; exact hm:∃ b r a t,L[k]?=some a/\M.ts[k]?=some t/\du M k b r/\_);refine ⟨AA,L,M,k,b,r,a,t,i,rfl,rfl,ha,ht,aU,fun l H1 s1 hl0 hl=>?_⟩;refine ai ⟨fun m σ' H'=>ao H H'/\∃ (j:Nat) (l:Addr) (b:Nat) (r:List Nat) (pv:Option V),σ'=[some (V.ref AA.a),some (V.str z),some (V.int (k:Int)),some (V.int (root:Int)),some (V.int (j:Int)),some (V.ref l),pv]/\H' l=some (.lst (nV (b::r)))/\du M j b r /\
  (if j=dF b r then
   if fU root (b::r)=true then v=true
   else ∃ ab tb,L[b]?=some ab/\M.ts[b]?=some tb/\((tb.bP=[]/\v=false)\/∃ f z,tb.bP=[(f,z)]/\match m with | 0=>False | n+1=>kK M L root n f v)
  else v=false),⟨m,s1,k,l,b,r,none,rfl,hl,aU,dR⟩,?_⟩
 clear dR ha ht aU hl hl0 s1 hm;rintro m σ' H' ⟨s',j,l,b,r,pv,rfl,hl,aU,dR⟩;have i':=i.same s';obtain ⟨pre,hp⟩:=IH (b:=b) (r:=r);have cm:=hl;rw [hp,oP] at cm;left;simp only [bJ,cm,xz,On,oS];by_cases hj:j=dF b r
 ·rw [wT hj] at dR;rw [u8 (by rw [hj])];refine bK ⟨_,fun _ _ h=>h,?_⟩;right;simp only [bJ,hl];refine ⟨rfl,by simp [cG],?_⟩;rw [tF];cases hmem:fU root (b::r) with
  | true =>
   rw [wT hmem] at dR;subst dR;exact bK (q _ s')
  | false =>
   rw [wS (by rw [hmem]; nofun)] at dR;obtain ⟨ab,tb,fk,lW,bB⟩:=dR;refine bg ?_;refine ai ?_;obtain ⟨fs,c,hx,aY,sf⟩:=i'.h;left;simp only [bJ,hl,nV,xz,eD];refine (mI hx sf ⟨AA,L,M,b,ab,tb,i',rfl,rfl,fk,lW,?_⟩);rcases bB with ⟨bB,rfl⟩ | ⟨f,zz,bB,hn⟩
   ·refine .inl ⟨bB,?_⟩;right;exact ⟨by trivial,bK (q _ s')⟩
   ·refine .inr ⟨f,zz,bB,fun p hp=>?_⟩;right;refine ⟨by trivial,?_⟩;rw [pc (by nofun)];refine bg ?_;right;simp only [bJ,hp,eD];cases m with
    | zero=>exact hn.elim
    | succ m =>
     obtain ⟨b2,r2,a2,t2,Fn,eW,y4,GG⟩:=(by unfold kK at hn; exact hn:∃ b r a t,L[f]?=some a/\M.ts[f]?=some t/\du M f b r/\_);refine ⟨AA,L,M,f,b2,r2,a2,t2,i',rfl,rfl,Fn,eW,y4,fun l2 H2 s2 hl0 cm=>?_⟩;exact ⟨m,KM m,s'.trans s2,f,l2,b2,r2,some (V.ref p),rfl,cm,y4,GG⟩
 ·rw [wS hj] at dR;rw [pc (by omega)];subst dR;refine bg ?_;left;exact q _ s'
abbrev aca (M:Hs):List Str:=dQ (M.tr.map (·.1))
section
variable {CH CS CT:Addr} {H H':Hp} {A:Ad} {L:List Ta} {M:Hs}
end
def D2 (C:Addr) (f1 f2:Str):Sp:=zW fun x v1 v2 H Q _=>X1 fun dx=>A2 (H x=some (.ins C dx [])) (Q .ay (upd H x (.ins C dx (aA f2 v2 (aA f1 v1 [])))))
def TB:T.sE.k P w mg base 1 (D2 T.dH "number" "way"):=by
 refine T.sE.F.ok VY (fun _ _ _ _ h=>mh h fun _ _ _ _=>rfl) fun ag A outer s H vs Q E hr h=>mh h fun x v1 v2 h=>?_;obtain ⟨dx,hx,q⟩:=h;refine ⟨_,((am (bC T.iQ T.qC (ad 0) (ad 1))
 (aq (bC T.iQ T.KN (ad 0) (ad 2))))).h,?_⟩
 refine stI [some (V.ref x),some v1,some v2] ?_;right;refine ⟨x,dx,_,rfl,hx,by decide,?_⟩;refine ⟨x,dx,_,rfl,ax,by walk_at "f",?_⟩;rw [mr];exact q
def WB:T.tL.k P w mg base 1 (D2 T.lG "folder" "name"):=by
 refine T.tL.F.ok Vp (fun _ _ _ _ h=>mh h fun _ _ _ _=>rfl) fun ag A outer s H vs Q E hr h=>mh h fun x v1 v2 h=>?_;obtain ⟨dx,hx,q⟩:=h;refine ⟨_,((am (bC T.oW T.wG (ad 0) (ad 1))
 (aq (bC T.oW T.Ct (ad 0) (ad 2))))).h,?_⟩
 refine stI [some (V.ref x),some v1,some v2] ?_;right;refine ⟨x,dx,_,rfl,hx,by decide,?_⟩;refine ⟨x,dx,_,rfl,ax,by walk_at "f",?_⟩;rw [mr];exact q
def Sd:T.sy.k P w mg base 1 (D2 T.ei "step" "reason"):=by
 refine T.sy.F.ok WJ (fun _ _ _ _ h=>mh h fun _ _ _ _=>rfl) fun ag A outer s H vs Q E hr h=>mh h fun x v1 v2 h=>?_;obtain ⟨dx,hx,q⟩:=h;refine ⟨_,((am (bC T.mK T.JC (ad 0) (ad 1))
 (aq (bC T.mK T.Mx (ad 0) (ad 2))))).h,?_⟩
 refine stI [some (V.ref x),some v1,some v2] ?_;right;refine ⟨x,dx,_,rfl,hx,by decide,?_⟩;refine ⟨x,dx,_,rfl,ax,by walk_at "f",?_⟩;rw [mr];exact q
def uH (h:Addr) (z:Str) (last:Bool) (root here:Int) (place:V) (step:Int) (av lf rd:Addr) (lr lu:Int) (told:V):List (Str×V):=[("house",.ref h),("asker",.str z),("last",.bl last),("root",.int root),("here",.int here),("place",place),("step",.int step),("asked",.ref av),("left",.ref lf),("reading",.ref rd),("leads_read",.int lr),("looked_up",.int lu),("told",told)]
structure Ws where
 here:Nat
 place:Option (Nat×Str)
 step:Nat
 asked:List Nat
 left:List (Sum Nat Str)
 bG:List Nat
 read:Nat
 look:Nat
def dC:Sum Nat Str->V
 | .inl n=>.int (n:Int)
 | .inr z=>.str z
def jq (H0 H:Hp):Option (Nat×Str)->V->Prop
 | none,v=>v=.ay
 | some (k,nm),v=>∃ p,v=.ref p/\H0 p=none/\H p=some (.tup [.int (k:Int),.str nm])
structure Cn where
 CH:Addr
 CS:Addr
 CT:Addr
 CW:Addr
 CF:Addr
 CG:Addr
 CR:Addr
 CN:Addr
 CD:Addr
 CE:Addr
abbrev Tx.cn (T:Tx K mg):Cn:=⟨T.aI,T.aP,T.aW,T.bj,T.ei,T.dH,T.fL,T.eX,T.eV,T.lG⟩
structure Wd where
 L:List Ta
 M:Hs
 z:Str
 last:Bool
 root:Nat
structure Wc extends Wd where
 H0:Hp
 A:Ad
 x:Addr
 dx:Addr
 av:Addr
 rd:Addr
structure aX (N:Cn) (c:Wc) (S:Ws) (H:Hp) (lf:Addr) (told:V):Prop where
 i:aH N.CH N.CS N.CT c.H0 c.A c.L c.M
 s:ao c.H0 H
 x0:c.H0 c.x=none
 a0:c.H0 c.av=none
 l0:c.H0 lf=none
 r0:c.H0 c.rd=none
 o:∃ fs pv,H c.x=some (.ins N.CW c.dx fs)/\fs.length<=40/\jq c.H0 H S.place pv/\dh fs (uH c.A.a c.z c.last c.root S.here pv S.step c.av lf c.rd S.read S.look told)
 oa:H c.av=some (.lst (nV S.asked))
 ol:H lf=some (.lst (S.left.map dC))
 od:H c.rd=some (.lst (nV S.bG))
 n1:c.av≠lf
 n2:c.av≠c.rd
 n3:lf≠c.rd
 hz:aS (sD c.M.ro) (.inr c.z)=some (.int (c.root:Int))
section
variable {N:Cn} {c:Wc} {S:Ws} {H0 H H':Hp} {lf:Addr} {told:V}
def jq.same {p:Option (Nat×Str)} {v:V} (h:jq H0 H p v) (s:ao H H'):jq H0 H' p v:=by
 match p,h with
 | none,h=>exact h
 | some (k,nm),⟨q,e,e0,e1⟩=>exact ⟨q,e,e0,s _ _ e1⟩
def aX.same (v:aX N c S H lf told) (s:ao H H'):aX N c S H' lf told :=
 ⟨v.i,v.s.trans s,v.x0,v.a0,v.l0,v.r0,let ⟨fs,pv,e,l,p,f⟩:=v.o; ⟨fs,pv,s _ _ e,l,p.same s,f⟩,s _ _ v.oa,s _ _ v.ol,s _ _ v.od,v.n1,v.n2,v.n3,v.hz⟩
def aX.m (v:aX N c S H lf told):aH N.CH N.CS N.CT H c.A c.L c.M:=v.i.same v.s
def aX.xa (v:aX N c S H lf told):c.x≠c.av/\c.x≠lf/\c.x≠c.rd:=by
 obtain ⟨fs,pv,e,_⟩:=v.o;exact ⟨bX e v.oa (by nofun),bX e v.ol (by nofun),bX e v.od (by nofun)⟩
def jq.put {p:Option (Nat×Str)} {v:V} {fs:List (Str×V)} {x dx CW:Addr} (h:jq H0 H p v) (hx:∃ gs,H x=some (.ins CW dx gs)):jq H0 (upd H x (.ins CW dx fs)) p v:=by
 match p,h with
 | none,h=>exact h
 | some (k,nm),⟨q,e,e0,e1⟩ =>
  obtain ⟨gs,hx⟩:=hx;exact ⟨q,e,e0,by rw [ah (pi (bX hx e1 (by nofun)))]; exact e1⟩
def aX.put (f:Str) (u:V) (S':Ws) (told':V) (v:aX N c S H lf told) (w:V) (hw:∀ pv,List.lookup f (uH c.A.a c.z c.last c.root S.here pv S.step c.av lf c.rd S.read S.look told)=some w:=by exact fun _=>rfl)
  (hp:S'.place=S.place:=by rfl) (ha:S'.asked=S.asked:=by rfl) (hl:S'.left=S.left:=by rfl) (hr:S'.bG=S.bG:=by rfl)
  (e:∀ pv g,List.lookup g (aA f u (uH c.A.a c.z c.last c.root S.here pv S.step c.av lf c.rd S.read S.look told))=List.lookup g (uH c.A.a c.z c.last c.root S'.here pv S'.step c.av lf c.rd S'.read S'.look told'):=by exact fun _ _=>rfl) :
  ∃ fs,H c.x=some (.ins N.CW c.dx fs)/\fs.length < 1000/\List.lookup f fs=some w/\aX N c S' (upd H c.x (.ins N.CW c.dx (aA f u fs))) lf told':=by
 obtain ⟨fs,pv,e1,l,p,sf⟩:=v.o;have hf:List.lookup f fs=some w:=(sf f).trans (hw pv);exact ⟨fs,e1,by omega,hf,⟨v.i,v.s.fZ v.x0,v.x0,v.a0,v.l0,v.r0,⟨_,pv,ax,by rw [fm hf]; exact l,by rw [hp]; exact p.put ⟨fs,e1⟩,fun g=>((sf.put f u) g).trans (e pv g)⟩,by rw [ah (pi v.xa.1),ha]; exact v.oa,by rw [ah (pi v.xa.2.1),hl]; exact v.ol,by rw [ah (pi v.xa.2.2),hr]; exact v.od,v.n1,v.n2,v.n3,v.hz⟩⟩
def jq.off {p:Option (Nat×Str)} {v:V} {y:Addr} {o o':HO} (h:jq H0 H p v) (hy:H y=some o) (ht:∀ xs,o≠.tup xs):jq H0 (upd H y o') p v:=by
 match p,h with
 | none,h=>exact h
 | some (k,nm),⟨q,e,e0,e1⟩ =>
  refine ⟨q,e,e0,?_⟩;rw [ah (fun z=>?_)]
  ·exact e1
  ·rw [z,hy] at e1;exact ht _ (EQ e1)
def aX.off {y:Addr} {o o':HO} (v:aX N c S H lf told) (y0:c.H0 y=none) (hy:H y=some o) (nx:c.x≠y) (na:c.av≠y) (nl:lf≠y) (nr:c.rd≠y) (ht:∀ xs,o≠.tup xs):aX N c S (upd H y o') lf told:=by
 obtain ⟨gs,pv,e,l,p,f⟩:=v.o;exact ⟨v.i,v.s.fZ y0,v.x0,v.a0,v.l0,v.r0,⟨gs,pv,by rw [ah nx]; exact e,l,p.off hy ht,f⟩,by rw [ah na]; exact v.oa,by rw [ah nl]; exact v.ol,by rw [ah nr]; exact v.od,v.n1,v.n2,v.n3,v.hz⟩
def aX.XQ (v:aX N c S H lf told) (ks:List Nat):aX N c { S with asked:=ks } (upd H c.av (.lst (nV ks))) lf told:=by
 obtain ⟨gs,pv,e,l,p,f⟩:=v.o;exact ⟨v.i,v.s.fZ v.a0,v.x0,v.a0,v.l0,v.r0,⟨gs,pv,by rw [ah v.xa.1]; exact e,l,p.off v.oa (by nofun),f⟩,ax,by rw [ah (pi v.n1)]; exact v.ol,by rw [ah (pi v.n2)]; exact v.od,v.n1,v.n2,v.n3,v.hz⟩
def aX.tU (v:aX N c S H lf told) (ts:List (Sum Nat Str)):aX N c { S with left:=ts } (upd H lf (.lst (ts.map dC))) lf told:=by
 obtain ⟨gs,pv,e,l,p,f⟩:=v.o;exact ⟨v.i,v.s.fZ v.l0,v.x0,v.a0,v.l0,v.r0,⟨gs,pv,by rw [ah v.xa.2.1]; exact e,l,p.off v.ol (by nofun),f⟩,by rw [ah v.n1]; exact v.oa,ax,by rw [ah (pi v.n3)]; exact v.od,v.n1,v.n2,v.n3,v.hz⟩
def aX.GX (v:aX N c S H lf told) (ks:List Nat):aX N c { S with bG:=ks } (upd H c.rd (.lst (nV ks))) lf told:=by
 obtain ⟨gs,pv,e,l,p,f⟩:=v.o;exact ⟨v.i,v.s.fZ v.r0,v.x0,v.a0,v.l0,v.r0,⟨gs,pv,by rw [ah v.xa.2.2]; exact e,l,p.off v.od (by nofun),f⟩,by rw [ah v.n2]; exact v.oa,by rw [ah v.n3]; exact v.ol,ax,v.n1,v.n2,v.n3,v.hz⟩
def aX.P1 (v:aX N c S H lf told) (k:Nat):aX N c { S with asked:=S.asked++[k] } (upd H c.av (.lst (nV S.asked++[.int (k:Int)]))) lf told:=by
 have:=v.XQ (S.asked++[k]); rw [oP] at this; exact this
def aX.Qu (v:aX N c S H lf told) (k:Nat):aX N c { S with bG:=S.bG++[k] } (upd H c.rd (.lst (nV S.bG++[.int (k:Int)]))) lf told:=by
 have:=v.GX (S.bG++[k]); rw [oP] at this; exact this
def aX.aaE (v:aX N c S H lf told) (k:Nat):aX N c { S with left:=S.left++[.inl k] } (upd H lf (.lst (S.left.map dC++[.int (k:Int)]))) lf told:=by
 have:=v.tU (S.left++[.inl k]); rw [IN] at this; exact this
def aX.Uo (v:aX N c S H lf told) (ts:List (Sum Nat Str)):aX N c { S with left:=S.left++ts } (upd H lf (.lst (S.left.map dC++ts.map dC))) lf told:=by
 have:=v.tU (S.left++ts); rw [IN] at this; exact this
def aX.fresh {y:Addr} (v:aX N c S H lf told) (hy:H y=none):c.H0 y=none:=by
 cases e:c.H0 y with
 | none=>rfl
 | some o=>rw [v.s y o e] at hy; cases hy
def aX.Vr {l:Addr} {ts:List (Sum Nat Str)} (v:aX N c S H lf told) (l0:c.H0 l=none) (hl:H l=some (.lst (ts.map dC))) (n1:c.av≠l) (n3:l≠c.rd):∃ fs,H c.x=some (.ins N.CW c.dx fs)/\fs.length < 1000/\aX N c { S with left:=ts } (upd H c.x (.ins N.CW c.dx (aA "left" (.ref l) fs))) l told:=by
 obtain ⟨fs,pv,e,le,p,f⟩:=v.o;have nx:c.x≠l:=bX e hl (by nofun);exact ⟨fs,e,by omega,⟨v.i,v.s.fZ v.x0,v.x0,v.a0,l0,v.r0,⟨_,pv,ax,by rw [fm (u:=.ref lf) ((f _).trans rfl)]; exact le,p.put ⟨fs,e⟩,fun g=>((f.put "left" (.ref l)) g).trans rfl⟩,by rw [ah (pi v.xa.1)]; exact v.oa,by rw [ah (pi nx)]; exact hl,by rw [ah (pi v.xa.2.2)]; exact v.od,n1,v.n2,n3,v.hz⟩⟩
def aX.fld (v:aX N c S H lf told):∃ fs pv,H c.x=some (.ins N.CW c.dx fs)/\fs.length < 1000/\dh fs (uH c.A.a c.z c.last c.root S.here pv S.step c.av lf c.rd S.read S.look told):=by
 obtain ⟨fs,pv,e,l,p,f⟩:=v.o;exact ⟨fs,pv,e,by omega,f⟩
def aX.placed {p:Addr} {k:Nat} {nm:Str} (v:aX N c S H lf told) (p0:c.H0 p=none) (hp:H p=some (.tup [.int (k:Int),.str nm])):∃ fs,H c.x=some (.ins N.CW c.dx fs)/\fs.length < 1000/\aX N c { S with place:=some (k,nm) } (upd H c.x (.ins N.CW c.dx (aA "place" (.ref p) fs))) lf told:=by
 obtain ⟨fs,pv,e,l,_,f⟩:=v.o;exact ⟨fs,e,by omega,⟨v.i,v.s.fZ v.x0,v.x0,v.a0,v.l0,v.r0,⟨_,.ref p,ax,by rw [fm (u:=pv) ((f _).trans rfl)]; exact l,⟨p,rfl,p0,by rw [ah (pi (bX e hp (by nofun)))]; exact hp⟩,fun g=>((f.put "place" (.ref p)) g).trans rfl⟩,by rw [ah (pi v.xa.1)]; exact v.oa,by rw [ah (pi v.xa.2.1)]; exact v.ol,by rw [ah (pi v.xa.2.2)]; exact v.od,v.n1,v.n2,v.n3,v.hz⟩⟩
end
def aan (N:Cn):Sp:=Ia fun x h z last H Q _=>X6 fun A L M dx H0 (root:Nat)=>A7 (aH N.CH N.CS N.CT H0 A L M) (A.a=h) (H x=some (.ins N.CW dx [])) (ao H0 H) (H0 x=none) (aS (sD M.ro) (.inr z)=some (.int (root:Int))) (∀ av lf rd H',aX N ⟨⟨L,M,z,last,root⟩,H0,A,x,dx,av,rd⟩ ⟨root,none,0,[],[],[],0,0⟩ H' lf .ay->Q .ay H')
def Rh:T.vb.k P w mg base 3 (aan T.cn):=by
 refine T.vb.F.ok UW (fun _ _ _ _ h=>HV h fun _ _ _ _ _=>rfl) fun ag A outer s H vs Q E hr h=>HV h fun x hh z last h=>?_;obtain ⟨AA,L,M,dx,H0,root,i,rfl,hx,s0,x0,hz,q⟩:=h;refine bF (b:=aR Bi) ((am (bC T.aL T.fz (ad 0) (ad 1))
 (am (bC T.aL T.tH (ad 0) (ad 2))
 (am (bC T.aL T.JO (ad 0) (ad 3))
 (am (bC T.aL T.uy (ad 0) (bf T.aJ T.kM.h (Eb T) hr.m T.kM.b .nil au (ad 1) (aa (ad 2) ae)))
 (am (bC T.aL T.fE (ad 0) (bi T.aL T.uy (ad 0)))
 (am (bC T.aL T.xV (ad 0) ay)
 (am (bC T.aL T.B8 (ad 0) bn)
 (am (bC T.aL T.HU (ad 0) (cr ae))
 (am (bC T.aL T.nR (ad 0) (cr ae))
 (am (bC T.aL T.rm (ad 0) (cr ae))
 (am (bC T.aL T.Dd (ad 0) bn)
 (am (bC T.aL T.LW (ad 0) bn)
 (aq (bC T.aL T.mF (ad 0) ay))))))))))))))) ?_
 refine stI [some (V.ref x),some (V.ref AA.a),some (V.str z),some (V.bl last)] ?_;right;refine ⟨x,dx,_,rfl,hx,by decide,ai ?_⟩;left;refine ⟨x,dx,_,rfl,ax,by walk_at "f",ai ?_⟩;left;refine ⟨x,dx,_,rfl,ax,by walk_at "f",ai ?_⟩;simp only [mr];left;have s1:=s0.fZ (o:=.ins T.bj dx (aA "last" (.bl last) (aA "asker" (.str z) (aA "house" (.ref AA.a) [])))) x0;have b1:upd H x (.ins T.bj dx (aA "last" (.bl last) (aA "asker" (.str z) (aA "house" (.ref AA.a) [])))) x=some (.ins T.bj dx (aA "last" (.bl last) (aA "asker" (.str z) (aA "house" (.ref AA.a) [])))):=ax;generalize upd H x (.ins T.bj dx (aA "last" (.bl last) (aA "asker" (.str z) (aA "house" (.ref AA.a) []))))=H1 at s1 b1 ⊢;have i1:=i.same s1;obtain ⟨fs,c,bx,aY,sf⟩:=i1.h;refine (mI bx sf ⟨AA,L,M,root,i1,rfl,hz,?_⟩);refine ⟨x,dx,_,rfl,b1,by walk_at "f",ai ?_⟩;left;refine ⟨x,dx,_,_,rfl,ax,rfl,x,dx,_,rfl,ax,by walk_at "f",ai ?_⟩;left;refine ⟨x,dx,_,rfl,ax,by walk_at "f",ai ?_⟩;left;refine ⟨x,dx,_,rfl,ax,by walk_at "f",ai ?_⟩;simp only [mr];left;have O2:dh (aA "step" (.int 0) (aA "place" .ay (aA "here" (.int (root:Int)) (aA "root" (.int (root:Int)) (aA "last" (.bl last) (aA "asker" (.str z) (aA "house" (.ref AA.a) []))))))) [("house",.ref AA.a),("asker",.str z),("last",.bl last),("root",.int (root:Int)),("here",.int (root:Int)),("place",.ay),("step",.int 0)]:=fun f=>rfl;have O5:(aA "step" (.int 0) (aA "place" .ay (aA "here" (.int (root:Int)) (aA "root" (.int (root:Int)) (aA "last" (.bl last) (aA "asker" (.str z) (aA "house" (.ref AA.a) []))))))).length<=10:=by (repeat (refine bW ?_)); exact wP _
 generalize (aA "step" (.int 0) (aA "place" .ay (aA "here" (.int (root:Int)) (aA "root" (.int (root:Int)) (aA "last" (.bl last) (aA "asker" (.str z) (aA "house" (.ref AA.a) [])))))))=F7 at O2 O5 ⊢;have s2:=s1.fZ (o:=.ins T.bj dx F7) x0;have b2:upd H1 x (.ins T.bj dx F7) x=some (.ins T.bj dx F7):=ax;generalize upd H1 x (.ins T.bj dx F7)=H2 at s2 b2 ⊢;have bQ:∀ {J:Hp} {d:Addr},ao H0 J->J d=none->H0 d=none:=fun {J d} k hn=>by
  cases e:H0 d with
  | none=>rfl
  | some o=>rw [k d o e] at hn; cases hn
 refine ⟨fits (by simp),fun av rO=>?_⟩;refine ⟨x,dx,_,rfl,by rw [ah (aK b2 rO)]; exact b2,by omega,ai ?_⟩;obtain ⟨b3,o3,old3,n3⟩:=AY (o:=.lst []) (O:=.ins T.bj dx (aA "asked" (.ref av) F7)) rO b2;have s3:=(s2.trans (ao.upd (o:=.lst []) rO)).fZ (o:=.ins T.bj dx (aA "asked" (.ref av) F7)) x0;have av0:=bQ s2 rO;generalize upd (upd H2 av (.lst [])) x (.ins T.bj dx (aA "asked" (.ref av) F7))=H3 at b3 o3 old3 s3 ⊢;left;refine ⟨fits (by simp),fun lf hlf=>?_⟩;have l1:(aA "asked" (.ref av) F7).length<=11:=bW O5;refine ⟨x,dx,_,rfl,by rw [ah (aK b3 hlf)]; exact b3,by omega,ai ?_⟩;obtain ⟨b4,o4,OP,n4⟩:=AY (o:=.lst []) (O:=.ins T.bj dx (aA "left" (.ref lf) (aA "asked" (.ref av) F7))) hlf b3;have s4:=(s3.trans (ao.upd (o:=.lst []) hlf)).fZ (o:=.ins T.bj dx (aA "left" (.ref lf) (aA "asked" (.ref av) F7))) x0;have lf0:=bQ s3 hlf;have yU:av≠lf:=aK o3 hlf;have F2:=OP av _ n3 o3;generalize upd (upd H3 lf (.lst [])) x (.ins T.bj dx (aA "left" (.ref lf) (aA "asked" (.ref av) F7)))=H4 at b4 o4 OP s4 F2 ⊢;left;refine ⟨fits (by simp),fun rd gx=>?_⟩;have l2:(aA "left" (.ref lf) (aA "asked" (.ref av) F7)).length<=12:=bW l1;refine ⟨x,dx,_,rfl,by rw [ah (aK b4 gx)]; exact b4,by omega,ai ?_⟩;obtain ⟨b5,o5,Gu,n5⟩:=AY (o:=.lst []) (O:=.ins T.bj dx (aA "reading" (.ref rd) (aA "left" (.ref lf) (aA "asked" (.ref av) F7)))) gx b4;have s5:=(s4.trans (ao.upd (o:=.lst []) gx)).fZ (o:=.ins T.bj dx (aA "reading" (.ref rd) (aA "left" (.ref lf) (aA "asked" (.ref av) F7)))) x0;have O6:=Gu av _ n3 F2;have N4:=Gu lf _ n4 o4;have rd0:=bQ s4 gx;have nar:av≠rd:=aK F2 gx;have EK:lf≠rd:=aK o4 gx;generalize upd (upd H4 rd (.lst [])) x (.ins T.bj dx (aA "reading" (.ref rd) (aA "left" (.ref lf) (aA "asked" (.ref av) F7))))=H5 at b5 o5 Gu s5 O6 N4 ⊢;have l3:(aA "reading" (.ref rd) (aA "left" (.ref lf) (aA "asked" (.ref av) F7))).length<=13:=bW l2;left;refine ⟨x,dx,_,rfl,b5,by omega,ai ?_⟩;have l4:(aA "leads_read" (.int 0) (aA "reading" (.ref rd) (aA "left" (.ref lf) (aA "asked" (.ref av) F7)))).length<=14:=bW l3;left;refine ⟨x,dx,_,rfl,ax,by omega,?_⟩;have l5:(aA "looked_up" (.int 0) (aA "leads_read" (.int 0) (aA "reading" (.ref rd) (aA "left" (.ref lf) (aA "asked" (.ref av) F7))))).length<=15:=bW l4;refine ⟨x,dx,_,rfl,ax,by omega,?_⟩;simp only [mr];refine q av lf rd _ ⟨i,s5.fZ x0,x0,av0,lf0,rd0,⟨_,.ay,ax,wf (bW l5) (by decide),rfl,fun f=>?_⟩,by rw [ah n3]; exact O6,by rw [ah n4]; exact N4,by rw [ah n5]; exact o5,yU,nar,EK,hz⟩;exact ((((((O2.put "asked" (.ref av)).put "left" (.ref lf)).put "reading" (.ref rd)).put "leads_read" (.int 0)).put "looked_up" (.int 0)).put "told" .ay f).trans rfl
abbrev DW (k:Nat) (r:Str):List (Str×V):=aA "reason" (.str r) (aA "step" (.int (k:Int)) [])
inductive Tl
 | fail (y:Str)
 | ring (ns:List Nat)
def uP (N:Cn) (H0 H:Hp) (step:Nat) (fd:Addr):Tl->Prop
 | .fail y=>H0 fd=none/\∃ bA,H fd=some (.ins N.CF bA (DW step y))
 | .ring ns=>H0 fd=none/\∃ bA rl,H fd=some (.ins N.CR bA (aA "leads" (.ref rl) []))/\H rl=some (.lst (nV ns))
structure tu (N:Cn) (c:Wc) (S:Ws) (lf:Addr) (o:Option Tl) (R:Hp->Prop):Prop where
 n:o=none->∀ H',aX N c S H' lf .ay->R H'
 y:∀ t,o=some t->∀ fd H',aX N c S H' lf (.ref fd)->uP N c.H0 H' S.step fd t->R H'
def abE (N:Cn):Sp:=jO fun x r H Q _=>X3 fun c S lf=>A3 (c.x=x) (aX N c S H lf .ay) (tu N c S lf (some (.fail r)) (Q .ay))
def aX.tells {N:Cn} {c:Wc} {S:Ws} {H H4:Hp} {lf fd bA C:Addr} {F:List (Str×V)} {t:Tl} (v:aX N c S H lf .ay) (aZ:H fd=none) (s4:ao H H4) (b4:H4 fd=some (.ins C bA [])) :
  ∃ fs,upd H4 fd (.ins C bA F) c.x=some (.ins N.CW c.dx fs)/\fs.length < 1000/\aX N c S (upd (upd H4 fd (.ins C bA F)) c.x (.ins N.CW c.dx (aA "told" (.ref fd) fs))) lf (.ref fd)/\c.H0 fd=none/\c.x≠fd:=by
 obtain ⟨fs,pv,hx,aY,sf⟩:=v.fld;have f0:=v.fresh aZ;have nx:c.x≠fd:=aK hx aZ;have v5:=(v.same s4).off (o':=.ins C bA F) f0 b4 nx (aK v.oa aZ) (aK v.ol aZ) (aK v.od aZ) (by nofun);obtain ⟨vw,lH,fh,_,v6⟩:=v5.put "told" (.ref fd) S (.ref fd) .ay;exact ⟨vw,lH,fh,v6,f0,nx⟩
def uS:T.gG.k P w mg base 3 (abE T.cn):=by
 refine T.gG.F.ok Z7 (fun _ _ _ _ h=>eT h fun _ _ _=>rfl) fun ag A outer s H vs Q E hr h=>eT h fun x r h=>?_;obtain ⟨c,S,lf,rfl,v,q⟩:=h;refine bF (b:=aR Al) ((aq (bC T.aL T.mF (ad 0) (im T.Zn (Sd T) hr.m T.Np T.sy.b .nil au (aa (bi T.aL T.B8 (ad 0)) (aa (ad 1) ae)))))) ?_;refine stI [some (V.ref c.x),some (V.str r)] ?_;obtain ⟨fs,pv,hx,aY,sf⟩:=v.fld;left;refine (fI hx sf rfl (fun fd bA aZ hdfd nfd=>?_));have s4:=(ao.upd (o:=.own fd) hdfd).trans (ao.upd (p:=fd) (o:=.ins T.ei bA []) (by rw [ah (pi nfd)]; exact aZ));have b4:upd (upd H bA (.own fd)) fd (.ins T.ei bA []) fd=some (.ins T.ei bA []):=ax;generalize upd (upd H bA (.own fd)) fd (.ins T.ei bA [])=H4 at s4 b4 ⊢;refine ⟨bA,b4,rfl,?_⟩;obtain ⟨vw,lH,fh,v6,f0,nx⟩:=v.tells (t:=.fail r) (F:=DW S.step r) aZ s4 b4;exact ⟨c.x,_,_,rfl,lH,fh,q.y _ rfl fd _ v6 ⟨f0,bA,by rw [ah (pi nx)]; exact ax⟩⟩
def iW:List Nat->Nat
 | []=>0
 | [a]=>a
 | a::b::r=>min a (iW (b::r))
def z9:∀ {ns:List Nat},ns≠[]->iW ns∈ns
 | [],h=>absurd rfl h
 | [a],_=>by simp [iW]
 | a::b::r,_=>by
  have:=z9 (ns:=b::r) (by simp);unfold iW;rcases Nat.le_total a (iW (b::r)) with h | h
  ·rw [Nat.min_eq_left h]; simp
  ·rw [Nat.min_eq_right h]; exact Db _ this
def Ma:∀ {ns:List Nat} {k:Nat},k∈ns->iW ns<=k
 | [a],k,h=>by rw [AT.mp h]; exact ss _
 | a::b::r,k,h=>by
  unfold iW;rcases li.mp h with rfl | h
  ·exact Nat.min_le_left _ _
  ·exact wf (Nat.min_le_right _ _) (Ma h)
def mG (ns:List Nat):List Nat:=ns.drop (ns.idxOf (iW ns))++ns.take (ns.idxOf (iW ns))
def Nj (ns:List Nat):nV ns=(ns.map (fun k:Nat=>(k:Int))).map V.int:=by
 unfold nV; rw [SZ]; rfl
def Er (k:Nat):∀ ns:List Nat,(ns.map (fun k:Nat=>(k:Int))).idxOf (k:Int)=ns.idxOf k
 | []=>rfl
 | a::r=>by
  have h:((a:Int) == (k:Int))=(a == k):=by
   rw [UF,Tk,Tk]; omega
  rw [xz,List.idxOf_cons,List.idxOf_cons,Er k r,h]
def mem_cast {k:Nat} {ns:List Nat} (h:k∈ns):(k:Int)∈ns.map (fun k:Nat=>(k:Int)):=AC.mpr ⟨k,h,rfl⟩
def abe:Sp:=gL fun l H Q _=>X1 fun (ns:List Nat)=>A4 (H l=some (.lst (nV ns))) (ns≠[]) (ns.length<=500) (∀ l' H',ao H H'->H l'=none->H' l'=some (.lst (nV (mG ns)))->Q (.ref l') H')
def WK:T.qG.k P w base 1 abe:=by
 refine T.qG.F.ok KY (fun _ _ _ _ h=>cX h fun _ _=>rfl) fun ag A outer s H vs Q E hr h=>cX h fun l h=>?_;obtain ⟨ns,hl,dS,hlen,q⟩:=h;refine bF (b:=aR BM) ((am (aO 1 KY.nd (hX _I PySem.F.type_list_index (Ki (K:=K) rfl) (ad 0) (aa (cY (Vd (K:=K) rfl rfl) T.LF PK (aa (ad 0) ae)) ae)))
 (aq (aM (db gj (io (qI (K:=K) rfl) (ad 0) (oT (ad 1)) sI) (io (qI (K:=K) rfl) (ad 0) sI (oT (ad 1)))))))) ?_
 refine stI [some (V.ref l),none] ?_;right;simp only [hl];have hS:aD K H l ((ns.map (fun k:Nat=>(k:Int))).map V.int):=aD.of (by rw [hl,Nj]);refine ⟨_,_,hS,mem_cast (z9 dS),fun k hk=>?_,_,hS,mem_cast (z9 dS),nV ns,aD.of hl,fun p hp=>?_⟩
 ·obtain ⟨k',hk',rfl⟩:=AC.mp hk;have:=Ma hk';omega
 rw [Er,Il];refine ee (o:=.lst (List.drop (ns.idxOf (iW ns)) (nV ns))) hp fun H1 s1 b1=>?_;refine ⟨nV ns,aD.of (s1 _ _ hl),fun p2 eK=>?_⟩;rw [To];refine ee (o:=.lst (List.take (ns.idxOf (iW ns)) (nV ns))) eK fun H2 s2 b2=>?_;simp only [s2 _ _ b1,b2];refine ⟨fits (by simp [nV]; omega),fun p3 eI=>?_⟩;refine q p3 _ ((s1.trans s2).trans (ao.upd eI)) ?_ ?_
 ·cases e:H p3 with
  | none=>rfl
  | some o=>rw [(s1.trans s2) _ _ e] at eI; cases eI
 ·rw [ax];unfold mG nV;rw [IN,List.map_drop,List.map_take]
def Ql (C:Addr):Sp:=uj fun x l H Q _=>X2 fun dx ns=>A3 (H x=some (.ins C dx [])) (H l=some (.lst (nV ns))) (∀ rl,H rl=none->Q .ay (upd (upd H rl (.lst (nV ns))) x (.ins C dx (aA "leads" (.ref rl) []))))
def Rc:T.tG.k P w mg base 1 (Ql T.fL):=by
 refine T.tG.F.ok WW (fun _ _ _ _ h=>mx h fun _ _ _=>rfl) fun ag A outer s H vs Q E hr h=>mx h fun x l h=>?_;obtain ⟨dx,ns,hx,hl,q⟩:=h;refine bF (b:=aR Ap) ((aq (bC T.rh T.HW (ad 0) (wb (ab3 (K:=K) rfl) T.rn Bc (aa (ad 1) ae))))) ?_;refine stI [some (V.ref x),some (V.ref l)] ?_;left;simp only [bJ,hl];exact fun rl dG=>⟨x,dx,_,rfl,by rw [ah (aK hx dG)]; exact hx,by decide,q rl dG⟩
def df (ps:List Str):List (Sum Nat Str):=(ps.map Sum.inr).reverse
def Ng (ps:List Str):(df ps).map dC=(ps.map V.str).reverse:=by
 unfold df;rw [List.map_reverse,SZ]; rfl
def Pz (N:Cn):Sp:=MG fun x fr lp H Q _=>Kz fun c S lf (st:Nat) (b:Nat) (ps:List Str) (r:List Nat) (a:Ta) (t:Th) (sn:Bool)=>AQ (c.x=x) (aX N c S H lf .ay) (H lp=some (.lst (ps.map V.str))) (fr=true/\st=c.root\/fr=false/\aS (sD c.M.st) (.inr c.z)=some (.int (st:Int))) (c.L[st]?=some a) (c.M.ts[st]?=some t) (du c.M st b r) (∃ m,kK c.M c.L c.root m (dF b r) sn) (sn=true->∀ lf' H',aX N c { S with here:=dF b r,left:=df ps } H' lf' .ay->Q .ay H') (sn=false->tu N c { S with here:=dF b r } lf (some (.fail "outside")) (Q .ay))
def Ss:T.vf.k P w mg base 7 (Pz T.cn):=by
 refine T.vf.F.ok Lh (fun _ _ _ _ h=>KQ h fun _ _ _ _=>rfl) fun ag A outer s H vs Q E hr h=>KQ h fun x fr lp h=>?_;obtain ⟨c,S,lf,st,b,ps,r,a,t,sn,rfl,v,pE,aU,ha,ht,vo,yH,q1,q2⟩:=h;obtain ⟨fs,pv,hx,aY,sf⟩:=v.fld;refine bF (b:=aR DO) ((am (aO 3 Lh.nd (JG (cK (ad 1)) (bi T.aL T.uy (ad 0)) (bf T.aJ T.tj.h (T9 T) hr.m T.tj.b .nil au (bi T.aL T.fz (ad 0)) (aa (bi T.aL T.tH (ad 0)) ae))))
 (am (bC T.aL T.fE (ad 0) (bv (wW T) hr.m T.fR.m T.fR.F.kp T.fR.b .nil au (aa (bi T.aL T.fz (ad 0)) (aa (ad 3) ae))))
 (aq (bu (cK (bv (Qp T) hr.m T.qV.m T.qV.F.kp T.qV.b .nil au (aa (bi T.aL T.fz (ad 0)) (aa (bi T.aL T.tH (ad 0)) (aa (bi T.aL T.fE (ad 0)) ae))))) (aq (bC T.aL T.nR (ad 0) (Dv.listRev (K:=K) rfl rfl T.rn T.Av (ad 2)))) (aq (aV (bf T.aL T.gG.h (uS T) hr.m T.gG.b .nil au (ad 0) (aa ap ae))))))))) ?_
 refine stI [some (V.ref c.x),some (V.bl fr),some (V.ref lp),none] ?_;refine kS (fun σ' H'=>σ'=[some (V.ref c.x),some (V.bl fr),some (V.ref lp),some (V.int (st:Int))]/\H'=H) ?_ ?_
 ·left;rcases aU with ⟨rfl,rfl⟩ | ⟨rfl,aU⟩
  ·exact bK (fI hx sf rfl ⟨rfl,by trivial⟩)
  ·obtain ⟨kb,hc,hh,rP,gU⟩:=v.m.h;exact bg (fI hx sf rfl (mI hh gU (fI hx sf rfl ⟨c.A,c.L,c.M,st,v.m,rfl,by rw [v.hz]; rfl,aU,rfl,by first | rfl | trivial⟩)))
 rintro σ' H' ⟨rfl,rfl⟩;right;refine (fI hx sf rfl ⟨c.A,c.L,c.M,st,b,r,a,t,v.m,rfl,rfl,ha,ht,vo,fun H1 s1=>?_⟩);have v1:=v.same s1;obtain ⟨gW,bx,jd,_,v2⟩:=v1.put "here" (.int ((dF b r:Nat):Int)) { S with here:=dF b r } .ay _;refine ⟨c.x,_,_,rfl,bx,by first | exact jd | exact ph | omega,?_⟩;have hlp1:=s1 _ _ pE;have Fw:lp≠c.x:=fun e=>by rw [e,hx] at pE; cases pE
 have Pa:upd H1 c.x (.ins T.bj c.dx (aA "here" (.int ((dF b r:Nat):Int)) gW)) lp=some (.lst (ps.map V.str)):=by rw [ah Fw]; exact hlp1
 generalize upd H1 c.x (.ins T.bj c.dx (aA "here" (.int ((dF b r:Nat):Int)) gW))=H2 at v2 Pa ⊢;obtain ⟨jb,pj,bZ,jj,cg⟩:=v2.fld;left;refine (fI bZ cg rfl (fI bZ cg rfl (fI bZ cg rfl ⟨c.A,c.L,c.M,dF b r,c.root,sn,v2.m,rfl,rfl,v2.hz,yH,fun H3 s3=>?_⟩)));have v3:=v2.same s3;cases sn
 ·obtain ⟨iG,pz,dI,gR,ed⟩:=v3.fld;exact bg (mI dI ed ⟨c,_,lf,rfl,v3,q2 rfl⟩)
 ·refine bK ?_;refine ⟨lp,ps.map V.str,rfl,aD.of (s3 _ _ Pa),fun l hl=>?_⟩;have v4:=v3.same (ao.upd (o:=.lst (ps.map V.str).reverse) hl);have b4:upd H3 l (.lst (ps.map V.str).reverse) l=some (.lst ((df ps).map dC)):=by rw [ax,Ng]
  have l0:=v3.fresh hl;have yU:c.av≠l:=aK v3.oa hl;have EK:l≠c.rd:=pi (aK v3.od hl);generalize upd H3 l (.lst (ps.map V.str).reverse)=H4 at v4 b4 ⊢;obtain ⟨rL,jc,ph,v5⟩:=v4.Vr l0 b4 yU EK;exact ⟨c.x,_,_,rfl,jc,by first | exact jd | exact ph | omega,q1 rfl l _ v5⟩
def ju (M:Hs) (L:List Ta) (root:Nat):Nat->Nat->List Str->Prop
 | n,k,ns=>∃ b r a t,L[k]?=some a/\M.ts[k]?=some t/\du M k b r /\
  if fU root (b::r)=true then ns=[]
  else ∃ ab tb f z,L[b]?=some ab/\M.ts[b]?=some tb/\tb.bP=[(f,z)]/\match n with | 0=>False | n+1=>∃ ns',ns=ns'++[z]/\ju M L root n f ns'
def VR (CH CS CT:Addr):Sp:=vi fun x z n H Q _=>X6 fun A L M (k:Nat) (root:Nat) ns=>A7 (aH CH CS CT H A L M) (A.a=x) (n=(k:Int)) (aS (sD M.ro) (.inr z)=some (.int (root:Int))) (∃ m,ju M L root m k ns) (ns.length<=500) (∀ l H',ao H H'->H' l=some (.lst (ns.map V.str))->Q (.ref l) H')
def RP:T.pO.k P w base 6 (VR T.aI T.aP T.aW):=by
 refine T.pO.F.ok qi (fun _ _ _ _ h=>jV h fun _ _ _ _=>rfl) fun ag A outer s H vs Q E hr h=>jV h fun x z n h=>?_;obtain ⟨AA,L,M,k,root,ns,i,rfl,rfl,hz,⟨m,hm⟩,hlen,q⟩:=h;obtain ⟨fs,c,hx,aY,sf⟩:=i.h;refine bF (b:=aR zU) ((am (aO 3 qi.nd (bf T.aJ T.kM.h (Eb T) hr.m T.kM.b .nil au (ad 0) (aa (ad 1) ae)))
 (am (aO 4 qi.nd (cr ae))
 (am (aO 5 qi.nd (bv (qa T) hr.m T.dZ.m T.dZ.F.kp T.dZ.b .nil au (aa (ad 0) (aa (ad 2) ae))))
 (am (t9 Wp (cf (CV (K:=K) rfl) (ad 3) (ad 5)) (am (aO 6 qi.nd (bf T.aJ T.ly.h (DZ T) hr.m T.ly.b .nil au (ad 0) (aa (ce (bh (K:=K) rfl) (ad 5) bn) ae)))
 (am (aV (hX FS Gc kz (ad 4) (aa (ce (bh (K:=K) rfl) (ad 6) bn) ae)))
 (aq (aO 5 qi.nd (bv (qa T) hr.m T.dZ.m T.dZ.F.kp T.dZ.b .nil au (aa (ad 0) (aa (ce (bh (K:=K) rfl) (ad 6) bn) ae))))))))
 (aq (aM (Dv.listRev (K:=K) rfl rfl T.rn T.Av (ad 4))))))))) ?_
 refine stI [some (V.ref AA.a),some (V.str z),some (V.int (k:Int)),none,none,none,none] ?_;right;refine (mI hx sf ⟨AA,L,M,root,i,rfl,hz,?_⟩);right;refine ⟨fits (by simp),fun ln yC=>?_⟩;refine ee (o:=.lst []) yC fun H1 s1 b1=>?_;have i1:=i.same s1;right;obtain ⟨b,r,a,t,ha,ht,aU,dR⟩:=(by unfold ju at hm; exact hm:∃ b r a t,L[k]?=some a/\M.ts[k]?=some t/\du M k b r/\_);refine ⟨AA,L,M,k,b,r,a,t,i1,rfl,rfl,ha,ht,aU,fun l2 H2 s2 hl20 cm=>?_⟩;have j0:=s1.trans s2;have c1:=s2 _ _ b1;obtain ⟨PV,lL⟩:∃ PV:Nat->St->Hp->Prop,PV=fun m σ' H'=>ao H H'/\∃ (ls:Addr) (b:Nat) (r:List Nat) (cs ns':List Str) (pv:Option V),σ'=[some (V.ref AA.a),some (V.str z),some (V.int (k:Int)),some (V.int (root:Int)),some (V.ref ln),some (V.ref ls),pv]/\H' ls=some (.lst (nV (b::r)))/\H' ln=some (.lst (cs.map V.str))/\ns=ns'++cs.reverse /\
  (if fU root (b::r)=true then ns'=[]
   else ∃ ab tb f z,L[b]?=some ab/\M.ts[b]?=some tb/\tb.bP=[(f,z)]/\match m with | 0=>False | n+1=>∃ ns'',ns'=ns''++[z]/\ju M L root n f ns''):=⟨_,rfl⟩
 refine ai ⟨PV,⟨m,by rw [lL]; exact ⟨j0,l2,b,r,[],ns,none,rfl,cm,c1,by simp,dR⟩⟩,?_⟩;clear dR ha ht aU cm hl20 c1 hm j0 s2;intro m σ' H' hI;rw [lL] at hI;obtain ⟨s',ls,b,r,cs,ns',pv,rfl,Ol,hln',eJ,dR⟩:=hI;have i':=i.same s';obtain ⟨fs',c',hx',hfl',sf'⟩:=i'.h;left;refine ⟨_,.inl (aD.of Ol),rfl,by simp [cG],?_⟩;rw [tF];cases hmem:fU root (b::r) with
 | true =>
  rw [wT hmem] at dR;subst dR;refine bg ?_;left;refine ⟨ln,_,rfl,aD.of hln',fun l hl=>?_⟩;refine q l _ (s'.trans (ao.upd hl)) ?_;rw [ax,eJ,List.nil_append,List.map_reverse]
 | false =>
  rw [wS (by rw [hmem]; nofun)] at dR;obtain ⟨ab,tb,f,zz,fk,lW,bB,hn⟩:=dR;refine bK ⟨fun σ' H'=>∃ m',m' < m/\PV m' σ' H',fun σ' H' h=>h,?_⟩;right;simp only [bJ,Ol,nV,xz,eD];refine ⟨AA.a,_,_,rfl,hx',(sf' _).trans rfl,AA,L,M,b,ab,tb,i',rfl,rfl,fk,lW,.inr ⟨f,zz,bB,fun p hp=>?_⟩⟩;right;simp only [hln',bJ,hp,wK];cases m with
  | zero=>exact hn.elim
  | succ m =>
   obtain ⟨ns2,hns2,hn⟩:=hn;have lP:cs.length<=500:=by
    have:=NE List.length eJ;simp at this;omega
   refine ⟨kj (by rw [nn]; omega),?_⟩;have Fw:p≠ln:=bX hp hln' (by nofun);have s4:=s'.fZ (o:=.lst (List.map V.str cs++[V.str zz])) yC;have b4:upd H' ln (.lst (List.map V.str cs++[V.str zz])) ln=some (.lst ((cs++[zz]).map V.str)):=by rw [ax,IN]; rfl
   have fO:upd H' ln (.lst (List.map V.str cs++[V.str zz])) p=some (.tup [V.int (f:Int),V.str zz]):=by rw [ah Fw]; exact hp
   generalize upd H' ln (.lst (List.map V.str cs++[V.str zz]))=H4 at s4 b4 fO ⊢;left;simp only [bJ,fO,eD];obtain ⟨b2,r2,a2,t2,Fn,eW,y4,GG⟩:=(by unfold ju at hn; exact hn:∃ b r a t,L[f]?=some a/\M.ts[f]?=some t/\du M f b r/\_);refine ⟨AA,L,M,f,b2,r2,a2,t2,i.same s4,rfl,rfl,Fn,eW,y4,fun l5 H5 s5 hl50 fh=>⟨m,KM m,?_⟩⟩;rw [lL];refine ⟨s4.trans s5,l5,b2,r2,cs++[zz],ns2,_,rfl,fh,s5 _ _ b4,?_,GG⟩;rw [eJ,hns2];simp
def sR {a b:Nat} (h:(some (V.int (a:Int)):Option V)=some (V.int (b:Int))):a=b:=by
 have h1:=EQ h;injection h1 with h2;omega
def kJ.uniq {M:Hs}:∀ {n m k a b:Nat},kJ M n k a->kJ M m k b->a=b
 | 0,0,_,_,_,h,h'=>by rw [h.2,h'.2]
 | 0,_+1,_,_,_,h,h'=>by obtain ⟨_,e,_⟩:=h'; rw [h.1] at e; cases e
 | _+1,0,_,_,_,h,h'=>by obtain ⟨_,e,_⟩:=h; rw [h'.1] at e; cases e
 | _+1,_+1,_,_,_,h,h'=>by
  obtain ⟨k1,e1,h1⟩:=h; obtain ⟨k2,e2,h2⟩:=h';rw [e1] at e2; cases sR e2; exact h1.uniq h2
def jG.uniq {M:Hs}:∀ {n m k:Nat} {a b:List Nat},jG M n k a->jG M m k b->a=b
 | 0,0,_,_,_,h,h'=>by rw [h.2,h'.2]
 | 0,_+1,_,_,_,h,h'=>by obtain ⟨_,_,e,_⟩:=h'; rw [h.1] at e; cases e
 | _+1,0,_,_,_,h,h'=>by obtain ⟨_,_,e,_⟩:=h; rw [h'.1] at e; cases e
 | _+1,_+1,_,_,_,h,h'=>by
  obtain ⟨k1,r1,e1,h1,rfl⟩:=h; obtain ⟨k2,r2,e2,h2,rfl⟩:=h';rw [e1] at e2; cases sR e2; rw [h1.uniq h2]
def du.uniq {M:Hs} {k b b':Nat} {r r':List Nat} (h:du M k b r) (h':du M k b' r'):b=b'/\r=r':=by
 obtain ⟨⟨_,h1⟩,_,h2,_⟩:=h; obtain ⟨⟨_,h3⟩,_,h4,_⟩:=h';obtain rfl:=h1.uniq h3;exact ⟨rfl,h2.uniq h4⟩
inductive xK (c:Wd) (h:Nat):Nat->Prop
 | gi {a t b r}:c.L[h]?=some a->c.M.ts[h]?=some t->du c.M h b r->fU c.root (b::r)=true->xK c h h
 | up {a t b r ab tb f zz af tf b' r'}:c.L[h]?=some a->c.M.ts[h]?=some t->du c.M h b r->fU c.root (b::r)=false->c.L[b]?=some ab->c.M.ts[b]?=some tb->tb.bP=[(f,zz)]->c.L[f]?=some af->c.M.ts[f]?=some tf->du c.M f b' r'->xK c h (dF b' r')
def Qi (N:Cn):Sp:=gL fun x H Q _=>X4 fun c S lf h'=>A4 (c.x=x) (aX N c S H lf .ay) (xK c.toWd S.here h') (∀ H',aX N c { S with here:=h' } H' lf .ay->Q .ay H')
def R0:T.uW.k P w mg base 7 (Qi T.cn):=by
 refine T.uW.F.ok JW (fun _ _ _ _ h=>cX h fun _ _=>rfl) fun ag A outer s H vs Q E hr h=>cX h fun x h=>?_;obtain ⟨c,S,lf,h',rfl,v,hu,q⟩:=h;obtain ⟨fs,pv,hx,aY,sf⟩:=v.fld;refine bF (b:=aR zX) ((am (aO 1 JW.nd (bv (qa T) hr.m T.dZ.m T.dZ.F.kp T.dZ.b .nil au (aa (bi T.aL T.fz (ad 0)) (aa (bi T.aL T.fE (ad 0)) ae))))
 (aq (bu (cf (CV (K:=K) rfl) (bi T.aL T.uy (ad 0)) (ad 1)) (aq (bC T.aL T.fE (ad 0) (bv (wW T) hr.m T.fR.m T.fR.F.kp T.fR.b .nil au (aa (bi T.aL T.fz (ad 0)) (aa (ce (bh (K:=K) rfl) (bf T.aJ T.ly.h (DZ T) hr.m T.ly.b .nil au (bi T.aL T.fz (ad 0)) (aa (ce (bh (K:=K) rfl) (ad 1) bn) ae)) bn) ae))))) ci)))) ?_
 refine stI [some (V.ref c.x),none] ?_;obtain ⟨a,t,b,r,ha,aG,aU⟩:∃ a t b r,c.L[S.here]?=some a/\c.M.ts[S.here]?=some t/\du c.M S.here b r:=by
  cases hu <;> exact ⟨_,_,_,_,by assumption,by assumption,by assumption⟩
 right;refine (fI hx sf rfl (fI hx sf rfl ⟨c.A,c.L,c.M,S.here,b,r,a,t,v.m,rfl,rfl,ha,aG,aU,fun l H1 s1 hl0 hl=>?_⟩));have v1:=v.same s1;obtain ⟨gW,yy,bx,jd,cT⟩:=v1.fld;left;refine (fI bx cT rfl ⟨_,.inl (aD.of hl),rfl,by simp [cG],?_⟩);rw [tF];cases hu with
 | gi _ _ h1 hm =>
  obtain ⟨rfl,rfl⟩:=du.uniq h1 aU;rw [hm];exact bg (q _ v1)
 | up _ _ h1 hm fk lW bB gv cj hst' =>
  obtain ⟨rfl,rfl⟩:=du.uniq h1 aU;rw [hm];refine bK ?_;obtain ⟨kb,hc,hh,rP,gU⟩:=v1.m.h;simp only [bJ,hl,nV,xz,eD];refine (fI bx cT rfl (fI bx cT rfl (mI hh gU ⟨c.A,c.L,c.M,_,_,_,v1.m,rfl,rfl,fk,lW,.inr ⟨_,_,bB,fun p hp=>?_⟩⟩)));simp only [hp,eD];refine ⟨c.A,c.L,c.M,_,_,_,_,_,v1.m,rfl,rfl,gv,cj,hst',fun H2 s2=>?_⟩;obtain ⟨jb,bZ,jj,_,v2⟩:=(v1.same s2).put "here" _ { S with here:=dF _ _ } .ay _;exact ⟨c.x,_,_,rfl,bZ,jj,q _ v2⟩
def uo:T.gO.k P w mg base 3 (gq T.aI T.aP T.aW Ad.a DM):=by
 refine T.gO.F.ok RI (fun _ _ _ _ h=>bY h fun _ _ _=>rfl) fun ag A outer s H vs Q E hr h=>bY h fun x n h=>?_;obtain ⟨AA,L,M,k,a,t,i,rfl,rfl,ha,aG,q⟩:=h;obtain ⟨fs,c,hx,aY,sf⟩:=i.h;obtain ⟨gs,c2,ht,cJ,sg⟩:=i.t;have bU:=dX i ha aG;obtain ⟨ks,ho,fe,so⟩:=bU.o;refine ⟨_,((aq (aM (bi T.cP T.BC (cW T.bS T.cE.h (gn T) hr.m T.cE.b .nil di (bi T.aJ T.eE (ad 0)) (aa (ad 1) ae)))))).h,?_⟩;refine stI [some (V.ref AA.a),some (V.int (k:Int))] ?_;left;exact ⟨AA.a,_,_,.ref AA.t,rfl,hx,(sf _).trans rfl,AA.t,_,_,rfl,ht,(sg _).trans rfl,gN i ha aG (fI ho so rfl q)⟩
def BS {n:Nat} (h:n<=9000):n<=sizeLine:=wf h (by decide)
def Kg (ps:List (List Nat)):PV ps=(ps.map Tx.S).map V.str:=by
 unfold PV
 first | rfl | simp [SZ,Function.comp_def]
def e8 (t:List Nat):List Str:=(told (Tx.words 47 t) t).map Tx.S
def hU (S:Ws) (k:Nat) (ps:List Str) (h:Nat):Ws:={ S with read:=S.read+1,bG:=S.bG++[k],left:=(S.left++[.inl k])++df ps,here:=h }
inductive uL (c:Wd) (S:Ws) (k:Nat):Ws->Prop
 | mk {a tc t ar tr b r}:c.L[k]?=some a->c.M.ts[k]?=some tc->tc.tx=Tx.S t->1<=t.length->t.length<=2000->(Tx.words 47 t).all cL=true->(e8 t).length<=124->c.L[c.root]?=some ar->c.M.ts[c.root]?=some tr->du c.M c.root b r->uL c S k (hU S k (e8 t) (if dJ t=true then dF b r else S.here))
def UP (N:Cn):Sp:=jw fun x n H Q _=>X5 fun c S lf (k:Nat) S'=>A7 (c.x=x) (n=(k:Int)) (aX N c S H lf .ay) (S.left.length<=8000) (S.bG.length<=900) (uL c.toWd S k S') (∀ H',aX N c S' H' lf .ay->Q .ay H')
def Xz:T.uM.k P w mg base 7 (UP T.cn):=by
 refine T.uM.F.ok M8 (fun _ _ _ _ h=>bY h fun _ _ _=>rfl) fun ag A outer s H vs Q E hr h=>bY h fun x n h=>?_;obtain ⟨c,S,lf,k,S',rfl,rfl,v,hl,gx,hR,q⟩:=h;cases hR with
 | @mk a tc t ar tr b r ha ej o6 h1 h2 lQ gB mY iL aU =>
 refine bF (b:=aR Ax) ((am (aO 2 M8.nd (bv (jr T) hr.m T.cy.m T.cy.F.kp T.cy.b .nil au (aa (bf T.aJ T.gO.h (uo T) hr.m T.gO.b .nil au (bi T.aL T.fz (ad 0)) (aa (ad 1) ae)) ae)))
 (am (jB T.aL T.Dd jE (ad 0) bn)
 (am (aV (hX FS Gc kz (bi T.aL T.rm (ad 0)) (aa (ad 1) ae)))
 (am (aV (hX FS Gc kz (bi T.aL T.nR (ad 0)) (aa (ad 1) ae)))
 (am (aV (hX PySem.F.slot_list_extend PySem.F.type_list_extend aa4 (bi T.aL T.nR (ad 0)) (aa (Dv.listRev (K:=K) rfl rfl T.rn T.Av (ce (bh (K:=K) rfl) (ad 2) bn)) ae)))
 (aq (bu (cK (ce (bh (K:=K) rfl) (ad 2) bn)) (aq (bC T.aL T.fE (ad 0) (bv (wW T) hr.m T.fR.m T.fR.F.kp T.fR.b .nil au (aa (bi T.aL T.fz (ad 0)) (aa (bi T.aL T.uy (ad 0)) ae))))) ci)))))))) ?_
 refine stI [some (V.ref c.x),some (V.int (k:Int)),none] ?_;obtain ⟨fs,pv,hx,aY,sf⟩:=v.fld;obtain ⟨kb,hc,hh,rP,gU⟩:=v.m.h;right;refine (fI hx sf rfl (mI hh gU ⟨c.A,c.L,c.M,k,a,tc,v.m,rfl,rfl,ha,ej,?_⟩));simp only [DM];refine ⟨t,o6,h1,h2,lQ,fun H1 l p s1 hl0 lY hp=>?_⟩;have v1:=v.same s1;obtain ⟨gW,bx,jd,lI,v2⟩:=v1.put "leads_read" (.int ((S.read:Int)+1)) { S with read:=S.read+1 } .ay _;right;refine ⟨c.x,_,_,_,rfl,bx,lI,_,_,rfl,rfl,_,_,bx,jd,ai ?_⟩;have hpx:p≠c.x:=fun e=>by rw [e,bx] at hp; cases hp
 have hlx:l≠c.x:=fun e=>by rw [e,bx] at lY; cases lY
 have eK:upd H1 c.x (.ins T.bj c.dx (aA "leads_read" (.int ((S.read:Int)+1)) gW)) p=some (HO.tup [V.bl (dJ t),V.ref l]):=by rw [ah hpx]; exact hp
 have cm:upd H1 c.x (.ins T.bj c.dx (aA "leads_read" (.int ((S.read:Int)+1)) gW)) l=some (.lst (PV (told (Tx.words 47 t) t))):=by rw [ah hlx]; exact lY
 generalize upd H1 c.x (.ins T.bj c.dx (aA "leads_read" (.int ((S.read:Int)+1)) gW))=H2 at v2 eK cm ⊢;obtain ⟨jb,pj,bZ,jj,cg⟩:=v2.fld;left;refine (fI bZ cg rfl ?_);simp only [v2.od];have v3:=v2.Qu k;refine ⟨kj (by simp; omega),ai ?_⟩;have nl0:l≠c.rd:=fun e=>by rw [e] at hl0; rw [v.od] at hl0; cases hl0
 have eI:upd H2 c.rd (.lst (nV S.bG++[V.int (k:Int)])) p=some (HO.tup [V.bl (dJ t),V.ref l]):=by rw [ah (pi (bX v2.od eK (by nofun)))]; exact eK
 have jT:upd H2 c.rd (.lst (nV S.bG++[V.int (k:Int)])) l=some (.lst (PV (told (Tx.words 47 t) t))):=by rw [ah nl0]; exact cm
 dsimp only at v3;generalize upd H2 c.rd (.lst (nV S.bG++[V.int (k:Int)]))=H3 at v3 eI jT ⊢;obtain ⟨iG,pz,dI,gR,ed⟩:=v3.fld;left;refine (fI dI ed rfl ?_);simp only [v3.ol];have v4:=v3.aaE k;refine ⟨ul (KM _) (BS (by simp; omega)),ai ?_⟩;have fO:upd H3 lf (.lst (S.left.map dC++[V.int (k:Int)])) p=some (HO.tup [V.bl (dJ t),V.ref l]):=by rw [ah (pi (bX v3.ol eI (by nofun)))]; exact eI
 have FE:l≠lf:=fun e=>by rw [e] at hl0; rw [v.ol] at hl0; cases hl0
 have nA:upd H3 lf (.lst (S.left.map dC++[V.int (k:Int)])) l=some (.lst (PV (told (Tx.words 47 t) t))):=by rw [ah FE]; exact jT
 dsimp only at v4;generalize upd H3 lf (.lst (S.left.map dC++[V.int (k:Int)]))=H4 at v4 fO nA ⊢;obtain ⟨rL,NY,jc,ph,pK⟩:=v4.fld;left;refine (fI jc pK rfl ?_);simp only [v4.ol];unfold Dw;left;simp only [bJ,fO,wK];refine ⟨l,_,rfl,aD.of nA,fun l5 fh=>?_⟩;rw [Kg,show (List.map V.str (List.map Tx.S (told (Tx.words 47 t) t))).reverse=(df (e8 t)).map dC from (Ng _).symm];refine ee (o:=.lst ((df (e8 t)).map dC)) fh fun H5 s5 b5=>?_;have v5:=v4.same s5;have e5:H5 lf=some (.lst ((S.left++[Sum.inl k]).map dC)):=v5.ol;simp only [e5,b5];have pE:(df (e8 t)).length<=124:=by unfold df; simpa using gB
 refine ⟨BS (by simp at hl pE ⊢; omega),?_⟩;have v6:=v5.Uo (df (e8 t));have rQ:=s5 _ _ fO;have pA:upd H5 lf (.lst ((S.left++[Sum.inl k]).map dC++(df (e8 t)).map dC)) p=some (HO.tup [V.bl (dJ t),V.ref l]):=by rw [ah (pi (bX v5.ol rQ (by nofun)))]; exact rQ
 dsimp only at v6;generalize upd H5 lf (.lst ((S.left++[Sum.inl k]).map dC++(df (e8 t)).map dC))=H6 at v6 pA ⊢;simp only [pA,eD];cases hrt:dJ t with
 | false =>
  rw [hrt] at q;exact bg (q _ v6)
 | true =>
  rw [hrt] at q;refine bK ?_;obtain ⟨fs6,pv6,yL,hfl6,yR⟩:=v6.fld;refine (fI yL yR rfl (fI yL yR rfl ⟨c.A,c.L,c.M,c.root,b,r,ar,tr,v6.m,rfl,rfl,mY,iL,aU,fun H7 s7=>?_⟩));obtain ⟨fs7,Ge,hfl7,_,v7⟩:=(v6.same s7).put "here" _ (hU S k (e8 t) (dF b r)) .ay _;exact ⟨c.x,_,_,rfl,Ge,hfl7,q _ v7⟩
def en {b:Bool} {A B:Prop} {i:Decidable (b=true)} (h:b=false) (hb:B):if b=true then A else B:=by rw [wS (by rw [h]; decide)]; exact hb
def et {b:Bool} {A B:Prop} {i:Decidable (b=true)} (h:b=true) (hb:A):if b=true then A else B:=by rw [wT h]; exact hb
section
variable {T:Tx K mg} {H:Hp} {A:Ad} {L:List Ta} {M:Hs}
def Bx {z s:Str} {k:Nat} {t:Th} {Q:VK} {E:XK} (i:aH T.aI T.aP T.aW H A L M) (hz:(aS (sD M.ro) (.inr z)).isSome=true) (hs:i8 (.str s)=true) (ht:M.ts[k]?=some t) (q:Q (.bl (dw s (cZ t z))) H):KR T.aI T.aP T.aW T.rE T.vL T.rH [.ref A.a,.str z,.int k,.str s] H Q E:=by
 refine ⟨A,L,M,i,rfl,⟨_,rfl⟩,⟨_,rfl⟩,⟨_,rfl⟩,fun h=>(by rw [h z rfl] at hz; cases hz),fun z' e _=>?_⟩;cases e;refine ⟨fun h=>(by rw [hs] at h; cases h),fun s' e _=>?_⟩;cases e;have bD:=(lm.mp ht).1;refine ⟨fun h=>absurd bD (h k rfl),fun k' t' e ht'=>?_⟩;cases e;rw [ht] at ht';cases ht';exact q
end
def Zh {k:Nat} {l:List Nat} (h:k∈l):fU k l=true:=List.any_eq_true.mpr ⟨k,h,by simp⟩
def JL {k:Nat} {l:List Nat} (h:k ∉ l):fU k l=false:=by
 unfold fU;rw [List.any_eq_false];intro x hx e;exact h (by rw [<- eq_of_beq e]; exact hx)
inductive uF (c:Wd) (S:Ws) (k:Nat):Ws->Option Tl->Prop
 | ring:k∈S.bG->uF c S k S (some (.ring (mG (S.bG.drop (S.bG.idxOf k)))))
 | many:k ∉ S.bG->S.read=40->uF c S k S (some (.fail "many"))
 | read {S'}:k ∉ S.bG->S.read≠40->uL c S k S'->uF c S k S' none
def Uu (N:Cn):Sp:=jw fun x n H Q _=>X6 fun c S lf (k:Nat) S' o=>A7 (c.x=x) (n=(k:Int)) (aX N c S H lf .ay) (S.left.length<=8000) (S.bG.length<=400) (uF c.toWd S k S' o) (tu N c S' lf o (Q .ay))
def YR:T.su.k P w mg base 8 (Uu T.cn):=by
 refine T.su.F.ok abv (fun _ _ _ _ h=>bY h fun _ _ _=>rfl) fun ag A outer s H vs Q E hr h=>bY h fun x n h=>?_;obtain ⟨c,S,lf,k,S',o,rfl,rfl,v,hl,gx,hR,q⟩:=h;refine bF (b:=aR Bz) ((aq (bu (cf (Dh (K:=K) rfl) (ad 1) (bi T.aL T.rm (ad 0))) (aq (bC T.aL T.mF (ad 0) (im T.Rr (Rc T) hr.m T.Zi T.tG.b .nil au (aa (bv (WK T) hr.m T.qG.m T.qG.F.kp T.qG.b .nil au (aa (io (qI (K:=K) rfl) (bi T.aL T.rm (ad 0)) (oT (hX _I PySem.F.type_list_index (Ki (K:=K) rfl) (bi T.aL T.rm (ad 0)) (aa (ad 1) ae))) sI) ae)) ae)))) (aq (bu (cf ie (bi T.aL T.Dd (ad 0)) (dl (.int 40) T.VI ⟨_,rfl⟩)) (aq (aV (bf T.aL T.gG.h (uS T) hr.m T.gG.b .nil au (ad 0) (aa ap ae)))) (aq (aV (bf T.aL T.uM.h (Xz T) hr.m T.uM.b .nil au (ad 0) (aa (ad 1) ae))))))))) ?_;refine stI [some (V.ref c.x),some (V.int (k:Int))] ?_;obtain ⟨fs,pv,hx,aY,sf⟩:=v.fld;left;refine (fI hx sf rfl ⟨_,.inl (aD.of v.od),rfl,by simp [cG],?_⟩);rw [tF];cases hR with
 | many hk hm =>
  rw [JL hk];refine bg (fI hx sf rfl ?_);refine et (u8 (by omega)) (mI hx sf ⟨c,S,lf,rfl,v,q⟩)
 | read hk hm hR =>
  rw [JL hk];refine bg (fI hx sf rfl ?_);refine en (pc (by omega)) (mI hx sf ⟨c,S,lf,k,_,rfl,rfl,v,hl,by omega,hR,q.n rfl⟩)
 | ring hk =>
  rw [Zh hk];refine bK (fI hx sf rfl (fI hx sf rfl ?_));simp only [v.od];refine ⟨_,aD.of (by rw [v.od,Nj]),mem_cast hk,nV S.bG,aD.of v.od,fun p hp=>?_⟩;rw [Er,Il];have e1:List.drop (S.bG.idxOf k) (nV S.bG)=nV (S.bG.drop (S.bG.idxOf k)):=by unfold nV; rw [List.map_drop]
  rw [e1];refine ee (o:=.lst (nV (S.bG.drop (S.bG.idxOf k)))) hp fun H1 s1 b1=>?_;have hj:S.bG.idxOf k < S.bG.length:=List.idxOf_lt_length_iff.mpr hk;refine ⟨_,b1,fun e=>by have:=NE List.length e; simp at this; omega,by simp; omega,fun l2 H2 s2 l20 cm=>?_⟩;intro fd bA aZ hdfd nfd;have v2:=(v.same s1).same s2;have s4:=(ao.upd (o:=.own fd) hdfd).trans (ao.upd (p:=fd) (o:=.ins T.fL bA []) (by rw [ah (pi nfd)]; exact aZ));have b4:upd (upd H2 bA (.own fd)) fd (.ins T.fL bA []) fd=some (.ins T.fL bA []):=ax;generalize upd (upd H2 bA (.own fd)) fd (.ins T.fL bA [])=H4 at s4 b4 ⊢;refine ⟨bA,_,b4,s4 _ _ cm,fun rl dG=>?_⟩;have s5:=s4.trans (ao.upd (o:=.lst (nV (mG (S.bG.drop (S.bG.idxOf k))))) dG);have b5:upd H4 rl (.lst (nV (mG (S.bG.drop (S.bG.idxOf k))))) fd=some (.ins T.fL bA []):=by rw [ah (aK b4 dG)]; exact b4
  have c5:upd H4 rl (.lst (nV (mG (S.bG.drop (S.bG.idxOf k))))) rl=some (.lst (nV (mG (S.bG.drop (S.bG.idxOf k))))):=ax;have nr:=aK b4 dG;generalize upd H4 rl (.lst (nV (mG (S.bG.drop (S.bG.idxOf k)))))=H5 at s5 b5 c5 ⊢;obtain ⟨vw,lH,fh,v6,f0,nx⟩:=v2.tells (t:=.ring []) (F:=aA "leads" (.ref rl) []) aZ s5 b5;have nrx:rl≠c.x:=fun e=>by rw [e] at c5; obtain ⟨fs7,pv7,Ge,_⟩:=(v2.same s5).fld; rw [Ge] at c5; cases c5
  exact ⟨rfl,c.x,_,_,rfl,lH,fh,q.y _ rfl fd _ v6 ⟨f0,bA,rl,by rw [ah (pi nx),ax],by rw [ah nrx,ah (pi nr)]; exact c5⟩⟩
inductive qM (c:Wd) (S:Ws) (t:Th) (p:Str):Ws->Option Tl->Prop
 | no:aS (sD t.aQ) (.inr p)=none->qM c S t p { S with look:=S.look+1 } (some (.fail "none"))
 | folder {k a tc b r}:aS (sD t.aQ) (.inr p)=some (.int ((k:Nat):Int))->c.L[k]?=some a->c.M.ts[k]?=some tc->tc.kd=("folder" : Str)->du c.M k b r->qM c S t p { S with look:=S.look+1,here:=dF b r } none
 | fin {k a tc}:aS (sD t.aQ) (.inr p)=some (.int ((k:Nat):Int))->c.L[k]?=some a->c.M.ts[k]?=some tc->tc.kd≠("folder" : Str)->(tc.kd=("file" : Str)\/S.left=[]/\c.last=false)->qM c S t p { S with look:=S.look+1,place:=some (S.here,p),here:=k } none
 | lead {k a tc S' o}:aS (sD t.aQ) (.inr p)=some (.int ((k:Nat):Int))->c.L[k]?=some a->c.M.ts[k]?=some tc->tc.kd≠("folder" : Str)->tc.kd≠("file" : Str)->¬ (S.left=[]/\c.last=false)->uF c { S with look:=S.look+1 } k S' o->qM c S t p S' o
def DB {T:Tx K mg} {c:Wc} {S:Ws} {H:Hp} {lf:Addr} {k:Nat} {nm:Str} {v3:Option V} {R:Hp->Prop} {Q:VK} (v2:aX T.cn c S H lf .ay) (q:∀ H',aX T.cn c { S with place:=some (S.here,nm),here:=k } H' lf .ay->R H') :
  sF (sj T.bj "place" (iX 0) (xT (oQ (wU T.bj "here" (iX 0)) (oQ (iX 1) kO)))) (sj T.bj "here" (iX 0) (iX 2)) { nx:=fun _ H'=>R H',rt:=Q } [some (V.ref c.x),some (V.str nm),some (V.int (k:Int)),v3] H:=by
 obtain ⟨jb,pj,bZ,jj,cg⟩:=v2.fld;right;refine (fI bZ cg rfl ⟨fits (by simp),fun p hp=>?_⟩);have w3:=v2.same (ao.upd (o:=.tup [V.int (S.here:Int),V.str nm]) hp);have b3:upd H p (.tup [V.int (S.here:Int),V.str nm]) p=some (.tup [V.int (S.here:Int),V.str nm]):=ax;have p0:=v2.fresh hp;generalize upd H p (.tup [V.int (S.here:Int),V.str nm])=H3 at w3 b3 ⊢;obtain ⟨iG,dI,gR,v4⟩:=w3.placed p0 b3;refine ⟨c.x,_,_,rfl,dI,gR,?_⟩;generalize upd H3 c.x _=H4 at v4 ⊢;obtain ⟨rL,jc,ph,_,v5⟩:=v4.put "here" (.int (k:Int)) { S with place:=some (S.here,nm),here:=k } .ay _;exact ⟨c.x,_,_,rfl,jc,ph,q _ v5⟩
def Vv (N:Cn):Sp:=jO fun x nm H Q _=>X7 fun c S lf a t S' o=>AQ (c.x=x) (aX N c S H lf .ay) (c.L[S.here]?=some a) (c.M.ts[S.here]?=some t) (fq (.str nm)=true) (nm.length<=1000) (S.left.length<=8000) (S.bG.length<=400) (qM c.toWd S t nm S' o) (tu N c S' lf o (Q .ay))
def RH:T.uA.k P w mg base 9 (Vv T.cn):=by
 refine T.uA.F.ok Dl (fun _ _ _ _ h=>eT h fun _ _ _=>rfl) fun ag A outer s H vs Q E hr h=>eT h fun x nm h=>?_;obtain ⟨c,S,lf,a,t,S',o,rfl,v,ha,aG,hn,gC,pB,gx,hb,q⟩:=h;refine bF (b:=aR DJ) ((am (jB T.aL T.LW jE (ad 0) bn)
 (am (aO 2 Dl.nd (bf T.aJ T.oG.h (Mi T) hr.m T.oG.b .nil au (bi T.aL T.fz (ad 0)) (aa (bi T.aL T.fE (ad 0)) (aa (ad 1) ae))))
 (am (bu (cf xN (ad 2) ay) (am (aV (bf T.aL T.gG.h (uS T) hr.m T.gG.b .nil au (ad 0) (aa ap ae)))
 (aq Mr)) ci)
 (am (aO 3 Dl.nd (bf T.aJ T.fX.h (pN T) hr.m T.fX.b .nil au (bi T.aL T.fz (ad 0)) (aa (ad 2) ae)))
 (aq (bu (cf ie (ad 3) (dl (.str "folder") T.tN ⟨_,rfl⟩)) (aq (bC T.aL T.fE (ad 0) (bv (wW T) hr.m T.fR.m T.fR.F.kp T.fR.b .nil au (aa (bi T.aL T.fz (ad 0)) (aa (ad 2) ae))))) (aq (bu (ij (f8 (cf ie (ad 3) (dl (.str "file") T.A0 ⟨_,rfl⟩)) (kq (ij (Dv.w_and (cf (abJ (K:=K) rfl hr.xp) (bi T.aL T.nR (ad 0)) (cr ae)) (zm (dk (cK (bi T.aL T.JO (ad 0)))))))))) (am (bC T.aL T.xV (ad 0) (em (aa (bi T.aL T.fE (ad 0)) (aa (ad 1) ae))))
 (aq (bC T.aL T.fE (ad 0) (ad 2)))) (aq (aV (bf T.aL T.su.h (YR T) hr.m T.su.b .nil au (ad 0) (aa (ad 2) ae))))))))))))) ?_
 refine stI [some (V.ref c.x),some (V.str nm),none,none] ?_;obtain ⟨fs,hx,aY,lI,v1⟩:=v.put "looked_up" (.int ((S.look:Int)+1)) { S with look:=S.look+1 } .ay _;right;refine ⟨c.x,_,_,_,rfl,hx,lI,_,_,rfl,rfl,_,_,hx,aY,ai ?_⟩;generalize upd H c.x (.ins T.bj c.dx (aA "looked_up" (.int ((S.look:Int)+1)) fs))=H1 at v1 ⊢;obtain ⟨gW,yy,bx,jd,cT⟩:=v1.fld;obtain ⟨kb,hc,hh,rP,gU⟩:=v1.m.h;left;refine (fI bx cT rfl (mI hh gU (fI bx cT rfl ⟨c.A,c.L,c.M,S.here,a,t,v1.m,rfl,rfl,ha,aG,hn,gC,fun H2 s2=>?_⟩)));have v2:=v1.same s2;obtain ⟨jb,pj,bZ,jj,cg⟩:=v2.fld;obtain ⟨hfs2,EW,OC,hhl2,hsf2⟩:=v2.m.h;by_cases lS:aS (sD t.aQ) (.inr nm)=none
 ·have he:S'={ S with look:=S.look+1 }/\o=some (.fail "none"):=by
   cases hb with
   | no _=>exact ⟨rfl,rfl⟩
   | folder h1=>rw [lS] at h1; cases h1
   | fin h1=>rw [lS] at h1; cases h1
   | lead h1=>rw [lS] at h1; cases h1
  obtain ⟨rfl,rfl⟩:=he;rw [lS];right;refine ⟨by trivial,bK ?_⟩;right;exact (mI bZ cg ⟨c,_,lf,rfl,v2,q⟩)
 obtain ⟨k,ak,tc,hv,gD,ej⟩:∃ k a tc,aS (sD t.aQ) (.inr nm)=some (.int ((k:Nat):Int))/\c.L[k]?=some a/\c.M.ts[k]?=some tc:=by
  cases hb with
  | no h=>exact absurd h lS
  | folder h1 h2 h3=>exact ⟨_,_,_,h1,h2,h3⟩
  | fin h1 h2 h3=>exact ⟨_,_,_,h1,h2,h3⟩
  | lead h1 h2 h3=>exact ⟨_,_,_,h1,h2,h3⟩
 rw [hv];right;refine ⟨by trivial,?_⟩;rw [pc (by nofun)];refine bg ?_;right;refine (fI bZ cg rfl (mI OC hsf2 ⟨c.A,c.L,c.M,k,ak,tc,v2.m,rfl,rfl,gD,ej,?_⟩));simp only [xj];cases hb with
 | no h=>exact absurd h lS
 | folder h1 h2 h3 bT aU =>
  rw [hv] at h1; cases sR h1; rw [ej] at h3; cases h3;simp only [bT,decide_true];left;refine (fI bZ cg rfl ⟨c.A,c.L,c.M,k,_,_,ak,_,v2.m,rfl,rfl,gD,ej,aU,fun H3 s3=>?_⟩);obtain ⟨iG,dI,gR,_,v3⟩:=(v2.same s3).put "here" _ { S with look:=S.look+1,here:=dF _ _ } .ay _;exact ⟨c.x,_,_,rfl,dI,gR,q.n rfl _ v3⟩
 | fin h1 h2 h3 bT hf =>
  rw [hv] at h1; cases sR h1; rw [ej] at h3; cases h3;rw [pc bT];refine bg ?_;left;rcases hf with hf | ⟨hle,hla⟩
  ·exact et (u8 hf) ((wT trivial).mpr (DB v2 (q.n rfl)))
  ·by_cases hf:tc.kd=("file" : Str)
   ·exact et (u8 hf) ((wT trivial).mpr (DB v2 (q.n rfl)))
   refine en (pc hf) (fI bZ cg rfl ⟨fits (by simp),fun d hd=>?_⟩);have v3:=v2.same (ao.upd (o:=.lst []) hd);have b3:upd H2 d (.lst []) d=some (.lst []):=ax;generalize upd H2 d (.lst [])=H3 at v3 b3 ⊢;obtain ⟨iG,pz,dI,gR,ed⟩:=v3.fld;refine ⟨_,[],aD.of v3.ol,aD.of b3,.inl ⟨rfl,?_⟩⟩;refine et (by rw [show ({ S with look:=S.look+1 }:Ws).left=[] from hle]; rfl) (fI dI ed rfl (et (by rw [hla]; rfl) (DB v3 (q.n rfl))))
 | lead h1 h2 h3 bT jf gC hm =>
  rw [hv] at h1; cases sR h1; rw [ej] at h3; cases h3;rw [pc bT];refine bg ?_;left;refine en (pc jf) (fI bZ cg rfl ⟨fits (by simp),fun d hd=>?_⟩);have v3:=v2.same (ao.upd (o:=.lst []) hd);have b3:upd H2 d (.lst []) d=some (.lst []):=ax;generalize upd H2 d (.lst [])=H3 at v3 b3 ⊢;obtain ⟨iG,pz,dI,gR,ed⟩:=v3.fld;refine ⟨_,[],aD.of v3.ol,aD.of b3,.inl ⟨rfl,?_⟩⟩;by_cases hle:S.left=[]
  ·refine et (by rw [show ({ S with look:=S.look+1 }:Ws).left=[] from hle]; rfl) (fI dI ed rfl ?_);refine en (by cases hb:c.last with | false=>exact absurd ⟨hle,hb⟩ gC | true=>rfl) ?_;exact (mI dI ed ⟨c,_,lf,k,S',o,rfl,rfl,v3,pB,gx,hm,q⟩)
  ·refine en (by cases h:S.left with | nil=>exact absurd h hle | cons _ _=>rfl) (bg ?_);exact (mI dI ed ⟨c,_,lf,k,S',o,rfl,rfl,v3,pB,gx,hm,q⟩)
structure wA (c:Wd) (S:Ws) (t:Th):Prop where
 l:∃ a,c.L[S.here]?=some a
 e:c.M.ts[S.here]?=some t
 k:t.kd=("folder" : Str)
 g:dw ("g" : Str) (cZ t c.z)=true
def dM (S:Ws):Ws:={ S with step:=S.step+1,asked:=S.asked++[S.here] }
inductive eO (c:Wd) (S:Ws) (p:Str):Ws->Option Tl->Prop
 | flat {a t}:c.L[S.here]?=some a->c.M.ts[S.here]?=some t->t.kd≠("folder" : Str)->eO c S p { S with step:=S.step+1 } (some (.fail "flat"))
 | oJ {a t}:c.L[S.here]?=some a->c.M.ts[S.here]?=some t->t.kd=("folder" : Str)->dw ("g" : Str) (cZ t c.z)=false->eO c S p (dM S) (some (.fail "shut"))
 | dot {t}:wA c S t->p=("." : Str)->eO c S p (dM S) none
 | up {t h}:wA c S t->p=(".." : Str)->xK c S.here h->eO c S p { dM S with here:=h } none
 | go {t S' o}:wA c S t->p≠(".." : Str)->p≠("." : Str)->fq (.str p)=true->p.length<=1000->qM c (dM S) t p S' o->eO c S p S' o
def Xw (N:Cn):Sp:=jO fun x p H Q _=>X5 fun c S lf S' o=>A7 (c.x=x) (aX N c S H lf .ay) (S.asked.length<=8000) (S.left.length<=8000) (S.bG.length<=400) (eO c.toWd S p S' o) (tu N c S' lf o (Q .ay))
def Wa:T.sV.k P w mg base 10 (Xw T.cn):=by
 refine T.sV.F.ok Q6 (fun _ _ _ _ h=>eT h fun _ _ _=>rfl) fun ag A outer s H vs Q E hr h=>eT h fun x p h=>?_;obtain ⟨c,S,lf,S',o,rfl,v,hn,pB,gx,hp,q⟩:=h;obtain ⟨a,t,ha,aG⟩:∃ a t,c.L[S.here]?=some a/\c.M.ts[S.here]?=some t:=by
  cases hp with
  | flat h1 h2=>exact ⟨_,_,h1,h2⟩
  | oJ h1 h2=>exact ⟨_,_,h1,h2⟩
  | dot h=>obtain ⟨a,e⟩:=h.l; exact ⟨a,_,e,h.e⟩
  | up h=>obtain ⟨a,e⟩:=h.l; exact ⟨a,_,e,h.e⟩
  | go h=>obtain ⟨a,e⟩:=h.l; exact ⟨a,_,e,h.e⟩
 refine bF (b:=aR zL) ((am (jB T.aL T.B8 jE (ad 0) bn)
 (am (bu (cf kU (bf T.aJ T.fX.h (pN T) hr.m T.fX.b .nil au (bi T.aL T.fz (ad 0)) (aa (bi T.aL T.fE (ad 0)) ae)) (dl (.str "folder") T.tN ⟨_,rfl⟩)) (am (aV (bf T.aL T.gG.h (uS T) hr.m T.gG.b .nil au (ad 0) (aa ap ae)))
 (aq Mr)) ci)
 (am (aV (hX FS Gc kz (bi T.aL T.HU (ad 0)) (aa (bi T.aL T.fE (ad 0)) ae)))
 (aq (bu (dk (cK (cW T.aJ T.ko.h (Bu T) hr.m T.ko.b .nil di (bi T.aL T.fz (ad 0)) (aa (bi T.aL T.tH (ad 0)) (aa (bi T.aL T.fE (ad 0)) (aa ap ae)))))) (aq (aV (bf T.aL T.gG.h (uS T) hr.m T.gG.b .nil au (ad 0) (aa ap ae)))) (aq (bu (cf ie (ad 1) ap) (aq (aV (nH T.aL T.uW.h (R0 T) hr.m T.uW.b .nil au (ad 0)))) (aq (bu (cf kU (ad 1) ap) (aq (aV (bf T.aL T.uA.h (RH T) hr.m T.uA.b .nil au (ad 0) (aa (ad 1) ae)))) ci)))))))))) ?_
 refine stI [some (V.ref c.x),some (V.str p)] ?_;obtain ⟨fs,hx,aY,lI,v1⟩:=v.put "step" (.int ((S.step:Int)+1)) { S with step:=S.step+1 } .ay _;right;refine ⟨c.x,_,_,_,rfl,hx,lI,_,_,rfl,rfl,_,_,hx,aY,ai ?_⟩;generalize upd H c.x (.ins T.bj c.dx (aA "step" (.int ((S.step:Int)+1)) fs))=H1 at v1 ⊢;obtain ⟨gW,yy,bx,jd,cT⟩:=v1.fld;obtain ⟨kb,hc,hh,rP,gU⟩:=v1.m.h;left;refine (fI bx cT rfl (mI hh gU (fI bx cT rfl ⟨c.A,c.L,c.M,S.here,a,t,v1.m,rfl,rfl,ha,aG,?_⟩)));simp only [xj];by_cases bT:t.kd=("folder" : Str)
 ·simp only [bT,decide_true];refine bg ?_;right;refine (fI bx cT rfl ?_);simp only [v1.oa];refine (fI bx cT rfl ?_);have v2:=v1.P1 S.here;refine ⟨ul (KM _) (BS (by simp; omega)),?_⟩;dsimp only at v2;generalize upd H1 c.av (.lst (nV S.asked++[.int (S.here:Int)]))=H2 at v2 ⊢;obtain ⟨jb,pj,bZ,jj,cg⟩:=v2.fld;obtain ⟨iH,gc,gh,m6,c9⟩:=v2.m.h;refine (fI bZ cg rfl (mI gh c9 (fI bZ cg rfl (fI bZ cg rfl (Bx v2.m (by rw [v2.hz]; rfl) (by decide +kernel) aG ?_)))));cases hp with
  | flat h1 h2 h3=>rw [aG] at h2; cases h2; exact absurd bT h3
  | oJ h1 h2 h3 h4 =>
   rw [aG] at h2; cases h2;rw [h4];exact bK (mI bZ cg ⟨c,_,lf,rfl,v2,q⟩)
  | dot hA h5 =>
   have h2:=hA.e; rw [aG] at h2; cases h2;subst h5;rw [hA.g];exact bg (en (pc (by decide +kernel)) (en (by rw [u8 rfl]; rfl) (q.n rfl _ v2)))
  | up hA h5 hu =>
   have h2:=hA.e; rw [aG] at h2; cases h2;subst h5;rw [hA.g];exact bg (et (u8 rfl) (mI bZ cg ⟨c,_,lf,_,rfl,v2,hu,q.n rfl⟩))
  | go hA h5 h6 h7 h8 hb =>
   have h2:=hA.e; rw [aG] at h2; cases h2;rw [hA.g];exact bg (en (pc h5) (et (by rw [pc h6]; rfl) (mI bZ cg ⟨c,_,lf,a,_,_,_,rfl,v2,ha,aG,h7,h8,pB,gx,hb,q⟩)))
 ·refine et (by rw [pc bT]; rfl) ?_;right;have hf:S'={ S with step:=S.step+1 }/\o=some (.fail "flat"):=by
   cases hp with
   | flat h1 h2 h3=>exact ⟨rfl,rfl⟩
   | oJ h1 h2 h3 h4=>rw [aG] at h2; cases h2; exact absurd h3 bT
   | dot hA=>have h2:=hA.e; rw [aG] at h2; cases h2; exact absurd hA.k bT
   | up hA=>have h2:=hA.e; rw [aG] at h2; cases h2; exact absurd hA.k bT
   | go hA=>have h2:=hA.e; rw [aG] at h2; cases h2; exact absurd hA.k bT
  obtain ⟨rfl,rfl⟩:=hf;exact (mI bx cT ⟨c,_,lf,rfl,v1,q⟩)
def wR (c:Nat):∀ (ns:List Str) (n:Nat),(∀ s∈ns,s.length<=8)->ns.foldl (fun n z=>n+z.length+c) n<=n+(8+c) * ns.length
 | [],n,_=>by simp
 | y::r,n,h=>by
  have h1:=h y (by simp);have h2:=wR c r (n+y.length+c) fun s hs=>h s (by simp [hs]);rw [List.foldl_cons,Ev,Nat.mul_add];omega
def aao {ns:List Str} (h:∀ s∈ns,s.length<=8) (hl:ns.length<=100):ns.foldl (fun n z=>n+z.length+(Str.ofString "/").length) 0<=900/\(Str.join (Str.ofString "/") ns).length<=900:=by
 have lj:(Str.ofString "/").length=1:=by decide +kernel
 have h1:=wR 1 ns 0 h;have h2:=StrLaws.join_length_le (Str.ofString "/") ns;have h3:(ns.map (·.length)).sum<=8 * ns.length:=by
  clear h1 h2 hl
  induction ns with
  | nil=>simp
  | cons y r ih =>
   have:=ih fun s hs=>h s (by simp [hs]);have h4:=h y (by simp);rw [xz,List.sum_cons,Ev];omega
 rw [lj] at h2 ⊢;omega
def zG (ns:List Str):Str:=Str.ofString "/" ++ Str.join (Str.ofString "/") ns
def ZT (N:Cn):Sp:=gL fun x H Q _=>X9 fun c S lf (f:Nat) (a:Ta) (t:Th) (ns:List Str) (cN:List Str) (told:V)=>A9 (c.x=x) (aX N c S H lf told) (c.L[S.here]?=some a) (c.M.ts[S.here]?=some t) (t.kd=("folder" : Str)/\f=S.here/\cN=[]\/t.kd≠("folder" : Str)/\∃ nm:Str,S.place=some (f,nm)/\cN=[nm]/\nm.length<=8) (∃ m,ju c.M c.L c.root m f ns) (ns.length<=99) (∀ s∈ns,s.length<=8) (∀ H',ao H H'->Q (.str (zG (ns++cN))) H')
def QY:T.uK.k P w mg base 7 (ZT T.cn):=by
 refine T.uK.F.ok tI (fun _ _ _ _ h=>cX h fun _ _=>rfl) fun ag A outer s H vs Q E hr h=>cX h fun x h=>?_;obtain ⟨c,S,lf,f,a,t,ns,cN,told,rfl,v,ha,aG,hk,eJ,hl100,Nz,q⟩:=h;refine bF (b:=aR CI) ((am (aO 1 tI.nd (cr ae))
 (am (aO 2 tI.nd (bi T.aL T.fE (ad 0)))
 (am (bu (cf kU (bf T.aJ T.fX.h (pN T) hr.m T.fX.b .nil au (bi T.aL T.fz (ad 0)) (aa (bi T.aL T.fE (ad 0)) ae)) (dl (.str "folder") T.tN ⟨_,rfl⟩)) (am (aO 2 tI.nd (ce (bh (K:=K) rfl) (bi T.aL T.xV (ad 0)) bn))
 (aq (aO 1 tI.nd (cr (aa (ce (bh (K:=K) rfl) (bi T.aL T.xV (ad 0)) bn) ae))))) ci)
 (aq (aM (db gj ap (qj _V _W (Ao (K:=K) rfl) ap (aa (db gj (bv (RP T) hr.m T.pO.m T.pO.F.kp T.pO.b .nil au (aa (bi T.aL T.fz (ad 0)) (aa (bi T.aL T.tH (ad 0)) (aa (ad 2) ae)))) (ad 1)) ae))))))))) ?_
 refine stI [some (V.ref c.x),none,none] ?_;right;refine ⟨fits (by simp),fun ln yC=>?_⟩;refine ee (o:=.lst []) yC fun H1 s1 b1=>?_;have v1:=v.same s1;obtain ⟨fs,pv,hx,aY,NA,sf⟩:=v1.o;obtain ⟨kb,hc,hh,rP,gU⟩:=v1.m.h;right;refine (fI hx sf rfl ?_);refine kS (fun σ' H'=>∃ ln',σ'=[some (V.ref c.x),some (V.ref ln'),some (V.int (f:Int))]/\ao H H'/\H' ln'=some (.lst (cN.map V.str))/\cN.length<=1/\∀ s∈cN,s.length<=8) ?_ ?_
 ·left;refine (fI hx sf rfl (mI hh gU (fI hx sf rfl ⟨c.A,c.L,c.M,S.here,a,t,v1.m,rfl,rfl,ha,aG,?_⟩)));simp only [xj];rcases hk with ⟨bT,rfl,rfl⟩ | ⟨bT,nm,bB,rfl,cw⟩
  ·refine en (by rw [u8 bT]; rfl) ?_;exact ⟨ln,rfl,s1,b1,by simp,fun s hs=>(by cases hs)⟩
  ·refine et (by rw [pc bT]; rfl) ?_;rw [bB] at NA;obtain ⟨p,rfl,p0,hp⟩:=NA;right;refine (fI hx sf rfl ?_);simp only [bJ,hp,eD];refine (fI hx sf rfl ?_);simp only [hp,wK];exact ⟨fits (by simp),fun p2 eK=>⟨p2,rfl,s1.trans (ao.upd eK),by rw [ax]; rfl,by simp,fun s hs=>by rw [AT.mp hs]; exact cw⟩⟩
 rintro σ' H2 ⟨l2,rfl,s2,b2,lY,h8⟩;have v2:=v.same s2;obtain ⟨jb,pj,bZ,jj,cg⟩:=v2.fld;left;refine (fI bZ cg rfl (fI bZ cg rfl ⟨c.A,c.L,c.M,f,c.root,ns,v2.m,rfl,rfl,v2.hz,eJ,by omega,fun l H3 s3 hl=>?_⟩));have c3:=s3 _ _ b2;simp only [hl,c3];have hn8':∀ s∈ns++cN,s.length<=8:=fun s hs=>by
  rcases KB.mp hs with hs | hs
  ·exact Nz s hs
  ·exact h8 s hs
 obtain ⟨rX,yS⟩:=aao hn8' (by rw [sK]; omega);have lj:(Str.ofString "/").length=1:=by decide +kernel
 refine ⟨fits (by simp only [nn]; omega),fun p hp=>?_⟩;refine ⟨_,aD.of ax,ns++cN,by simp,?_⟩;exact ⟨fits (by omega),fits (by omega),q _ ((s2.trans s3).trans (ao.upd hp))⟩
structure Bd (S:Ws):Prop where
 a:S.asked.length<=S.step
 p:S.step+S.left.length+125 * (40 - S.read)<=8000
 r:S.bG.length<=S.read
 q:S.read<=40
def DQ (ps:List Str):(df ps).length=ps.length:=by unfold df; simp
def uL.bd {c:Wd} {S S':Ws} {k:Nat} (h:uL c S k S') (a:S.asked.length<=S.step) (p:S.step+S.left.length+125 * (40 - S.read)<=8000) (r:S.bG.length<=S.read) (q:S.read < 40):Bd S':=by
 cases h with
 | @mk _ _ t _ _ _ _ h1 h2 h3 h4 h5 h6 h7 _ _ _ =>
  have e:=DQ (e8 t);refine ⟨a,?_,by unfold hU; simp; omega,by unfold hU; simp; omega⟩;unfold hU;simp only [sK,Ev,_E,e];omega
def eO.SA {c:Wd} {S S1:Ws} {p:Str} {o:Option Tl} (ba:S.asked.length<=S.step) (bp:S.step+1+S.left.length+125 * (40 - S.read)<=8000) (br:S.bG.length<=S.read) (bq:S.read<=40) (h:eO c S p S1 o):Bd S1:=by
 cases h with
 | flat=>exact ⟨by dsimp only; omega,by dsimp only; omega,br,bq⟩
 | oJ=>exact ⟨by unfold dM; simp; omega,by unfold dM; dsimp only; omega,br,bq⟩
 | dot=>exact ⟨by unfold dM; simp; omega,by unfold dM; dsimp only; omega,br,bq⟩
 | up=>exact ⟨by unfold dM; simp; omega,by unfold dM; dsimp only; omega,br,bq⟩
 | go _ _ _ _ _ hb =>
  have a2:(dM S).asked.length<=(dM S).step:=by unfold dM; simp; omega
  have p2:(dM S).step+(dM S).left.length+125 * (40 - (dM S).read)<=8000:=by unfold dM; dsimp only; omega
  cases hb with
  | no=>exact ⟨a2,p2,br,bq⟩
  | folder=>exact ⟨a2,p2,br,bq⟩
  | fin=>exact ⟨a2,p2,br,bq⟩
  | lead _ _ _ _ _ _ hm =>
   cases hm with
   | ring=>exact ⟨a2,p2,br,bq⟩
   | many=>exact ⟨a2,p2,br,bq⟩
   | read _ h40 hr=>exact hr.bd a2 p2 br (Nat.lt_of_le_of_ne bq h40)
def eO.bd {c:Wd} {S S1:Ws} {l:List (Sum Nat Str)} {p:Str} {o:Option Tl} (b:Bd S) (e:S.left=l++[.inr p]) (h:eO c { S with left:=l } p S1 o):Bd S1:=by
 have bp:=b.p;rw [e,sK] at bp;have e1:[Sum.inr (α:=Nat) p].length=1:=rfl;exact eO.SA (S:={ S with left:=l }) b.a (by dsimp only; omega) b.r b.q h
inductive fB (c:Wd):Nat->Ws->Ws->Option Tl->Prop
 | done {S}:S.left=[]->fB c 0 S S none
 | pop {n S k l r j S' o}:S.left=l++[.inl k]->S.bG=r++[j]->fB c n { S with left:=l,bG:=r } S' o->fB c (n+1) S S' o
 | step {n S p l S1 S' o}:S.left=l++[.inr p]->eO c { S with left:=l } p S1 none->fB c n S1 S' o->fB c (n+1) S S' o
 | fail {S p l S1 y}:S.left=l++[.inr p]->eO c { S with left:=l } p S1 (some y)->fB c 0 S S1 (some y)
abbrev Cw (k:Nat) (ns:List Str):List (Str×V):=aA "way" (.str (zG ns)) (aA "number" (.int (k:Int)) [])
def wB (M:Hs) (L:List Ta) (root:Nat) (S:Ws) (ns cN:List Str):Prop:=∃ (f:Nat) (a:Ta) (t:Th),L[S.here]?=some a/\M.ts[S.here]?=some t /\
   (t.kd=("folder" : Str)/\f=S.here/\cN=[]\/t.kd≠("folder" : Str)/\∃ nm:Str,S.place=some (f,nm)/\cN=[nm]/\nm.length<=8)/\(∃ m,ju M L root m f ns)/\ns.length<=99/\(∀ s∈ns,s.length<=8)
def Py (N:Cn):Sp:=gL fun x H Q _=>X6 fun c S lf n S' o=>A6 (c.x=x) (aX N c S H lf .ay) (Bd S) (fB c.toWd n S S' o) (∀ y,o=some y->∀ fd H',aX N c S' H' lf (.ref fd)->uP N c.H0 H' S'.step fd y->Q .ay H') (o=none->∃ ns cN,wB c.M c.L c.root S' ns cN/\∀ fd bA H',aX N c S' H' lf (.ref fd)->c.H0 fd=none->H' fd=some (.ins N.CG bA (Cw S'.here (ns++cN)))->Q .ay H')
def QK:T.tJ.k P w mg base 11 (Py T.cn):=by
 refine T.tJ.F.ok Mb (fun _ _ _ _ h=>cX h fun _ _=>rfl) fun ag A outer s H vs Q E hr h=>cX h fun x h=>?_;obtain ⟨c,S,lf,n,S',o,rfl,v,fP,jZ,q1,q2⟩:=h;refine bF (b:=aR DU) ((am (t9 Wp (ij (Dv.w_and (cf xN (bi T.aL T.mF (ad 0)) ay) (zm (cf (RJ (K:=K) rfl hr.xp) (bi T.aL T.nR (ad 0)) (cr ae))))) (am (aO 1 Mb.nd (K5 PySem.F.slot_list_pop PySem.F.type_list_pop LQ (bi T.aL T.nR (ad 0))))
 (aq (bu (cK (bv (MS T) hr.m T.kE.m T.kE.F.kp T.kE.b .nil au (aa (ad 1) ae))) (aq (aV (K5 PySem.F.slot_list_pop PySem.F.type_list_pop LQ (bi T.aL T.rm (ad 0))))) (aq (aV (bf T.aL T.sV.h (Wa T) hr.m T.sV.b .nil au (ad 0) (aa (ad 1) ae))))))))
 (aq (bu (cf xN (bi T.aL T.mF (ad 0)) ay) (aq (bC T.aL T.mF (ad 0) (im T.WL (TB T) hr.m T.xS T.sE.b .nil au (aa (bi T.aL T.fE (ad 0)) (aa (nH T.aL T.uK.h (QY T) hr.m T.uK.b .nil au (ad 0)) ae))))) ci)))) ?_
 refine stI [some (V.ref c.x),none] ?_;obtain ⟨PV,lL⟩:∃ PV:Nat->St->Hp->Prop,PV=fun m σ' H'=>∃ pv:Option V,σ'=[some (V.ref c.x),pv] /\
   ((∃ n S,m=n+1/\aX T.cn c S H' lf .ay/\Bd S/\fB c.toWd n S S' o) \/
     (∃ y fd,m=0/\o=some y/\aX T.cn c S' H' lf (.ref fd)/\uP T.cn c.H0 H' S'.step fd y)):=⟨_,rfl⟩
 refine ai ?_;refine ⟨PV,⟨n+1,by rw [lL]; exact ⟨none,rfl,.inl ⟨n,S,rfl,v,fP,jZ⟩⟩⟩,?_⟩;clear v fP jZ;intro m σ' H' hI;rw [lL] at hI;obtain ⟨pv,rfl,⟨n,S,hm,v1,fP,jZ⟩ | ⟨y,fd,hm,ho,v1,aZ⟩⟩:=hI
 ·left;obtain ⟨gW,yy,bx,jd,cT⟩:=v1.fld;refine (fI bx cT rfl ⟨by trivial,bK ?_⟩);refine (fI bx cT rfl ⟨fits (by simp),fun d hd=>?_⟩);have v2:=v1.same (ao.upd (o:=.lst []) hd);have b2:upd H' d (.lst []) d=some (.lst []):=ax;generalize upd H' d (.lst [])=H2 at v2 b2 ⊢;obtain ⟨jb,pj,bZ,jj,cg⟩:=v2.fld;refine ⟨_,[],aD.of v2.ol,aD.of b2,.inl ⟨rfl,?_⟩⟩;cases jZ with
  | done hle =>
   refine en (by rw [hle]; rfl) ?_;refine (fI bZ cg rfl ⟨by trivial,bK ?_⟩);obtain ⟨ns,cN,⟨f,a,t,h1,h2,h3,h4,h5,h6⟩,q⟩:=q2 rfl;refine (fI bZ cg rfl (mI bZ cg ⟨c,_,lf,f,a,t,ns,cN,_,rfl,v2,h1,h2,h3,h4,h5,h6,fun H3 s3=>?_⟩));intro fd bA aZ hdfd nfd;have s4:=(ao.upd (o:=.own fd) hdfd).trans (ao.upd (p:=fd) (o:=.ins T.dH bA []) (by rw [ah (pi nfd)]; exact aZ));have b4:upd (upd H3 bA (.own fd)) fd (.ins T.dH bA []) fd=some (.ins T.dH bA []):=ax;generalize upd (upd H3 bA (.own fd)) fd (.ins T.dH bA [])=H4 at s4 b4 ⊢;refine ⟨bA,b4,rfl,?_⟩;obtain ⟨vw,lH,fh,v6,f0,nx⟩:=(v2.same s3).tells (t:=.ring []) (F:=Cw S'.here (ns++cN)) aZ s4 b4;exact ⟨c.x,_,_,rfl,lH,fh,q fd bA _ v6 f0 (by rw [ah (pi nx)]; exact ax)⟩
  | @pop n _ k l r j _ _ hle jR jZ =>
   refine et (by rw [hle]; cases l <;> rfl) ⟨_,fun _ _ h=>h,?_⟩;right;refine (fI bZ cg rfl ?_);simp only [v2.ol];refine ⟨l.map dC,V.int (k:Int),by rw [hle,IN]; rfl,?_⟩;have v3:=v2.tU l;generalize upd H2 lf (.lst (l.map dC))=H3 at v3 ⊢;obtain ⟨iG,pz,dI,gR,ed⟩:=v3.fld;refine ⟨⟨_,rfl⟩,bK ?_⟩;refine (fI dI ed rfl ?_);simp only [v3.od];refine ⟨nV r,V.int (j:Int),by rw [jR,oP]; rfl,n+1,by omega,?_⟩;have v4:=v3.GX r;dsimp only at v4;rw [lL];have ba:=fP.a; have bp:=fP.p; have br:=fP.r; have bq:=fP.q;rw [hle,sK] at bp;rw [jR,sK] at br;exact ⟨_,rfl,.inl ⟨n,_,rfl,v4,⟨ba,by dsimp only; omega,by dsimp only; omega,bq⟩,jZ⟩⟩
  | @step n _ p l S1 _ _ hle aU jZ =>
   refine et (by rw [hle]; cases l <;> rfl) ⟨_,fun _ _ h=>h,?_⟩;right;refine (fI bZ cg rfl ?_);simp only [v2.ol];refine ⟨l.map dC,V.str p,by rw [hle,IN]; rfl,?_⟩;have v3:=v2.tU l;generalize upd H2 lf (.lst (l.map dC))=H3 at v3 ⊢;obtain ⟨iG,pz,dI,gR,ed⟩:=v3.fld;refine ⟨⟨_,rfl⟩,bg ?_⟩;have ba:=fP.a; have bp:=fP.p; have br:=fP.r; have bq:=fP.q;rw [hle,sK] at bp;refine (mI dI ed ⟨c,_,lf,_,_,rfl,v3,by dsimp only; omega,by dsimp only; omega,by dsimp only; omega,aU,fun _ H4 v4=>⟨n+1,by omega,?_⟩,fun y hy=>by cases hy⟩);rw [lL];exact ⟨_,rfl,.inl ⟨n,S1,rfl,v4,aU.bd fP hle,jZ⟩⟩
  | @fail _ p l _ y hle aU =>
   refine et (by rw [hle]; cases l <;> rfl) ⟨_,fun _ _ h=>h,?_⟩;right;refine (fI bZ cg rfl ?_);simp only [v2.ol];refine ⟨l.map dC,V.str p,by rw [hle,IN]; rfl,?_⟩;have v3:=v2.tU l;generalize upd H2 lf (.lst (l.map dC))=H3 at v3 ⊢;obtain ⟨iG,pz,dI,gR,ed⟩:=v3.fld;refine ⟨⟨_,rfl⟩,bg ?_⟩;have ba:=fP.a; have bp:=fP.p; have br:=fP.r; have bq:=fP.q;rw [hle,sK] at bp;refine (mI dI ed ⟨c,_,lf,_,_,rfl,v3,by dsimp only; omega,by dsimp only; omega,by dsimp only; omega,aU,(fun z=>by cases z),fun y' hy fd H4 v4 hf=>⟨0,by omega,?_⟩⟩);cases hy;rw [lL];exact ⟨_,rfl,.inr ⟨y,fd,rfl,rfl,v4,hf⟩⟩
 ·left;obtain ⟨gW,yy,bx,jd,cT⟩:=v1.fld;refine (fI bx cT rfl ⟨by trivial,?_⟩);refine en (pc (by nofun)) ?_
  first
   | exact (fI bx cT rfl ⟨by trivial,en (pc (by nofun)) (q1 y ho fd _ v1 aZ)⟩)
   | exact bg (fI bx cT rfl ⟨by trivial,en (pc (by nofun)) (q1 y ho fd _ v1 aZ)⟩)
   | (left; exact (fI bx cT rfl ⟨by trivial,en (pc (by nofun)) (q1 y ho fd _ v1 aZ)⟩))
inductive Res
 | found (k:Nat) (ns:List Str)
 | failed (k:Nat) (y:Str)
 | ring (ns:List Nat)
structure End where
 asked:List Nat
 res:Res
def iU (N:Cn) (H:Hp) (fd:Addr):Res->Prop
 | .found k ns=>∃ bA,H fd=some (.ins N.CG bA (Cw k ns))
 | .failed k y=>∃ bA,H fd=some (.ins N.CF bA (DW k y))
 | .ring ns=>∃ bA rl,H fd=some (.ins N.CR bA (aA "leads" (.ref rl) []))/\H rl=some (.lst (nV ns))
def iU.same {N:Cn} {H H':Hp} {fd:Addr} (s:ao H H'):∀ {r:Res},iU N H fd r->iU N H' fd r
 | .found _ _,⟨d,e⟩=>⟨d,s _ _ e⟩
 | .failed _ _,⟨d,e⟩=>⟨d,s _ _ e⟩
 | .ring _,⟨d,l,e,f⟩=>⟨d,l,s _ _ e,s _ _ f⟩
def CO (step:Nat):Tl->Res
 | .fail y=>.failed step y
 | .ring ns=>.ring ns
def uP.r {N:Cn} {H0 H:Hp} {k:Nat} {fd:Addr}:∀ {t:Tl},uP N H0 H k fd t->iU N H fd (CO k t)
 | .fail _,⟨_,d,e⟩=>⟨d,e⟩
 | .ring _,⟨_,d,l,e,f⟩=>⟨d,l,e,f⟩
structure xY (d:Wd) (fr:Bool) (h:Nat):Prop where
 z:aS (sD d.M.ro) (.inr d.z)=some (.int (d.root:Int))
 ex:∃ (st b:Nat) (r:List Nat) (a:Ta) (t:Th),(fr=true/\st=d.root\/fr=false/\aS (sD d.M.st) (.inr d.z)=some (.int (st:Int)))/\d.L[st]?=some a/\d.M.ts[st]?=some t/\du d.M st b r/\(∃ m,kK d.M d.L d.root m (dF b r) true)/\h=dF b r
inductive my (d:Wd) (fr:Bool) (ps:List Str):End->Prop
 | told {h n S' t}:xY d fr h->ps.length<=2500->fB d n ⟨h,none,0,[],df ps,[],0,0⟩ S' (some t)->my d fr ps ⟨S'.asked,CO S'.step t⟩
 | found {h n S' ns cN}:xY d fr h->ps.length<=2500->fB d n ⟨h,none,0,[],df ps,[],0,0⟩ S' none->wB d.M d.L d.root S' ns cN->my d fr ps ⟨S'.asked,.found S'.here (ns++cN)⟩
def sN (N:Cn) (H H':Hp) (e:End) (x:Addr):Prop:=ao H H'/\∃ dx gs fd av,H' x=some (.ins N.CW dx gs)/\gs.lookup ("told" : Str)=some (.ref fd)/\iU N H' fd e.res/\gs.lookup ("asked" : Str)=some (.ref av)/\H' av=some (.lst (nV e.asked))
def sN.of {N:Cn} {H H1 H2:Hp} {e:End} {x:Addr} (s:ao H H1) (h:sN N H1 H2 e x):sN N H H2 e x:=⟨s.trans h.1,h.2⟩
def aag (N:Cn):Sp:=K9 fun h z fr lp last H Q _=>X6 fun A L M root ps e=>A5 (aH N.CH N.CS N.CT H A L M) (A.a=h) (H lp=some (.lst (ps.map V.str))) (my ⟨L,M,z,last,root⟩ fr ps e) (∀ x H',sN N H H' e x->Q (.ref x) H')
def GR:T.kW.k P w base 12 (aag T.cn):=by
 refine T.kW.F.ok Mo (fun _ _ _ _ h=>Mt h fun _ _ _ _ _ _=>rfl) fun ag A outer s H vs Q E hr h=>Mt h fun hh z fr lp last h=>?_;obtain ⟨AA,L,M,root,ps,e,i,rfl,pE,g,q⟩:=h;obtain ⟨m7,bz,hb,gB,n,S',o,jZ,f1,f2⟩:∃ h,aS (sD M.ro) (.inr z)=some (.int (root:Int))/\xY ⟨L,M,z,last,root⟩ fr h/\ps.length<=2500/\∃ n S' o,fB ⟨L,M,z,last,root⟩ n ⟨h,none,0,[],df ps,[],0,0⟩ S' o/\(∀ y,o=some y->e=⟨S'.asked,CO S'.step y⟩)/\(o=none->∃ ns cN,wB M L root S' ns cN/\e=⟨S'.asked,.found S'.here (ns++cN)⟩):=by
  cases g with
  | told b hp hr=>exact ⟨_,b.z,b,hp,_,_,_,hr,fun y hy=>(by cases hy; rfl),fun z=>(by cases z)⟩
  | found b hp hr ht=>exact ⟨_,b.z,b,hp,_,_,_,hr,fun y hy=>(by cases hy),fun _=>⟨_,_,ht,rfl⟩⟩
 obtain ⟨st,b,r,a,t,aU,ha,ht,vo,yH,rfl⟩:=hb.ex;refine bF (b:=aR B6) ((am (aO 5 Mo.nd (im T.Qq (Rh T) hr.m T.XZ T.vb.b .nil au (aa (ad 0) (aa (ad 1) (aa (ad 4) ae)))))
 (am (aV (bf T.aL T.vf.h (Ss T) hr.m T.vf.b .nil au (ad 5) (aa (ad 2) (aa (ad 3) ae))))
 (am (aV (nH T.aL T.tJ.h (QK T) hr.m T.tJ.b .nil au (ad 5)))
 (aq (aM (ad 5))))))) ?_
 refine stI [some (V.ref AA.a),some (V.str z),some (V.bl fr),some (V.ref lp),some (V.bl last),none] ?_;right;intro x dx hx lR ndx;have s1:=(ao.upd (o:=.own x) lR).trans (ao.upd (p:=x) (o:=.ins T.bj dx []) (by rw [ah (pi ndx)]; exact hx));have b1:upd (upd H dx (.own x)) x (.ins T.bj dx []) x=some (.ins T.bj dx []):=ax;generalize upd (upd H dx (.own x)) x (.ins T.bj dx [])=H1 at s1 b1 ⊢;refine ⟨AA,L,M,dx,H,root,i,rfl,b1,s1,hx,bz,fun av lf rd H2 v2=>?_⟩;refine ⟨rfl,ai ?_⟩;left;obtain ⟨jb,pj,bZ,jj,cg⟩:=v2.fld;refine (mI bZ cg ⟨_,_,lf,st,b,ps,r,a,t,true,rfl,v2,v2.s _ _ pE,aU,ha,ht,vo,yH,fun _ lf' H3 v3=>ai ?_,fun z=>by cases z⟩);left;obtain ⟨iG,pz,dI,gR,ed⟩:=v3.fld;refine (mI dI ed ⟨_,_,lf',n,S',o,rfl,v3,⟨wP _,by have:=DQ ps; dsimp only; omega,wP _,wP _⟩,jZ,fun y hy fd H4 v4 aZ=>?_,fun ho=>?_⟩)
 ·obtain ⟨rL,NY,jc,ph,pK⟩:=v4.fld;have he:=f1 y hy;exact q x H4 ⟨v4.s,dx,rL,fd,av,jc,(pK _).trans rfl,by rw [he]; exact aZ.r,(pK _).trans rfl,by rw [he]; exact v4.oa⟩
 ·obtain ⟨ns,cN,ht,he⟩:=f2 ho;refine ⟨ns,cN,ht,fun fd bA H4 v4 f0 aZ=>?_⟩;obtain ⟨rL,NY,jc,ph,pK⟩:=v4.fld;exact q x H4 ⟨v4.s,dx,rL,fd,av,jc,(pK _).trans rfl,by rw [he]; exact ⟨bA,aZ⟩,(pK _).trans rfl,by rw [he]; exact v4.oa⟩
structure dO (d:Wd) (t:List Nat) (e:End):Prop where
 l1:1<=t.length
 l2:t.length<=2000
 all:(Tx.words 47 t).all cL=true
 g:my d (dJ t) (e8 t) e
def dO.hz {d:Wd} {t:List Nat} {e:End} (p:dO d t e):(aS (sD d.M.ro) (.inr d.z)).isSome=true:=by
 cases p.g with
 | told b=>rw [b.z]; rfl
 | found b=>rw [b.z]; rfl
def aa3 (N:Cn):Sp:=AE fun h z pt last H Q _=>X6 fun A L M root t e=>A5 (pt=Tx.S t) (aH N.CH N.CS N.CT H A L M) (A.a=h) (dO ⟨L,M,z,last,root⟩ t e) (∀ x H',sN N H H' e x->Q (.ref x) H')
def Q8:T.qo.k P w base 13 (aa3 T.cn):=by
 refine T.qo.F.ok Nf (fun _ _ _ _ h=>wx h fun _ _ _ _ _=>rfl) fun ag A outer s H vs Q E hr h=>wx h fun hh z pt last h=>?_;obtain ⟨AA,L,M,root,t,e,rfl,i,rfl,pg,q⟩:=h;obtain ⟨kb,hc,hh,rP,gU⟩:=i.h;refine bF (b:=aR BP) ((am (aV (cW T.aJ T.dU.h (kP T) hr.m T.dU.b .nil di (ad 0) (aa (ad 1) ae)))
 (am (aO 4 Nf.nd (bv (jr T) hr.m T.cy.m T.cy.F.kp T.cy.b .nil au (aa (ad 2) ae)))
 (aq (aM (bv (GR T) hr.m T.kW.m T.kW.F.kp T.kW.b .nil au (aa (ad 0) (aa (ad 1) (aa (ce (bh (K:=K) rfl) (ad 4) bn) (aa (ce (bh (K:=K) rfl) (ad 4) bn) (aa (ad 3) ae))))))))))) ?_
 refine stI [some (V.ref AA.a),some (V.str z),some (V.str (Tx.S t)),some (V.bl last),none] ?_;right;refine (mI hh gU (me i pg.hz (ai ?_)));left;refine ⟨t,rfl,pg.l1,pg.l2,pg.all,fun H1 l p s1 _ hl hp=>?_⟩;simp only [bJ,hp];left;rw [show cD [V.bl (dJ t),V.ref l] 0=some (V.bl (dJ t)) from rfl,show cD [V.bl (dJ t),V.ref l] 1=some (V.ref l) from rfl];rw [Kg] at hl;exact ⟨AA,L,M,root,_,e,i.same s1,rfl,hl,pg.g,fun x H2 f=>q x H2 (f.of s1)⟩
def Up (N:Cn):Sp:=AE fun h z pt last H Q _=>X6 fun A L M root t e=>A5 (pt=Tx.S t) (aH N.CH N.CS N.CT H A L M) (A.a=h) (dO ⟨L,M,z,last,root⟩ t e) (∀ fd H',ao H H'->iU N H' fd e.res->Q (.ref fd) H')
def K1:aC P w K mg base aN 14 T.EV T.yE ["house","asker","path","last"] (Up T.cn):=by
 refine T.sL.ok SH (fun vs H Q E h=>?_) (fun ag A outer s H vs Q E hr h=>?_)
 ·exact wx h fun _ _ _ _ _=>rfl
 ·refine wx h fun hh z pt last h=>?_;obtain ⟨AA,L,M,root,t,e,rfl,i,rfl,pg,q⟩:=h;refine bF (b:=aR vd) ((aq (aM (bi T.aL T.mF (bv (Q8 T) hr.m T.qo.m T.qo.F.kp T.qo.b .nil au (aa (ad 0) (aa (ad 1) (aa (ad 2) (aa (ad 3) ae))))))))) ?_;refine stI [some (V.ref AA.a),some (V.str z),some (V.str (Tx.S t)),some (V.bl last)] ?_;left;refine ⟨AA,L,M,root,t,e,rfl,i,rfl,pg,fun x H1 ⟨s1,dx,gs,fd,av,hx,Gj,aZ,xF,rO⟩=>?_⟩;exact ⟨x,_,_,_,rfl,hx,Gj,q fd H1 s1 aZ⟩
inductive Rf
 | cO (y:Str)
 | way (r:Res)
def c7 (N:Cn) (H:Hp) (E:XK):Rf->Prop
 | .cO y=>∀ d H',ao H H'->H' d=some (.xd [("reason",.str y)])->E (.ref N.CD) (some d) H'
 | .way r=>∀ fd d H',ao H H'->iU N H' fd r->H' d=some (.xd [("told",.ref fd)])->E (.ref N.CN) (some d) H'
def c7.of {N:Cn} {H H1:Hp} {E:XK} {r:Rf} (s:ao H H1) (h:c7 N H E r):c7 N H1 E r:=by
 cases r with
 | cO y=>exact fun d H' s' e=>h d H' (s.trans s') e
 | way k=>exact fun fd d H' s' e1 e2=>h fd d H' (s.trans s') e1 e2
def c7.raise {N:Cn} {H H1:Hp} {E:XK} {y:Str} {d:Addr} (h:c7 N H E (.cO y)) (s:ao H H1) (hd:H1 d=none):E (.ref N.CD) (some d) (upd H1 d (.xd [("reason",.str y)])):=h d _ (s.trans (ao.upd hd)) ax
def qk:T.jD.k P w mg base 1 (mP T.eV "reason"):=by
 refine T.jD.F.ok Rp (fun vs H Q E h=>?_) (fun ag A outer s H vs Q E hr h=>?_)
 ·unfold mP at h;split at h
  ·rfl
  ·exact h.elim
 ·unfold mP at h;split at h
  ·rename_i ea y;obtain ⟨he,q⟩:=h;refine ⟨_,((aq (Jo T.mw (ad 0) (ad 1)))).h,?_⟩;refine stI [some (.ref ea),some y] ?_;walk_at "rd";exact ⟨ea,rfl,he,q⟩
  ·exact h.elim
def Wk:T.uN.k P w mg base 1 (mP T.eX "told"):=by
 refine T.uN.F.ok Uq (fun vs H Q E h=>?_) (fun ag A outer s H vs Q E hr h=>?_)
 ·unfold mP at h;split at h
  ·rfl
  ·exact h.elim
 ·unfold mP at h;split at h
  ·rename_i ea y;obtain ⟨he,q⟩:=h;refine ⟨_,((aq (Jo T.Ca (ad 0) (ad 1)))).h,?_⟩;refine stI [some (.ref ea),some y] ?_;walk_at "rd";exact ⟨ea,rfl,he,q⟩
  ·exact h.elim
def Y4 (N:Cn):Sp:=gL fun fd H Q E=>X1 fun r=>A3 (iU N H fd r) (∀ k ns,r=.found k ns->Q (.int (k:Int)) H) ((∀ k ns,r≠.found k ns)->c7 N H E (.way r))
def Ly:aC P w K mg base (bo P w) 3 T.kx.f T.kx.d ["told"] (Y4 T.cn):=by
 refine T.kx.F.dE aa1 (fun _ _ _ _ h=>cX h fun _ _=>rfl) fun ag A outer s H vs Q E hr h=>cX h fun fd h=>?_;obtain ⟨r,aZ,q1,q2⟩:=h;refine bF (b:=aR BR) ((am (bu (dk (cK (cY (wL (K:=K) rfl) T.gF gK (aa (ad 0) (aa (dl (.ref T.dH) T.xS rfl) ae))))) (aq (nU oX rfl rfl T.MF T.Ca T.Rn (Wk T) hr.m T.uN.b (aa (ad 0) ae))) ci)
 (aq (aM (bi T.iQ T.qC (ad 0)))))) ?_
 refine stI [some (V.ref fd)] ?_;right;cases r with
 | found k ns =>
  obtain ⟨bA,hf⟩:=aZ;exact ⟨_,_,_,.of (.ins hf T.iQ T.q1 T.q2 T.q3 T.q4),.cls T.q5,bg ⟨fd,bA,_,_,rfl,hf,rfl,q1 k ns rfl⟩⟩
 | failed k y =>
  obtain ⟨bA,hf⟩:=id aZ;exact ⟨_,_,_,.of (.ins hf T.mK T.q6 T.q2 T.q3 T.q7),.cls T.q8,bK ⟨_,rfl,fun d hd=>q2 (by nofun) fd d _ (ao.upd hd) (aZ.same (ao.upd hd)) ax⟩⟩
 | ring ns =>
  obtain ⟨bA,rl,hf,hl⟩:=id aZ;exact ⟨_,_,_,.of (.ins hf T.rh T.xO T.q2 T.q3 T.wF),.cls T.DL,bK ⟨_,rfl,fun d hd=>q2 (by nofun) fd d _ (ao.upd hd) (aZ.same (ao.upd hd)) ax⟩⟩
def R4 (N:Cn):Sp:=jJ fun h z pt H Q E=>X6 fun A L M root t e=>A6 (pt=Tx.S t) (aH N.CH N.CS N.CT H A L M) (A.a=h) (dO ⟨L,M,z,true,root⟩ t e) (∀ k ns,e.res=.found k ns->∀ H',ao H H'->Q (.int (k:Int)) H') ((∀ k ns,e.res≠.found k ns)->c7 N H E (.way e.res))
def B5:aC P w K mg base (bo P w) 15 T.iB.f T.iB.d ["house","asker","path"] (R4 T.cn):=by
 refine T.iB.F.dE aaK (fun _ _ _ _ h=>eQ h fun _ _ _ _=>rfl) fun ag A outer s H vs Q E hr h=>eQ h fun hh z pt h=>?_;obtain ⟨AA,L,M,root,t,e,rfl,i,rfl,pg,q1,q2⟩:=h;refine bF (b:=aR DV) ((aq (aM (cB (Ly T) hr.m T.kx.m T.kx.F.kp T.kx.b .nil cz (aa (bv (K1 T) hr.m T.LC T.sL.kp T.wk (.cons (show RelV (.bl true) _ from rfl) .nil) au (aa (ad 0) (aa (ad 1) (aa (ad 2) ae)))) ae))))) ?_;refine stI [some (V.ref AA.a),some (V.str z),some (V.str (Tx.S t))] ?_;left;refine ⟨AA,L,M,root,t,e,rfl,i,rfl,pg,fun fd H1 s1 aZ=>?_⟩;exact ⟨e.res,aZ,fun k ns he=>q1 k ns he H1 s1,fun hn=>(q2 hn).of s1⟩
def Lp:T.kH.k P w base 4 (gq T.aI T.aP T.aW Ad.a fun _ _ _ _ _ t H Q=>Q (.bl (decide (t.kd=("folder" : Str)))) H):=by
 refine T.kH.F.ok R9 (fun _ _ _ _ h=>bY h fun _ _ _=>rfl) fun ag A outer s H vs Q E hr h=>bY h fun x n h=>?_;obtain ⟨AA,L,M,k,a,t,i,rfl,rfl,ha,aG,q⟩:=h;obtain ⟨fs,c,hx,aY,sf⟩:=i.h;refine ⟨_,((aq (aM (dL ie (bf T.aJ T.fX.h (pN T) hr.m T.fX.b .nil au (ad 0) (aa (ad 1) ae)) (dl (.str "folder") T.tN ⟨_,rfl⟩))))).h,?_⟩;refine stI [some (V.ref AA.a),some (V.int (k:Int))] ?_;left;exact (mI hx sf ⟨AA,L,M,k,a,t,i,rfl,rfl,ha,aG,q⟩)
def JS (N:Cn):Sp:=jJ fun h z pt H Q E=>X6 fun A L M root t e=>A6 (pt=Tx.S t) (aH N.CH N.CS N.CT H A L M) (A.a=h) (dO ⟨L,M,z,true,root⟩ t e) (∀ k ns,e.res=.found k ns->∃ a t,L[k]?=some a/\M.ts[k]?=some t/\(t.kd=("folder" : Str)->∀ H',ao H H'->Q (.int (k:Int)) H')/\(t.kd≠("folder" : Str)->c7 N H E (.cO "file"))) ((∀ k ns,e.res≠.found k ns)->c7 N H E (.way e.res))
def abY:aC P w K mg base (bo P w) 16 T.qN.f T.qN.d ["house","asker","path"] (JS T.cn):=by
 refine T.qN.F.dE G8 (fun _ _ _ _ h=>eQ h fun _ _ _ _=>rfl) fun ag A outer s H vs Q E hr h=>eQ h fun hh z pt h=>?_;obtain ⟨AA,L,M,root,t,e,rfl,i,rfl,pg,q1,q2⟩:=h;refine bF (b:=aR BV) ((am (aO 3 G8.nd (cB (B5 T) hr.m T.iB.m T.iB.F.kp T.iB.b .nil cz (aa (ad 0) (aa (ad 1) (aa (ad 2) ae)))))
 (am (bu (dk (cK (bv (Lp T) hr.m T.kH.m T.kH.F.kp T.kH.b .nil au (aa (ad 0) (aa (ad 3) ae))))) (aq (nU oX rfl rfl T.oE T.mw T.qp (qk T) hr.m T.jD.b (aa ap ae))) ci)
 (aq (aM (ad 3)))))) ?_
 refine stI [some (V.ref AA.a),some (V.str z),some (V.str (Tx.S t)),none] ?_;right;refine ⟨AA,L,M,root,t,e,rfl,i,rfl,pg,fun k ns he H1 s1=>?_,q2⟩;obtain ⟨a,t',ha,ht,r1,r2⟩:=q1 k ns he;right;refine ⟨AA,L,M,k,a,t',i.same s1,rfl,rfl,ha,ht,?_⟩;dsimp only;by_cases hk:t'.kd=("folder" : Str)
 ·rw [u8 hk];exact bg (r1 hk _ s1)
 ·rw [pc hk];exact bK ⟨_,rfl,fun d hd=>(r2 hk).raise s1 hd⟩
inductive jo (ps:List (List Nat)):Option (List (List Nat)×List Nat)->Prop
 | nil:ps=[]->jo ps none
 | uJ {q nm}:ps=q++[nm]->isNm nm=false->nm.length<=8->jo ps none
 | ME {q nm}:ps=q++[nm]->isNm nm=true->jo ps (some (q,nm))
structure gd (t:List Nat):Prop where
 l1:1<=t.length
 l2:t.length<=2000
 all:(Tx.words 47 t).all cL=true
def Yi (N:Cn):Sp:=lB fun pt H Q E=>X2 fun t r=>A5 (pt=Tx.S t) (gd t) (jo (told (Tx.words 47 t) t) r) (∀ x,r=some x->∀ H',ao H H'->Q .ay H') (r=none->c7 N H E (.cO "dots"))
def wy {w:List Nat} (h:isNm w=true):47 ∉ w/\w≠[]/\1<=w.length/\w.length<=8:=by
 have hp:cL w=true:=by unfold cL; rw [h]; simp
 obtain ⟨h1,h2,_⟩:=G9 h;exact ⟨(pY hp).1,(pY hp).2.1,h1,h2⟩
def Nh {w:List Nat} {b:Bool} (h:isNm w=b):fq (.str (Tx.S w))=b:=by
 show isNm (Tx.S w).cps.toList=b;rw [Tx.l7]; exact h
def BY {w:List Nat} (h:isNm w=true):fq (.str (Tx.S w))=true:=Nh h
def Vz:aC P w K mg base (bo P w) 4 T.qR.f T.qR.d ["path"] (Yi T.cn):=by
 refine T.qR.F.dE Iy (fun _ _ _ _ h=>fC h fun _ _=>rfl) fun ag A outer s H vs Q E hr h=>fC h fun pt h=>?_;obtain ⟨t,r,rfl,sp,hs,q1,q2⟩:=h;refine bF (b:=aR zp) ((am (aO 1 Iy.nd (ce (bh (K:=K) rfl) (bv (jr T) hr.m T.cy.m T.cy.F.kp T.cy.b .nil au (aa (ad 0) ae)) bn))
 (aq (bu (ij (f8 (cf (Vb hr.xp) (ad 1) (cr ae)) (kq (dk (cK (bv (D5 T) hr.m T.ib.m T.ib.F.kp T.ib.b .nil au (aa (ce (bh (K:=K) rfl) (ad 1) (gl lC bn)) ae))))))) (aq (nU oX rfl rfl T.oE T.mw T.qp (qk T) hr.m T.jD.b (aa ap ae))) ci)))) ?_
 refine stI [some (V.str (Tx.S t)),none] ?_;right;refine ⟨t,rfl,sp.l1,sp.l2,sp.all,fun H1 l p s1 _ hl hp=>?_⟩;simp only [bJ,hp];rw [show cD [V.bl (dJ t),V.ref l] 1=some (V.ref l) from rfl];refine ⟨fits (by simp),fun d hd=>?_⟩;refine ee (o:=.lst []) hd fun H2 s2 b2=>?_;have cm:=s2 _ _ hl;cases hs with
 | nil e =>
  rw [e] at cm;exact ⟨[],[],cm,b2,et (u8 rfl) ⟨_,rfl,fun d' hd'=>(q2 rfl).raise (s1.trans s2) hd'⟩⟩
 | @uJ qs nm e hn pB =>
  rw [e] at cm;have jT:H2 l=some (.lst (PV qs++[V.str (Tx.S nm)])):=by rw [cm]; simp [PV]
  refine ⟨qs.map Tx.S++[Tx.S nm],[],by rw [jT]; simp [PV],b2,?_⟩;rw [pc (by simp)];refine bg ?_;simp only [jT,oS];refine ⟨⟨_,rfl⟩,by show (Tx.S nm).length<=1000; rw [Tx.cQ]; omega,fun H3 s3=>?_⟩;rw [Nh hn];exact bK ⟨_,rfl,fun d' hd'=>(q2 rfl).raise ((s1.trans s2).trans s3) hd'⟩
 | @ME qs nm e hn =>
  rw [e] at cm;obtain ⟨h1,h2,h3,h4⟩:=wy hn;have jT:H2 l=some (.lst (PV qs++[V.str (Tx.S nm)])):=by rw [cm]; simp [PV]
  refine ⟨qs.map Tx.S++[Tx.S nm],[],by rw [jT]; simp [PV],b2,?_⟩;rw [pc (by simp)];refine bg ?_;simp only [jT,oS];refine ⟨⟨_,rfl⟩,by show (Tx.S nm).length<=1000; rw [Tx.cQ]; omega,fun H3 s3=>?_⟩;rw [BY hn];exact bg (q1 _ rfl _ ((s1.trans s2).trans s3))
def yq {H H':Hp} {x:Addr} (s:ao H H') (h:H' x=none):H x=none:=by
 cases e:H x with
 | none=>rfl
 | some o=>rw [s _ _ e] at h; cases h
abbrev wa (f:Nat) (nm:List Nat):List (Str×V):=aA "name" (.str (Tx.S nm)) (aA "folder" (.int (f:Int)) [])
inductive lD (d:Wd) (t:List Nat):Sum Rf (Nat×List Nat)->Prop
 | uJ:jo (told (Tx.words 47 t) t) none->lD d t (.inl (.cO "dots"))
 | way {q nm e}:jo (told (Tx.words 47 t) t) (some (q,nm))->q.length<=900->my d (dJ t) (q.map Tx.S++[("." : Str)]) e->(∀ k ns,e.res≠.found k ns)->lD d t (.inl (.way e.res))
 | Mu {q nm e f ns}:jo (told (Tx.words 47 t) t) (some (q,nm))->q.length<=900->my d (dJ t) (q.map Tx.S++[("." : Str)]) e->e.res=.found f ns->lD d t (.inr (f,nm))
def WV (N:Cn):Sp:=jJ fun h z pt H Q E=>X6 fun A L M root t r=>A7 (pt=Tx.S t) (gd t) (aH N.CH N.CS N.CT H A L M) (A.a=h) (lD ⟨L,M,z,true,root⟩ t r) (∀ x,r=.inl x->c7 N H E x) (∀ f nm,r=.inr (f,nm)->∀ x dx H',H x=none->ao H H'->H' x=some (.ins N.CE dx (wa f nm))->Q (.ref x) H')
def QM:aC P w K mg base (bo P w) 13 T.qy.f T.qy.d ["house","asker","path"] (WV T.cn):=by
 refine T.qy.F.dE zA (fun _ _ _ _ h=>eQ h fun _ _ _ _=>rfl) fun ag A outer s H vs Q E hr h=>eQ h fun hh z pt h=>?_;obtain ⟨AA,L,M,root,t,r,rfl,sp,i,rfl,g,q1,q2⟩:=h;refine bF (b:=aR Eo) ((am (aV (cB (Vz T) hr.m T.qR.m T.qR.F.kp T.qR.b .nil cz (aa (ad 2) ae)))
 (am (aO 3 zA.nd (bv (jr T) hr.m T.cy.m T.cy.F.kp T.cy.b .nil au (aa (ad 2) ae)))
 (am (aO 4 zA.nd (bv (GR T) hr.m T.kW.m T.kW.F.kp T.kW.b .nil au (aa (ad 0) (aa (ad 1) (aa (ce (bh (K:=K) rfl) (ad 3) bn) (aa (db gj (io (qI (K:=K) rfl) (ce (bh (K:=K) rfl) (ad 3) bn) sI (oT (gl lC bn))) (cr (aa ap ae))) (aa ge ae)))))))
 (aq (aM (im T.Tq (WB T) hr.m T.aaQ T.tL.b .nil au (aa (cB (Ly T) hr.m T.kx.m T.kx.F.kp T.kx.b .nil cz (aa (bi T.aL T.mF (ad 4)) ae)) (aa (ce (bh (K:=K) rfl) (ce (bh (K:=K) rfl) (ad 3) bn) (gl lC bn)) ae))))))))) ?_
 refine stI [some (V.ref AA.a),some (V.str z),some (V.str (Tx.S t)),none,none] ?_;right;have hs:(r=.inl (.cO "dots")/\jo (told (Tx.words 47 t) t) none)\/∃ qs nm e,jo (told (Tx.words 47 t) t) (some (qs,nm))/\qs.length<=900/\my ⟨L,M,z,true,root⟩ (dJ t) (qs.map Tx.S++[("." : Str)]) e/\((∀ k ns,e.res≠.found k ns)->r=.inl (.way e.res))/\∀ f ns,e.res=.found f ns->r=.inr (f,nm):=by
  cases g with
  | uJ h=>exact .inl ⟨rfl,h⟩
  | way h1 h2 h3 h4=>exact .inr ⟨_,_,_,h1,h2,h3,fun _=>rfl,fun f ns e=>absurd e (h4 f ns)⟩
  | Mu h1 h2 h3 h4=>exact .inr ⟨_,_,_,h1,h2,h3,fun k=>absurd h4 (k _ _),fun f ns e=>by rw [h4] at e; cases e; rfl⟩
 rcases hs with ⟨rfl,hs⟩ | ⟨qs,nm,e,hs,hq,g,r1,r2⟩
 ·exact ⟨t,none,rfl,sp,hs,(fun x e=>by cases e),fun _=>q1 _ rfl⟩
 refine ⟨t,_,rfl,sp,hs,fun x _ H1 s1=>ai ?_,fun e=>by cases e⟩;have he:told (Tx.words 47 t) t=qs++[nm]:=by cases hs; assumption
 left;refine ⟨t,rfl,sp.l1,sp.l2,sp.all,fun H2 l p s2 _ hl hp=>ai ?_⟩;rw [he,show PV (qs++[nm])=PV qs++[V.str (Tx.S nm)] from by simp [PV]] at hl;left;simp only [bJ,hp];rw [show cD [V.bl (dJ t),V.ref l] 1=some (V.ref l) from rfl,show cD [V.bl (dJ t),V.ref l] 0=some (V.bl (dJ t)) from rfl]
 try dsimp only
 refine ⟨_,aD.of hl,fun p1 yz=>?_⟩;rw [TU];refine ⟨fits (by simp),fun p2 eK=>?_⟩;have s3:=(ao.upd (o:=.lst (PV qs)) yz).trans (ao.upd (o:=.lst [V.str (Str.ofString ".")]) eK);have FN:p1≠p2:=aK (ax (o:=.lst (PV qs))) eK;have b3:upd (upd H2 p1 (.lst (PV qs))) p2 (.lst [V.str (Str.ofString ".")]) p1=some (.lst (PV qs)):=by rw [ah FN,ax]
 have b4:upd (upd H2 p1 (.lst (PV qs))) p2 (.lst [V.str (Str.ofString ".")]) p2=some (.lst [V.str (Str.ofString ".")]):=ax;generalize upd (upd H2 p1 (.lst (PV qs))) p2 (.lst [V.str (Str.ofString ".")])=H3 at s3 b3 b4 ⊢;simp only [b3,b4];refine ⟨fits (by simp; omega),fun p3 eI=>?_⟩;have s4:=s3.trans (ao.upd (o:=.lst (PV qs++[V.str (Str.ofString ".")])) eI);have b5:upd H3 p3 (.lst (PV qs++[V.str (Str.ofString ".")])) p3=some (.lst (PV qs++[V.str (Str.ofString ".")])):=ax;generalize upd H3 p3 (.lst (PV qs++[V.str (Str.ofString ".")]))=H4 at s4 b5 ⊢;refine ⟨AA,L,M,root,qs.map Tx.S++[("." : Str)],e,i.same ((s1.trans s2).trans s4),rfl,by rw [b5]; simp [PV],g,?_⟩;rintro x H5 ⟨s5,dx,gs,fd,av,hx,Gj,aZ,xF,rO⟩;have Fh:=((s1.trans s2).trans s4).trans s5;refine ⟨x,_,_,_,rfl,hx,Gj,_,aZ,fun k ns hk=>?_,fun hk=>(q1 _ (r1 hk)).of Fh⟩
 ·have rQ:=(s4.trans s5) _ _ hp;have fh:=(s4.trans s5) _ _ hl;simp only [rQ];rw [show cD [V.bl (dJ t),V.ref l] 1=some (V.ref l) from rfl];simp only [fh,oS]
  try dsimp only
  intro y dy hy hdy ndy;refine ⟨dy,ax,rfl,?_⟩;rw [mr];exact q2 _ _ (r2 _ _ hk) y dy _ (yq Fh hy) (Fh.trans ((ao.upd (o:=.own y) hdy).trans (ao.upd (p:=y) (by rw [ah (pi ndy)]; exact hy)))) ax
def TX (N:Cn):Sp:=Mf fun h z n r y H Q E=>X5 fun A L M t (k:Nat)=>A8 (n=(k:Int)) (aH N.CH N.CS N.CT H A L M) (A.a=h) ((aS (sD M.ro) (.inr z)).isSome=true) (i8 (.str r)=true) (M.ts[k]?=some t) (dw r (cZ t z)=true->Q .ay H) (dw r (cZ t z)=false->c7 N H E (.cO y))
def wQ:aC P w K mg base (bo P w) 4 T.fQ.f T.fQ.d ["house","asker","number","right","reason"] (TX T.cn):=by
 refine T.fQ.F.dE Te (fun _ _ _ _ h=>Jm h fun _ _ _ _ _ _=>rfl) fun ag A outer s H vs Q E hr h=>Jm h fun hh z n r rs h=>?_;obtain ⟨AA,L,M,t,k,rfl,i,rfl,hz,gS,ht,q1,q2⟩:=h;obtain ⟨iH,gc,gh,m6,c9⟩:=i.h;refine bF (b:=aR Cb) ((aq (bu (dk (cK (cW T.aJ T.ko.h (Bu T) hr.m T.ko.b .nil cz (ad 0) (aa (ad 1) (aa (ad 2) (aa (ad 3) ae)))))) (aq (nU oX rfl rfl T.oE T.mw T.qp (qk T) hr.m T.jD.b (aa (ad 4) ae))) ci))) ?_;refine stI [some (V.ref AA.a),some (V.str z),some (V.int (k:Int)),some (V.str r),some (V.str rs)] ?_;left;refine (mI gh c9 (Bx i hz gS ht ?_));cases hm:dw r (cZ t z) with
 | true=>exact bg (q1 hm)
 | false=>exact bK ⟨_,rfl,fun d hd=>(q2 hm).raise (fun _ _ e=>e) hd⟩
def TY (N:Cn):Sp:=vi fun h z n H Q E=>X5 fun A L M t (k:Nat)=>A7 (n=(k:Int)) (aH N.CH N.CS N.CT H A L M) (A.a=h) ((aS (sD M.ro) (.inr z)).isSome=true) (M.ts[k]?=some t) (dw ("w" : Str) (cZ t z)=true->Q .ay H) (dw ("w" : Str) (cZ t z)=false->c7 N H E (.cO "kept"))
def WG:aC P w K mg base (bo P w) 5 T.qh.f T.qh.d ["house","asker","folder"] (TY T.cn):=by
 refine T.qh.F.dE Po (fun _ _ _ _ h=>jV h fun _ _ _ _=>rfl) fun ag A outer s H vs Q E hr h=>jV h fun hh z n h=>?_;obtain ⟨AA,L,M,t,k,rfl,i,rfl,hz,ht,q1,q2⟩:=h;refine bF (b:=aR En) ((aq (aV (cB (wQ T) hr.m T.fQ.m T.fQ.F.kp T.fQ.b .nil cz (aa (ad 0) (aa (ad 1) (aa (ad 2) (aa ap (aa ap ae))))))))) ?_;refine stI [some (V.ref AA.a),some (V.str z),some (V.int (k:Int))] ?_;left;exact ⟨AA,L,M,t,k,rfl,i,rfl,hz,by decide +kernel,ht,q1,q2⟩
def aas (N:Cn):Sp:=uj fun h x H Q _=>X8 fun A L M a t dx nm (k:Nat)=>A7 (aH N.CH N.CS N.CT H A L M) (A.a=h) (H x=some (.ins N.CE dx (wa k nm))) (isNm nm=true) (L[k]?=some a) (M.ts[k]?=some t) (∀ H',ao H H'->Q ((aS (sD t.aQ) (.inr (Tx.S nm))).getD .ay) H')
def TZ:T.qK.k P w base 5 (aas T.cn):=by
 refine T.qK.F.ok Uv (fun _ _ _ _ h=>mx h fun _ _ _=>rfl) fun ag A outer s H vs Q E hr h=>mx h fun hh x h=>?_;obtain ⟨AA,L,M,a,t,dx,nm,k,i,rfl,hx,hn,ha,ht,q⟩:=h;obtain ⟨iH,gc,gh,m6,c9⟩:=i.h;obtain ⟨h1,h2,h3,h4⟩:=wy hn;refine bF (b:=aR zY) ((aq (aM (bf T.aJ T.oG.h (Mi T) hr.m T.oG.b .nil au (ad 0) (aa (bi T.oW T.wG (ad 1)) (aa (bi T.oW T.Ct (ad 1)) ae)))))) ?_;refine stI [some (V.ref AA.a),some (V.ref x)] ?_;left;exact (mI gh c9 ⟨x,_,_,_,rfl,hx,rfl,x,_,_,_,rfl,hx,rfl,AA,L,M,k,a,t,i,rfl,rfl,ha,ht,BY hn,by rw [Tx.cQ]; omega,q⟩)
def Vh (N:Cn):Sp:=uj fun h x H Q E=>X8 fun A L M a t dx nm (k:Nat)=>A8 (aH N.CH N.CS N.CT H A L M) (A.a=h) (H x=some (.ins N.CE dx (wa k nm))) (isNm nm=true) (L[k]?=some a) (M.ts[k]?=some t) (aS (sD t.aQ) (.inr (Tx.S nm))=none->∀ H',ao H H'->Q .ay H') (∀ c:Int,aS (sD t.aQ) (.inr (Tx.S nm))=some (.int c)->c7 N H E (.cO "there"))
def G2 {l:List (Str×Nat)} {z:Key} {v:V} (h:aS (sD l) z=some v):∃ c:Nat,v=.int (c:Int):=by
 unfold aS at h;obtain ⟨kv,h1,rfl⟩:=_L.mp h;obtain ⟨e,_,rfl⟩:=AC.mp (List.mem_of_find?_eq_some h1);exact ⟨_,rfl⟩
def Sm:aC P w K mg base (bo P w) 6 T.pZ.f T.pZ.d ["house","seat"] (Vh T.cn):=by
 refine T.pZ.F.dE Ul (fun _ _ _ _ h=>mx h fun _ _ _=>rfl) fun ag A outer s H vs Q E hr h=>mx h fun hh x h=>?_;obtain ⟨AA,L,M,a,t,dx,nm,k,i,rfl,hx,hn,ha,ht,q1,q2⟩:=h;refine bF (b:=aR Bv) ((aq (bu (cf MQ (bv (TZ T) hr.m T.qK.m T.qK.F.kp T.qK.b .nil au (aa (ad 0) (aa (ad 1) ae))) ay) (aq (nU oX rfl rfl T.oE T.mw T.qp (qk T) hr.m T.jD.b (aa ap ae))) ci))) ?_;refine stI [some (V.ref AA.a),some (V.ref x)] ?_;left;refine ⟨AA,L,M,a,t,dx,nm,k,i,rfl,hx,hn,ha,ht,fun H1 s1=>?_⟩;cases hv:aS (sD t.aQ) (.inr (Tx.S nm)) with
 | none=>exact ⟨by trivial,bg (q1 hv H1 s1)⟩
 | some v =>
  obtain ⟨c,rfl⟩:=G2 hv;exact ⟨by trivial,bK ⟨_,rfl,fun d hd=>(q2 _ hv).raise s1 hd⟩⟩
inductive n8 (d:Wd) (t:List Nat):Sum Rf (Nat×List Nat)->Prop
 | no {x}:lD d t (.inl x)->n8 d t (.inl x)
 | kept {f nm tf}:lD d t (.inr (f,nm))->d.M.ts[f]?=some tf->dw ("w" : Str) (cZ tf d.z)=false->n8 d t (.inl (.cO "kept"))
 | there {f nm a tf c}:lD d t (.inr (f,nm))->isNm nm=true->d.L[f]?=some a->d.M.ts[f]?=some tf->dw ("w" : Str) (cZ tf d.z)=true->aS (sD tf.aQ) (.inr (Tx.S nm))=some (.int (c:Int))->n8 d t (.inl (.cO "there"))
 | free {f nm a tf}:lD d t (.inr (f,nm))->isNm nm=true->d.L[f]?=some a->d.M.ts[f]?=some tf->dw ("w" : Str) (cZ tf d.z)=true->aS (sD tf.aQ) (.inr (Tx.S nm))=none->n8 d t (.inr (f,nm))
def Yc (N:Cn):Sp:=jJ fun h z pt H Q E=>X6 fun A L M root t r=>A8 (pt=Tx.S t) (gd t) (aH N.CH N.CS N.CT H A L M) (A.a=h) ((aS (sD M.ro) (.inr z)).isSome=true) (n8 ⟨L,M,z,true,root⟩ t r) (∀ x,r=.inl x->c7 N H E x) (∀ f nm,r=.inr (f,nm)->∀ x dx H',H x=none->ao H H'->H' x=some (.ins N.CE dx (wa f nm))->Q (.ref x) H')
def AK:aC P w K mg base (bo P w) 14 T.iq.f T.iq.d ["house","asker","path"] (Yc T.cn):=by
 refine T.iq.F.dE Ke (fun _ _ _ _ h=>eQ h fun _ _ _ _=>rfl) fun ag A outer s H vs Q E hr h=>eQ h fun hh z pt h=>?_;obtain ⟨AA,L,M,root,t,r,rfl,sp,i,rfl,Fd,g,q1,q2⟩:=h;refine bF (b:=aR Bm) ((am (aO 3 Ke.nd (cB (QM T) hr.m T.qy.m T.qy.F.kp T.qy.b .nil cz (aa (ad 0) (aa (ad 1) (aa (ad 2) ae)))))
 (am (aV (cB (WG T) hr.m T.qh.m T.qh.F.kp T.qh.b .nil cz (aa (ad 0) (aa (ad 1) (aa (bi T.oW T.wG (ad 3)) ae)))))
 (am (aV (cB (Sm T) hr.m T.pZ.m T.pZ.F.kp T.pZ.b .nil cz (aa (ad 0) (aa (ad 3) ae))))
 (aq (aM (ad 3))))))) ?_
 refine stI [some (V.ref AA.a),some (V.str z),some (V.str (Tx.S t)),none] ?_;right;cases g with
 | no g=>exact ⟨AA,L,M,root,t,_,rfl,sp,i,rfl,g,fun x e=>(by cases e; exact q1 _ rfl),fun f nm e=>by cases e⟩
 | kept g pF hw =>
  refine ⟨AA,L,M,root,t,_,rfl,sp,i,rfl,g,fun x e=>(by cases e),fun f nm e=>?_⟩;cases e;intro x dx H1 fx s1 hx;right;exact ⟨x,_,_,_,rfl,hx,rfl,AA,L,M,_,_,rfl,i.same s1,rfl,Fd,pF,fun e=>(by rw [hw] at e; cases e),fun _=>(q1 _ rfl).of s1⟩
 | there g hn EM pF hw hv =>
  refine ⟨AA,L,M,root,t,_,rfl,sp,i,rfl,g,fun x e=>(by cases e),fun f nm e=>?_⟩;cases e;intro x dx H1 fx s1 hx;right;refine ⟨x,_,_,_,rfl,hx,rfl,AA,L,M,_,_,rfl,i.same s1,rfl,Fd,pF,fun _=>ai ?_,fun e=>by rw [hw] at e; cases e⟩;left;exact ⟨AA,L,M,_,_,dx,_,_,i.same s1,rfl,hx,hn,EM,pF,fun e=>(by rw [hv] at e; cases e),fun _ _=>(q1 _ rfl).of s1⟩
 | free g hn EM pF hw hv =>
  refine ⟨AA,L,M,root,t,_,rfl,sp,i,rfl,g,fun x e=>(by cases e),fun f nm e=>?_⟩;cases e;intro x dx H1 fx s1 hx;right;refine ⟨x,_,_,_,rfl,hx,rfl,AA,L,M,_,_,rfl,i.same s1,rfl,Fd,pF,fun _=>ai ?_,fun e=>by rw [hw] at e; cases e⟩;left;exact ⟨AA,L,M,_,_,dx,_,_,i.same s1,rfl,hx,hn,EM,pF,fun _ H2 s2=>q2 _ _ rfl x dx H2 fx (s1.trans s2) (s2 _ _ hx),fun _ e=>by rw [hv] at e; cases e⟩
def Z8:Sp:=lB fun z H Q _=>z.length<=60/\Q (.bl true) H
def WH:Sp:=lB fun z H Q _=>z.length<=60/\Q .ay H
def UD:T.qW.k P w base 1 Z8:=by
 refine T.qW.F.ok R1 (fun _ _ _ _ h=>fC h fun _ _=>rfl) fun ag A outer s H vs Q E hr h=>fC h fun z h=>?_;obtain ⟨hz,q⟩:=h;refine ⟨_,((aq (aM (mJ (cY kI T.gF gK (aa (ad 0) (aa (ky (.ty "str") T.qD pT rfl) ae))) (ii (dL qZ (cY (oA (K:=K) rfl) T.nS _g (aa (ad 0) ae)) (dl (.int 60) T.U8 ⟨_,rfl⟩))))))).h,?_⟩;refine stI [some (V.str z)] ?_;left;refine ⟨by decide,bK ⟨fits (by omega),?_⟩⟩;rw [u8 (show (z.length:Int)<=60 by omega)];exact q
def Mc:T.kG.k P w base 2 WH:=by
 refine T.kG.F.ok aaA (fun _ _ _ _ h=>fC h fun _ _=>rfl) fun ag A outer s H vs Q E hr h=>fC h fun z h=>?_;obtain ⟨hz,q⟩:=h;refine ⟨_,((aq (bu (dk (cK (bv (UD T) hr.m T.qW.m T.qW.F.kp T.qW.b .nil au (aa (ad 0) ae)))) (aq iN) ci))).h,?_⟩;refine stI [some (V.str z)] ?_;left;exact ⟨hz,bg q⟩
def VT:T.uC.k P w mg base 4 (RU T.aP T.aW):=by
 refine T.uC.F.ok aa9 (fun _ _ _ _ h=>KC h fun _ _ _ _ _ _=>rfl) fun ag A outer s H vs Q E hr h=>KC h fun x ow tx mi re h=>?_;obtain ⟨dt,ml,rs,at',dG,q⟩:=h;obtain ⟨fs,c,hx,aY,sf⟩:=at'.o;refine ⟨_,((aq (aM (bf T.bS T.kQ.h (Cf T) hr.m T.kQ.b .nil au (ad 0) (aa (dl (.str "file") T.A0 ⟨_,rfl⟩) (aa (ad 1) (aa (ad 3) (aa (ad 4) (aa (ad 2) ae))))))))).h,?_⟩;refine stI [some (.ref x),some ow,some tx,some mi,some re] ?_;left;exact ⟨x,dt,fs,rfl,hx,(sf _).trans rfl,dt,ml,rs,at',dG,q⟩
def JU:T.nJ.k P w mg base 3 (gq T.aI T.aP T.aW Ad.a Vy):=by
 refine T.nJ.F.ok Ur (fun _ _ _ _ h=>bY h fun _ _ _=>rfl) fun ag A outer s H vs Q E hr h=>bY h fun x n h=>?_;obtain ⟨AA,L,M,k,a,t,i,rfl,rfl,ha,aG,q⟩:=h;obtain ⟨fs,c,hx,aY,sf⟩:=i.h;obtain ⟨gs,c2,ht,cJ,sg⟩:=i.t;have bU:=dX i ha aG;obtain ⟨ks,ho,fe,so⟩:=bU.o;refine ⟨_,((aq (aM (bi T.cP T.Bs (cW T.bS T.cE.h (gn T) hr.m T.cE.b .nil di (bi T.aJ T.eE (ad 0)) (aa (ad 1) ae)))))).h,?_⟩;refine stI [some (V.ref AA.a),some (V.int (k:Int))] ?_;left;exact ⟨AA.a,_,_,.ref AA.t,rfl,hx,(sf _).trans rfl,AA.t,_,_,rfl,ht,(sg _).trans rfl,gN i ha aG (fI ho so rfl q)⟩
def Uh (CH CS CT:Addr):Sp:=MO fun x n m r H Q _=>X6 fun A L M (k:Nat) a t=>A6 (aH CH CS CT H A L M) (A.t=x) (n=(k:Int)) (L[k]?=some a) (M.ts[k]?=some t) (∀ H',aH CH CS CT H' A L { M with ts:=M.ts.set k { t with mi:=m,re:=r } }->Kp [A.t,a.th] H H'->Q .ay H')
def YA:T.uG.k P w mg base 3 (Uh T.aI T.aP T.aW):=by
 refine T.uG.F.ok KD (fun _ _ _ _ h=>Kb h fun _ _ _ _ _=>rfl) fun ag A outer s H vs Q E hr h=>Kb h fun x n m r h=>?_;obtain ⟨AA,L,M,k,a,t,i,rfl,rfl,ha,aG,q⟩:=h;obtain ⟨fs,c,hx,aY,sf⟩:=i.h;obtain ⟨gs,c2,ht,cJ,sg⟩:=i.t;have bU:=dX i ha aG;obtain ⟨ks,ho,fe,so⟩:=bU.o;have off:=i.ql ha;have n1:AA.t≠a.th:=off _ (by simp [Ad.w]) _ (by simp [Ta.l]);have n2:AA.a≠a.th:=off _ (by simp [Ad.w]) _ (by simp [Ta.l]);have n3:=i.own ha;refine ⟨_,((am (aO 4 KD.nd (cW T.bS T.cE.h (gn T) hr.m T.cE.b .nil di (ad 0) (aa (ad 1) ae)))
 (am (jB T.bS T.tX jE (ad 0) bn)
 (am (bC T.cP T.wX (ad 4) (ad 2))
 (aq (bC T.cP T.yj (ad 4) (ad 3))))))).h,?_⟩
 refine stI [some (V.ref AA.t),some (V.int (k:Int)),some (V.str m),some (V.str r),none] ?_;right;refine (mI ht sg (gN i ha aG ?_));right;refine ⟨AA.t,_,_,.int c2,rfl,ht,(sg _).trans rfl,_,_,rfl,rfl,_,_,ht,by omega,ai ?_⟩;left;refine ⟨a.th,_,_,rfl,by rw [ah (pi n1)]; exact ho,by omega,?_⟩;left;refine ⟨a.th,_,_,rfl,ax,by rw [fm (u:=.str t.mi) ((so _).trans rfl)]; omega,?_⟩;refine q _ (i.write (t':={ t with mi:=m,re:=r }) ha ⟨fs,c,by rw [ah n2,ah n2,ah i.aT]; exact hx,aY,sf⟩ ⟨_,c2+1,by rw [ah n1,ah n1,ax],by rw [fm (u:=.int c2) ((sg _).trans rfl)]; exact cJ,fun f=>by rw [(sg.put "changes" (.int (c2+1))) f]; rfl⟩ ⟨⟨_,ax,?_,fun f=>((so.put "mine" (.str m)).put "rest" (.str r) f).trans rfl⟩,?_,?_⟩ (fun b o hb e=>?_)) (fun b o hb e=>?_)
 ·rw [fm (u:=.str t.re) (by rw [ef,wS (by decide)]; exact (so _).trans rfl),fm (u:=.str t.mi) ((so _).trans rfl)]; exact fe
 ·rw [ah (pi n3.1),ah (pi n3.1),ah (pi (off _ (by simp [Ad.w]) _ (by simp [Ta.l])))]; exact bU.nm
 ·rw [ah (pi n3.2.1),ah (pi n3.2.1),ah (pi (off _ (by simp [Ad.w]) _ (by simp [Ta.l])))]; exact bU.pl
 ·simp only [li,lv,wn,TW] at hb;rw [ah hb.2.2.1,ah hb.2.2.1,ah hb.2.1]; exact e
 ·simp only [li,lv,wn,TW] at hb;rw [ah hb.2,ah hb.2,ah hb.1]; exact e
section
variable {CH CS CT:Addr} {H H':Hp} {A:Ad} {L:List Ta} {M:Hs}
def aH.some (i:aH CH CS CT H A L M):∀ b∈A.w++L.flatMap Ta.l,∃ o,H b=.some o:=fun b hb=>by
 rcases KB.mp hb with h | h
 ·simp only [Ad.w,li,lv,wn] at h;rcases h with rfl | rfl | rfl | rfl | rfl | rfl | rfl | rfl
  ·obtain ⟨_,_,e,_⟩:=i.h; exact ⟨_,e⟩
  ·obtain ⟨_,_,e,_⟩:=i.t; exact ⟨_,e⟩
  ·exact ⟨_,i.ml⟩
  ·exact ⟨_,i.ro⟩
  ·exact ⟨_,i.st⟩
  ·exact ⟨_,i.tr⟩
  ·exact ⟨_,i.ov⟩
  ·exact ⟨_,i.un⟩
 ·obtain ⟨a,ha,hb⟩:=_1.mp h;obtain ⟨k,hk⟩:=_7 ha;have bD:k < M.ts.length:=by rw [<- i.len]; exact (lm.mp hk).1
  obtain ⟨a',e1,t⟩:=i.th k _ (mo bD);rw [hk] at e1;cases e1;simp only [Ta.l,li,lv,wn] at hb;rcases hb with rfl | rfl | rfl
  ·obtain ⟨_,e,_⟩:=t.o; exact ⟨_,e⟩
  ·exact ⟨_,t.nm⟩
  ·exact ⟨_,t.pl⟩
def aH.add {th dB nm pl:Addr} {ks:List (Str×V)} {kd ow mi re tx:Str} (i:aH CH CS CT H A L M) (f1:H th=none) (f2:H nm=none) (f3:H pl=none) (at':lh CS H' A.t A.dt A.ml ((L.map fun a=>V.ref a.th)++[.ref th])) (aG:H' th=Option.some (.ins CT dB ks)) (kl:ks.length<=40)
  (sk:dh ks (sH (.int (L.length:Nat)) (.str kd) (.str ow) (.str mi) (.str re) (.str tx) (.ref nm) (.ref pl))) (cw:H' nm=Option.some (.dK [])) (bB:H' pl=Option.some (.dT [])) (kp:Kp [A.t,A.ml] H H') :
  aH CH CS CT H' A (L++[⟨th,dB,nm,pl⟩]) { M with ts:=M.ts++[⟨kd,ow,mi,re,tx,[],[]⟩] }:=by
 have nd:=i.nd;have sm:=i.some;have nw:∀ b∈A.w++L.flatMap Ta.l,b≠th/\b≠nm/\b≠pl:=fun b hb=>by
  obtain ⟨o,e⟩:=sm b hb;exact ⟨aK e f1,aK e f2,aK e f3⟩
 have h12:th≠nm:=bX aG cw (by nofun);have EO:th≠pl:=bX aG bB (by nofun);have h23:nm≠pl:=bX cw bB (by nofun);have n0:=nd;rw [Go] at n0;obtain ⟨n1,n2,n3⟩:=n0;simp only [Ad.w,Cl,li,lv,wn,TW] at n1;have kA:∀ b∈[A.a,A.ro,A.st,A.tr,A.ov,A.un],b ∉ [A.t,A.ml]:=by
  intro b hb hm;simp only [li,lv,wn] at hb hm;rcases hb with rfl | rfl | rfl | rfl | rfl | rfl <;> rcases hm with h | h
  ·exact n1.1.1 h
  ·exact n1.1.2.1 h
  ·exact n1.2.1.2.1 h.symm
  ·exact n1.2.2.1.1 h.symm
  ·exact n1.2.1.2.2.1 h.symm
  ·exact n1.2.2.1.2.1 h.symm
  ·exact n1.2.1.2.2.2.1 h.symm
  ·exact n1.2.2.1.2.2.1 h.symm
  ·exact n1.2.1.2.2.2.2.1 h.symm
  ·exact n1.2.2.1.2.2.2.1 h.symm
  ·exact n1.2.1.2.2.2.2.2 h.symm
  ·exact n1.2.2.1.2.2.2.2 h.symm
 refine ⟨?_,at'.o,?_,by simp [i.len],fun j t e=>?_,kp _ _ (kA _ (by simp)) i.ro,kp _ _ (kA _ (by simp)) i.st,kp _ _ (kA _ (by simp)) i.tr,kp _ _ (kA _ (by simp)) i.ov,kp _ _ (kA _ (by simp)) i.un,?_⟩
 ·obtain ⟨fs,c,e,r⟩:=i.h;exact ⟨fs,c,kp _ _ (kA _ (by simp)) e,r⟩
 ·rw [at'.ml]; simp
 ·have e':(M.ts++[(⟨kd,ow,mi,re,tx,[],[]⟩:Th)])[j]?=.some t:=e;by_cases hj:j < M.ts.length
  ·rw [Fk hj] at e';obtain ⟨a,e1,h1⟩:=i.th j t e';refine ⟨a,by rw [Fk (by rw [i.len]; exact hj)]; exact e1,h1.keep kp fun b hb hm=>?_⟩;have gg:=jv e1 hb;simp only [li,lv,wn] at hm;rcases hm with rfl | rfl
   ·exact n3 _ (by simp [Ad.w]) _ gg rfl
   ·exact n3 _ (by simp [Ad.w]) _ gg rfl
  ·rw [Do (by omega)] at e';have hj0:j - M.ts.length=0:=by
    rcases Nat.eq_zero_or_pos (j - M.ts.length) with h | h
    ·exact h
    ·rw [_T (by simp; omega)] at e'; cases e'
   rw [hj0] at e';cases e';have GC:j=L.length:=by rw [i.len]; omega
   subst GC;exact ⟨_,by rw [Do (ss _),Ja8]; rfl,⟨⟨ks,aG,kl,sk⟩,cw,bB⟩⟩
 ·rw [List.flatMap_append,<- List.append_assoc,Go];refine ⟨nd,?_,fun b hb c hc e=>?_⟩
  ·simp only [Ps,List.flatMap_nil,_o,Ta.l,Cl,li,lv,wn,TW,_O,_M,and_true];exact ⟨⟨h12,EO⟩,h23⟩
  ·obtain ⟨q1,q2,q3⟩:=nw b hb;simp only [Ps,List.flatMap_nil,_o,Ta.l,li,lv,wn] at hc;rcases hc with h | h | h
   ·exact q1 (e.trans h)
   ·exact q2 (e.trans h)
   ·exact q3 (e.trans h)
end
def Nd (CH CS CT CE:Addr):Sp:=HC fun h x n H Q _=>LB fun A L M (f:Nat) (k:Nat) af tf ak tk dx nm=>Df (aH CH CS CT H A L M) (A.a=h) (H x=some (.ins CE dx (aA "name" (.str nm) (aA "folder" (.int (f:Int)) [])))) (n=(k:Int)) (L[f]?=some af) (M.ts[f]?=some tf) (L[k]?=some ak) (M.ts[k]?=some tk) (f≠k) (aS (sD tf.aQ) (.inr nm)=none) (tf.aQ.length<=500) (tk.bP=[]) (∀ H',aH CH CS CT H' A L { M with ts:=(M.ts.set f { tf with aQ:=tf.aQ++[(nm,k)] }).set k { tk with bP:=[(f,nm)] } }->Kp [A.t,af.nm,ak.pl] H H'->Q (.int (k:Int)) H')
def D3:T.hV.k P w base 6 (Nd T.aI T.aP T.aW T.lG):=by
 refine T.hV.F.ok Wq (fun _ _ _ _ h=>M7 h fun _ _ _ _=>rfl) fun ag A outer s H vs Q E hr h=>M7 h fun hh x n h=>?_;obtain ⟨AA,L,M,f,k,af,tf,ak,tk,dx,nm,i,rfl,hx,rfl,gv,cj,iI,f9,dS,hv,hl,bB,q⟩:=h;obtain ⟨iH,gc,gh,m6,c9⟩:=i.h;obtain ⟨gs,c2,ht,cJ,sg⟩:=i.t;refine bF (b:=aR zr) ((am (aV (bf T.bS T.sZ.h (S7 T) hr.m T.sZ.b .nil au (bi T.aJ T.eE (ad 0)) (aa (bi T.oW T.wG (ad 1)) (aa (bi T.oW T.Ct (ad 1)) (aa (ad 2) ae)))))
 (aq (aM (ad 2))))) ?_
 refine stI [some (V.ref AA.a),some (V.ref x),some (V.int (k:Int))] ?_;right;exact (fI gh c9 rfl (mI ht sg ⟨x,_,_,_,rfl,hx,rfl,x,_,_,_,rfl,hx,rfl,AA,L,M,f,k,af,tf,ak,tk,i,rfl,rfl,rfl,gv,cj,iI,f9,dS,hv,hl,bB,q⟩))
def u7 (CH CS CT:Addr) (A:Ad) (L:List Ta) (M:Hs) (f:Nat) (t0:Th) (a0:Ta) (nm kd ow mi re tx:Str) (H:Hp) (Q:VK):Prop :=
 ∀ a H',aH CH CS CT H' A (L++[a]) { M with ts:=M.ts.set f { t0 with aQ:=t0.aQ++[(nm,M.ts.length)] }++[⟨kd,ow,mi,re,tx,[],[(f,nm)]⟩] }->Kp [A.t,A.ml,a0.nm] H H'->Q (.int (M.ts.length:Nat)) H'
def JF {α:Type} {y b:α}:∀ r:List α,(r++[y]).set r.length b=r++[b]
 | []=>rfl
 | c::r=>by simp only [List.cons_append,Ev,List.set_cons_succ]; rw [JF r]
def U4 {α:Type}:∀ {xs:List α} {f:Nat} {y a b:α},f < xs.length->((xs++[y]).set f a).set xs.length b=xs.set f a++[b]:=fun {xs f y a b} h=>by
 rw [List.set_append_left _ _ h];have:=JF (y:=y) (b:=b) (xs.set f a)
 rwa [_D] at this
def C7 {CH CS CT CE:Addr} {H:Hp} {A:Ad} {L:List Ta} {M:Hs} {f:Nat} {z nm kd mi re tx:Str} {a0:Ta} {t0:Th} {x dx:Addr} {Q:VK} {E:XK} (i:aH CH CS CT H A L M) (iE:L[f]?=some a0) (gA:M.ts[f]?=some t0) (hx:H x=some (.ins CE dx (aA "name" (.str nm) (aA "folder" (.int (f:Int)) [])))) (hv:aS (sD t0.aQ) (.inr nm)=none) (hl:t0.aQ.length<=400)
  (nx1:x≠A.t) (mp:u7 CH CS CT A L M f t0 a0 nm kd z mi re tx H Q):si CS CT A.t A.dt A.ml (L.map fun a=>V.ref a.th) (.str kd) (.str z) (.str mi) (.str re) (.str tx) H (fun v H'=>Nd CH CS CT CE [.ref A.a,.ref x,v] H' Q E):=by
 intro th dB nm' pl ks H' f1 f2 f3 at' aG kl sk cw bB kp;have nx2:x≠A.ml:=bX hx i.ml (by nofun);have hlen:(L.map fun a=>V.ref a.th).length=L.length:=nn _;rw [hlen] at sk ⊢;have i2:=i.add f1 f2 f3 at' aG kl sk cw bB kp;have h0:f < M.ts.length:=(lm.mp gA).1;have Gz:=i.len;have e0:(M.ts++[(⟨kd,z,mi,re,tx,[],[]⟩:Th)])[f]?=some t0:=by rw [Fk h0]; exact gA
 have ek:(M.ts++[(⟨kd,z,mi,re,tx,[],[]⟩:Th)])[L.length]?=some ⟨kd,z,mi,re,tx,[],[]⟩:=by rw [Gz,Do (ss _),Ja8]; rfl
 refine ⟨A,L++[⟨th,dB,nm',pl⟩],_,f,L.length,a0,t0,⟨th,dB,nm',pl⟩,⟨kd,z,mi,re,tx,[],[]⟩,dx,nm,i2,rfl,kp _ _ (by simp [nx1,nx2]) hx,rfl,by rw [Fk (by omega)]; exact iE,e0,by rw [Do (ss _),Ja8]; rfl,ek,by omega,hv,by omega,rfl,fun H2 i3 k3=>?_⟩;have:=mp ⟨th,dB,nm',pl⟩ H2 (by
  have e:=i3;dsimp only at e;rw [Gz] at e;rw [U4 h0] at e;exact e) (fun b o hb e=>?_)
 ·rw [Gz]; exact this
 ·simp only [li,lv,wn,TW] at hb;have nbp:b≠pl:=aK e f3;exact k3 _ _ (by simp [hb.1,hb.2.2,nbp]) (kp _ _ (by simp [hb.1,hb.2.1]) e)
def Cs {CH CS CT:Addr} {H:Hp} {A:Ad} {L:List Ta} {M:Hs} (i:aH CH CS CT H A L M):lh CS H A.t A.dt A.ml (L.map fun a=>V.ref a.th):=⟨i.t,i.ml⟩
def u7.of {CH CS CT:Addr} {H H1:Hp} {A:Ad} {L:List Ta} {M:Hs} {f:Nat} {t0:Th} {a0:Ta} {nm kd ow mi re tx:Str} {Q:VK} (s:ao H H1) (m:u7 CH CS CT A L M f t0 a0 nm kd ow mi re tx H Q):u7 CH CS CT A L M f t0 a0 nm kd ow mi re tx H1 Q:=fun a H' i k=>m a H' i ((Kp.of s).trans k)
def abR (K:PySem.W.Frag):Sp:=lB fun pt H Q _=>X1 fun t=>A4 (pt=Tx.S t) (gd t) (t.length<=120) (∀ H',ao H H'->Q .ay H')
def abi:T.pX.k P w base 4 (abR K):=by
 refine T.pX.F.ok aac (fun _ _ _ _ h=>fC h fun _ _=>rfl) fun ag A outer s H vs Q E hr h=>fC h fun pt h=>?_;obtain ⟨t,rfl,pt,hl,q⟩:=h;refine bF (b:=aR Ay) ((am (aV (bv (jr T) hr.m T.cy.m T.cy.F.kp T.cy.b .nil au (aa (ad 0) ae)))
 (aq (bu (cf zJ (cY (oA (K:=K) rfl) T.nS _g (aa (ad 0) ae)) (dl (.int 120) T.Pp ⟨_,rfl⟩)) (aq iN) ci)))) ?_
 refine stI [some (V.str (Tx.S t))] ?_;right;refine ⟨t,rfl,pt.l1,pt.l2,pt.all,fun H1 l p s1 _ _ _=>?_⟩;left;refine ⟨by rw [Tx.cQ]; exact fits (by omega),?_⟩;rw [Tx.cQ,pc (show ¬ (t.length:Int) > 120 by omega)];exact bg (q _ s1)
def WC:T.sr.k P w mg base 4 (Zj T.aP T.aW):=by
 refine T.sr.F.ok XG (fun _ _ _ _ h=>mh h fun _ _ _ _=>rfl) fun ag A outer s H vs Q E hr h=>mh h fun x ow tx h=>?_;obtain ⟨dt,ml,rs,at',dG,q⟩:=h;obtain ⟨fs,c,hx,aY,sf⟩:=at'.o;refine ⟨_,((aq (aM (bf T.bS T.kQ.h (Cf T) hr.m T.kQ.b .nil au (ad 0) (aa (dl (.str "lead") T.Xl ⟨_,rfl⟩) (aa (ad 1) (aa ap (aa ap (aa (ad 2) ae))))))))).h,?_⟩;refine stI [some (.ref x),some ow,some tx] ?_;left;exact ⟨x,dt,fs,rfl,hx,(sf _).trans rfl,dt,ml,rs,at',dG,q⟩
structure yk (N:Cn) (H:Hp) (A:Ad) (L:List Ta) (M:Hs) (z:Str) (t:List Nat) (kd mi re tx:Str) (Q:VK) (E:XK):Prop where
 i:aH N.CH N.CS N.CT H A L M
 p:gd t
 hz:(aS (sD M.ro) (.inr z)).isSome=true
 kR:mi∈iu
 jR:re∈iu
 hL:L.length<=400
 hl:∀ (f:Nat) t0,M.ts[f]?=some t0->t0.aQ.length<=400
 r:∃ root r,n8 ⟨L,M,z,true,root⟩ t r/\(∀ x,r=.inl x->c7 N H E x)/\∀ f nm a0 t0,r=.inr (f,nm)->L[f]?=some a0->M.ts[f]?=some t0->u7 N.CH N.CS N.CT A L M f t0 a0 (Tx.S nm) kd z mi re tx H Q
def Ic (N:Cn):Sp:=AD fun h z pt mi re H Q E=>X4 fun A L M t=>A3 (pt=Tx.S t) (yk N H A L M z t "folder" mi re "" Q E) (A.a=h)
def Nm (N:Cn):Sp:=Dx fun h z pt tx mi re H Q E=>X4 fun A L M t=>A4 (pt=Tx.S t) (yk N H A L M z t "file" mi re tx Q E) (A.a=h) (tx.length<=60)
def S8:aC P w K mg base (bo P w) 15 T.Fm T.vG ["house","asker","path","mine","rest"] (Ic T.cn):=by
 refine T.xQ.dE JP (fun vs H Q E h=>?_) (fun ag A outer s H vs Q E hr h=>?_)
 ·exact vO h fun _ _ _ _ _ _=>rfl
 ·refine vO h fun hh z pt mi re h=>?_;obtain ⟨AA,L,M,t,rfl,pr,rfl⟩:=h;obtain ⟨iH,gc,gh,m6,c9⟩:=pr.i.h;obtain ⟨root,r,gS,q1,q2⟩:=pr.r;refine bF (b:=aR qY) ((am (aV (cW T.aJ T.dU.h (kP T) hr.m T.dU.b .nil cz (ad 0) (aa (ad 1) ae)))
  (am (aV (bv (jr T) hr.m T.cy.m T.cy.F.kp T.cy.b .nil au (aa (ad 2) ae)))
  (am (aV (bv (pU T) hr.m T.dW.m T.dW.F.kp T.dW.b .nil au (aa (ad 3) ae)))
  (am (aV (bv (pU T) hr.m T.dW.m T.dW.F.kp T.dW.b .nil au (aa (ad 4) ae)))
  (am (aO 5 JP.nd (cB (AK T) hr.m T.iq.m T.iq.F.kp T.iq.b .nil cz (aa (ad 0) (aa (ad 1) (aa (ad 2) ae)))))
  (aq (aM (bv (D3 T) hr.m T.hV.m T.hV.F.kp T.hV.b .nil au (aa (ad 0) (aa (ad 5) (aa (bf T.bS T.oj.h (K6 T) hr.m T.oj.b .nil au (bi T.aJ T.eE (ad 0)) (aa (ad 1) (aa (ad 3) (aa (ad 4) ae)))) ae)))))))))))) ?_
  refine stI [some (V.ref AA.a),some (V.str z),some (V.str (Tx.S t)),some (V.str mi),some (V.str re),none] ?_;right;refine (mI gh c9 (me pr.i pr.hz (ai ?_)));left;refine ⟨t,rfl,pr.p.l1,pr.p.l2,pr.p.all,fun H1 l p s1 _ hl hp=>ai ?_⟩;left;refine ⟨pr.kR,ai ?_⟩;left;refine ⟨pr.jR,ai ?_⟩;left;refine ⟨AA,L,M,root,t,r,rfl,pr.p,pr.i.same s1,rfl,pr.hz,gS,fun x e=>(q1 x e).of s1,fun f nm e x dx H2 fx s2 hx=>?_⟩;left;have i2:=pr.i.same (s1.trans s2);obtain ⟨yY,yW,ke,E6,kf⟩:=i2.h;obtain ⟨gs,c2,ht,cJ,sg⟩:=i2.t;obtain ⟨_,_,gZ,_⟩:=(pr.i.same s1).t;subst e;cases gS with
  | free g hn iE gA hw hv =>
   refine (fI ke kf rfl (mI ht sg ⟨AA.dt,AA.ml,_,Cs i2,by rw [nn]; have:=pr.hL; omega,C7 i2 iE gA hx hv (pr.hl _ _ gA) (pi (aK gZ fx)) ((q2 _ _ _ _ rfl iE gA).of (s1.trans s2))⟩))
def WE:aC P w K mg base (bo P w) 15 T.Fj T.vy ["house","asker","path","text","mine","rest"] (Nm T.cn):=by
 refine T.xw.dE Ln (fun vs H Q E h=>?_) (fun ag A outer s H vs Q E hr h=>?_)
 ·exact ye h fun _ _ _ _ _ _ _=>rfl
 ·refine ye h fun hh z pt tx mi re h=>?_;obtain ⟨AA,L,M,t,rfl,pr,rfl,o6⟩:=h;obtain ⟨iH,gc,gh,m6,c9⟩:=pr.i.h;obtain ⟨root,r,gS,q1,q2⟩:=pr.r;refine bF (b:=aR qr) ((am (aV (cW T.aJ T.dU.h (kP T) hr.m T.dU.b .nil cz (ad 0) (aa (ad 1) ae)))
  (am (aV (bv (jr T) hr.m T.cy.m T.cy.F.kp T.cy.b .nil au (aa (ad 2) ae)))
  (am (aV (bv (pU T) hr.m T.dW.m T.dW.F.kp T.dW.b .nil au (aa (ad 4) ae)))
  (am (aV (bv (pU T) hr.m T.dW.m T.dW.F.kp T.dW.b .nil au (aa (ad 5) ae)))
  (am (aV (bv (Mc T) hr.m T.kG.m T.kG.F.kp T.kG.b .nil au (aa (ad 3) ae)))
  (am (aO 6 Ln.nd (cB (AK T) hr.m T.iq.m T.iq.F.kp T.iq.b .nil cz (aa (ad 0) (aa (ad 1) (aa (ad 2) ae)))))
  (aq (aM (bv (D3 T) hr.m T.hV.m T.hV.F.kp T.hV.b .nil au (aa (ad 0) (aa (ad 6) (aa (bf T.bS T.uC.h (VT T) hr.m T.uC.b .nil au (bi T.aJ T.eE (ad 0)) (aa (ad 1) (aa (ad 3) (aa (ad 4) (aa (ad 5) ae))))) ae))))))))))))) ?_
  refine stI [some (V.ref AA.a),some (V.str z),some (V.str (Tx.S t)),some (V.str tx),some (V.str mi),some (V.str re),none] ?_;right;refine (mI gh c9 (me pr.i pr.hz (ai ?_)));left;refine ⟨t,rfl,pr.p.l1,pr.p.l2,pr.p.all,fun H1 l p s1 _ hl hp=>ai ?_⟩;left;refine ⟨pr.kR,ai ?_⟩;left;refine ⟨pr.jR,ai ?_⟩;left;refine ⟨o6,ai ?_⟩;left;refine ⟨AA,L,M,root,t,r,rfl,pr.p,pr.i.same s1,rfl,pr.hz,gS,fun x e=>(q1 x e).of s1,fun f nm e x dx H2 fx s2 hx=>?_⟩;left;have i2:=pr.i.same (s1.trans s2);obtain ⟨yY,yW,ke,E6,kf⟩:=i2.h;obtain ⟨gs,c2,ht,cJ,sg⟩:=i2.t;obtain ⟨_,_,gZ,_⟩:=(pr.i.same s1).t;subst e;cases gS with
  | free g hn iE gA hw hv =>
   refine (fI ke kf rfl (mI ht sg ⟨AA.dt,AA.ml,_,Cs i2,by rw [nn]; have:=pr.hL; omega,C7 i2 iE gA hx hv (pr.hl _ _ gA) (pi (aK gZ fx)) ((q2 _ _ _ _ rfl iE gA).of (s1.trans s2))⟩))
def MU (N:Cn):Sp:=zH fun h z pt tx H Q E=>X5 fun A L M t tl=>A6 (pt=Tx.S t) (tx=Tx.S tl) (yk N H A L M z t "lead" "" "" tx Q E) (A.a=h) (gd tl) (tl.length<=120)
def ab5:aC P w K mg base (bo P w) 15 T.qF.f T.qF.d ["house","asker","path","lead"] (MU T.cn):=by
 refine T.qF.F.dE Hq (fun _ _ _ _ h=>xH h fun _ _ _ _ _=>rfl) fun ag A outer s H vs Q E hr h=>xH h fun hh z pt tx h=>?_;obtain ⟨AA,L,M,t,tl,rfl,rfl,pr,rfl,yV,hl120⟩:=h;obtain ⟨iH,gc,gh,m6,c9⟩:=pr.i.h;obtain ⟨root,r,gS,q1,q2⟩:=pr.r;refine bF (b:=aR CP) ((am (aV (cW T.aJ T.dU.h (kP T) hr.m T.dU.b .nil cz (ad 0) (aa (ad 1) ae)))
 (am (aV (bv (jr T) hr.m T.cy.m T.cy.F.kp T.cy.b .nil au (aa (ad 2) ae)))
 (am (aV (bv (abi T) hr.m T.pX.m T.pX.F.kp T.pX.b .nil au (aa (ad 3) ae)))
 (am (aO 4 Hq.nd (cB (AK T) hr.m T.iq.m T.iq.F.kp T.iq.b .nil cz (aa (ad 0) (aa (ad 1) (aa (ad 2) ae)))))
 (aq (aM (bv (D3 T) hr.m T.hV.m T.hV.F.kp T.hV.b .nil au (aa (ad 0) (aa (ad 4) (aa (bf T.bS T.sr.h (WC T) hr.m T.sr.b .nil au (bi T.aJ T.eE (ad 0)) (aa (ad 1) (aa (ad 3) ae))) ae))))))))))) ?_
 refine stI [some (V.ref AA.a),some (V.str z),some (V.str (Tx.S t)),some (V.str (Tx.S tl)),none] ?_;right;refine (mI gh c9 (me pr.i pr.hz (ai ?_)));left;refine ⟨t,rfl,pr.p.l1,pr.p.l2,pr.p.all,fun H1 l p s1 _ hl hp=>ai ?_⟩;left;refine ⟨tl,rfl,yV,hl120,fun H1' s1'=>ai ?_⟩
 replace s1:=s1.trans s1'
 clear hl hp;generalize H1'=H1 at s1 ⊢;left;refine ⟨AA,L,M,root,t,r,rfl,pr.p,pr.i.same s1,rfl,pr.hz,gS,fun x e=>(q1 x e).of s1,fun f nm e x dx H2 fx s2 hx=>?_⟩;left;have i2:=pr.i.same (s1.trans s2);obtain ⟨yY,yW,ke,E6,kf⟩:=i2.h;obtain ⟨gs,c2,ht,cJ,sg⟩:=i2.t;obtain ⟨_,_,gZ,_⟩:=(pr.i.same s1).t;subst e;cases gS with
 | free g hn iE gA hw hv =>
  refine (fI ke kf rfl (mI ht sg ⟨AA.dt,AA.ml,_,Cs i2,by rw [nn]; have:=pr.hL; omega,C7 i2 iE gA hx hv (pr.hl _ _ gA) (pi (aK gZ fx)) ((q2 _ _ _ _ rfl iE gA).of (s1.trans s2))⟩))
inductive zw (d:Wd) (t:List Nat):Sum Rf Nat->Prop
 | way {e}:dO d t e->(∀ k ns,e.res≠.found k ns)->zw d t (.inl (.way e.res))
 | file {e k ns a th}:dO d t e->e.res=.found k ns->d.L[k]?=some a->d.M.ts[k]?=some th->th.kd≠("folder" : Str)->zw d t (.inl (.cO "file"))
 | ok {e k ns a th}:dO d t e->e.res=.found k ns->d.L[k]?=some a->d.M.ts[k]?=some th->th.kd=("folder" : Str)->zw d t (.inr k)
inductive tP (d:Wd) (t:List Nat):Sum Rf Nat->Prop
 | way {e}:dO d t e->(∀ k ns,e.res≠.found k ns)->tP d t (.inl (.way e.res))
 | L9 {e k ns a th}:dO d t e->e.res=.found k ns->d.L[k]?=some a->d.M.ts[k]?=some th->th.ow≠d.z->tP d t (.inl (.cO "mine"))
 | ok {e k ns a th}:dO d t e->e.res=.found k ns->d.L[k]?=some a->d.M.ts[k]?=some th->th.ow=d.z->tP d t (.inr k)
def MW (N:Cn):Sp:=AD fun h z pt m r H Q E=>X6 fun A L M root t x=>A8 (pt=Tx.S t) (aH N.CH N.CS N.CT H A L M) (A.a=h) (tP ⟨L,M,z,true,root⟩ t x) (m∈iu) (r∈iu) (∀ y,x=.inl y->c7 N H E y) (∀ k a th,x=.inr k->L[k]?=some a->M.ts[k]?=some th ->
   ∀ H',aH N.CH N.CS N.CT H' A L { M with ts:=M.ts.set k { th with mi:=m,re:=r } }->Kp [A.t,a.th] H H'->Q .ay H')
def abO:aC P w K mg base (bo P w) 16 T.qz.f T.qz.d ["house","asker","path","mine","rest"] (MW T.cn):=by
 refine T.qz.F.dE LV (fun _ _ _ _ h=>vO h fun _ _ _ _ _ _=>rfl) fun ag A outer s H vs Q E hr h=>vO h fun hh z pt m r h=>?_;obtain ⟨AA,L,M,root,tt,x,rfl,i,rfl,hx,hm,hr',q1,q2⟩:=h;obtain ⟨e,pa,g1,g2⟩:∃ e,dO ⟨L,M,z,true,root⟩ tt e/\((∀ k ns,e.res≠.found k ns)->x=.inl (.way e.res))/\∀ k ns,e.res=.found k ns->∃ a th,L[k]?=some a/\M.ts[k]?=some th/\(th.ow=z->x=.inr k)/\(th.ow≠z->x=.inl (.cO "mine")):=by
  cases hx with
  | way h1 h2=>exact ⟨_,h1,fun _=>rfl,fun k ns e=>absurd e (h2 k ns)⟩
  | L9 h1 h2 h3 h4 h5=>exact ⟨_,h1,fun k=>absurd h2 (k _ _),fun k ns e=>by rw [h2] at e; cases e; exact ⟨_,_,h3,h4,fun z=>absurd z h5,fun _=>rfl⟩⟩
  | ok h1 h2 h3 h4 h5=>exact ⟨_,h1,fun k=>absurd h2 (k _ _),fun k ns e=>by rw [h2] at e; cases e; exact ⟨_,_,h3,h4,fun _=>rfl,fun z=>absurd h5 z⟩⟩
 obtain ⟨iH,gc,gh,m6,c9⟩:=i.h;refine bF (b:=aR zh) ((am (aV (cW T.aJ T.dU.h (kP T) hr.m T.dU.b .nil cz (ad 0) (aa (ad 1) ae)))
 (am (aV (bv (jr T) hr.m T.cy.m T.cy.F.kp T.cy.b .nil au (aa (ad 2) ae)))
 (am (aV (bv (pU T) hr.m T.dW.m T.dW.F.kp T.dW.b .nil au (aa (ad 3) ae)))
 (am (aV (bv (pU T) hr.m T.dW.m T.dW.F.kp T.dW.b .nil au (aa (ad 4) ae)))
 (am (aO 5 LV.nd (cB (B5 T) hr.m T.iB.m T.iB.F.kp T.iB.b .nil cz (aa (ad 0) (aa (ad 1) (aa (ad 2) ae)))))
 (am (bu (cf kU (bf T.aJ T.nJ.h (JU T) hr.m T.nJ.b .nil au (ad 0) (aa (ad 5) ae)) (ad 1)) (aq (nU oX rfl rfl T.oE T.mw T.qp (qk T) hr.m T.jD.b (aa ap ae))) ci)
 (aq (aV (bf T.bS T.uG.h (YA T) hr.m T.uG.b .nil au (bi T.aJ T.eE (ad 0)) (aa (ad 5) (aa (ad 3) (aa (ad 4) ae))))))))))))) ?_
 refine stI [some (V.ref AA.a),some (V.str z),some (V.str (Tx.S tt)),some (V.str m),some (V.str r),none] ?_;right;refine (mI gh c9 (me i pa.hz (ai ?_)));left;refine ⟨tt,rfl,pa.l1,pa.l2,pa.all,fun H1 l p s1 _ hl hp=>ai ?_⟩;left;refine ⟨hm,ai ?_⟩;left;refine ⟨hr',ai ?_⟩;left;refine ⟨AA,L,M,root,tt,e,rfl,i.same s1,rfl,pa,fun k ns he H2 s2=>ai ?_,fun hn=>(q1 _ (g1 hn)).of s1⟩
 ·left;have i2:=i.same (s1.trans s2);obtain ⟨yY,yW,ke,E6,kf⟩:=i2.h;obtain ⟨gs,c2,E2,cJ,sg⟩:=i2.t;obtain ⟨a,t,ha,ht,g3,g4⟩:=g2 k ns he;refine (mI ke kf ⟨AA,L,M,k,a,t,i2,rfl,rfl,ha,ht,?_⟩);show (if (!decide (t.ow=z))=true then _ else _);by_cases how:t.ow=z
  ·rw [u8 how];exact bg (fI ke kf rfl (mI E2 sg ⟨AA,L,M,k,a,t,i2,rfl,rfl,ha,ht,fun H3 i3 k3=>q2 k a t (g3 how) ha ht H3 i3 ((Kp.of (s1.trans s2)).trans k3)⟩))
  ·rw [pc how];exact bK ⟨_,rfl,fun d hd=>(q1 _ (g4 how)).raise (s1.trans s2) hd⟩
def AS:List Str:=["own","guest"]
inductive fS (M:Hs) (r:Nat):Nat->Prop
 | refl:fS M r r
 | up {k f nm t}:M.ts[k]?=some t->t.bP=[(f,nm)]->fS M r f->fS M r k
structure rj (M:Hs) (k:Nat) (t:Th):Prop where
 nl:t.aQ.length<=M.ts.length
 kd:t.kd=("folder" : Str)\/t.kd=("file" : Str)\/t.kd=("lead" : Str)
 ld:t.kd=("lead" : Str)->∃ tl,t.tx=Tx.S tl/\gd tl/\tl.length<=120
 pl:k=0/\t.bP=[]\/∃ (f:Nat) (nm:Str) (tf:Th),f < k/\t.bP=[(f,nm)]/\nm.length<=8/\M.ts[f]?=some tf/\tf.kd=("folder" : Str)
 ch:∀ z v,aS (sD t.aQ) (.inr z)=some v->∃ (c:Nat) (tc:Th),v=.int (c:Int)/\M.ts[c]?=some tc/\tc.bP=[(k,z)]
structure GdA (M:Hs) (z:Str) (r k:Nat):Prop where
 ro:aS (sD M.ro) (.inr z)=some (.int (r:Int))
 st:aS (sD M.st) (.inr z)=some (.int (k:Int))
 b:fS M r k
 tr:∃ t,M.ts[r]?=some t/\t.kd=("folder" : Str)
 tk:∃ t,M.ts[k]?=some t/\t.kd=("folder" : Str)
structure Gd (M:Hs):Prop where
 tr:M.tr=[(("main" : Str),0)]
 ov:M.ov=[]
 un:M.un=[]
 as:∀ z∈AS,∃ r k,GdA M z r k
 rl:M.ro.length<=3
 sl:M.st.length<=3
 t0:∃ t,M.ts[0]?=some t/\t.kd=("folder" : Str)
 th:∀ k t,M.ts[k]?=some t->rj M k t
def qu (p:Str):Prop:=p=("." : Str)\/p=(".." : Str)\/fq (.str p)=true/\p.length<=8
def GU {wd:List Nat} (h:cL wd=true):qu (Tx.S wd):=by
 unfold cL at h;simp only [Bool.or_eq_true,_q] at h;rcases h with (rfl | rfl) | h
 ·exact .inl (by decide +kernel)
 ·exact .inr (.inl (by decide +kernel))
 ·exact .inr (.inr ⟨BY h,by rw [Tx.cQ]; exact (wy h).2.2.2⟩)
section
variable {M:Hs} {L:List Ta} {z:Str} {r:Nat}
def adr (hL:L.length=M.ts.length) {k:Nat} {t:Th} (h:M.ts[k]?=some t):∃ a,L[k]?=some a :=
 ⟨_,mo (by rw [hL]; exact (lm.mp h).1)⟩
def Gd.dA (g:Gd M) (k:Nat):du M k k [] :=
 ⟨⟨0,by unfold kJ; rw [g.un]; exact ⟨rfl,rfl⟩⟩,0,by unfold jG; rw [g.ov]; exact ⟨rfl,rfl⟩,wP _⟩
def Gd.we (g:Gd M) {k b:Nat} {r:List Nat} (h:du M k b r):b=k/\r=[]:=by
 obtain ⟨⟨n,h1⟩,n2,h2,_⟩:=h;refine ⟨?_,?_⟩
 ·cases n with
  | zero=>exact h1.2
  | succ n=>obtain ⟨k',e,_⟩:=h1; rw [g.un] at e; cases e
 ·cases n2 with
  | zero=>exact h2.2
  | succ n=>obtain ⟨k',r,e,_⟩:=h2; rw [g.ov] at e; cases e
def sM {k:Nat}:fU r [k]=decide (k=r):=by
 unfold fU;by_cases h:k=r
 ·simp [h]
 ·simp [h]
def Gd.par (g:Gd M) {k:Nat} {t:Th} (ht:M.ts[k]?=some t) (hb:fS M r k) (hk:k≠r):∃ (f:Nat) (nm:Str) (tf:Th),f < k/\t.bP=[(f,nm)]/\nm.length<=8/\M.ts[f]?=some tf/\tf.kd=("folder" : Str)/\fS M r f:=by
 cases hb with
 | refl=>exact absurd rfl hk
 | up h1 h2 h3 =>
  rw [ht] at h1; cases h1;rcases (g.th k t ht).pl with ⟨_,e⟩ | ⟨f,nm,tf,hf,hp,hl,cj,jf⟩
  ·rw [e] at h2; cases h2
  ·rw [hp] at h2; cases h2;exact ⟨_,_,tf,hf,hp,hl,cj,jf,h3⟩
def Gd.seen (g:Gd M) (hL:L.length=M.ts.length):∀ (n k:Nat) (t:Th),k<=n->M.ts[k]?=some t->fS M r k->kK M L r n k true
 | n,k,t,hk,ht,hb=>by
  obtain ⟨a,ha⟩:=adr hL ht;unfold kK;refine ⟨k,[],a,t,ha,ht,g.dA k,?_⟩;rw [wT (show k=dF k [] from rfl),sM];by_cases h0:k=r
  ·rw [wT (u8 h0)]
  ·rw [wS (by rw [pc h0]; nofun)];obtain ⟨f,nm,tf,hf,hp,_,cj,_,hb'⟩:=g.par ht hb h0;refine ⟨a,t,ha,ht,.inr ⟨f,nm,hp,?_⟩⟩
   match n,hk with
   | 0,hk=>omega
   | n+1,hk=>exact g.seen hL n f tf (by omega) cj hb'
def Gd.nm (g:Gd M) (hL:L.length=M.ts.length):∀ (n k:Nat) (t:Th),k<=n->M.ts[k]?=some t->fS M r k->∃ ns,ju M L r n k ns/\ns.length<=k/\∀ s∈ns,s.length<=8
 | n,k,t,hk,ht,hb=>by
  obtain ⟨a,ha⟩:=adr hL ht;by_cases h0:k=r
  ·refine ⟨[],?_,wP _,fun _ h=>by cases h⟩;unfold ju;exact ⟨k,[],a,t,ha,ht,g.dA k,by rw [sM,wT (u8 h0)]⟩
  ·obtain ⟨f,nm,tf,hf,hp,hl,cj,_,hb'⟩:=g.par ht hb h0
   match n,hk with
   | 0,hk=>omega
   | n+1,hk =>
    obtain ⟨ns,h1,h2,h3⟩:=g.nm hL n f tf (by omega) cj hb';refine ⟨ns++[nm],?_,by rw [sK]; simp; omega,fun s hs=>?_⟩
    ·unfold ju;refine ⟨k,[],a,t,ha,ht,g.dA k,?_⟩;rw [sM,wS (by rw [pc h0]; nofun)];exact ⟨a,t,f,nm,ha,ht,hp,ns,rfl,h1⟩
    ·rcases KB.mp hs with hs | hs
     ·exact h3 s hs
     ·rw [AT.mp hs]; exact hl
def JH:fq (.str ("." : Str))=false/\fq (.str (".." : Str))=false:=by decide +kernel
end
def Val (M:Hs) (r:Nat) (S:Ws):Prop:=∃ t,M.ts[S.here]?=some t/\(t.kd=("folder" : Str)/\fS M r S.here\/t.kd≠("folder" : Str)/\∃ (f:Nat) (nm:Str) (tf:Th),S.place=some (f,nm)/\nm.length<=8/\M.ts[f]?=some tf/\fS M r f)
def fv:List (Sum Nat Str)->Nat
 | []=>0
 | .inl _::r=>fv r+1
 | .inr _::r=>fv r
def uB:∀ (a b:List (Sum Nat Str)),fv (a++b)=fv a+fv b
 | [],b=>by simp [fv]
 | .inl _::a,b=>by show fv (a++b)+1=fv a+1+fv b; rw [uB a b]; omega
 | .inr _::a,b=>uB a b
def M9 (c:Nat) (t:List Nat):(Tx.words c t).length<=t.length+1:=wf (_S _ _) (Tx.Cg c t)
def Js:∀ ps:List Str,fv (ps.map Sum.inr)=0
 | []=>rfl
 | _::r=>Js r
def KO (ps:List Str):fv (df ps)=0:=by
 unfold df;rw [<- List.map_reverse];exact Js _
structure zB (d:Wd) (S:Ws):Prop where
 v:Val d.M d.root S
 ps:∀ p,Sum.inr p∈S.left->qu p
 cn:fv S.left=S.bG.length
 rl:S.read<=40
def mu (S:Ws):Nat:=126 * (40 - S.read)+S.left.length
def Ha {t:List Nat} (h:(Tx.words 47 t).all cL=true):∀ p∈e8 t,qu p:=fun p hp=>by
 obtain ⟨x,hx,rfl⟩:=AC.mp hp;exact GU (At.mp (Cy (t:=t) h) x hx)
def G3 {ps:List Str} {p:Str} (h:Sum.inr p∈df ps):p∈ps:=by
 unfold df at h;obtain ⟨q,hq,e⟩:=AC.mp (List.mem_reverse.mp h);cases e; exact hq
section
variable {d:Wd}
def Qv (g:Gd d.M) (hL:d.L.length=d.M.ts.length) (hr:∃ t,d.M.ts[d.root]?=some t/\t.kd=("folder" : Str)) {S:Ws} {p:Str} (w:zB d S) (hp:qu p):∃ S' o,eO d S p S' o/\(o=none->zB d S'/\mu S'<=mu S):=by
 obtain ⟨t,ht,hk⟩:=w.v;obtain ⟨a,ha⟩:=adr hL ht;by_cases bT:t.kd=("folder" : Str)
 ·have hb:fS d.M d.root S.here:=by
   rcases hk with h | h
   ·exact h.2
   ·exact absurd bT h.1
  cases hm:dw ("g" : Str) (cZ t d.z) with
  | false=>exact ⟨_,_,.oJ ha ht bT hm,nofun⟩
  | true =>
   have hA:wA d S t:=⟨⟨a,ha⟩,ht,bT,hm⟩;rcases hp with hp | hp | ⟨hp,FL⟩
   ·exact ⟨_,_,.dot hA hp,fun _=>⟨⟨⟨t,ht,.inl ⟨bT,hb⟩⟩,w.ps,w.cn,w.rl⟩,ss _⟩⟩
   ·by_cases h0:S.here=d.root
    ·exact ⟨_,_,.up hA hp (.gi ha ht (g.dA _) (by rw [sM]; exact u8 h0)),fun _=>⟨⟨⟨t,ht,.inl ⟨bT,hb⟩⟩,w.ps,w.cn,w.rl⟩,ss _⟩⟩
    ·obtain ⟨f,nm,tf,hf,bB,hl,cj,jf,hb'⟩:=g.par ht hb h0;obtain ⟨af,gv⟩:=adr hL cj;exact ⟨_,_,.up hA hp (.up ha ht (g.dA _) (by rw [sM]; exact pc h0) ha ht bB gv cj (g.dA f)),fun _=>⟨⟨⟨tf,cj,.inl ⟨jf,hb'⟩⟩,w.ps,w.cn,w.rl⟩,ss _⟩⟩
   ·have n1:p≠(".." : Str):=fun e=>by rw [e,JH.2] at hp; cases hp
    have n2:p≠("." : Str):=fun e=>by rw [e,JH.1] at hp; cases hp
    cases hv:aS (sD t.aQ) (.inr p) with
    | none=>exact ⟨_,_,.go hA n1 n2 hp (by omega) (.no hv),nofun⟩
    | some u =>
     obtain ⟨k,tc,rfl,ej,hpc⟩:=(g.th _ t ht).ch _ _ hv;obtain ⟨ac,gD⟩:=adr hL ej;by_cases nh:tc.kd=("folder" : Str)
     ·exact ⟨_,_,.go hA n1 n2 hp (by omega) (.folder hv gD ej nh (g.dA k)),fun _=>⟨⟨⟨tc,ej,.inl ⟨nh,.up ej hpc hb⟩⟩,w.ps,w.cn,w.rl⟩,ss _⟩⟩
     by_cases hf:tc.kd=("file" : Str)\/S.left=[]/\d.last=false
     ·exact ⟨_,_,.go hA n1 n2 hp (by omega) (.fin hv gD ej nh hf),fun _=>⟨⟨⟨tc,ej,.inr ⟨nh,_,_,t,rfl,FL,ht,hb⟩⟩,w.ps,w.cn,w.rl⟩,ss _⟩⟩
     have gz:tc.kd=("lead" : Str):=by
      rcases (g.th _ tc ej).kd with h | h | h
      ·exact absurd h nh
      ·exact absurd (.inl h) hf
      ·exact h
     have fc:tc.kd≠("file" : Str):=fun z=>hf (.inl z);have gC:¬ (S.left=[]/\d.last=false):=fun z=>hf (.inr z);by_cases hm1:k∈S.bG
     ·exact ⟨_,_,.go hA n1 n2 hp (by omega) (.lead hv gD ej nh fc gC (.ring hm1)),nofun⟩
     by_cases rM:S.read=40
     ·exact ⟨_,_,.go hA n1 n2 hp (by omega) (.lead hv gD ej nh fc gC (.many hm1 rM)),nofun⟩
     obtain ⟨tl,e1,e2,e3⟩:=(g.th _ tc ej).ld gz;obtain ⟨tr,iL,FZ⟩:=hr;obtain ⟨ar,mY⟩:=adr hL iL;have hlen:(e8 tl).length<=124:=by
      have h1:=@Et (Tx.words 47 tl) tl;have h2:=M9 47 tl;unfold e8;rw [nn];omega
     have rT:=DQ (e8 tl);have dG:=w.rl;refine ⟨_,_,.go hA n1 n2 hp (by omega) (.lead hv gD ej nh fc gC (.read hm1 rM (.mk gD ej e1 e2.l1 e2.l2 e2.all hlen mY iL (g.dA _)))),fun _=>⟨⟨?_,fun q hq=>?_,?_,?_⟩,?_⟩⟩
     ·unfold hU;by_cases hrt:dJ tl=true
      ·rw [wT hrt];exact ⟨tr,iL,.inl ⟨FZ,.refl⟩⟩
      ·rw [wS hrt];exact ⟨t,ht,.inl ⟨bT,hb⟩⟩
     ·unfold hU at hq;rcases KB.mp hq with hq | hq
      ·rcases KB.mp hq with hq | hq
       ·exact w.ps q hq
       ·cases AT.mp hq
      ·exact Ha e2.all q (G3 hq)
     ·unfold hU;show fv ((S.left++[.inl k])++df (e8 tl))=(S.bG++[k]).length;rw [uB,uB,KO,w.cn,sK];rfl
     ·unfold hU;show S.read+1<=40;omega
     ·unfold hU mu dM;simp only [sK,Ev,_E,rT];omega
 ·exact ⟨_,_,.flat ha ht bT,nofun⟩
def CZ (g:Gd d.M) (hL:d.L.length=d.M.ts.length) (hr:∃ t,d.M.ts[d.root]?=some t/\t.kd=("folder" : Str)):∀ (n:Nat) {S:Ws},mu S<=n->zB d S->∃ m S' o,fB d m S S' o/\(o=none->Val d.M d.root S')
 | n,S,hn,w=>by
  rcases _X S.left with e | ⟨l,x,e⟩
  ·exact ⟨_,_,_,.done e,fun _=>w.v⟩
  rw [_Y] at e;have hlen:S.left.length=l.length+1:=by rw [e,sK]; rfl
  have gB:∀ p,Sum.inr p∈l->qu p:=fun p hp=>w.ps p (by rw [e]; exact Pi _ hp);have je:=w.cn;rw [e,uB] at je
  match n,hn with
  | 0,hn=>unfold mu at hn; omega
  | n+1,hn =>
   cases x with
   | inl k =>
    have h1:fv [Sum.inl (β:=Str) k]=1:=rfl;rw [h1] at je;rcases _X S.bG with er | ⟨r,j,er⟩
    ·rw [er] at je; simp at je
    rw [_Y] at er;rw [er,sK] at je;obtain ⟨m,S',o,h2,h3⟩:=CZ g hL hr n (S:={ S with left:=l,bG:=r }) (by unfold mu at hn ⊢; dsimp only; omega) ⟨w.v,gB,by show fv l=r.length; simp at je; omega,w.rl⟩;exact ⟨_,_,_,.pop e er h2,h3⟩
   | inr p =>
    have h1:fv [Sum.inr (α:=Nat) p]=0:=rfl;rw [h1] at je;obtain ⟨S1,o,h2,h3⟩:=Qv g hL hr (S:={ S with left:=l }) (p:=p) ⟨w.v,gB,je,w.rl⟩ (w.ps p (by rw [e]; simp));cases o with
    | some y=>exact ⟨_,_,_,.fail e h2,nofun⟩
    | none =>
     obtain ⟨w1,hm⟩:=h3 rfl;obtain ⟨m,S',o,h4,h5⟩:=CZ g hL hr n (S:=S1) (by unfold mu at hn hm ⊢; dsimp only at hm; omega) w1;exact ⟨_,_,_,.step e h2 h4,h5⟩
def eO.YH {S S':Ws} {p:Str} {o:Option Tl} {x:Sum Nat Str} {r:List (Sum Nat Str)} (h:eO d S p S' o) (e:S.left=x::r):∃ r',S'.left=x::r':=by
 cases h with
 | flat=>exact ⟨_,e⟩
 | oJ=>exact ⟨_,e⟩
 | dot=>exact ⟨_,e⟩
 | up=>exact ⟨_,e⟩
 | go _ _ _ _ _ hb =>
  cases hb with
  | no=>exact ⟨_,e⟩
  | folder=>exact ⟨_,e⟩
  | fin=>exact ⟨_,e⟩
  | lead _ _ _ _ _ _ hm =>
   cases hm with
   | ring=>exact ⟨_,e⟩
   | many=>exact ⟨_,e⟩
   | read _ _ hr =>
    cases hr;unfold hU;dsimp only;exact ⟨_,by rw [show (dM S).left=x::r from e]; rfl⟩
def Sk {n:Nat} {S S':Ws} {o:Option Tl} (h:fB d n S S' o):o=none->∀ {r},S.left=.inr ("." : Str)::r->∃ t,d.M.ts[S'.here]?=some t/\t.kd=("folder" : Str):=by
 induction h with
 | done e=>intro _ r e'; rw [e] at e'; cases e'
 | @pop n S k l r j S' o e er _ ih =>
  intro ho r' e';rw [e] at e'
  match l,e' with
  | [],e'=>cases e'
  | y::l,e' =>
   rw [List.cons_append] at e';injection e' with e1 e2;exact ih ho (by rw [e1])
 | @step n S p l S1 S' o e hs hr ih =>
  intro ho r' e';rw [e] at e'
  match l,e' with
  | [],e' =>
   have ep:p=("." : Str):=by injection e' with e1 e2; exact Sum.inr.inj e1
   subst ep;cases hs with
   | dot hA _ =>
    cases hr with
    | done _=>exact ⟨_,hA.e,hA.k⟩
    | pop e1=>exact absurd e1 (by unfold dM; simp)
    | step e1=>exact absurd e1 (by unfold dM; simp)
    | fail e1=>exact absurd e1 (by unfold dM; simp)
   | up _ h5=>exact absurd h5 (by decide +kernel)
   | go _ _ h6=>exact absurd rfl h6
  | y::l,e' =>
   rw [List.cons_append] at e';injection e' with e1 e2;obtain ⟨r2,e3⟩:=hs.YH (x:=y) (r:=l) rfl;exact ih ho (by rw [e3,e1])
 | fail=>intro ho; cases ho
def aa2 (g:Gd d.M) (hL:d.L.length=d.M.ts.length) (hn:d.M.ts.length<=90) {S:Ws} (v:Val d.M d.root S):∃ ns cN,wB d.M d.L d.root S ns cN:=by
 obtain ⟨t,ht,hk⟩:=v;obtain ⟨a,ha⟩:=adr hL ht;rcases hk with ⟨bT,hb⟩ | ⟨bT,f,nm,tf,hp,h8,cj,hb⟩
 ·obtain ⟨ns,h1,h2,h3⟩:=g.nm hL S.here S.here t (ss _) ht hb;have:=(lm.mp ht).1;exact ⟨ns,[],S.here,a,t,ha,ht,.inl ⟨bT,rfl,rfl⟩,⟨_,h1⟩,by omega,h3⟩
 ·obtain ⟨ns,h1,h2,h3⟩:=g.nm hL f f tf (ss _) cj hb;have:=(lm.mp cj).1;exact ⟨ns,[nm],f,a,t,ha,ht,.inr ⟨bT,nm,hp,rfl,h8⟩,⟨_,h1⟩,by omega,h3⟩
end
def KS (M:Hs) (r:Nat) (e:End):Prop:=∀ k ns,e.res=.found k ns->∃ t,M.ts[k]?=some t/\(t.kd=("folder" : Str)->fS M r k)
section
variable {M:Hs} {L:List Ta} {z:Str} {r:Nat} {last:Bool}
def MV (g:Gd M) (hL:L.length=M.ts.length) (hn:M.ts.length<=90) (hz:z∈AS) (last:Bool) {fr:Bool} {ps:List Str} (gB:∀ p∈ps,qu p) (hl:ps.length<=2500) :
  ∃ r e,aS (sD M.ro) (.inr z)=some (.int ((r:Nat):Int))/\my ⟨L,M,z,last,r⟩ fr ps e/\KS M r e/\∀ qs,ps=qs++[("." : Str)]->∀ k ns,e.res=.found k ns->∃ t,M.ts[k]?=some t/\t.kd=("folder" : Str):=by
 obtain ⟨r,k0,ga⟩:=g.as z hz;obtain ⟨st,t,aU,ht,bT,hb⟩:∃ (st:Nat) (t:Th),(fr=true/\st=r\/fr=false/\aS (sD M.st) (.inr z)=some (.int (st:Int)))/\M.ts[st]?=some t/\t.kd=("folder" : Str)/\fS M r st:=by
  cases fr with
  | true=>obtain ⟨t,h1,h2⟩:=ga.tr; exact ⟨r,t,.inl ⟨rfl,rfl⟩,h1,h2,.refl⟩
  | false=>obtain ⟨t,h1,h2⟩:=ga.tk; exact ⟨k0,t,.inr ⟨rfl,ga.st⟩,h1,h2,ga.b⟩
 obtain ⟨a,ha⟩:=adr hL ht;obtain ⟨n,S',o,hr,hv⟩:=CZ (d:=⟨L,M,z,last,r⟩) g hL ga.tr _ (S:=⟨st,none,0,[],df ps,[],0,0⟩) (ss _) ⟨⟨t,ht,.inl ⟨bT,hb⟩⟩,fun p hp=>gB p (G3 hp),KO ps,wP _⟩;have hB:xY ⟨L,M,z,last,r⟩ fr st:=⟨ga.ro,st,st,[],a,t,aU,ha,ht,g.dA st,⟨st,g.seen hL st st t (ss _) ht hb⟩,rfl⟩;cases o with
 | some y=>exact ⟨r,_,ga.ro,.told hB hl hr,fun k ns e=>(by cases y <;> cases e),fun qs _ k ns e=>by cases y <;> cases e⟩
 | none =>
  obtain ⟨ns,cN,iL⟩:=aa2 (d:=⟨L,M,z,last,r⟩) g hL hn (hv rfl);refine ⟨r,_,ga.ro,.found hB hl hr iL,fun k ns' e=>?_,fun qs hq k ns' e=>?_⟩
  ·cases e;obtain ⟨t',h,hh⟩:=hv rfl;refine ⟨t',h,fun hf=>?_⟩;rcases hh with hh | hh
   ·exact hh.2
   ·exact absurd hf hh.1
  ·cases e;exact Sk hr rfl (r:=df qs |>.map id) (by rw [hq]; unfold df; simp)
def IA (g:Gd M) (hL:L.length=M.ts.length) (hn:M.ts.length<=90) (hz:z∈AS) (last:Bool) {t:List Nat} (p:gd t):∃ r e,aS (sD M.ro) (.inr z)=some (.int ((r:Nat):Int))/\dO ⟨L,M,z,last,r⟩ t e/\KS M r e:=by
 have hw:=@Et (Tx.words 47 t) t;have h2:=M9 47 t;have h3:=p.l2;obtain ⟨r,e,h0,h1,h2,_⟩:=MV g hL hn hz last (fr:=dJ t) (Ha p.all) (by unfold e8; rw [nn]; omega);exact ⟨r,e,h0,⟨p.l1,p.l2,p.all,h1⟩,h2⟩
def aaa {ps:List (List Nat)} (h:ps.all cL=true):∃ r,jo ps r:=by
 rcases _X ps with e | ⟨q,nm,e⟩
 ·exact ⟨none,.nil e⟩
 ·rw [_Y] at e;cases hn:isNm nm with
  | true=>exact ⟨_,.ME e hn⟩
  | false=>exact ⟨none,.uJ e hn (pY (At.mp h nm (by rw [e]; simp))).2.2⟩
def Z0 (g:Gd M) (hL:L.length=M.ts.length) (hn:M.ts.length<=90) (hz:z∈AS) {t:List Nat} (p:gd t) (hl:(Tx.words 47 t).length<=300) :
  ∃ root r,n8 ⟨L,M,z,true,root⟩ t r/\∀ f nm,r=.inr (f,nm)->∃ tf,M.ts[f]?=some tf/\tf.kd=("folder" : Str)/\isNm nm=true/\aS (sD tf.aQ) (.inr (Tx.S nm))=none:=by
 have hw:=@Et (Tx.words 47 t) t;obtain ⟨r,hr⟩:=aaa (Cy (t:=t) p.all);cases r with
 | none=>exact ⟨0,_,.no (.uJ hr),fun f nm e=>by cases e⟩
 | some qn =>
  obtain ⟨q,nm⟩:=qn;have he:told (Tx.words 47 t) t=q++[nm]:=by cases hr; assumption
  have cw:isNm nm=true:=by cases hr; assumption
  have lQ:=Cy (t:=t) p.all;rw [he,List.all_append,zn] at lQ;have hq:q.length<=900:=by rw [he,sK] at hw; omega
  obtain ⟨root,e,_,h1,h2,h3⟩:=MV g hL hn hz true (fr:=dJ t) (ps:=q.map Tx.S++[("." : Str)]) (fun x hx=>by
   rcases KB.mp hx with hx | hx
   ·obtain ⟨y,hy,rfl⟩:=AC.mp hx;exact GU (At.mp lQ.1 y hy)
   ·exact .inl (AT.mp hx)) (by simp; omega)
  by_cases hf:∃ f ns,e.res=.found f ns
  ·obtain ⟨f,ns,j3⟩:=hf;have hs:lD ⟨L,M,z,true,root⟩ t (.inr (f,nm)):=.Mu hr hq h1 j3;obtain ⟨tf,cj,jf⟩:=h3 _ rfl f ns j3;obtain ⟨a,ha⟩:=adr hL cj;cases hm:dw ("w" : Str) (cZ tf z) with
   | false=>exact ⟨root,_,.kept hs cj hm,fun f nm e=>by cases e⟩
   | true =>
    cases hv:aS (sD tf.aQ) (.inr (Tx.S nm)) with
    | some v =>
     obtain ⟨c,rfl⟩:=G2 hv;exact ⟨root,_,.there hs cw ha cj hm hv,fun f nm e=>by cases e⟩
    | none=>exact ⟨root,_,.free hs cw ha cj hm hv,fun f' nm' e=>by cases e; exact ⟨tf,cj,jf,cw,hv⟩⟩
  ·exact ⟨root,_,.no (.way hr hq h1 fun k ns hk=>hf ⟨k,ns,hk⟩),fun f nm e=>by cases e⟩
def abU (g:Gd M) (hL:L.length=M.ts.length) (hn:M.ts.length<=90) (hz:z∈AS) {t:List Nat} (p:gd t):∃ root x,tP ⟨L,M,z,true,root⟩ t x:=by
 obtain ⟨root,e,h0,h1,h2⟩:=IA g hL hn hz true p;by_cases hf:∃ f ns,e.res=.found f ns
 ·obtain ⟨f,ns,j3⟩:=hf;obtain ⟨tf,cj,_⟩:=h2 f ns j3;obtain ⟨a,ha⟩:=adr hL cj;by_cases hk:tf.ow=z
  ·exact ⟨root,_,.ok h1 j3 ha cj hk⟩
  ·exact ⟨root,_,.L9 h1 j3 ha cj hk⟩
 ·exact ⟨root,_,.way h1 fun k ns hk=>hf ⟨k,ns,hk⟩⟩
def Gd.lift {M':Hs} (g:Gd M) (h1:M'.ro=M.ro) (h2:M'.st=M.st) (h3:M'.tr=M.tr) (h4:M'.ov=M.ov) (h5:M'.un=M.un) (old:∀ (k:Nat) (t:Th),M.ts[k]?=some t->∃ t':Th,M'.ts[k]?=some t'/\t'.kd=t.kd/\t'.bP=t.bP) (th:∀ k t,M'.ts[k]?=some t->rj M' k t):Gd M':=by
 have bl:∀ {r k},fS M r k->fS M' r k:=fun {r k} b=>by
  induction b with
  | refl=>exact .refl
  | up a1 a2 _ ih =>
   obtain ⟨t',e1,_,e3⟩:=old _ _ a1;exact .up e1 (e3.trans a2) ih
 refine ⟨h3.trans g.tr,h4.trans g.ov,h5.trans g.un,fun z hz=>?_,by rw [h1]; exact g.rl,by rw [h2]; exact g.sl,?_,th⟩
 ·obtain ⟨r,k,a⟩:=g.as z hz;refine ⟨r,k,by rw [h1]; exact a.ro,by rw [h2]; exact a.st,bl a.b,?_,?_⟩
  ·obtain ⟨t,e1,e2⟩:=a.tr;obtain ⟨t',e3,e4,_⟩:=old _ _ e1;exact ⟨t',e3,e4.trans e2⟩
  ·obtain ⟨t,e1,e2⟩:=a.tk;obtain ⟨t',e3,e4,_⟩:=old _ _ e1;exact ⟨t',e3,e4.trans e2⟩
 ·obtain ⟨t,e1,e2⟩:=g.t0;obtain ⟨t',e3,e4,_⟩:=old _ _ e1;exact ⟨t',e3,e4.trans e2⟩
def rj.lift {M':Hs} {k:Nat} {t t':Th} (h:rj M k t) (hl:M.ts.length<=M'.ts.length) (e1:t'.kd=t.kd) (e2:t'.bP=t.bP) (e3:t'.aQ=t.aQ) (e4:t'.tx=t.tx) (old:∀ (k:Nat) (t:Th),M.ts[k]?=some t->∃ t':Th,M'.ts[k]?=some t'/\t'.kd=t.kd/\t'.bP=t.bP):rj M' k t':=by
 refine ⟨by rw [e3]; exact wf h.nl hl,by rw [e1]; exact h.kd,by rw [e1,e4]; exact h.ld,?_,fun z v hv=>?_⟩
 ·rcases h.pl with ⟨a,b⟩ | ⟨f,nm,tf,a1,a2,a3,a4,a5⟩
  ·exact .inl ⟨a,e2.trans b⟩
  ·obtain ⟨t2,b1,b2,_⟩:=old _ _ a4;exact .inr ⟨f,nm,t2,a1,e2.trans a2,a3,b1,b2.trans a5⟩
 ·rw [e3] at hv;obtain ⟨c,tc,a1,a2,a3⟩:=h.ch z v hv;obtain ⟨t2,b1,_,b3⟩:=old _ _ a2;exact ⟨c,t2,a1,b1,b3.trans a3⟩
def Gd.make (g:Gd M) {f:Nat} {tf:Th} {nm kd mi re tx:Str} (cj:M.ts[f]?=some tf) (jf:tf.kd=("folder" : Str)) (cw:nm.length<=8) (hvf:aS (sD tf.aQ) (.inr nm)=none) (hk:kd=("folder" : Str)\/kd=("file" : Str)\/kd=("lead" : Str)) (Gi:kd=("lead" : Str)->∃ tl,tx=Tx.S tl/\gd tl/\tl.length<=120) :
  Gd { M with ts:=M.ts.set f { tf with aQ:=tf.aQ++[(nm,M.ts.length)] }++[⟨kd,z,mi,re,tx,[],[(f,nm)]⟩] }:=by
 have hf:=(lm.mp cj).1;have hlen:(M.ts.set f { tf with aQ:=tf.aQ++[(nm,M.ts.length)] }).length=M.ts.length:=_D;have old:∀ (k:Nat) (t:Th),M.ts[k]?=some t->∃ t':Th,(M.ts.set f { tf with aQ:=tf.aQ++[(nm,M.ts.length)] }++[(⟨kd,z,mi,re,tx,[],[(f,nm)]⟩:Th)])[k]?=some t'/\t'.kd=t.kd/\t'.bP=t.bP:=fun k t ht=>by
  have hk:=(lm.mp ht).1;rw [Fk (by rw [hlen]; exact hk)];by_cases e:k=f
  ·subst e;rw [Fr hk];rw [cj] at ht; cases ht;exact ⟨_,rfl,rfl,rfl⟩
  ·rw [FB (pi e)];exact ⟨t,ht,rfl,rfl⟩
 have new:(M.ts.set f { tf with aQ:=tf.aQ++[(nm,M.ts.length)] }++[(⟨kd,z,mi,re,tx,[],[(f,nm)]⟩:Th)])[M.ts.length]?=some ⟨kd,z,mi,re,tx,[],[(f,nm)]⟩:=by
  rw [Do (by rw [hlen]; exact ss _),hlen,Ja8]; rfl
 have ll:M.ts.length<=(M.ts.set f { tf with aQ:=tf.aQ++[(nm,M.ts.length)] }++[(⟨kd,z,mi,re,tx,[],[(f,nm)]⟩:Th)]).length:=by rw [sK,hlen]; omega
 refine g.lift rfl rfl rfl rfl rfl old fun k t ht=>?_;have ht':(M.ts.set f { tf with aQ:=tf.aQ++[(nm,M.ts.length)] }++[(⟨kd,z,mi,re,tx,[],[(f,nm)]⟩:Th)])[k]?=some t:=ht;by_cases hk':k < M.ts.length
 ·rw [Fk (by rw [hlen]; exact hk')] at ht';by_cases e:k=f
  ·subst e;rw [Fr hk'] at ht';cases ht';have h0:=g.th k tf cj;have h:=h0.lift (M':={ M with ts:=M.ts.set k { tf with aQ:=tf.aQ++[(nm,M.ts.length)] }++[⟨kd,z,mi,re,tx,[],[(k,nm)]⟩] }) (t':=tf) ll rfl rfl rfl rfl old;refine ⟨by show (tf.aQ++[(nm,M.ts.length)]).length<=_; rw [sK,sK,hlen]; have:=h0.nl; simp; omega,h.kd,h.ld,h.pl,fun y v hv=>?_⟩;have e:sD (tf.aQ++[(nm,M.ts.length)])=sD tf.aQ++[(.inr nm,.int ((M.ts.length:Nat):Int))]:=by unfold sD; rw [IN]; rfl
   have hv':aS (sD (tf.aQ++[(nm,M.ts.length)])) (.inr y)=some v:=hv;rw [e,Lf _ _ _ _ hvf] at hv';split at hv'
   ·rename_i he;cases hv';injection he with he;exact ⟨M.ts.length,_,rfl,new,by rw [he]⟩
   ·exact h.ch y v hv'
  ·rw [FB (pi e)] at ht';exact (g.th k t ht').lift ll rfl rfl rfl rfl old
 ·have hk2:k < M.ts.length+1:=by
   have:=(lm.mp ht').1;rw [sK,hlen] at this; exact this
  have:k=M.ts.length:=by omega
  subst this;rw [new] at ht';cases ht';obtain ⟨t',e1,e2,_⟩:=old _ _ cj;exact ⟨by show 0<=_; exact wP _,hk,Gi,.inr ⟨f,nm,t',hf,rfl,cw,e1,e2.trans jf⟩,fun y v hv=>by cases hv⟩
end
def YX:T.sU.k P w mg base 3 (gq T.aI T.aP T.aW Ad.t JJ):=by
 refine T.sU.F.ok Tw (fun _ _ _ _ h=>bY h fun _ _ _=>rfl) fun ag A outer s H vs Q E hr h=>bY h fun x n h=>?_;obtain ⟨AA,L,M,k,a,t,i,rfl,rfl,ha,aG,q⟩:=h;obtain ⟨fs,c,hx,aY,sf⟩:=i.h;obtain ⟨gs,c2,ht,cJ,sg⟩:=i.t;have bU:=dX i ha aG;obtain ⟨ks,ho,fe,so⟩:=bU.o;refine ⟨_,((aq (aM (cY (II (K:=K) rfl rfl) T.An Be (aa (bi T.cP T.wZ (cW T.bS T.cE.h (gn T) hr.m T.cE.b .nil di (ad 0) (aa (ad 1) ae))) ae))))).h,?_⟩;refine stI [some (V.ref AA.t),some (V.int (k:Int))] ?_;left;refine (mI ht sg (gN i ha aG ⟨a.th,_,_,.ref a.nm,rfl,ho,(so _).trans rfl,.inr (.inl ⟨a.nm,_,t.aQ.map (·.1),rfl,bU.nm,by unfold sD; rw [SZ,SZ]; rfl,by rw [nn]; exact q.1,q.2⟩)⟩))
def abM:T.tO.k P w mg base 3 (gq T.aI T.aP T.aW Ad.a VG):=by
 refine T.tO.F.ok GQ (fun _ _ _ _ h=>bY h fun _ _ _=>rfl) fun ag A outer s H vs Q E hr h=>bY h fun x n h=>?_;obtain ⟨AA,L,M,k,a,t,i,rfl,rfl,ha,aG,q⟩:=h;obtain ⟨fs,c,hx,aY,sf⟩:=i.h;obtain ⟨gs,c2,ht,cJ,sg⟩:=i.t;have bU:=dX i ha aG;obtain ⟨ks,ho,fe,so⟩:=bU.o;refine ⟨_,((am (aO 2 GQ.nd (cW T.bS T.cE.h (gn T) hr.m T.cE.b .nil di (bi T.aJ T.eE (ad 0)) (aa (ad 1) ae)))
 (aq (aM (em (aa (bi T.cP T.wX (ad 2)) (aa (bi T.cP T.yj (ad 2)) ae))))))).h,?_⟩
 refine stI [some (V.ref AA.a),some (V.int (k:Int)),none] ?_;right;refine ⟨AA.a,_,_,.ref AA.t,rfl,hx,(sf _).trans rfl,AA.t,_,_,rfl,ht,(sg _).trans rfl,gN i ha aG ?_⟩;left;exact (fI ho so rfl (fI ho so rfl ⟨fits (by simp),q⟩))
def xo:T.iY.k P w mg base 4 (gq T.aI T.aP T.aW Ad.a JJ):=by
 refine T.iY.F.ok Y7 (fun _ _ _ _ h=>bY h fun _ _ _=>rfl) fun ag A outer s H vs Q E hr h=>bY h fun x n h=>?_;obtain ⟨AA,L,M,k,a,t,i,rfl,rfl,ha,aG,q⟩:=h;obtain ⟨fs,c,hx,aY,sf⟩:=i.h;obtain ⟨gs,c2,ht,cJ,sg⟩:=i.t;have bU:=dX i ha aG;obtain ⟨ks,ho,fe,so⟩:=bU.o;refine ⟨_,((aq (aM (bf T.bS T.sU.h (YX T) hr.m T.sU.b .nil au (bi T.aJ T.eE (ad 0)) (aa (ad 1) ae))))).h,?_⟩;refine stI [some (V.ref AA.a),some (V.int (k:Int))] ?_;left;exact ⟨AA.a,_,_,.ref AA.t,rfl,hx,(sf _).trans rfl,AA.t,_,_,rfl,ht,(sg _).trans rfl,AA,L,M,k,a,t,i,rfl,rfl,ha,aG,q⟩
abbrev EA:kT:=fun _ _ _ _ _ t H Q=>(t.bP=[]/\∀ l,H l=none->Q (.ref l) (upd H l (.lst [])))\/∃ f z,t.bP=[(f,z)]/\∀ y l,H y=some (.tup [.int (f:Nat),.str z])->H l=none->Q (.ref l) (upd H l (.lst [.ref y]))
def S5:T.sY.k P w mg base 3 (gq T.aI T.aP T.aW Ad.t EA):=by
 refine T.sY.F.ok Ts (fun _ _ _ _ h=>bY h fun _ _ _=>rfl) fun ag A outer s H vs Q E hr h=>bY h fun x n h=>?_;obtain ⟨AA,L,M,k,a,t,i,rfl,rfl,ha,aG,q⟩:=h;obtain ⟨fs,c,hx,aY,sf⟩:=i.h;obtain ⟨gs,c2,ht,cJ,sg⟩:=i.t;have bU:=dX i ha aG;obtain ⟨ks,ho,fe,so⟩:=bU.o;refine ⟨_,((aq (aM (cY (PZ rfl) T.An Be (aa (bi T.cP T.tT (cW T.bS T.cE.h (gn T) hr.m T.cE.b .nil di (ad 0) (aa (ad 1) ae))) ae))))).h,?_⟩;refine stI [some (V.ref AA.t),some (V.int (k:Int))] ?_;left;refine (mI ht sg (gN i ha aG ⟨a.th,_,_,.ref a.pl,rfl,ho,(so _).trans rfl,a.pl,_,rfl,bU.pl,?_⟩));rcases q with ⟨e,q⟩ | ⟨f,z,e,q⟩
 ·rw [e]; exact .inl ⟨rfl,q⟩
 ·rw [e]; exact .inr ⟨_,_,rfl,q⟩
def V9:T.uO.k P w mg base 4 (gq T.aI T.aP T.aW Ad.a EA):=by
 refine T.uO.F.ok WR (fun _ _ _ _ h=>bY h fun _ _ _=>rfl) fun ag A outer s H vs Q E hr h=>bY h fun x n h=>?_;obtain ⟨AA,L,M,k,a,t,i,rfl,rfl,ha,aG,q⟩:=h;obtain ⟨fs,c,hx,aY,sf⟩:=i.h;obtain ⟨gs,c2,ht,cJ,sg⟩:=i.t;have bU:=dX i ha aG;obtain ⟨ks,ho,fe,so⟩:=bU.o;refine ⟨_,((aq (aM (bf T.bS T.sY.h (S5 T) hr.m T.sY.b .nil au (bi T.aJ T.eE (ad 0)) (aa (ad 1) ae))))).h,?_⟩;refine stI [some (V.ref AA.a),some (V.int (k:Int))] ?_;left;exact ⟨AA.a,_,_,.ref AA.t,rfl,hx,(sf _).trans rfl,AA.t,_,_,rfl,ht,(sg _).trans rfl,AA,L,M,k,a,t,i,rfl,rfl,ha,aG,q⟩
def PY:Sp:=K3 fun _ _ H Q _=>∀ r:Int,0<=r->Q (.int r) H
def Xy:T.qB.k P w base 1 PY:=by
 refine T.qB.F.ok By (fun _ _ _ _ h=>Mg h fun _ _ _=>rfl) fun ag A outer s H vs Q E hr h=>Mg h fun y z h=>?_;refine ⟨_,((am (aO 2 By.nd (db ou (db yn (db gj (db gj (ad 0) (db yn bn (ad 1))) bn) bn) bn))
 (am (aO 2 By.nd (db ou (db yn (ad 2) (db gj (db Cv (ad 2) bn) bn)) bn))
 (aq (aM (db ou (db yn (ad 2) (db gj (db Cv (ad 2) bn) bn)) bn)))))).h,?_⟩
 refine stI [some (.int y),some (.int z),none] ?_;right;refine ⟨.inl ⟨by decide,by decide⟩,.inr ⟨by decide,by decide⟩,by decide,ai ?_⟩;left;generalize hm:(y+7919 * z+1) * 48271 % 2147483647=m;have m0:0<=m:=by rw [<- hm]; exact _F _ (by decide)
 have m1:m < 2147483647:=by rw [<- hm]; exact _H _ (by decide)
 refine ⟨⟨by decide,by decide⟩,.inl ⟨by omega,by omega⟩,by decide,?_⟩;left;generalize hn:m * (m / 1009+69621) % 2147483647=n;have n0:0<=n:=by rw [<- hn]; exact _F _ (by decide)
 have n1:n < 2147483647:=by rw [<- hn]; exact _H _ (by decide)
 refine ⟨⟨by decide,by decide⟩,.inl ⟨by omega,by omega⟩,by decide,?_⟩;exact h _ (_F _ (by decide))
def W9:Sp:=HP fun _ H Q _=>∀ l a b c,H l=none->Q (.ref l) (upd H l (.lst [.int a,.int b,.int c]))
def He:T.lb.k P w base 1 W9:=by
 refine T.lb.F.ok Wm (fun _ _ _ _ h=>JR h fun _ _=>rfl) fun ag A outer s H vs Q E hr h=>JR h fun y h=>?_;refine ⟨_,((am (bu (cf wo (ad 0) (db RL bn bn)) (aq (aM (cr (aa bn (aa (db ou (ad 0) bn) (aa bn ae)))))) ci)
 (aq (aM (cr (aa (ad 0) (aa (db ou (ad 0) bn) (aa bn ae)))))))).h,?_⟩
 refine stI [some (.int y)] ?_;right;refine ⟨by constructor <;> decide,mS (fun _=>⟨by decide,fits (by simp),fun p hp=>h _ _ _ _ hp⟩) (fun _=>⟨by decide,fits (by simp),fun p hp=>h _ _ _ _ hp⟩)⟩
def Bb:Sp:=jw fun st b H Q _=>X3 fun x y z=>A4 (H st=some (.lst [.int x,.int y,.int z])) (0 < b) (b<=1000) (∀ d x' y' z' H',0<=d->d < b->H' st=some (.lst [.int x',.int y',.int z'])->cb st H H'->Q (.int d) H')
def fD:T.bH.k P w base 2 Bb:=by
 refine T.bH.F.ok HZ (fun _ _ _ _ h=>bY h fun _ _ _=>rfl) fun ag A outer s H vs Q E hr h=>bY h fun st b h=>?_;obtain ⟨x,y,z,h1,m7,rX,q⟩:=h;refine ⟨_,((am (bu (cf zJ (ce (bh (K:=K) rfl) (ad 0) bn) bn) (am (aO 2 HZ.nd (db ou (ce (bh (K:=K) rfl) (ad 0) bn) (ad 1)))
 (am (u9 (db Cv (ce (bh (K:=K) rfl) (ad 0) bn) (ad 1)) (sX (ad 0) bn uq))
 (aq (aM (ad 2))))) ci)
 (am (u9 (db gj (ce (bh (K:=K) rfl) (ad 0) bn) bn) (sX (ad 0) bn uq))
 (aq (aM (db ou (bv (Xy T) hr.m T.qB.m T.qB.F.kp T.qB.b .nil au (aa (ce (bh (K:=K) rfl) (ad 0) bn) (aa (ce (bh (K:=K) rfl) (ad 0) bn) ae))) (ad 1))))))).h,?_⟩
 refine stI [some (.ref st),some (.int b),none] ?_;right;simp only [bJ,h1,eD];refine mS (fun _=>?_) (fun _=>?_)
 ·right;simp only [bJ,h1,eD];refine ⟨m7,ai ?_⟩;left;simp only [bJ,h1,eD,Ev,T5,List.set_cons_zero];refine ⟨⟨m7,by omega⟩,?_⟩;exact q _ _ _ _ _ (_F _ (by omega)) (_H _ m7) ax cb.upd
 ·right;simp only [bJ,h1,HM,Ev,_E,Wf,List.set_cons_zero,List.set_cons_succ];left;simp only [bJ,ax,wK,HM];intro r r0;refine ⟨m7,?_⟩;exact q _ _ _ _ _ (_F _ (by omega)) (_H _ m7) ax cb.upd
def Dr (st:Addr) (H:Hp):Prop:=∃ x y z:Int,H st=some (.lst [.int x,.int y,.int z])
def Dr.same {st:Addr} {H H':Hp} (h:Dr st H) (s:ao H H'):Dr st H':=let ⟨x,y,z,e⟩:=h; ⟨x,y,z,s _ _ e⟩
def Dr.ne {st p:Addr} {H:Hp} (h:Dr st H) (hp:H p=none):p≠st:=let ⟨x,y,z,e⟩:=h; fun q=>by rw [q,e] at hp; cases hp
def mX {st:Addr} {b:Int} {H:Hp} {Q:VK} {E:XK} (h:Dr st H) (m7:0 < b) (rX:b<=1000) (q:∀ d H',0<=d->d < b->Dr st H'->cb st H H'->Q (.int d) H'):Bb [.ref st,.int b] H Q E:=by
 obtain ⟨x,y,z,e⟩:=h;exact ⟨x,y,z,e,m7,rX,fun d x' y' z' H' d0 d1 e' k=>q d H' d0 d1 ⟨x',y',z',e'⟩ k⟩
def pick {xs:List V} {d:Int} (h0:0<=d) (h1:d < xs.length):∃ v∈xs,cD xs d=some v:=by
 obtain ⟨n,rfl⟩:=PP h0;have hn:n < xs.length:=by omega
 exact ⟨xs[n],_Z hn,eR (mo hn)⟩
def iR {H:Hp} {st:Addr} {xs:List V} {Q:VK} {E:XK} {b:Int} (h:Dr st H) (hb:b=xs.length) (hn:xs.length<=1000) (h0:0 < xs.length) (q:∀ v H',v∈xs->Dr st H'->cb st H H'->Q v H') :
  xs.length<=sizeLine/\∀ p,H p=none->Bb [.ref st,.int b] (upd H p (.lst xs)) (fun y H2=>ra K (.ref p) y H2 Q) E:=by
 refine ⟨fits hn,fun p hp=>?_⟩;have s1:=ao.upd (o:=.lst xs) hp;have b1:upd H p (.lst xs) p=some (.lst xs):=ax;have np:=h.ne hp;generalize upd H p (.lst xs)=H1 at s1 b1 ⊢;refine mX (h.same s1) (by omega) (by omega) fun d H2 d0 d1 h2 k2=>?_;obtain ⟨v,hv,e⟩:=pick (xs:=xs) d0 (by omega);simp only [ra,bJ,k2 _ _ np b1,e];exact q v H2 hv h2 ((s1.keep st).trans k2)
def XW:Sp:=gL fun st H Q _=>Dr st H/\∀ nm H',cL nm=true->Dr st H'->cb st H H'->Q (.str (Tx.S nm)) H'
def RA:T.qf.k P w base 3 XW:=by
 refine T.qf.F.ok Qm (fun _ _ _ _ h=>cX h fun _ _=>rfl) fun ag A outer s H vs Q E hr h=>cX h fun st h=>?_;obtain ⟨aU,q⟩:=h;refine bF (b:=aR D1) ((aq (aM (ce (bh (K:=K) rfl) (cr (aa ap (aa ap (aa ap (aa ap (aa ap (aa ap (aa ap (aa ap (aa ap ae)))))))))) (bv (fD T) hr.m T.bH.m T.bH.F.kp T.bH.b .nil au (aa (ad 0) (aa bn ae))))))) ?_;refine stI [some (V.ref st)] ?_;left;refine iR aU rfl (by simp) (by simp) fun v H1 hv h1 k1=>?_;obtain ⟨nm,hn,rfl⟩:∃ nm,cL nm=true/\v=V.str (Tx.S nm):=by
  simp only [li,lv,wn] at hv;rcases hv with rfl | rfl | rfl | rfl | rfl | rfl | rfl | rfl | rfl
  ·exact ⟨[97],by decide +kernel,by decide +kernel⟩
  ·exact ⟨[98],by decide +kernel,by decide +kernel⟩
  ·exact ⟨[97,98],by decide +kernel,by decide +kernel⟩
  ·exact ⟨[97,98,99,100,101,102,103,104],by decide +kernel,by decide +kernel⟩
  ·exact ⟨[46,46],by decide +kernel,by decide +kernel⟩
  ·exact ⟨[46],by decide +kernel,by decide +kernel⟩
  ·exact ⟨[99],by decide +kernel,by decide +kernel⟩
  ·exact ⟨[97],by decide +kernel,by decide +kernel⟩
  ·exact ⟨[98],by decide +kernel,by decide +kernel⟩
 exact q nm H1 hn h1 k1
def joinR (n:Nat):List (List Nat)->List Nat
 | []=>[]
 | [x]=>x
 | x::y::r=>x++List.replicate n 47++joinR n (y::r)
def nK (n:Nat):∀ ps:List (List Nat),Str.join (Tx.S (List.replicate n 47)) (ps.map Tx.S)=Tx.S (joinR n ps)
 | []=>rfl
 | [x]=>rfl
 | x::y::r=>by
  have ih:=nK n (y::r);show Tx.S x++Tx.S (List.replicate n 47)++Str.join (Tx.S (List.replicate n 47)) ((y::r).map Tx.S)=Tx.S (x++List.replicate n 47++joinR n (y::r));rw [ih,Tx.kY,Tx.kY]
def DY (n:Nat):∀ ps:List (List Nat),(∀ w∈ps,47 ∉ w/\w≠[])->Tx.words 47 (joinR (n+1) ps)=ps
 | [],_=>rfl
 | [x],h=>Tx.Jf 47 x (h x (by simp)).1 (h x (by simp)).2
 | x::y::r,h=>by
  have ih:=DY n (y::r) (fun w hw=>h w (Db _ hw));show Tx.words 47 (x++List.replicate (n+1) 47++joinR (n+1) (y::r))=_;rw [Rs,List.append_assoc,List.cons_append,Tx.BG,Tx.GW,ih,Tx.Jf 47 x (h x (by simp)).1 (h x (by simp)).2];rfl
def Au (n k:Nat):∀ ps:List (List Nat),(∀ w∈ps,w.length<=k)->(joinR n ps).length<=ps.length * (k+n)
 | [],_=>wP _
 | [x],h=>by
  have:=h x (by simp);show x.length<=1 * (k+n);omega
 | x::y::r,h=>by
  have ih:=Au n k (y::r) (fun w hw=>h w (Db _ hw));have:=h x (by simp);show (x++List.replicate n 47++joinR n (y::r)).length<=((y::r).length+1) * (k+n);rw [sK,sK,_Q,Nat.add_mul,Nat.one_mul];omega
def aah {t:List Nat} {w:List Nat} (h:w∈Tx.words 47 t):1<=t.length:=by
 cases t with
 | nil=>cases h
 | cons a r=>simp
structure pW (t:List Nat):Prop where
 l1:1<=t.length
 l2:t.length<=80
 all:(Tx.words 47 t).all cL=true
 n:(Tx.words 47 t).length<=6
def RC:Sp:=jw fun st n H Q _=>A4 (Dr st H) (0<=n) (n<=6) (∀ t H',pW t->Dr st H'->cb st H H'->Q (.str (Tx.S t)) H')
def Bh:T.g8.k P w base 4 RC:=by
 refine T.g8.F.ok sv (fun _ _ _ _ h=>bY h fun _ _ _=>rfl) fun ag A outer s H vs Q E hr h=>bY h fun st n h=>?_;obtain ⟨aU,hn0,Pd,q⟩:=h;refine bF (b:=aR C9) ((am (aO 2 sv.nd (bv (fD T) hr.m T.bH.m T.bH.F.kp T.bH.b .nil au (aa (ad 0) (aa (db gj (ad 1) bn) ae))))
 (am (BD 3 rfl sv.nd (TN:=["_law_k"]) (caps:=["_law_source_here"]) (ix:=[0]) (tQ T.vh (aa (ad 2) ae)) (fun _ _ _ _=>by exact pR) (fun _ _ _ _=>by exact (il 0 (show List.Nodup (["_law_k","_law_source_here"]:List Str) by decide))) (fun _ _ _ _=>by exact (bv (RA T) hr.m T.qf.m T.qf.F.kp T.qf.b .nil au (aa (ad 1) ae))) (.of rfl (by exact ⟨rfl,trivial⟩) (by walk_at "c") rfl (by exact ⟨⟨rfl,rfl,rfl,rfl⟩,trivial⟩)))
 (am (aO 4 sv.nd (ce (bh (K:=K) rfl) (cr (aa ap (aa ap (aa ap (aa ap ae))))) (bv (fD T) hr.m T.bH.m T.bH.F.kp T.bH.b .nil au (aa (ad 0) (aa bn ae)))))
 (am (aO 5 sv.nd (db gj (ce (bh (K:=K) rfl) (cr (aa ap (aa ap ae))) (wb LM T.BA zF (aa (mJ (dL ie (bv (fD T) hr.m T.bH.m T.bH.F.kp T.bH.b .nil au (aa (ad 0) (aa bn ae))) bn) (ii (dL zJ (ad 2) bn))) ae))) (qj _V _W (Ao (K:=K) rfl) (ad 4) (aa (ad 3) ae))))
 (aq (aM (db gj (ad 5) (ce (bh (K:=K) rfl) (cr (aa ap (aa ap (aa ap (aa ap (aa ap (aa ap ae))))))) (bv (fD T) hr.m T.bH.m T.bH.F.kp T.bH.b .nil au (aa (ad 0) (aa bn ae)))))))))))) ?_
 refine stI [some (V.ref st),some (V.int n),none,none,none,none] ?_;right;refine mX aU (by omega) (by omega) fun d H1 d0 d1 h1 k1=>?_;obtain ⟨m,rfl⟩:=PP d0;right;refine ⟨[.ref st],⟨rfl,fun i j v h1 h2=>?_⟩,⟨by omega,by omega⟩,AL m (fun i ys H'=>cb st H H'/\Dr st H'/\∃ ps:List (List Nat),ys=PV ps/\ps.all cL=true/\ps.length=i) (by omega) ⟨k1,h1,[],rfl,rfl,rfl⟩ (fun i ys H1 h=>?_) (fun k ys H2 hk h R r=>?_) (fun ys H2 l h hl=>?_)⟩
 ·match i,h1,h2 with
  | 0,h1,h2=>cases h1; cases h2; rfl
 ·obtain ⟨_,_,ps,rfl,_,e⟩:=h;rw [<- e]; simp [PV]
 ·obtain ⟨k2,d2,ps,rfl,hp,e⟩:=h;refine ⟨d2,fun nm H3 hn d3 k3=>r _ _ ⟨k2.trans k3,d3,ps++[nm],by simp [PV],by rw [List.all_append,hp]; simp [hn],by rw [sK,e]; rfl⟩⟩
 ·obtain ⟨k2,d2,ps,rfl,gB,e⟩:=h;have s3:=ao.upd (o:=.lst (PV ps)) hl;have b3:upd H2 l (.lst (PV ps)) l=some (.lst (PV ps)):=ax;have nl:=d2.ne hl;have d3:=d2.same s3;have k3:=k2.trans (s3.keep st);generalize upd H2 l (.lst (PV ps))=H3 at s3 b3 d3 k3 ⊢;have hw:∀ w'∈ps,47 ∉ w'/\w'≠[]:=fun w' hw'=>let q:=pY (At.mp gB w' hw'); ⟨q.1,q.2.1⟩
  have h8:∀ w'∈ps,w'.length<=8:=fun w' hw'=>(pY (At.mp gB w' hw')).2.2;have bB:ps.length<=6:=by omega
  right;refine iR d3 rfl (by simp) (by simp) fun v H4 hv d4 k4=>?_;obtain ⟨j,hj,rfl⟩:∃ j:Nat,j<=1/\v=V.str (Tx.S (List.replicate (j+1) 47)):=by
   simp only [li,lv,wn] at hv;rcases hv with rfl | rfl | rfl | rfl
   ·exact ⟨0,by decide,by decide +kernel⟩
   ·exact ⟨0,by decide,by decide +kernel⟩
   ·exact ⟨0,by decide,by decide +kernel⟩
   ·exact ⟨1,by decide,by decide +kernel⟩
  have b4:=k4 _ _ nl b3;right;have kg:Str.ofString "/" = Tx.S [47]:=by decide +kernel
  have e0:Str.ofString "" = Tx.S []:=by decide +kernel
  refine ⟨fits (by simp),fun p hp=>?_⟩;have s5:=ao.upd (o:=.lst [V.str (Str.ofString "/"),V.str (Str.ofString "")]) hp;have b5:upd H4 p (.lst [V.str (Str.ofString "/"),V.str (Str.ofString "")]) p=some (.lst [V.str (Str.ofString "/"),V.str (Str.ofString "")]):=ax;have np:=d4.ne hp;generalize upd H4 p (.lst [V.str (Str.ofString "/"),V.str (Str.ofString "")])=H5 at s5 b5 ⊢;refine mX (d4.same s5) (by decide) (by decide) fun d H6 _ _ d6 k6=>?_;have b6:=k6 _ _ np b5;have EI:=k6 _ _ nl (s5 _ _ b4);have k36:=((k3.trans k4).trans (s5.keep st)).trans k6;have GC:=Au (j+1) 8 ps h8;have hjb:(joinR (j+1) ps).length<=60:=wf GC (by have:ps.length * (8+(j+1))<=6 * 10:=Nat.mul_le_mul bB (by omega); exact this);have Fi:List.foldl (fun n z=>n+z.length+(Tx.S (List.replicate (j+1) 47)).length) 0 (ps.map Tx.S)<=sizeLine:=by
   have:=wR (Tx.S (List.replicate (j+1) 47)).length (ps.map Tx.S) 0 (fun s hs=>by
    obtain ⟨x,hx,rfl⟩:=AC.mp hs;rw [Tx.cQ]; exact h8 x hx)
   refine fits (wf this ?_);rw [Tx.cQ,_Q,nn];have:(8+(j+1)) * ps.length<=10 * 6:=Nat.mul_le_mul (by omega) bB;omega
  have ends:∀ {v:V},v∈[V.str (Str.ofString ""),V.str (Str.ofString ""),V.str (Str.ofString ""),V.str (Str.ofString ""),V.str (Str.ofString ""),V.str (Str.ofString "/")]->∃ sl:List Nat,(sl=[]\/sl=[47])/\v=V.str (Tx.S sl):=fun hv=>by
   simp only [li,lv,wn] at hv;rcases hv with rfl | rfl | rfl | rfl | rfl | rfl
   ·exact ⟨[],.inl rfl,by rw [e0]⟩
   ·exact ⟨[],.inl rfl,by rw [e0]⟩
   ·exact ⟨[],.inl rfl,by rw [e0]⟩
   ·exact ⟨[],.inl rfl,by rw [e0]⟩
   ·exact ⟨[],.inl rfl,by rw [e0]⟩
   ·exact ⟨[47],.inr rfl,by rw [kg]⟩
  have Fx:∀ (pre:List Nat),pre.length<=1->∀ {z:Str},z=Tx.S pre->z.length+(Str.join (Tx.S (List.replicate (j+1) 47)) (ps.map Tx.S)).length<=sizeLine:=fun pre hp z e=>by
   rw [e,nK,Tx.cQ,Tx.cQ]; exact fits (by omega)
  have EZ:∀ (pre sl:List Nat),pre.length<=1->(sl=[]\/sl=[47])->∀ {z:Str},z=Tx.S pre->(z++Str.join (Tx.S (List.replicate (j+1) 47)) (ps.map Tx.S)).length+(Tx.S sl).length<=sizeLine:=fun pre sl hp hs z e=>by
   have:sl.length<=1:=by rcases hs with rfl | rfl <;> simp
   rw [e,nK,Tx.kY,Tx.cQ,Tx.cQ,sK]; exact fits (by omega)
  have fin:∀ (pre sl:List Nat) H7,(pre=[47]\/pre=[]/\0 < m)->(sl=[]\/sl=[47])->Dr st H7->cb st H6 H7->Q (V.str (Tx.S (pre++joinR (j+1) ps++sl))) H7:=fun pre sl H7 nB gX d7 k7=>by
   have zc:Tx.words 47 (pre++joinR (j+1) ps)=ps:=by
    rcases nB with rfl | ⟨rfl,_⟩
    ·exact (Tx.MJ 47 _).trans (DY j ps hw)
    ·exact DY j ps hw
   have FH:Tx.words 47 (pre++joinR (j+1) ps++sl)=ps:=by
    rcases gX with rfl | rfl
    ·rw [_o]; exact zc
    ·exact (Tx.BG 47 _ []).trans (by rw [zc]; exact _o _)
   have yz:pre.length<=1:=by rcases nB with rfl | ⟨rfl,_⟩ <;> simp
   have Fq:sl.length<=1:=by rcases gX with rfl | rfl <;> simp
   refine q _ _ ⟨?_,by rw [sK,sK]; omega,by rw [FH]; exact gB,by rw [FH]; exact bB⟩ d7 (k36.trans k7);rcases nB with rfl | ⟨rfl,hm⟩
   ·simp
   ·cases E9:ps with
    | nil=>rw [E9] at e; simp at e; omega
    | cons x r=>exact aah (w:=x) (by rw [<- E9,FH,E9]; simp)
  dsimp only;refine mS (fun _=>?_) (fun _=>?_)
  ·simp only [bJ,b6];by_cases hm:0 < m
   ·rw [u8 (by omega:(0:Int) < (m:Int)),wT rfl,show cD [V.str (Str.ofString "/"),V.str (Str.ofString "")] 1=some (V.str (Str.ofString "")) from eR (j:=1) rfl];refine ⟨_,aD.of EI,ps.map Tx.S,rfl,Fi,Fx [] (by simp) e0,iR d6 rfl (by simp) (by simp) fun v H7 hv d7 k7=>?_⟩;obtain ⟨sl,gX,rfl⟩:=ends hv;have:=fin [] sl H7 (.inr ⟨rfl,hm⟩) gX d7 k7;rw [<- Tx.kY,<- Tx.kY,<- nK,<- e0] at this;exact ⟨EZ [] sl (by simp) gX e0,this⟩
   ·rw [pc (by omega:¬ (0:Int) < (m:Int)),wS (by nofun),show cD [V.str (Str.ofString "/"),V.str (Str.ofString "")] 0=some (V.str (Str.ofString "/")) from eR (j:=0) rfl];refine ⟨_,aD.of EI,ps.map Tx.S,rfl,Fi,Fx [47] (by simp) kg,iR d6 rfl (by simp) (by simp) fun v H7 hv d7 k7=>?_⟩;obtain ⟨sl,gX,rfl⟩:=ends hv;have:=fin [47] sl H7 (.inl rfl) gX d7 k7;rw [<- Tx.kY,<- Tx.kY,<- nK,<- kg] at this;exact ⟨EZ [47] sl (by simp) gX kg,this⟩
  ·simp only [bJ,b6,show cD [V.str (Str.ofString "/"),V.str (Str.ofString "")] 0=some (V.str (Str.ofString "/")) from eR (j:=0) rfl];refine ⟨_,aD.of EI,ps.map Tx.S,rfl,Fi,Fx [47] (by simp) kg,iR d6 rfl (by simp) (by simp) fun v H7 hv d7 k7=>?_⟩;obtain ⟨sl,gX,rfl⟩:=ends hv;have:=fin [47] sl H7 (.inl rfl) gX d7 k7;rw [<- Tx.kY,<- Tx.kY,<- nK,<- kg] at this;exact ⟨EZ [47] sl (by simp) gX kg,this⟩
def gu (H:Hp) (p:Addr):Res->Prop
 | .found k ns=>H p=some (.tup [.str "found",.int (k:Int),.str (zG ns)])
 | .failed k y=>H p=some (.tup [.str "failed",.int (k:Int),.str y])
 | .ring ns=>∃ rl,H p=some (.tup [.str "ring",.ref rl])/\H rl=some (.lst (nV ns))
def gu.same {H H':Hp} {p:Addr} (s:ao H H'):∀ {r:Res},gu H p r->gu H' p r
 | .found _ _,e=>s _ _ e
 | .failed _ _,e=>s _ _ e
 | .ring _,⟨l,e,f⟩=>⟨l,s _ _ e,s _ _ f⟩
def US (N:Cn):Sp:=gL fun fd H Q _=>X1 fun r=>A2 (iU N H fd r) (∀ p H',ao H H'->H p=none->gu H' p r->Q (.ref p) H')
def G4:T.lq.k P w base 1 (US T.cn):=by
 refine T.lq.F.ok Yg (fun _ _ _ _ h=>cX h fun _ _=>rfl) fun ag A outer s H vs Q E hr h=>cX h fun fd h=>?_;obtain ⟨e,aZ,q⟩:=h;refine bF (b:=aR Ep) ((am (bu (cK (cY (wL (K:=K) rfl) T.gF gK (aa (ad 0) (aa (dl (.ref T.dH) T.xS rfl) ae)))) (aq (aM (em (aa ap (aa (bi T.iQ T.qC (ad 0)) (aa (bi T.iQ T.KN (ad 0)) ae)))))) ci)
 (am (bu (cK (cY (wL (K:=K) rfl) T.gF gK (aa (ad 0) (aa (dl (.ref T.ei) T.Np rfl) ae)))) (aq (aM (em (aa ap (aa (bi T.mK T.JC (ad 0)) (aa (bi T.mK T.Mx (ad 0)) ae)))))) ci)
 (aq (aM (em (aa ap (aa (bi T.rh T.HW (ad 0)) ae)))))))) ?_
 refine stI [some (V.ref fd)] ?_;right;cases e with
 | found k ns =>
  obtain ⟨bA,aZ⟩:=aZ;refine ⟨_,_,_,.of (.ins aZ T.iQ T.q1 T.q2 T.q3 T.q4),.cls T.q5,bK ?_⟩;refine ⟨fd,_,_,_,rfl,aZ,rfl,fd,_,_,_,rfl,aZ,rfl,fits (by simp),fun p hp=>?_⟩;exact q p _ (ao.upd hp) hp ax
 | failed k y =>
  obtain ⟨bA,aZ⟩:=aZ;refine ⟨_,_,_,.of (.ins aZ T.mK T.q6 T.q2 T.q3 T.q7),.cls T.q8,bg (ai ?_)⟩;left;refine ⟨_,_,_,.of (.ins aZ T.mK T.q6 T.q2 T.q3 T.q7),.cls T.Qj,bK ?_⟩;refine ⟨fd,_,_,_,rfl,aZ,rfl,fd,_,_,_,rfl,aZ,rfl,fits (by simp),fun p hp=>?_⟩;exact q p _ (ao.upd hp) hp ax
 | ring ns =>
  obtain ⟨bA,rl,aZ,dG⟩:=aZ;refine ⟨_,_,_,.of (.ins aZ T.rh T.xO T.q2 T.q3 T.wF),.cls T.DL,bg (ai ?_)⟩;left;refine ⟨_,_,_,.of (.ins aZ T.rh T.xO T.q2 T.q3 T.wF),.cls T.q18,bg ?_⟩;left;refine ⟨fd,_,_,_,rfl,aZ,rfl,fits (by simp),fun p hp=>?_⟩;exact q p _ (ao.upd hp) hp ⟨rl,ax,(ao.upd hp) _ _ dG⟩
def DE.flat {K:PySem.W.Frag} {H:Hp} {v:V} (h:cG v=true):∀ n,DE K H n v v
 | 0=>⟨h,h,MD h⟩
 | _+1=>.inl ⟨h,h,MD h⟩
def DE.gp {K:PySem.W.Frag} {H:Hp} {xs:List V} {n:Nat} (h:xs.all cG=true):∀ i (h1:i < xs.length) (h2:i < xs.length),DE K H n xs[i] xs[i]:=fun i h1 _=>DE.flat (At.mp h _ (_Z h1)) n
def YT (ns:List Nat):(nV ns).all cG=true:=by
 rw [At];intro v hv;obtain ⟨k,_,rfl⟩:=AC.mp hv;rfl
def gu.de {K:PySem.W.Frag} {H:Hp} {p p2:Addr} {n:Nat}:∀ {r:Res},gu H p r->gu H p2 r->DE K H (n+2) (.ref p) (.ref p2)
 | .found k ns,e,f=>.inr ⟨_,_,_,_,rfl,rfl,.inr ⟨bw.of e,bw.of f⟩,rfl,DE.gp rfl⟩
 | .failed k y,e,f=>.inr ⟨_,_,_,_,rfl,rfl,.inr ⟨bw.of e,bw.of f⟩,rfl,DE.gp rfl⟩
 | .ring ns,⟨l,e,el⟩,⟨l2,f,fl⟩=>.inr ⟨_,_,_,_,rfl,rfl,.inr ⟨bw.of e,bw.of f⟩,rfl,fun i h1 h2=>by
   match i,h1 with
   | 0,_=>exact DE.flat (v:=.str "ring") rfl _
   | 1,_=>exact .inr ⟨l,l2,_,_,rfl,rfl,.inl ⟨aD.of el,aD.of fl⟩,rfl,DE.gp (YT ns)⟩⟩
def Xn (N:Cn):Sp:=uj fun f d H Q _=>((∃ fd p r,H f=some (.tup [.str "way",.ref fd])/\iU N H fd r/\H d=some (.tup [.str "way",.ref p])/\gu H p r)\/∃ y,H f=some (.tup [.str "deed",.str y])/\H d=some (.tup [.str "deed",.str y]))/\∀ H',ao H H'->Q (.bl true) H'
def Dn:T.ig.k P w base 2 (Xn T.cn):=by
 refine T.ig.F.ok Ux (fun _ _ _ _ h=>mx h fun _ _ _=>rfl) fun ag A outer s H vs Q E hr h=>mx h fun f d h=>?_;obtain ⟨h,q⟩:=h;refine bF (b:=aR DS) ((am (bu (cf ie (ce (bh (K:=K) rfl) (ad 0) bn) ap) (aq (aM (dL (jz (K:=K) 4 rfl hr.i0) (ad 1) (em (aa ap (aa (bv (G4 T) hr.m T.lq.m T.lq.F.kp T.lq.b .nil au (aa (ce (bh (K:=K) rfl) (ad 0) bn) ae)) ae)))))) ci)
 (aq (aM (dL (jz (K:=K) 4 rfl hr.i0) (ad 0) (ad 1)))))) ?_
 refine stI [some (V.ref f),some (V.ref d)] ?_;right;rcases h with ⟨fd,p,r,hf,hr',hd,ht⟩ | ⟨y,hf,hd⟩
 ·simp only [bJ,hf,eD];refine et (u8 (by trivial)) ?_;rw [show cD [V.str (Str.ofString "way"),V.ref fd] 1=some (V.ref fd) from eR (j:=1) rfl];refine ⟨r,hr',fun p2 H2 s2 eK eW=>⟨fits (by simp),fun p3 eI=>?_⟩⟩;have s3:=ao.upd (o:=.tup [V.str (Str.ofString "way"),V.ref p2]) eI;refine ⟨_,_,.inr ⟨bw.of (s3 _ _ (s2 _ _ hd)),bw.of ax⟩,rfl,fun i h1 h2=>?_,q _ (s2.trans s3)⟩
  match i,h1 with
  | 0,_=>exact DE.flat (v:=.str "way") rfl _
  | 1,_=>exact gu.de (n:=2) ((ht.same s2).same s3) (eW.same s3)
 ·simp only [bJ,hf,eD];refine en (pc (by decide +kernel)) ?_;left;exact ⟨_,_,.inr ⟨bw.of hf,bw.of hd⟩,rfl,DE.gp rfl,q H fun _ _ e=>e⟩
def mU (H:Hp) (t:Th) (pl:Addr):Prop:=t.bP=[]/\H pl=some (.lst [])\/∃ f z y,t.bP=[(f,z)]/\H pl=some (.lst [.ref y])/\H y=some (.tup [.int (f:Nat),.str z])
def mU.keep {H H':Hp} {t:Th} {l pl:Addr} {xs:List V} (h:mU H t pl) (hl:H l=some (.lst xs)) (n:pl≠l) (k:cb l H H'):mU H' t pl:=by
 rcases h with ⟨e,e3⟩ | ⟨f,z,y,e,e3,e5⟩
 ·exact .inl ⟨e,k _ _ n e3⟩
 ·exact .inr ⟨f,z,y,e,k _ _ n e3,k _ _ (fun z=>by rw [z,hl] at e5; cases e5) e5⟩
structure gM (H:Hp) (N:Addr->Prop) (t:Th) (a:Addr):Prop where
 e:∃ ri pl nm,H a=some (.lst [.str t.kd,.str t.ow,.ref ri,.str t.tx,.ref pl,.ref nm])/\H ri=some (.tup [.str t.mi,.str t.re])/\mU H t pl/\H nm=some (.lst ((dQ (t.aQ.map (·.1))).map V.str))/\¬ N a/\¬ N pl/\¬ N nm
def gM.keep {H H':Hp} {N:Addr->Prop} {l:Addr} {t:Th} {a:Addr} {xs:List V} (h:gM H N t a) (hN:N l) (hl:H l=some (.lst xs)) (k:cb l H H'):gM H' N t a:=by
 obtain ⟨ri,pl,nm,e1,e2,e3,e4,n1,n2,n3⟩:=h;have ne:∀ {b},¬ N b->b≠l:=fun n z=>n (z ▸ hN);exact ⟨ri,pl,nm,k _ _ (ne n1) e1,k _ _ (fun z=>by rw [z,hl] at e2; cases e2) e2,e3.keep hl (ne n2) k,k _ _ (ne n3) e4,n1,n2,n3⟩
def NF (H:Hp) (l:Addr):Addr->Prop:=fun b=>b=l\/∃ o,H b=some o
def NF.no {H H1:Hp} {l b:Addr} (s:ao H H1) (n:b≠l) (h:H1 b=none):¬ NF H l b:=fun z=>z.elim n fun ⟨o,e⟩=>by rw [s _ _ e] at h; cases h
def abH (k:Nat):eg (k+1) (-1)=some k:=by
 unfold eg;split
 ·omega
 ·split
  ·congr 1; omega
  ·omega
def placesOk {CH CS CT:Addr} {A:Ad} {L:List Ta} {M:Hs} {n:Nat} {m:Int} {a:Ta} {t:Th} {H:Hp} {R:VK} {E:XK} (i:aH CH CS CT H A L M) (hm:m=(n:Int)) (ha:L[n]?=some a) (ht:M.ts[n]?=some t) (hp:t.bP=[]\/∃ f z,t.bP=[(f,z)]) (r:∀ pl H',ao H H'->H pl=none->mU H' t pl->R (.ref pl) H') :
  gq CH CS CT Ad.a EA [.ref A.a,.int m] H R E:=by
 refine ⟨A,L,M,n,a,t,i,rfl,hm,ha,ht,?_⟩;rcases hp with e | ⟨f,z,e⟩
 ·exact .inl ⟨e,fun l hl=>r l _ (ao.upd hl) hl (.inl ⟨e,ax⟩)⟩
 ·exact .inr ⟨f,z,e,fun y l hy hl=>r l _ (ao.upd hl) hl (.inr ⟨f,z,y,e,ax,(ao.upd hl) _ _ hy⟩)⟩
def IE (CH CS CT:Addr):Sp:=gL fun x H Q _=>X3 fun A L M=>A6 (aH CH CS CT H A L M) (A.a=x) (L.length=M.ts.length) (M.ts.length<=60) (∀ (k:Nat) (t:Th),M.ts[k]?=some t->t.aQ.length < 64/\(t.bP=[]\/∃ f z,t.bP=[(f,z)])) (∀ (l:Addr) (H':Hp) (rs:List Addr),ao H H'->H l=none->H' l=some (.lst (rs.map V.ref))->rs.length=M.ts.length->rs.Nodup->(∀ (k:Nat) (a:Addr) (t:Th),rs[k]?=some a->M.ts[k]?=some t->gM H' (NF H l) t a)->Q (.ref l) H')
def EC:T.iA.k P w base 5 (IE T.aI T.aP T.aW):=by
 refine T.iA.F.ok Am (fun _ _ _ _ h=>cX h fun _ _=>rfl) fun ag A outer s H vs Q E hr h=>cX h fun x h=>?_;obtain ⟨AA,L,M,i,rfl,hL,hM,hT,q⟩:=h;refine bF (b:=aR BH) ((am (aO 1 Am.nd (cr ae))
 (am (wM Wp rfl (tQ T.vh (aa (nH T.aJ T.kX.h (Az T) hr.m T.kX.b .nil au (ad 0)) ae)) (il 2 Am.nd) (am (aV (hX FS Gc kz (ad 1) (aa (cr (aa (bf T.aJ T.fX.h (pN T) hr.m T.fX.b .nil au (ad 0) (aa (ad 2) ae)) (aa (bf T.aJ T.nJ.h (JU T) hr.m T.nJ.b .nil au (ad 0) (aa (ad 2) ae)) (aa (bf T.aJ T.tO.h (abM T) hr.m T.tO.b .nil au (ad 0) (aa (ad 2) ae)) (aa (bf T.aJ T.gO.h (uo T) hr.m T.gO.b .nil au (ad 0) (aa (ad 2) ae)) ae))))) ae)))
 (aq (u9 (db gj (ce (bh (K:=K) rfl) (ad 1) (gl lC bn)) (cr (aa (bf T.aJ T.uO.h (V9 T) hr.m T.uO.b .nil au (ad 0) (aa (ad 2) ae)) (aa (bf T.aJ T.iY.h (xo T) hr.m T.iY.b .nil au (ad 0) (aa (ad 2) ae)) ae)))) (sX (ad 1) (gl lC bn) uq)))))
 (aq (aM (ad 1)))))) ?_
 refine stI [some (V.ref AA.a),none,none] ?_;right;refine ⟨fits (by simp),fun l hl=>?_⟩;refine ee (o:=.lst []) hl fun H1 s1 b1=>?_;refine kS (fun σ' H'=>∃ rs:List Addr,∃ t2,σ'=[some (V.ref AA.a),some (V.ref l),t2]/\ao H H'/\H' l=some (.lst (rs.map V.ref))/\rs.length=M.ts.length/\rs.Nodup/\∀ (k:Nat) (a:Addr) (t:Th),rs[k]?=some a->M.ts[k]?=some t->gM H' (NF H l) t a) ?_ ?_
 ·left;have i1:=i.same s1;obtain ⟨gW,c1,bx,hf1,cT⟩:=i1.h;refine mI bx cT ⟨AA,L,M,i1,rfl,⟨by omega,by omega⟩,?_⟩;refine PL (fun n σ' H'=>∃ rs:List Addr,∃ t2,σ'=[some (V.ref AA.a),some (V.ref l),t2]/\ao H H'/\H' l=some (.lst (rs.map V.ref))/\rs.length=n/\rs.Nodup/\∀ (k:Nat) (a:Addr) (t:Th),rs[k]?=some a->M.ts[k]?=some t->gM H' (NF H l) t a) ⟨[],_,rfl,s1,b1,rfl,.nil,fun k a t h=>by cases h⟩ ?_ ?_
  ·rintro n σ' H2 hn ⟨rs,t2,rfl,s2,b2,dG,iJ,lO⟩;have hn':n < M.ts.length:=by simpa using hn
   have ht:M.ts[n]?=some M.ts[n]:=mo hn';have ha:L[n]?=some (L[n]'(by omega)):=mo (by omega);right;simp only [b2];have e0:(0:Int)+(n:Int)=(n:Int):=by omega
   have i2:=i.same s2;obtain ⟨jb,c2,bZ,_,cg⟩:=i2.h;refine mI bZ cg ⟨AA,L,M,n,_,_,i2,rfl,e0,ha,ht,?_⟩;refine mI bZ cg ⟨AA,L,M,n,_,_,i2,rfl,e0,ha,ht,?_⟩;refine mI bZ cg ⟨AA,L,M,n,_,_,i2,rfl,e0,ha,ht,fun ri hri=>?_⟩;generalize ht':M.ts[n]=t at ht ⊢;refine ee (o:=.tup [.str t.mi,.str t.re]) hri fun H3 s3 b3=>?_;have i3:=i2.same s3;obtain ⟨iG,c3,dI,_,ed⟩:=i3.h;refine mI dI ed ⟨AA,L,M,n,_,_,i3,rfl,e0,ha,ht,?_⟩;refine ⟨fits (by simp),fun p hp=>?_⟩;refine ee (o:=.lst [V.str t.kd,V.str t.ow,V.ref ri,V.str t.tx]) hp fun H4 s4 b4=>?_;have ND:=s4 _ _ (s3 _ _ b2);simp only [ND];refine ⟨kj (by simp; omega),?_⟩;have za:p≠l:=fun z=>by rw [z,s3 _ _ b2] at hp; cases hp
   have b5:upd H4 l (.lst (rs.map V.ref++[V.ref p])) l=some (.lst (rs.map V.ref++[V.ref p])):=ax;have k5:cb l H4 (upd H4 l (.lst (rs.map V.ref++[V.ref p]))):=cb.upd;generalize upd H4 l (.lst (rs.map V.ref++[V.ref p]))=H5 at b5 k5 ⊢;have OI:∀ c o,H c=some o->c≠l:=fun c o e z=>by rw [z,hl] at e; cases e
   have s5:ao H H5:=fun c o e=>k5 c o (OI c o e) (((s2.trans s3).trans s4) c o e);have b5p:=k5 _ _ za b4;have b5r:=k5 _ _ (fun z=>by rw [z,b2] at hri; cases hri) (s4 _ _ b3);simp only [bJ,b5,oS];have i5:=i.same s5;obtain ⟨vw,c5,lH,_,sf5⟩:=i5.h;refine mI lH sf5 (placesOk i5 e0 ha ht (hT n t ht).2 fun pl H6 s6 bB p6=>?_);have npl':pl≠l:=fun z=>by rw [z,b5] at bB; cases bB
   have i6:=i5.same s6;obtain ⟨fs6,c6,yL,_,yR⟩:=i6.h;refine mI yL yR ⟨AA,L,M,n,_,_,i6,rfl,e0,ha,ht,(hT n t ht).1,fun nm cw=>?_⟩;have OO:nm≠l:=fun z=>by rw [z,s6 _ _ b5] at cw; cases cw
   have s7:=ao.upd (o:=.lst ((dQ (t.aQ.map (·.1))).map V.str)) cw;have b7:upd H6 nm (.lst ((dQ (t.aQ.map (·.1))).map V.str)) nm=some (.lst ((dQ (t.aQ.map (·.1))).map V.str)):=ax;generalize upd H6 nm (.lst ((dQ (t.aQ.map (·.1))).map V.str))=H7 at s7 b7 ⊢;refine ⟨fits (by simp),fun p2 eK=>?_⟩;refine ee (o:=.lst [V.ref pl,V.ref nm]) eK fun H8 s8 b8=>?_;have pk:=(s6.trans s7).trans s8;have b8p:=pk _ _ b5p;have N1:=pk _ _ b5;simp only [b8p,b8];refine ⟨fits (by simp),fun p3 eI=>?_⟩;have s9:=ao.upd (o:=.lst ([V.str t.kd,V.str t.ow,V.ref ri,V.str t.tx]++[V.ref pl,V.ref nm])) eI;have b9:upd H8 p3 (.lst ([V.str t.kd,V.str t.ow,V.ref ri,V.str t.tx]++[V.ref pl,V.ref nm])) p3=some (.lst [V.str t.kd,V.str t.ow,V.ref ri,V.str t.tx,V.ref pl,V.ref nm]):=ax;generalize upd H8 p3 (.lst ([V.str t.kd,V.str t.ow,V.ref ri,V.str t.tx]++[V.ref pl,V.ref nm]))=H9 at s9 b9 ⊢;have GH:=s9 _ _ N1;simp only [GH];rw [show eg (rs.map V.ref++[V.ref p]).length (-1)=some rs.length by rw [sK,nn]; exact abH _];have es:(rs.map V.ref++[V.ref p]).set rs.length (V.ref p3)=(rs++[p3]).map V.ref:=by
    rw [List.set_append_right _ _ (by rw [nn]; exact ss _),nn,Ja8,IN]; rfl
   have O7:p3≠l:=fun z=>by rw [z,N1] at eI; cases eI
   dsimp only;rw [es];have hnd':(rs++[p3]).Nodup:=by
    rw [Go];refine ⟨iJ,by simp,fun a ha b hb z=>?_⟩;rw [AT.mp hb] at z;obtain ⟨k,hk,e⟩:=Sc ha;have eW:M.ts[k]?=some (M.ts[k]'(by omega)):=mo (by omega);obtain ⟨_,_,_,r,_,_,_,ral,_⟩:=lO k a _ (by rw [mo hk,e]) eW;have r8:=pk _ _ (k5 _ _ (fun z=>ral (.inl z)) (s4 _ _ (s3 _ _ r)));rw [z,eI] at r8;cases r8
   have jW:cb l H9 (upd H9 l (.lst ((rs++[p3]).map V.ref))):=cb.upd;refine ⟨rs++[p3],_,rfl,fun c o e=>jW c o (OI c o e) (s9 _ _ (pk _ _ (s5 c o e))),ax,by rw [sK,dG]; rfl,hnd',fun k a t' hk hq'=>?_⟩;generalize upd H9 l (.lst ((rs++[p3]).map V.ref))=rK at jW ⊢;rcases Nat.lt_or_ge k rs.length with bD | gy
   ·have r:=lO k a t' (by rw [Fk bD] at hk; exact hk) hq';exact (((r.keep (.inl rfl) b2 ((s3.trans s4).keep l)).keep (.inl rfl) ND k5).keep (.inl rfl) b5 ((pk.trans s9).keep l)).keep (.inl rfl) GH jW
   ·rw [Do gy] at hk;have hk0:k - rs.length=0:=by
     have:=(lm.mp hk).1;simp at this; omega
    have hkn:k=n:=by omega
    rw [hk0] at hk;cases hk;subst hkn;rw [ht] at hq';cases hq';exact ⟨ri,pl,nm,jW _ _ O7 b9,jW _ _ (fun z=>by rw [z,b2] at hri; cases hri) (s9 _ _ (pk _ _ b5r)),(p6.keep (s6 _ _ b5) npl' (((s7.trans s8).trans s9).keep l)).keep GH npl' jW,jW _ _ OO (s9 _ _ (s8 _ _ b7)),NF.no (s5.trans pk) O7 eI,NF.no s5 npl' bB,NF.no (s5.trans s6) OO cw⟩
  ·rintro σ' H2 ⟨rs,t2,rfl,s2,b2,dG,iJ,lO⟩;exact ⟨rs,t2,rfl,s2,b2,by simpa using dG,iJ,lO⟩
 ·rintro σ' H2 ⟨rs,t2,rfl,s2,b2,dG,iJ,lO⟩;exact q l H2 rs s2 hl b2 dG iJ lO
def u6 (zs:List Str):(zs.map V.str).all cG=true:=by
 rw [At];intro v hv;obtain ⟨k,_,rfl⟩:=AC.mp hv;rfl
def mU.de {K:PySem.W.Frag} {H:Hp} {t:Th} {p q:Addr} {n:Nat} (h:mU H t p) (h':mU H t q):DE K H (n+2) (.ref p) (.ref q):=by
 rcases h with ⟨e,a1⟩ | ⟨f,z,y,e,a1,a2⟩
 ·rcases h' with ⟨_,b1⟩ | ⟨f',z',y',e',_,_⟩
  ·exact .inr ⟨_,_,_,_,rfl,rfl,.inl ⟨aD.of a1,aD.of b1⟩,rfl,DE.gp rfl⟩
  ·rw [e] at e'; cases e'
 ·rcases h' with ⟨e',_⟩ | ⟨f',z',y',e',b1,b2⟩
  ·rw [e] at e'; cases e'
  ·rw [e] at e';cases e';refine .inr ⟨_,_,_,_,rfl,rfl,.inl ⟨aD.of a1,aD.of b1⟩,rfl,fun i h1 h2=>?_⟩
   match i,h1 with
   | 0,_=>exact .inr ⟨_,_,_,_,rfl,rfl,.inr ⟨bw.of a2,bw.of b2⟩,rfl,DE.gp rfl⟩
def gM.de {K:PySem.W.Frag} {H:Hp} {N N':Addr->Prop} {t:Th} {a b:Addr} {n:Nat} (h:gM H N t a) (h':gM H N' t b):DE K H (n+3) (.ref a) (.ref b):=by
 obtain ⟨ri,pl,nm,a1,a2,a3,a4,_⟩:=h;obtain ⟨ri',pl',nm',b1,b2,b3,b4,_⟩:=h';refine .inr ⟨_,_,_,_,rfl,rfl,.inl ⟨aD.of a1,aD.of b1⟩,rfl,fun i h1 h2=>?_⟩
 match i,h1 with
 | 0,_=>exact DE.flat (v:=.str t.kd) rfl _
 | 1,_=>exact DE.flat (v:=.str t.ow) rfl _
 | 2,_=>exact .inr ⟨_,_,_,_,rfl,rfl,.inr ⟨bw.of a2,bw.of b2⟩,rfl,DE.gp rfl⟩
 | 3,_=>exact DE.flat (v:=.str t.tx) rfl _
 | 4,_=>exact a3.de b3
 | 5,_=>exact .inr ⟨_,_,_,_,rfl,rfl,.inl ⟨aD.of a4,aD.of b4⟩,rfl,DE.gp (u6 _)⟩
structure eS (H:Hp) (N:Addr->Prop) (ts:List Th) (l:Addr):Prop where
 e:∃ rs:List Addr,H l=some (.lst (rs.map V.ref))/\rs.length=ts.length/\rs.Nodup/\N l/\∀ (k:Nat) (a:Addr) (t:Th),rs[k]?=some a->ts[k]?=some t->gM H N t a
def eS.same {H H':Hp} {N:Addr->Prop} {ts:List Th} {l:Addr} (h:eS H N ts l) (s:ao H H'):eS H' N ts l:=by
 obtain ⟨rs,e,el,nd,nl,r⟩:=h;exact ⟨rs,s _ _ e,el,nd,nl,fun k a t h1 h2=>(r k a t h1 h2).keep nl e (s.keep l)⟩
def eS.eq {K:PySem.W.Frag} {H:Hp} {N N':Addr->Prop} {ts:List Th} {l l':Addr} {Q:VK} (h:eS H N ts l) (h':eS H N' ts l') (q:Q (.bl true) H):uf K 4 (.ref l) (.ref l') H Q:=by
 obtain ⟨rs,e,el,_,_,r⟩:=h;obtain ⟨rs',e',el',_,_,r'⟩:=h';refine ⟨_,_,.inl ⟨aD.of e,aD.of e'⟩,by rw [nn,nn,el,el'],fun i h1 h2=>?_,q⟩;rw [nn] at h1 h2;have ht:ts[i]?=some (ts[i]'(by omega)):=mo (by omega);rw [_h,_h];exact (r i _ _ (mo h1) ht).de (n:=1) (r' i _ _ (mo h2) ht)
def LR {zs:List Str} {vs:List V} {i:Nat} {a:Addr} (h:zs.map V.str=vs) (hi:vs[i]?=some (.ref a)):False:=by
 rw [<- h,xL] at hi;cases e:zs[i]? with
 | none=>rw [e] at hi; cases hi
 | some z=>rw [e] at hi; cases hi
def gM.other {H H':Hp} {N:Addr->Prop} {a b yQ:Addr} {t:Th} {x0 x1 x3 x4 x5:V} (h:gM H N t b) (n:b≠a) (ha:H a=some (.lst [x0,x1,.ref yQ,x3,x4,x5])) (k:cb a H H'):gM H' N t b:=by
 obtain ⟨ri,pl,nm,e1,e2,e3,e4,n1⟩:=h;refine ⟨ri,pl,nm,k _ _ n e1,k _ _ (fun z=>by rw [z,ha] at e2; cases e2) e2,?_,k _ _ (fun z=>?_) e4,n1⟩
 ·refine e3.keep ha (fun z=>?_) k;rcases e3 with ⟨_,e⟩ | ⟨_,_,_,_,e,_⟩ <;> (rw [z,ha] at e; cases e)
 ·rw [z,ha] at e4;injection e4 with e4;injection e4 with e4;exact LR (i:=2) e4.symm rfl
def eS.off {H H':Hp} {N:Addr->Prop} {ts:List Th} {l b:Addr} {xs:List V} (h:eS H N ts l) (hb:N b) (hl:H b=some (.lst xs)) (nb:l≠b) (k:cb b H H'):eS H' N ts l:=by
 obtain ⟨rs,e,el,nd,nl,r⟩:=h;exact ⟨rs,k _ _ nb e,el,nd,nl,fun j a t h1 h2=>(r j a t h1 h2).keep hb hl k⟩
def eS.set {H:Hp} {N:Addr->Prop} {ts:List Th} {l:Addr} (h:eS H N ts l) {k:Nat} {t:Th} (hk:ts[k]?=some t):∃ rs:List Addr,∃ a,∃ xs:List V,H l=some (.lst (rs.map V.ref))/\rs[k]?=some a/\H a=some (.lst xs)/\(∃ (u0 u1 u3:Str) (u2 u4 u5:Addr),xs=[.str u0,.str u1,.ref u2,.str u3,.ref u4,.ref u5])/\¬ N a /\
  ∀ tx:Str,eS (upd H a (.lst (xs.set 3 (.str tx)))) N (ts.set k { t with tx:=tx }) l:=by
 obtain ⟨rs,e,el,nd,nl,r⟩:=h;have gz:k < ts.length:=(lm.mp hk).1;have hr:rs[k]?=some (rs[k]'(by omega)):=mo (by omega);generalize rs[k]'(by omega)=a at hr;obtain ⟨yQ,pl,nm,e1,e2,e3,e4,n1⟩:=r k a t hr hk;refine ⟨rs,a,_,e,hr,e1,⟨_,_,_,_,_,_,rfl⟩,n1.1,fun tx=>?_⟩;have kk:cb a H (upd H a (.lst ([V.str t.kd,V.str t.ow,V.ref yQ,V.str t.tx,V.ref pl,V.ref nm].set 3 (.str tx)))):=cb.upd;refine ⟨rs,kk _ _ (fun z=>n1.1 (z ▸ nl)) e,by rw [_D]; exact el,nd,nl,fun j b t' hj ht'=>?_⟩;by_cases hjk:j=k
 ·subst hjk;rw [hr] at hj;cases hj;rw [Fr gz] at ht';cases ht';refine ⟨yQ,pl,nm,ax,kk _ _ (fun z=>by rw [z,e1] at e2; cases e2) e2,?_,kk _ _ (fun z=>?_) e4,n1⟩
  ·exact e3.keep e1 (fun z=>by rcases e3 with ⟨_,q⟩ | ⟨_,_,_,_,q,_⟩ <;> (rw [z,e1] at q; cases q)) kk
  ·rw [z,e1] at e4;injection e4 with e4;injection e4 with e4;exact LR (i:=2) e4.symm rfl
 ·rw [FB (pi hjk)] at ht';have nb:b≠a:=fun z=>by
   subst z;have h1:=lm.mp hj;have h2:=lm.mp hr;rcases Nat.lt_or_gt_of_ne hjk with lt | gt
   ·exact (T0.mp nd) j k h1.1 h2.1 lt (h1.2.trans h2.2.symm)
   ·exact (T0.mp nd) k j h2.1 h1.1 gt (h2.2.trans h1.2.symm)
  exact (r j b t' hj ht').other nb e1 kk
def abI (CH CS CT:Addr):Sp:=uE fun x n m H Q _=>X6 fun A L M (k:Nat) a t=>A6 (aH CH CS CT H A L M) (A.t=x) (n=(k:Int)) (L[k]?=some a) (M.ts[k]?=some t) (∀ H',aH CH CS CT H' A L { M with ts:=M.ts.set k { t with tx:=m } }->Kp [A.t,a.th] H H'->Q .ay H')
def Yd:T.uT.k P w mg base 3 (abI T.aI T.aP T.aW):=by
 refine T.uT.F.ok LZ (fun _ _ _ _ h=>mT h fun _ _ _ _=>rfl) fun ag A outer s H vs Q E hr h=>mT h fun x n m h=>?_;obtain ⟨AA,L,M,k,a,t,i,rfl,rfl,ha,aG,q⟩:=h;obtain ⟨fs,c,hx,aY,sf⟩:=i.h;obtain ⟨gs,c2,ht,cJ,sg⟩:=i.t;have bU:=dX i ha aG;obtain ⟨ks,ho,fe,so⟩:=bU.o;have off:=i.ql ha;have n1:AA.t≠a.th:=off _ (by simp [Ad.w]) _ (by simp [Ta.l]);have n2:AA.a≠a.th:=off _ (by simp [Ad.w]) _ (by simp [Ta.l]);have n3:=i.own ha;refine bF (b:=aR AG) ((am (aO 3 LZ.nd (cW T.bS T.cE.h (gn T) hr.m T.cE.b .nil di (ad 0) (aa (ad 1) ae)))
 (am (jB T.bS T.tX jE (ad 0) bn)
 (aq (bC T.cP T.BC (ad 3) (ad 2)))))) ?_
 refine stI [some (V.ref AA.t),some (V.int (k:Int)),some (V.str m),none] ?_;right;refine mI ht sg (gN i ha aG ?_);right;refine ⟨AA.t,_,_,.int c2,rfl,ht,(sg _).trans rfl,_,_,rfl,rfl,_,_,ht,by omega,?_⟩;left;refine ⟨a.th,_,_,rfl,by rw [ah (pi n1)]; exact ho,by omega,?_⟩;refine q _ (i.write (t':={ t with tx:=m }) ha ⟨fs,c,by rw [ah n2,ah i.aT]; exact hx,aY,sf⟩ ⟨_,c2+1,by rw [ah n1,ax],by rw [fm (u:=.int c2) ((sg _).trans rfl)]; exact cJ,fun f=>by rw [(sg.put "changes" (.int (c2+1))) f]; rfl⟩ ⟨⟨_,ax,?_,fun f=>(so.put "text" (.str m) f).trans rfl⟩,?_,?_⟩ (fun b o hb e=>?_)) (fun b o hb e=>?_)
 ·rw [fm (u:=.str t.tx) ((so _).trans rfl)]; exact fe
 ·rw [ah (pi n3.1),ah (pi (off _ (by simp [Ad.w]) _ (by simp [Ta.l])))]; exact bU.nm
 ·rw [ah (pi n3.2.1),ah (pi (off _ (by simp [Ad.w]) _ (by simp [Ta.l])))]; exact bU.pl
 ·simp only [li,lv,wn,TW] at hb;rw [ah hb.2.2.1,ah hb.2.1]; exact e
 ·simp only [li,lv,wn,TW] at hb;rw [ah hb.2,ah hb.1]; exact e
inductive eN (d:Wd) (t:List Nat) (kd bad sg wd:Str):Sum Rf Nat->Prop
 | way {e}:dO d t e->(∀ k ns,e.res≠.found k ns)->eN d t kd bad sg wd (.inl (.way e.res))
 | kind {e k ns a th}:dO d t e->e.res=.found k ns->d.L[k]?=some a->d.M.ts[k]?=some th->th.kd≠kd->th.kd=bad->eN d t kd bad sg wd (.inl (.cO bad))
 | may {e k ns a th}:dO d t e->e.res=.found k ns->d.L[k]?=some a->d.M.ts[k]?=some th->th.kd=kd->dw sg (cZ th d.z)=false->eN d t kd bad sg wd (.inl (.cO wd))
 | ok {e k ns a th}:dO d t e->e.res=.found k ns->d.L[k]?=some a->d.M.ts[k]?=some th->th.kd=kd->dw sg (cZ th d.z)=true->eN d t kd bad sg wd (.inr k)
def Ig (N:Cn):Sp:=jJ fun h z pt H Q E=>X6 fun A L M root t e=>A6 (pt=Tx.S t) (aH N.CH N.CS N.CT H A L M) (A.a=h) (dO ⟨L,M,z,true,root⟩ t e) (∀ k ns,e.res=.found k ns->∃ a t,L[k]?=some a/\M.ts[k]?=some t/\(t.kd≠("folder" : Str)->∀ H',ao H H'->Q (.int (k:Int)) H')/\(t.kd=("folder" : Str)->c7 N H E (.cO "folder"))) ((∀ k ns,e.res≠.found k ns)->c7 N H E (.way e.res))
def Kv:aC P w K mg base (bo P w) 16 T.kN.f T.kN.d ["house","asker","path"] (Ig T.cn):=by
 refine T.kN.F.dE Jh (fun _ _ _ _ h=>eQ h fun _ _ _ _=>rfl) fun ag A outer s H vs Q E hr h=>eQ h fun hh z pt h=>?_;obtain ⟨AA,L,M,root,t,e,rfl,i,rfl,pg,q1,q2⟩:=h;refine bF (b:=aR D6) ((am (aO 3 Jh.nd (cB (B5 T) hr.m T.iB.m T.iB.F.kp T.iB.b .nil cz (aa (ad 0) (aa (ad 1) (aa (ad 2) ae)))))
 (am (bu (cK (bv (Lp T) hr.m T.kH.m T.kH.F.kp T.kH.b .nil au (aa (ad 0) (aa (ad 3) ae)))) (aq (nU oX rfl rfl T.oE T.mw T.qp (qk T) hr.m T.jD.b (aa ap ae))) ci)
 (aq (aM (ad 3)))))) ?_
 refine stI [some (V.ref AA.a),some (V.str z),some (V.str (Tx.S t)),none] ?_;right;refine ⟨AA,L,M,root,t,e,rfl,i,rfl,pg,fun k ns he H1 s1=>?_,q2⟩;obtain ⟨a,t',ha,ht,r1,r2⟩:=q1 k ns he;right;refine ⟨AA,L,M,k,a,t',i.same s1,rfl,rfl,ha,ht,?_⟩;dsimp only;by_cases hk:t'.kd=("folder" : Str)
 ·rw [u8 hk];exact bK ⟨_,rfl,fun d hd=>(r2 hk).raise s1 hd⟩
 ·rw [pc hk];exact bg (r1 hk _ s1)
def eN.fi {N:Cn} {H:Hp} {A:Ad} {L:List Ta} {M:Hs} {z sg wd:Str} {root:Nat} {t:List Nat} {x:Sum Rf Nat} {Q:VK} {E:XK} (i:aH N.CH N.CS N.CT H A L M) (hx:eN ⟨L,M,z,true,root⟩ t "file" "folder" sg wd x) (r:∀ y,x=.inl y->c7 N H E y)
  (q:∀ k a th H',ao H H'->L[k]?=some a->M.ts[k]?=some th->(dw sg (cZ th z)=true->x=.inr k)->(dw sg (cZ th z)=false->x=.inl (.cO wd))->(aS (sD M.ro) (.inr z)).isSome=true->Q (.int (k:Nat)) H'):Ig N [.ref A.a,.str z,.str (Tx.S t)] H Q E:=by
 have f1:("file" : Str) ≠ "folder" := by decide +kernel
 cases hx with
 | way pw hn=>exact ⟨A,L,M,root,t,_,rfl,i,rfl,pw,fun k ns h=>absurd h (hn k ns),fun _=>r _ rfl⟩
 | kind pw hf ha ht h1 h2=>exact ⟨A,L,M,root,t,_,rfl,i,rfl,pw,fun k ns h=>by rw [hf] at h; cases h; exact ⟨_,_,ha,ht,fun z=>absurd h2 z,fun _=>r _ rfl⟩,fun hn=>absurd hf (hn _ _)⟩
 | may pw hf ha ht h1 h2=>exact ⟨A,L,M,root,t,_,rfl,i,rfl,pw,fun k ns h=>by rw [hf] at h; cases h; exact ⟨_,_,ha,ht,fun _ H' s=>q _ _ _ _ s ha ht (fun e=>by rw [h2] at e; cases e) (fun _=>rfl) pw.hz,fun z=>absurd (h1.symm.trans z) f1⟩,fun hn=>absurd hf (hn _ _)⟩
 | ok pw hf ha ht h1 h2=>exact ⟨A,L,M,root,t,_,rfl,i,rfl,pw,fun k ns h=>by rw [hf] at h; cases h; exact ⟨_,_,ha,ht,fun _ H' s=>q _ _ _ _ s ha ht (fun _=>rfl) (fun e=>by rw [h2] at e; cases e) pw.hz,fun z=>absurd (h1.symm.trans z) f1⟩,fun hn=>absurd hf (hn _ _)⟩
def eN.fo {N:Cn} {H:Hp} {A:Ad} {L:List Ta} {M:Hs} {z sg wd:Str} {root:Nat} {t:List Nat} {x:Sum Rf Nat} {Q:VK} {E:XK} (i:aH N.CH N.CS N.CT H A L M) (hx:eN ⟨L,M,z,true,root⟩ t "folder" "file" sg wd x) (r:∀ y,x=.inl y->c7 N H E y)
  (q:∀ k a th H',ao H H'->L[k]?=some a->M.ts[k]?=some th->(dw sg (cZ th z)=true->x=.inr k)->(dw sg (cZ th z)=false->x=.inl (.cO wd))->(aS (sD M.ro) (.inr z)).isSome=true->Q (.int (k:Nat)) H'):JS N [.ref A.a,.str z,.str (Tx.S t)] H Q E:=by
 cases hx with
 | way pw hn=>exact ⟨A,L,M,root,t,_,rfl,i,rfl,pw,fun k ns h=>absurd h (hn k ns),fun _=>r _ rfl⟩
 | kind pw hf ha ht h1 h2=>exact ⟨A,L,M,root,t,_,rfl,i,rfl,pw,fun k ns h=>by rw [hf] at h; cases h; exact ⟨_,_,ha,ht,fun z=>absurd z h1,fun _=>r _ rfl⟩,fun hn=>absurd hf (hn _ _)⟩
 | may pw hf ha ht h1 h2=>exact ⟨A,L,M,root,t,_,rfl,i,rfl,pw,fun k ns h=>by rw [hf] at h; cases h; exact ⟨_,_,ha,ht,fun _ H' s=>q _ _ _ _ s ha ht (fun e=>by rw [h2] at e; cases e) (fun _=>rfl) pw.hz,fun z=>absurd h1 z⟩,fun hn=>absurd hf (hn _ _)⟩
 | ok pw hf ha ht h1 h2=>exact ⟨A,L,M,root,t,_,rfl,i,rfl,pw,fun k ns h=>by rw [hf] at h; cases h; exact ⟨_,_,ha,ht,fun _ H' s=>q _ _ _ _ s ha ht (fun _=>rfl) (fun e=>by rw [h2] at e; cases e) pw.hz,fun z=>absurd h1 z⟩,fun hn=>absurd hf (hn _ _)⟩
def Lk (N:Cn):Sp:=jJ fun h z pt H Q E=>X6 fun A L M root t x=>A6 (pt=Tx.S t) (aH N.CH N.CS N.CT H A L M) (A.a=h) (eN ⟨L,M,z,true,root⟩ t "file" "folder" "l" "look" x) (∀ y,x=.inl y->c7 N H E y) (∀ k th,x=.inr k->M.ts[k]?=some th->∀ H',ao H H'->Q (.str th.tx) H')
def P4:aC P w K mg base (bo P w) 17 T.pP.f T.pP.d ["house","asker","path"] (Lk T.cn):=by
 refine T.pP.F.dE Iw (fun _ _ _ _ h=>eQ h fun _ _ _ _=>rfl) fun ag A outer s H vs Q E hr h=>eQ h fun hh z pt h=>?_;obtain ⟨AA,L,M,root,t,x,rfl,i,rfl,hx,r,q⟩:=h;refine bF (b:=aR zS) ((am (aO 3 Iw.nd (cB (Kv T) hr.m T.kN.m T.kN.F.kp T.kN.b .nil cz (aa (ad 0) (aa (ad 1) (aa (ad 2) ae)))))
 (am (aV (cB (wQ T) hr.m T.fQ.m T.fQ.F.kp T.fQ.b .nil cz (aa (ad 0) (aa (ad 1) (aa (ad 3) (aa ap (aa ap ae)))))))
 (aq (aM (bf T.aJ T.gO.h (uo T) hr.m T.gO.b .nil au (ad 0) (aa (ad 3) ae))))))) ?_
 refine stI [some (V.ref AA.a),some (V.str z),some (V.str (Tx.S t)),none] ?_;right;refine eN.fi i hx r fun k a th H1 s1 ha ht o1 o2 hz=>ai ?_;left;have i1:=i.same s1;refine ⟨AA,L,M,th,k,rfl,i1,rfl,hz,by decide +kernel,ht,fun hm=>?_,fun hm=>(r _ (o2 hm)).of s1⟩;left;obtain ⟨iH,gc,gh,_,c9⟩:=i1.h;exact mI gh c9 ⟨AA,L,M,k,a,th,i1,rfl,rfl,ha,ht,q k th (o1 hm) ht H1 s1⟩
def HX (N:Cn):Sp:=zH fun h z pt tx H Q E=>X6 fun A L M root t x=>A9 (pt=Tx.S t) (tx.length<=60) (aH N.CH N.CS N.CT H A L M) (A.a=h) (gd t) (eN ⟨L,M,z,true,root⟩ t "file" "folder" "w" "write" x) ((aS (sD M.ro) (.inr z)).isSome=true) (∀ y,x=.inl y->c7 N H E y) (∀ k a th,x=.inr k->L[k]?=some a->M.ts[k]?=some th ->
   ∀ H',aH N.CH N.CS N.CT H' A L { M with ts:=M.ts.set k { th with tx:=tx } }->Kp [A.t,a.th] H H'->Q .ay H')
def Sq:aC P w K mg base (bo P w) 17 T.rq.f T.rq.d ["house","asker","path","text"] (HX T.cn):=by
 refine T.rq.F.dE Jv (fun _ _ _ _ h=>xH h fun _ _ _ _ _=>rfl) fun ag A outer s H vs Q E hr h=>xH h fun hh z pt tx h=>?_;obtain ⟨AA,L,M,root,t,x,rfl,hx60,i,rfl,hp,hx,hz,r,q⟩:=h;refine bF (b:=aR Dz) ((am (aV (cW T.aJ T.dU.h (kP T) hr.m T.dU.b .nil cz (ad 0) (aa (ad 1) ae)))
 (am (aV (bv (jr T) hr.m T.cy.m T.cy.F.kp T.cy.b .nil au (aa (ad 2) ae)))
 (am (aV (bv (Mc T) hr.m T.kG.m T.kG.F.kp T.kG.b .nil au (aa (ad 3) ae)))
 (am (aO 4 Jv.nd (cB (Kv T) hr.m T.kN.m T.kN.F.kp T.kN.b .nil cz (aa (ad 0) (aa (ad 1) (aa (ad 2) ae)))))
 (am (aV (cB (wQ T) hr.m T.fQ.m T.fQ.F.kp T.fQ.b .nil cz (aa (ad 0) (aa (ad 1) (aa (ad 4) (aa ap (aa ap ae)))))))
 (aq (aV (bf T.bS T.uT.h (Yd T) hr.m T.uT.b .nil au (bi T.aJ T.eE (ad 0)) (aa (ad 4) (aa (ad 3) ae))))))))))) ?_
 refine stI [some (V.ref AA.a),some (V.str z),some (V.str (Tx.S t)),some (V.str tx),none] ?_;obtain ⟨iH,gc,gh,_,c9⟩:=i.h;right;refine mI gh c9 (me i hz (ai ?_));left;refine ⟨t,rfl,hp.l1,hp.l2,hp.all,fun H1 l p s1 _ hl hp=>ai ?_⟩;left;refine ⟨hx60,ai ?_⟩;left;refine eN.fi (i.same s1) hx (fun y e=>(r y e).of s1) fun k a th H2 s2 ha ht o1 o2 hz=>ai ?_;left;have j0:=s1.trans s2;have i2:=i.same j0;refine ⟨AA,L,M,th,k,rfl,i2,rfl,hz,by decide +kernel,ht,fun hm=>?_,fun hm=>(r _ (o2 hm)).of j0⟩;left;obtain ⟨yY,yW,ke,_,kf⟩:=i2.h;obtain ⟨gs,c2,E2,cJ,sg⟩:=i2.t;exact fI ke kf rfl (mI E2 sg ⟨AA,L,M,k,a,th,i2,rfl,rfl,ha,ht,fun H3 i3 k3=>q k a th (o1 hm) ha ht H3 i3 ((Kp.of j0).trans k3)⟩)
def LD (N:Cn):Sp:=jJ fun h z pt H Q E=>X6 fun A L M root t x=>A7 (pt=Tx.S t) (aH N.CH N.CS N.CT H A L M) (A.a=h) (eN ⟨L,M,z,true,root⟩ t "folder" "file" "l" "look" x) (∀ (k:Nat) th,M.ts[k]?=some th->th.aQ.length < 64) (∀ y,x=.inl y->c7 N H E y) (∀ k th,x=.inr k->M.ts[k]?=some th->∀ l H',ao H H'->H l=none->H' l=some (.lst ((dQ (th.aQ.map (·.1))).map V.str))->Q (.ref l) H')
def Hc:aC P w K mg base (bo P w) 17 T.kL.f T.kL.d ["house","asker","path"] (LD T.cn):=by
 refine T.kL.F.dE Hk (fun _ _ _ _ h=>eQ h fun _ _ _ _=>rfl) fun ag A outer s H vs Q E hr h=>eQ h fun hh z pt h=>?_;obtain ⟨AA,L,M,root,t,x,rfl,i,rfl,hx,jk,r,q⟩:=h;refine bF (b:=aR zI) ((am (aO 3 Hk.nd (cB (abY T) hr.m T.qN.m T.qN.F.kp T.qN.b .nil cz (aa (ad 0) (aa (ad 1) (aa (ad 2) ae)))))
 (am (aV (cB (wQ T) hr.m T.fQ.m T.fQ.F.kp T.fQ.b .nil cz (aa (ad 0) (aa (ad 1) (aa (ad 3) (aa ap (aa ap ae)))))))
 (aq (aM (bf T.aJ T.iY.h (xo T) hr.m T.iY.b .nil au (ad 0) (aa (ad 3) ae))))))) ?_
 refine stI [some (V.ref AA.a),some (V.str z),some (V.str (Tx.S t)),none] ?_;right;refine eN.fo i hx r fun k a th H1 s1 ha ht o1 o2 hz=>ai ?_;left;have i1:=i.same s1;refine ⟨AA,L,M,th,k,rfl,i1,rfl,hz,by decide +kernel,ht,fun hm=>?_,fun hm=>(r _ (o2 hm)).of s1⟩;left;obtain ⟨iH,gc,gh,_,c9⟩:=i1.h;exact mI gh c9 ⟨AA,L,M,k,a,th,i1,rfl,rfl,ha,ht,jk k th ht,fun l hl=>q k th (o1 hm) ht l _ (s1.trans (ao.upd hl)) (yq s1 hl) ax⟩
def NL (d:Wd) (S:Ws):Prop:=∃ t,d.M.ts[S.here]?=some t/\t.kd≠("lead" : Str)
def uX {t:Th} (h:t.kd=("folder" : Str)):t.kd≠("lead" : Str):=by rw [h]; decide +kernel
def eO.nl {d:Wd} (g:Gd d.M) (hl:d.last=true) (hr:∃ t,d.M.ts[d.root]?=some t/\t.kd=("folder" : Str)) {S S':Ws} {p:Str} {o:Option Tl} (h:eO d S p S' o) (n:NL d S):o=none->NL d S':=by
 cases h with
 | flat=>nofun
 | oJ=>nofun
 | dot=>exact fun _=>n
 | up _ _ u =>
  intro _;cases u with
  | gi=>exact n
  | up _ _ _ _ _ ht hp _ hf hs =>
   obtain ⟨rfl,rfl⟩:=g.we hs;refine ⟨_,hf,?_⟩;rcases (g.th _ _ ht).pl with ⟨_,e⟩ | ⟨f',nm',tf',_,e,_,e2,e3⟩
   ·rw [hp] at e; cases e
   ·rw [hp] at e; cases e; rw [hf] at e2; cases e2; exact uX e3
 | go _ _ _ _ _ b =>
  cases b with
  | no=>nofun
  | folder _ _ ht hk hs =>
   obtain ⟨rfl,rfl⟩:=g.we hs;exact fun _=>⟨_,ht,uX hk⟩
  | fin _ _ ht _ hf =>
   refine fun _=>⟨_,ht,?_⟩;rcases hf with e | ⟨_,e⟩
   ·rw [e]; decide +kernel
   ·rw [hl] at e; cases e
  | lead _ _ _ _ _ _ m =>
   cases m with
   | ring=>nofun
   | many=>nofun
   | read _ _ r =>
    cases r with
    | @mk _ _ t _ _ _ _ _ _ _ _ _ _ _ _ _ hs =>
     obtain ⟨rfl,rfl⟩:=g.we hs;intro _;unfold NL hU;dsimp only;split
     ·obtain ⟨t,h1,h2⟩:=hr; exact ⟨t,h1,uX h2⟩
     ·exact n
def fB.nl {d:Wd} (g:Gd d.M) (hl:d.last=true) (hr:∃ t,d.M.ts[d.root]?=some t/\t.kd=("folder" : Str)) {n:Nat} {S S':Ws} {o:Option Tl} (h:fB d n S S' o):NL d S->o=none->NL d S':=by
 induction h with
 | done=>exact fun n _=>n
 | pop _ _ _ ih=>exact ih
 | step _ s _ ih=>exact fun n=>ih (s.nl g hl hr n rfl)
 | fail=>exact fun _=>nofun
def dO.nl {M:Hs} {L:List Ta} {z:Str} {root k:Nat} {t:List Nat} {e:End} {ns:List Str} (g:Gd M) (hz:z∈AS) (p:dO ⟨L,M,z,true,root⟩ t e) (h:e.res=.found k ns):∃ t,M.ts[k]?=some t/\t.kd≠("lead" : Str):=by
 obtain ⟨r,k0,ga⟩:=g.as z hz;cases p.g with
 | @told _ _ _ y _ _ r=>cases y <;> cases h
 | found b _ hr _ =>
  cases h;have e1:=b.z;dsimp only at e1;rw [ga.ro] at e1;obtain rfl:r=root:=by injection e1 with e1; injection e1 with e1; omega
  obtain ⟨st,b2,rr,a,t,aU,ha,ht,vo,yH,rfl⟩:=b.ex;obtain ⟨rfl,rfl⟩:=g.we vo;refine fB.nl (d:=⟨L,M,z,true,r⟩) g rfl ga.tr hr ?_ rfl;rcases aU with ⟨_,rfl⟩ | ⟨_,e2⟩
  ·obtain ⟨t,h1,h2⟩:=ga.tr; exact ⟨t,h1,uX h2⟩
  ·dsimp only at e2;rw [ga.st] at e2;obtain rfl:k0=b2:=by injection e2 with e2; injection e2 with e2; omega
   obtain ⟨t,h1,h2⟩:=ga.tk; exact ⟨t,h1,uX h2⟩
def aay:jS K T.eX:=⟨T.Zk,T.Zg,T.abD,T.XR,T.V3,T.V1,T.Vu⟩
def SU:jS K T.eV:=⟨T.XF,T.Uw,T.ab2,T.TV,T.Z1,T.aba,T.Si⟩
def sQ (N:Cn) (Q:VK):XK:=fun C od H' =>
 (C=.ref N.CN/\∃ d fd,od=some d/\H' d=some (.xd [("told",.ref fd)])/\∀ p H2,ao H' H2->H' p=none->H2 p=some (.tup [.str "way",.ref fd])->Q (.ref p) H2) \/
 (C=.ref N.CD/\∃ d y,od=some d/\H' d=some (.xd [("reason",.str y)])/\∀ p H2,ao H' H2->H' p=none->H2 p=some (.tup [.str "deed",.str y])->Q (.ref p) H2)
def Xq (N:Cn) (cu:fb):fb:=fun H Q _=>cu H (fun v H'=>∀ p H2,ao H' H2->H' p=none->H2 p=some (.tup [.str "told",v])->Q (.ref p) H2) (sQ N Q)
def oi:sW P w K mg base (bo P w) 19 T.dq.f T.dq.d ["_law_ask"] (Cq P w K mg base 18 (Xq T.cn)):=by
 refine T.dq.F.T3 kC (fun outer s vs H Q E h=>?_) (fun ag A outer s H vs Q E hr h=>?_)
 ·obtain ⟨f,B,cu,rfl,_⟩:=h;rfl
 ·obtain ⟨fl,B,cu,rfl,D0,hB,hf,gg,dj⟩:=h;have D:=D0.m;refine bF (b:=aR DA) ((am (aO 1 kC.nd ay)
   (am (Qb ⟨rfl,rfl,rfl⟩ (fun _ _=>by exact (aq (aO 1 kC.nd (em (aa ap (aa (cO 0 D hB hf gg hr.m aai) ae)))))) (Bq 2 (K:=K) rfl kC.nd T.MF T.Us T.Wz (fun _=>by exact (aq (aO 1 kC.nd (em (aa ap (aa (J3 T.Ca (aay T) (ad 2)) ae)))))) (Bq 2 (K:=K) rfl kC.nd T.oE T.aak T.Y5 (fun _=>by exact (aq (aO 1 kC.nd (em (aa ap (aa (J3 T.mw (SU T) (ad 2)) ae)))))) (Bq 2 (K:=K) rfl kC.nd T.YW T.RQ T.VC (fun _=>by exact (aq (aO 1 kC.nd (em (aa ap (aa (ad 2) ae)))))) ZL))))
   (aq (aM (ad 1)))))) ?_
  refine stI [some (.ref fl),none,none] ?_;right;refine kS (fun σ' H'=>∃ p t,σ'=[some (.ref fl),some (.ref p),t]/\Q (.ref p) H') ?_ ?_
  ·refine ⟨fun σ' C od H'=>σ'=[some (.ref fl),some .ay,none]/\sQ T.cn Q C od H',?_,?_⟩
   ·left;exact ⟨by trivial,_,_,dj,fun v H' z=>⟨fits (by simp),fun p hp=>⟨p,_,rfl,z p _ (ao.upd hp) hp ax⟩⟩,fun C od H' z=>⟨rfl,z⟩⟩
   ·rintro σ' C od H' ⟨rfl,z⟩;rcases z with ⟨e,d,fd,rfl,hd,q⟩ | ⟨e,d,y,rfl,hd,q⟩
    ·cases e;refine ⟨true,T.ZW,?_⟩;rw [wT rfl];intro ea hea;left;have s1:=ao.upd (o:=km ea T.eX (some d)) hea;refine ⟨ea,d,_,_,rfl,ax,s1 _ _ hd,rfl,fits (by simp),fun p hp=>⟨p,_,rfl,q p _ (s1.trans (ao.upd hp)) (yq s1 hp) ax⟩⟩
    ·cases e;refine ⟨false,T.Rz,?_⟩;rw [wS (by nofun)];refine ⟨true,T.Qh,?_⟩;rw [wT rfl];intro ea hea;left;have s1:=ao.upd (o:=km ea T.eV (some d)) hea;refine ⟨ea,d,_,_,rfl,ax,s1 _ _ hd,rfl,fits (by simp),fun p hp=>⟨p,_,rfl,q p _ (s1.trans (ao.upd hp)) (yq s1 hp) ax⟩⟩
  ·rintro σ' H' ⟨p,t,rfl,z⟩;left;exact z
def yp:Stmt->Expr
 | .If _ (.Return (some (.Call _ (e::_) _ _)) _::_) _ _=>e
 | .Return (some (.Call _ (e::_) _ _)) _=>e
 | .Assign _ (.Call _ (e::_) _ _) _=>e
 | _=>.Constant .none 0 ⟨0,0,0,0⟩
def fJ:Expr->Scope
 | .Lambda _ _ sc _=>sc
 | _=>aw l9
def nO:Expr->Arguments
 | .Lambda a _ _ _=>a
 | _=>eL l9
def UU:Expr->Expr
 | .Lambda _ b _ _=>b
 | e=>e
abbrev nM:List Str:=["_law_house","_law_cell","_law_source_here","_law_asker","_law_path_here","_law_way","_law_lead","_law_mine","_law_rest"]
abbrev iw:Str := "_law_built.<locals>.<lambda>"
abbrev g9 (k:Nat):Expr:=yp ((aR jC).getD k (.Pass ⟨0,0,0,0⟩))
abbrev xJ (n:Nat):List (Str×Addr):=[("_law_rest",n+6),("_law_path_here",n+5),("_law_mine",n+4),("_law_house",n+1),("_law_asker",n+2)]
abbrev wH (n:Nat):List (Str×Addr):=[("_law_rest",n+6),("_law_path_here",n+5),("_law_mine",n+4),("_law_house",n+1),("_law_asker",n+2)]
abbrev vN (n:Nat):List (Str×Addr):=[("_law_path_here",n+5),("_law_lead",n+3),("_law_house",n+1),("_law_asker",n+2)]
section
variable {f c Pt:Addr} {ag:Value} {A:Around} {outer:List Env} {s:Shared} {H:Hp} {E:XK}
def U3 (hc:ag=.ref c) (C:PySem.W.CodeHd base c Pt) (hb:base.BuiltinsAt mg Pt):jL (cq (bo P w) P w K mg base nM "_law_built" (aw jC) f ag A outer s H E) Pt (nO (g9 7)) (fJ (g9 7)) (xJ s.heap.objs.size) iw:=⟨rfl,rfl,⟨c,hc,C⟩,hb,by kernel_rfl⟩
def Tv (n:Nat):hZ ["_law_house","_law_asker","_law_path_here","_law_mine","_law_rest"] (fJ (g9 7)) (xJ n):=.of rfl rfl rfl (by decide +kernel) (by decide +kernel) ⟨fun _=>⟨_,rfl⟩,fun _=>⟨_,rfl⟩,fun _=>⟨_,rfl⟩,fun _=>⟨_,rfl⟩,fun _=>⟨_,rfl⟩,(fun z=>nomatch z),trivial⟩ (by simp)
def Xi:iS (cq (bo P w) P w K mg base nM "_law_built" (aw jC) f ag A outer s H E) ["_law_house","_law_asker","_law_path_here","_law_mine","_law_rest"] [0,3,4,7,8] (xJ s.heap.objs.size):=.of rfl rfl ⟨⟨rfl,rfl,rfl⟩,⟨rfl,rfl,rfl⟩,⟨rfl,rfl,rfl⟩,⟨rfl,rfl,rfl⟩,⟨rfl,rfl,rfl⟩,trivial⟩ ⟨rfl,rfl,rfl,rfl,rfl,trivial⟩
def ZY (hc:ag=.ref c) (C:PySem.W.CodeHd base c Pt) (hb:base.BuiltinsAt mg Pt):jL (cq (bo P w) P w K mg base nM "_law_built" (aw jC) f ag A outer s H E) Pt (nO (g9 8)) (fJ (g9 8)) (wH s.heap.objs.size) iw:=⟨rfl,rfl,⟨c,hc,C⟩,hb,by kernel_rfl⟩
def abd (n:Nat):hZ ["_law_house","_law_asker","_law_path_here","_law_mine","_law_rest"] (fJ (g9 8)) (wH n):=.of rfl rfl rfl (by decide +kernel) (by decide +kernel) ⟨fun _=>⟨_,rfl⟩,fun _=>⟨_,rfl⟩,fun _=>⟨_,rfl⟩,fun _=>⟨_,rfl⟩,fun _=>⟨_,rfl⟩,(fun z=>nomatch z),trivial⟩ (by simp)
def RM:iS (cq (bo P w) P w K mg base nM "_law_built" (aw jC) f ag A outer s H E) ["_law_house","_law_asker","_law_path_here","_law_mine","_law_rest"] [0,3,4,7,8] (wH s.heap.objs.size):=.of rfl rfl ⟨⟨rfl,rfl,rfl⟩,⟨rfl,rfl,rfl⟩,⟨rfl,rfl,rfl⟩,⟨rfl,rfl,rfl⟩,⟨rfl,rfl,rfl⟩,trivial⟩ ⟨rfl,rfl,rfl,rfl,rfl,trivial⟩
def RW (hc:ag=.ref c) (C:PySem.W.CodeHd base c Pt) (hb:base.BuiltinsAt mg Pt):jL (cq (bo P w) P w K mg base nM "_law_built" (aw jC) f ag A outer s H E) Pt (nO (g9 9)) (fJ (g9 9)) (vN s.heap.objs.size) iw:=⟨rfl,rfl,⟨c,hc,C⟩,hb,by kernel_rfl⟩
def Tb (n:Nat):hZ ["_law_house","_law_asker","_law_path_here","_law_lead"] (fJ (g9 9)) (vN n):=.of rfl rfl rfl (by decide +kernel) (by decide +kernel) ⟨fun _=>⟨_,rfl⟩,fun _=>⟨_,rfl⟩,fun _=>⟨_,rfl⟩,fun _=>⟨_,rfl⟩,(fun z=>nomatch z),trivial⟩ (by simp)
def QX:iS (cq (bo P w) P w K mg base nM "_law_built" (aw jC) f ag A outer s H E) ["_law_house","_law_asker","_law_path_here","_law_lead"] [0,3,4,6] (vN s.heap.objs.size):=.of rfl rfl ⟨⟨rfl,rfl,rfl⟩,⟨rfl,rfl,rfl⟩,⟨rfl,rfl,rfl⟩,⟨rfl,rfl,rfl⟩,trivial⟩ ⟨rfl,rfl,rfl,rfl,trivial⟩
end
abbrev zt:List Str:=["_law_house","_law_texts","_law_asker","_law_path_here","_law_due_here","_law_found"]
abbrev oN:Str := "_law_read.<locals>.<lambda>"
abbrev v9 (k:Nat):Expr:=yp ((aR qw).getD k (.Pass ⟨0,0,0,0⟩))
abbrev xc (n:Nat):List (Str×Addr):=[("_law_path_here",n+3),("_law_house",n+1),("_law_asker",n+2)]
section
variable {f c Pt:Addr} {ag:Value} {A:Around} {outer:List Env} {s:Shared} {H:Hp} {E:XK}
def Sj (hc:ag=.ref c) (C:PySem.W.CodeHd base c Pt) (hb:base.BuiltinsAt mg Pt):jL (cq (bo P w) P w K mg base zt "_law_read" (aw qw) f ag A outer s H E) Pt (nO (v9 1)) (fJ (v9 1)) (xc s.heap.objs.size) oN:=⟨rfl,rfl,⟨c,hc,C⟩,hb,by kernel_rfl⟩
def Zp (n:Nat):hZ ["_law_house","_law_asker","_law_path_here"] (fJ (v9 1)) (xc n):=.of rfl rfl rfl (by decide +kernel) (by decide +kernel) ⟨fun _=>⟨_,rfl⟩,fun _=>⟨_,rfl⟩,fun _=>⟨_,rfl⟩,(fun z=>nomatch z),trivial⟩ (by simp)
def Rt:iS (cq (bo P w) P w K mg base zt "_law_read" (aw qw) f ag A outer s H E) ["_law_house","_law_asker","_law_path_here"] [0,2,3] (xc s.heap.objs.size):=.of rfl rfl ⟨⟨rfl,rfl,rfl⟩,⟨rfl,rfl,rfl⟩,⟨rfl,rfl,rfl⟩,trivial⟩ ⟨rfl,rfl,rfl,trivial⟩
end
abbrev AM:List Str:=["_law_house","_law_texts","_law_asker","_law_path_here","_law_text_here","_law_due_here","_law_ahead","_law_found"]
abbrev mC:Str := "_law_written.<locals>.<lambda>"
abbrev wO (k:Nat):Expr:=yp ((aR qJ).getD k (.Pass ⟨0,0,0,0⟩))
abbrev wI (n:Nat):List (Str×Addr):=[("_law_text_here",n+4),("_law_path_here",n+3),("_law_house",n+1),("_law_asker",n+2)]
section
variable {f c Pt:Addr} {ag:Value} {A:Around} {outer:List Env} {s:Shared} {H:Hp} {E:XK}
def ZV (hc:ag=.ref c) (C:PySem.W.CodeHd base c Pt) (hb:base.BuiltinsAt mg Pt):jL (cq (bo P w) P w K mg base AM "_law_written" (aw qJ) f ag A outer s H E) Pt (nO (wO 2)) (fJ (wO 2)) (wI s.heap.objs.size) mC:=⟨rfl,rfl,⟨c,hc,C⟩,hb,by kernel_rfl⟩
def ZC (n:Nat):hZ ["_law_house","_law_asker","_law_path_here","_law_text_here"] (fJ (wO 2)) (wI n):=.of rfl rfl rfl (by decide +kernel) (by decide +kernel) ⟨fun _=>⟨_,rfl⟩,fun _=>⟨_,rfl⟩,fun _=>⟨_,rfl⟩,fun _=>⟨_,rfl⟩,(fun z=>nomatch z),trivial⟩ (by simp)
def abz:iS (cq (bo P w) P w K mg base AM "_law_written" (aw qJ) f ag A outer s H E) ["_law_house","_law_asker","_law_path_here","_law_text_here"] [0,2,3,4] (wI s.heap.objs.size):=.of rfl rfl ⟨⟨rfl,rfl,rfl⟩,⟨rfl,rfl,rfl⟩,⟨rfl,rfl,rfl⟩,⟨rfl,rfl,rfl⟩,trivial⟩ ⟨rfl,rfl,rfl,rfl,trivial⟩
end
abbrev Dj:List Str:=["_law_house","_law_asker","_law_path_here","_law_due_here","_law_found","_law_names"]
abbrev mf:Str := "_law_looked.<locals>.<lambda>"
abbrev vX (k:Nat):Expr:=yp ((aR qQ).getD k (.Pass ⟨0,0,0,0⟩))
abbrev wc (n:Nat):List (Str×Addr):=[("_law_path_here",n+3),("_law_house",n+1),("_law_asker",n+2)]
section
variable {f c Pt:Addr} {ag:Value} {A:Around} {outer:List Env} {s:Shared} {H:Hp} {E:XK}
def QR (hc:ag=.ref c) (C:PySem.W.CodeHd base c Pt) (hb:base.BuiltinsAt mg Pt):jL (cq (bo P w) P w K mg base Dj "_law_looked" (aw qQ) f ag A outer s H E) Pt (nO (vX 1)) (fJ (vX 1)) (wc s.heap.objs.size) mf:=⟨rfl,rfl,⟨c,hc,C⟩,hb,by kernel_rfl⟩
def Q2 (n:Nat):hZ ["_law_house","_law_asker","_law_path_here"] (fJ (vX 1)) (wc n):=.of rfl rfl rfl (by decide +kernel) (by decide +kernel) ⟨fun _=>⟨_,rfl⟩,fun _=>⟨_,rfl⟩,fun _=>⟨_,rfl⟩,(fun z=>nomatch z),trivial⟩ (by simp)
def X0:iS (cq (bo P w) P w K mg base Dj "_law_looked" (aw qQ) f ag A outer s H E) ["_law_house","_law_asker","_law_path_here"] [0,1,2] (wc s.heap.objs.size):=.of rfl rfl ⟨⟨rfl,rfl,rfl⟩,⟨rfl,rfl,rfl⟩,⟨rfl,rfl,rfl⟩,trivial⟩ ⟨rfl,rfl,rfl,trivial⟩
end
abbrev Ea:List Str:=["_law_script","_law_house","_law_cell","_law_texts","_law_source_here","_law_asker","_law_path_here","_law_some","_law_mine","_law_other"]
abbrev tW:Str := "law.<locals>.<lambda>"
def SR:Stmt->Expr
 | .For _ _ (_::_::_::.If _ (_::_::.Expr (.Call _ (e::_) _ _) _::_) _ _::_) _ _=>e
 | _=>.Constant .none 0 ⟨0,0,0,0⟩
abbrev xn (k:Nat):Expr:=SR ((aR l9).getD k (.Pass ⟨0,0,0,0⟩))
abbrev xM (n:Nat):List (Str×Addr):=[("_law_path_here",n+4),("_law_mine",n+3),("_law_house",n+2),("_law_asker",n+1)]
section
variable {f c Pt:Addr} {ag:Value} {A:Around} {outer:List Env} {s:Shared} {H:Hp} {E:XK}
def Qy (hc:ag=.ref c) (C:PySem.W.CodeHd base c Pt) (hb:base.BuiltinsAt mg Pt):jL (cq (bo P w) P w K mg base Ea "law" (aw l9) f ag A outer s H E) Pt (nO (xn 4)) (fJ (xn 4)) (xM s.heap.objs.size) tW:=⟨rfl,rfl,⟨c,hc,C⟩,hb,by kernel_rfl⟩
def abQ (n:Nat):hZ ["_law_house","_law_asker","_law_path_here","_law_mine"] (fJ (xn 4)) (xM n):=.of rfl rfl rfl (by decide +kernel) (by decide +kernel) ⟨fun _=>⟨_,rfl⟩,fun _=>⟨_,rfl⟩,fun _=>⟨_,rfl⟩,fun _=>⟨_,rfl⟩,(fun z=>nomatch z),trivial⟩ (by simp)
def Xp:iS (cq (bo P w) P w K mg base Ea "law" (aw l9) f ag A outer s H E) ["_law_house","_law_asker","_law_path_here","_law_mine"] [1,5,6,8] (xM s.heap.objs.size):=.of rfl rfl ⟨⟨rfl,rfl,rfl⟩,⟨rfl,rfl,rfl⟩,⟨rfl,rfl,rfl⟩,⟨rfl,rfl,rfl⟩,trivial⟩ ⟨rfl,rfl,rfl,rfl,trivial⟩
end
def xE {H H':Hp} {Pt:Addr} {q:Str} {es:List Ent} (t:dY H Pt q es) (k:∀ b φ,H b=some (.ext φ)->H' b=some (.ext φ)):dY H' Pt q es:=⟨k _ _ t.tab,fun e he=>k _ _ (t.code e he)⟩
def NX (H H':Hp):Prop:=∀ b o,(∀ φ,o≠.ext φ)->H b=some o->H' b=some o
def nF {Pt:Addr} {q:Str} {c:Addr} {H H1:Hp} {es:List Ent} (L:oM Pt q c H H1) (t:dY H Pt q es):NX H H1:=fun b o no e=>L.J2 b o (fun z=>by rw [z,t.tab] at e; cases e; exact no _ rfl) e
def jQ.gb {CT:Addr} {H H':Hp} {a:Ta} {i:Nat} {t:Th} (h:jQ CT H a i t) (k:NX H H'):jQ CT H' a i t where
 o:=let ⟨fs,e,r⟩:=h.o; ⟨fs,k _ _ (by nofun) e,r⟩
 nm:=k _ _ (by nofun) h.nm
 pl:=k _ _ (by nofun) h.pl
def aH.gb {CH CS CT:Addr} {H H':Hp} {A:Ad} {L:List Ta} {M:Hs} (i:aH CH CS CT H A L M) (k:NX H H'):aH CH CS CT H' A L M where
 h:=let ⟨fs,c,e,r⟩:=i.h; ⟨fs,c,k _ _ (by nofun) e,r⟩
 t:=let ⟨fs,c,e,r⟩:=i.t; ⟨fs,c,k _ _ (by nofun) e,r⟩
 ml:=k _ _ (by nofun) i.ml
 len:=i.len
 th:=fun j t e=>let ⟨a,e1,h⟩:=i.th j t e; ⟨a,e1,h.gb k⟩
 ro:=k _ _ (by nofun) i.ro
 st:=k _ _ (by nofun) i.st
 tr:=k _ _ (by nofun) i.tr
 ov:=k _ _ (by nofun) i.ov
 un:=k _ _ (by nofun) i.un
 nd:=i.nd
def xx (xs:List V):Prop:=∀ v∈xs,∀ a,v≠V.ref a
def mB (zs:List Int):xx (zs.map V.int):=fun v hv a=>by obtain ⟨z,_,rfl⟩:=AC.mp hv; nofun
def sS:HO->Prop
 | .lst xs=>xx xs
 | .eA _ _=>True
 | .ext _=>True
 | _=>False
def eM (st:Addr) (H H':Hp):Prop:=∀ c o,c≠st->sS o->H c=some o->H' c=some o
def bO (H H':Hp):Prop:=∀ c o,sS o->H c=some o->H' c=some o
def bO.l {st:Addr} {H H':Hp} (k:bO H H'):eM st H H':=fun c o _ h e=>k c o h e
def eM.trans {st:Addr} {H H1 H2:Hp} (a:eM st H H1) (b:eM st H1 H2):eM st H H2:=fun c o n h e=>b c o n h (a c o n h e)
def bO.trans {H H1 H2:Hp} (a:bO H H1) (b:bO H1 H2):bO H H2:=fun c o h e=>b c o h (a c o h e)
def bO.of {H H':Hp} (s:ao H H'):bO H H':=fun c o _ e=>s _ _ e
def bO.tab {H H':Hp} {Pt:Addr} {q:Str} {es:List Ent} (k:bO H H') (t:dY H Pt q es):dY H' Pt q es:=xE t fun _ _ e=>k _ _ trivial e
def tK {Pt:Addr} {q:Str} {c:Addr} {H H1:Hp} (L:oM Pt q c H H1):eM Pt H H1:=fun b o n _ e=>L.J2 b o n e
section
variable {CH CS CT:Addr} {H H':Hp} {A:Ad} {L:List Ta} {M:Hs}
def aH.yh (i:aH CH CS CT H A L M) (h0:M.ts≠[]) {b:Addr} {o:HO} (hb:b∈A.w++L.flatMap Ta.l) (hx:sS o) (e:H b=Option.some o):False:=by
 rcases KB.mp hb with h | h
 ·simp only [Ad.w,li,lv,wn] at h;rcases h with rfl | rfl | rfl | rfl | rfl | rfl | rfl | rfl
  ·obtain ⟨_,_,e',_⟩:=i.h; rw [e'] at e; cases e; exact hx
  ·obtain ⟨_,_,e',_⟩:=i.t; rw [e'] at e; cases e; exact hx
  ·rw [i.ml] at e;cases e;cases L with
   | nil=>exact h0 (_f.mp i.len.symm)
   | cons a r=>exact hx (.ref a.th) (by simp) a.th rfl
  ·rw [i.ro] at e; cases e; exact hx
  ·rw [i.st] at e; cases e; exact hx
  ·rw [i.tr] at e; cases e; exact hx
  ·rw [i.ov] at e; cases e; exact hx
  ·rw [i.un] at e; cases e; exact hx
 ·obtain ⟨a,ha,h⟩:=_1.mp h;obtain ⟨j,ha⟩:=_7 ha;have bD:j < M.ts.length:=by rw [<- i.len]; exact (lm.mp ha).1
  obtain ⟨a',e1,t⟩:=i.th j _ (mo bD);rw [ha] at e1; cases e1;simp only [Ta.l,li,lv,wn] at h;rcases h with rfl | rfl | rfl
  ·obtain ⟨_,e',_⟩:=t.o; rw [e'] at e; cases e; exact hx
  ·rw [t.nm] at e; cases e; exact hx
  ·rw [t.pl] at e; cases e; exact hx
def aH.off (i:aH CH CS CT H A L M) (h0:M.ts≠[]) {W:List Addr} (hW:∀ b∈W,b∈A.w++L.flatMap Ta.l) (k:Kp W H H'):bO H H':=fun c o ho e=>k c _ (fun hc=>i.yh h0 (hW c hc) ho e) e
def aH.drawn {st:Addr} (i:aH CH CS CT H A L M) (h0:M.ts≠[]) (d:Dr st H) (k:cb st H H'):aH CH CS CT H' A L M:=by
 refine i.keep (W:=[st]) (fun b o hb e=>k b o (by simpa using hb) e) fun b hb hm=>?_;obtain rfl:b=st:=by simpa using hm
 obtain ⟨x,y,z,e⟩:=d;exact i.yh h0 hb (show sS (.lst [.int x,.int y,.int z]) from mB [x,y,z]) e
end
def Gd.ne {M:Hs} (g:Gd M):M.ts≠[]:=fun e=>by obtain ⟨t,h,_⟩:=g.t0; rw [e] at h; cases h
structure ir (M:Hs) (n:Nat):Prop where
 g:Gd M
 n:M.ts.length<=n
def Hz (CH CS CT:Addr) (A:Ad) (n:Nat) (H:Hp):Prop:=∃ L M,aH CH CS CT H A L M/\ir M n
def Gd.chg {M:Hs} (g:Gd M) {k:Nat} {t t':Th} (ht:M.ts[k]?=some t) (h1:t'.kd=t.kd) (h2:t'.bP=t.bP) (h3:t'.aQ=t.aQ) (h4:t.kd≠("lead" : Str)):Gd { M with ts:=M.ts.set k t' }:=by
 have old:∀ (j:Nat) (u:Th),M.ts[j]?=some u->∃ u':Th,(M.ts.set k t')[j]?=some u'/\u'.kd=u.kd/\u'.bP=u.bP:=fun j u hu=>by
  have hj:=(lm.mp hu).1;by_cases e:j=k
  ·subst e;rw [Fr hj];rw [ht] at hu; cases hu;exact ⟨_,rfl,h1,h2⟩
  ·rw [FB (pi e)];exact ⟨u,hu,rfl,rfl⟩
 refine g.lift rfl rfl rfl rfl rfl old fun j u hu=>?_;have hu':(M.ts.set k t')[j]?=some u:=hu;have ll:M.ts.length<=(M.ts.set k t').length:=by rw [_D]; exact ss _
 by_cases e:j=k
 ·subst e;rw [Fr (lm.mp ht).1] at hu';cases hu';have q:rj { M with ts:=M.ts.set j t' } j { t' with tx:=t.tx }:=(g.th j t ht).lift ll h1 h2 h3 rfl old;exact ⟨q.nl,q.kd,fun e=>absurd (h1.symm.trans e) h4,q.pl,q.ch⟩
 ·rw [FB (pi e)] at hu';exact (g.th j u hu').lift ll rfl rfl rfl rfl old
def ir.chg {M:Hs} {n k:Nat} (h:ir M n) {t t':Th} (ht:M.ts[k]?=some t) (h1:t'.kd=t.kd) (h2:t'.bP=t.bP) (h3:t'.aQ=t.aQ) (h4:t.kd≠("lead" : Str)):ir { M with ts:=M.ts.set k t' } n:=⟨h.g.chg ht h1 h2 h3 h4,by have:=h.n; simp; omega⟩
def Mn {N:Cn} {H:Hp} {Q:VK} (h:∀ v H2,ao H H2->Q v H2):∀ r:Rf,c7 N H (sQ N Q) r
 | .cO y=>fun d H' s e=>.inr ⟨rfl,d,y,rfl,e,fun p H2 s2 _ _=>h _ H2 (s.trans s2)⟩
 | .way r=>fun fd d H' s _ e=>.inl ⟨rfl,d,fd,rfl,e,fun p H2 s2 _ _=>h _ H2 (s.trans s2)⟩
def Dt {N:Cn} {H:Hp} {A:Ad} {L:List Ta} {M:Hs} {n:Nat} {z kd mi re tx:Str} {t:List Nat} {Q:VK} (i:aH N.CH N.CS N.CT H A L M) (g:ir M n) (y9:n<=80) (hz:z∈AS) (hp:pW t)
  (kR:mi∈iu) (jR:re∈iu) (bT:kd=("folder" : Str)\/kd=("file" : Str)\/kd=("lead" : Str)) (Gi:kd=("lead" : Str)->∃ tl,tx=Tx.S tl/\gd tl/\tl.length<=120) (q:∀ v H',Hz N.CH N.CS N.CT A (n+1) H'->bO H H'->Q v H') :
  yk N H A L M z t kd mi re tx (fun v H'=>∀ p H2,ao H' H2->H' p=none->H2 p=some (.tup [.str "told",v])->Q (.ref p) H2) (sQ N Q):=by
 have Oh:gd t:=⟨hp.l1,by have:=hp.l2; omega,hp.all⟩;have hw:=hp.n;have hn:=g.n;obtain ⟨root,r,hr,hf⟩:=Z0 (L:=L) g.g i.len (by omega) hz Oh (by omega);obtain ⟨r0,k0,ga⟩:=g.g.as z hz;refine ⟨i,Oh,by rw [ga.ro]; rfl,kR,jR,by rw [i.len]; omega,fun f t0 h=>by have:=(g.g.th f t0 h).nl; omega,root,r,hr,fun x e=>Mn (fun v H2 s=>q v H2 ⟨L,M,i.same s,g.g,by omega⟩ (bO.of s)) x,fun f nm a0 t0 e iE rB a H' i' k' p H2 s2 _ _=>?_⟩;obtain ⟨tf,cj,jf,cw,hv⟩:=hf f nm e;rw [rB] at cj; cases cj;have kA:=i.off g.g.ne (W:=[A.t,A.ml,a0.nm]) (fun b hb=>by
  simp only [li,lv,wn] at hb;rcases hb with rfl | rfl | rfl
  ·simp [Ad.w]
  ·simp [Ad.w]
  ·exact wE _ (jv iE (by simp [Ta.l]))) k'
 exact q _ H2 ⟨_,_,i'.same s2,g.g.make rB jf (by rw [Tx.cQ]; exact (wy cw).2.2.2) hv bT Gi,by simp; omega⟩ (kA.trans (bO.of s2))
def jH {σ:St}:om [] σ []:=⟨rfl,nofun⟩
def cC {j:Nat} {ix:List Nat} {σ:St} {v:V} {vs:List V} (h:σ[j]?=some (some v)) (c:om ix σ vs):om (j::ix) σ (v::vs):=⟨NE (· + 1) c.1,fun i k u h1 h2=>by
 cases i with
 | zero=>cases h1; cases h2; exact h
 | succ i=>exact c.2 i k u h1 h2⟩
abbrev oK (P:Program) (w:World) (K:PySem.W.Frag) (mg:Str->Option Value) (base:Heap) (N:List Str) (q:Str) (e:Expr) (cl:List (Str×Addr)) (W:List V->fb):Prop:=∀ (f:Addr) (ag:Value) (vs:List V) (A:Around) (outer:List Env) (s:Shared) (H:Hp) (Q:VK) (E:XK),bc 17 (A.deeper (PySem.W.envX q (fJ e) s.heap.objs.size f ag cl))->W vs H Q E->∃ t,PE (mW P w K mg base N q (fJ e) f ag cl A outer s H E) (UU e) t/\t (vs.map some) H Q
def Zq (N:Cn) (Pe:Addr):Sp:=jw fun x _ H Q _=>X3 fun A n es=>A5 (Hz N.CH N.CS N.CT A n H) (A.a=x) (n<=80) (dY H Pe iw es) (∀ v es' H',Hz N.CH N.CS N.CT A (n+1) H'->dY H' Pe iw es'->eM Pe H H'->Q v H')
def Mh:List V->List V
 | [a,b,c,d,e]=>[a,b,c,d,e]
 | _=>[]
def wu:List V->List V
 | [a,b,c,d]=>[a,b,c,d]
 | _=>[]
def LK:List V->List V
 | [h,z,p,m,r]=>[h,z,p,.str "text",m,r]
 | _=>[]
def aa0 {Pe:Addr} (C:PySem.W.CodeHd base T.pJ Pe) (jm:base.BuiltinsAt mg Pe):aC P w K mg base (bo P w) 20 T.Gh T.yD ["_law_house","_law_cell"] (Zq T.cn Pe):=by
 refine T.xD.tE mQ (fun vs H Q E h=>?_) (fun ag A outer s H vs Q E bL hr h=>?_)
 ·exact bY h fun _ _ _=>rfl
 ·refine bY h fun x cell h=>?_;obtain ⟨AA,n,es,⟨L,M,i,g⟩,rfl,y9,tab,q⟩:=h;have LB_l_built0:oK P w K mg base ["_law_house","_law_asker","_law_path_here","_law_mine","_law_rest"] iw (g9 7) (xJ s.heap.objs.size) (fun vs=>Ic T.cn (Mh vs)):=by
   intro f ag vs A outer s' H Q E hr hw;unfold Mh at hw;split at hw
   ·refine ⟨_,(cB (S8 T) hr.m T.UO T.xQ.kp T.Cr .nil oB (aa (ad 0) (aa (ad 1) (aa (ad 2) (aa (ad 3) (aa (ad 4) ae)))))).h,?_⟩;simp only [xz,On];left;exact hw
   ·exact hw.elim
  have LB_l_built1:oK P w K mg base ["_law_house","_law_asker","_law_path_here","_law_mine","_law_rest"] iw (g9 8) (wH s.heap.objs.size) (fun vs=>Nm T.cn (LK vs)):=by
   intro f ag vs A outer s' H Q E hr hw;unfold LK at hw;split at hw
   ·refine ⟨_,(cB (WE T) hr.m T.QF T.xw.kp T.zN .nil oB (aa (ad 0) (aa (ad 1) (aa (ad 2) (aa ap (aa (ad 3) (aa (ad 4) ae))))))).h,?_⟩;simp only [xz,On];left;exact hw
   ·exact hw.elim
  have LB_l_built2:oK P w K mg base ["_law_house","_law_asker","_law_path_here","_law_lead"] iw (g9 9) (vN s.heap.objs.size) (fun vs=>MU T.cn (wu vs)):=by
   intro f ag vs A outer s' H Q E hr hw;unfold wu at hw;split at hw
   ·refine ⟨_,(cB (ab5 T) hr.m T.qF.m T.qF.F.kp T.qF.b .nil oB (aa (ad 0) (aa (ad 1) (aa (ad 2) (aa (ad 3) ae))))).h,?_⟩;simp only [xz,On];left;exact hw
   ·exact hw.elim
  refine bF (b:=aR jC) ((am (aO 2 mQ.nd (bv (He T) hr.m T.lb.m T.lb.F.kp T.lb.b .nil au (aa (ad 1) ae)))
  (am (aO 3 mQ.nd (ce (bh (K:=K) rfl) (cr (aa ap (aa ap (aa ap ae)))) (bv (fD T) hr.m T.bH.m T.bH.F.kp T.bH.b .nil au (aa (ad 2) (aa bn ae)))))
  (am (aO 4 mQ.nd (bv (Bh T) hr.m T.g8.m T.g8.F.kp T.g8.b .nil au (aa (ad 2) (aa bn ae))))
  (am (aO 5 mQ.nd (bv (fD T) hr.m T.bH.m T.bH.F.kp T.bH.b .nil au (aa (ad 2) (aa bn ae))))
  (am (aO 6 mQ.nd (bv (Bh T) hr.m T.g8.m T.g8.F.kp T.g8.b .nil au (aa (ad 2) (aa bn ae))))
  (am (aO 7 mQ.nd (ce (bh (K:=K) rfl) (cr (aa ap (aa ap (aa ap (aa ap (aa ap ae)))))) (bv (fD T) hr.m T.bH.m T.bH.F.kp T.bH.b .nil au (aa (ad 2) (aa bn ae)))))
  (am (aO 8 mQ.nd (ce (bh (K:=K) rfl) (cr (aa ap (aa ap (aa ap (aa ap (aa ap (aa ap ae))))))) (bv (fD T) hr.m T.bH.m T.bH.F.kp T.bH.b .nil au (aa (ad 2) (aa bn ae)))))
  (am (bu (cf wo (ad 5) bn) (aq (aM (ox (oi T) hr.m T.dq.m T.dq.F.kp T.dq.b di LB_l_built0 (U3 (bL.symm.trans T.DH) C jm) (Tv _) Xi))) ci)
  (am (bu (cf wo (ad 5) bn) (aq (aM (ox (oi T) hr.m T.dq.m T.dq.F.kp T.dq.b di LB_l_built1 (ZY (bL.symm.trans T.DH) C jm) (abd _) RM))) ci)
  (aq (aM (ox (oi T) hr.m T.dq.m T.dq.F.kp T.dq.b di LB_l_built2 (RW (bL.symm.trans T.DH) C jm) (Tb _) QX))))))))))))) ?_
  rw [show start nM [V.ref AA.a,V.int cell]=[some (V.ref AA.a),some (V.int cell),none,none,none,none,none,none,none] from rfl];right;intro st a b c aU;have s1:=ao.upd (o:=.lst [.int a,.int b,.int c]) aU;have d1:Dr st (upd H st (.lst [.int a,.int b,.int c])):=⟨a,b,c,ax⟩;generalize upd H st (.lst [.int a,.int b,.int c])=H1 at s1 d1 ⊢;right;refine iR d1 rfl (by simp) (by simp) fun v H2 hv d2 k2=>?_;obtain ⟨z,hz,rfl⟩:∃ z,z∈AS/\v=V.str z:=by
   simp only [li,lv,wn] at hv;rcases hv with rfl | rfl | rfl <;> exact ⟨_,by decide +kernel,rfl⟩
  right;refine ⟨d2,by decide,by decide,fun t H3 hp d3 k3=>ai ?_⟩;left;refine mX d3 (by decide) (by decide) fun way H4 _ _ d4 k4=>ai ?_;left;refine ⟨d4,by decide,by decide,fun tl H5 bB d5 k5=>ai ?_⟩;left;refine iR d5 rfl (by simp) (by simp) fun v H6 hv d6 k6=>?_;obtain ⟨mi,kR,rfl⟩:∃ z,z∈iu/\v=V.str z:=by
   simp only [li,lv,wn] at hv;rcases hv with rfl | rfl | rfl | rfl | rfl <;> exact ⟨_,by decide +kernel,rfl⟩
  right;refine iR d6 rfl (by simp) (by simp) fun v H7 hv d7 k7=>?_;obtain ⟨re,jR,rfl⟩:∃ z,z∈iu/\v=V.str z:=by
   simp only [li,lv,wn] at hv;rcases hv with rfl | rfl | rfl | rfl | rfl | rfl <;> exact ⟨_,by decide +kernel,rfl⟩
  have kk:cb st H1 H7:=((((k2.trans k3).trans k4).trans k5).trans k6).trans k7;have i7:=(i.same s1).drawn g.g.ne d1 kk;have kA:bO H H7:=fun c o ho e=>kk c o (fun z=>by rw [z,aU] at e; cases e) (s1 _ _ e);have jY:=kA.tab tab;clear d1 d2 d3 d4 d5 d6 d7 k2 k3 k4 k5 k6 k7 kk s1;have fin:∀ {c:Addr} {H8:Hp},oM Pe iw c H7 H8->∀ v H',Hz T.cn.CH T.cn.CS T.cn.CT AA (n+1) H'->bO H8 H'->Q v H':=fun L8 v H' hh k=>by
   obtain ⟨es8,t8⟩:=L8.tab;exact q v es8 H' hh (k.tab t8) (kA.l.trans ((tK L8).trans k.l))
  right;refine mS (fun _=>?_) (fun _=>ai ?_)
  ·refine ⟨es,[.ref AA.a,.str z,.str (Tx.S t),.str mi,.str re],jY,cC rfl (cC rfl (cC rfl (cC rfl (cC rfl jH)))),fun c H8 L8=>⟨L8.code,AA,L,M,t,rfl,Dt (i7.gb (nF L8 jY)) g y9 hz hp kR jR (.inl rfl) (fun e=>absurd e (by decide +kernel)) (fin L8),rfl⟩⟩
  ·left;refine mS (fun _=>?_) (fun _=>?_)
   ·refine ⟨es,[.ref AA.a,.str z,.str (Tx.S t),.str mi,.str re],jY,cC rfl (cC rfl (cC rfl (cC rfl (cC rfl jH)))),fun c H8 L8=>⟨L8.code,AA,L,M,t,rfl,Dt (i7.gb (nF L8 jY)) g y9 hz hp kR jR (.inr (.inl rfl)) (fun e=>absurd e (by decide +kernel)) (fin L8),rfl,by decide +kernel⟩⟩
   ·have hl:=bB.l2;have yV:gd tl:=⟨bB.l1,by omega,bB.all⟩;left;refine ⟨es,[.ref AA.a,.str z,.str (Tx.S t),.str (Tx.S tl)],jY,cC rfl (cC rfl (cC rfl (cC rfl jH))),fun c H8 L8=>⟨L8.code,AA,L,M,t,tl,rfl,rfl,Dt (i7.gb (nF L8 jY)) g y9 hz hp (by decide +kernel) (by decide +kernel) (.inr (.inr rfl)) (fun _=>⟨tl,rfl,yV,by omega⟩) (fin L8),rfl,yV,by omega⟩⟩
def abW:Sp:=gL fun st H Q _=>Dr st H/\∀ tx H',tx.length<=60->Dr st H'->cb st H H'->Q (.str tx) H'
def XD:T.qA.k P w base 3 abW:=by
 refine T.qA.F.ok yf (fun _ _ _ _ h=>cX h fun _ _=>rfl) fun ag A outer s H vs Q E hr h=>cX h fun st h=>?_;obtain ⟨aU,q⟩:=h;refine bF (b:=aR CQ) ((am (aO 1 yf.nd ap)
 (am (aO 1 yf.nd (db gj (ad 1) ap))
 (am (aO 2 yf.nd (ce (bh (K:=K) rfl) (cr (aa bn (aa bn (aa (bv (fD T) hr.m T.bH.m T.bH.F.kp T.bH.b .nil au (aa (ad 0) (aa bn ae))) (aa bn ae))))) (bv (fD T) hr.m T.bH.m T.bH.F.kp T.bH.b .nil au (aa (ad 0) (aa bn ae)))))
 (aq (aM (qj _V _W (Ao (K:=K) rfl) ap (aa (B7 rfl (TN:=["_law_k"]) (caps:=["_law_some","_law_source_here"]) (ix:=[1,0]) (tQ T.vh (aa (ad 2) ae)) (fun _ _ _ _=>by exact pR) (fun _ _ _ _=>by exact (il 0 (show List.Nodup (["_law_k","_law_some","_law_source_here"]:List Str) by decide))) (fun _ _ _ _=>by exact (ce (bh (K:=K) rfl) (ad 1) (bv (fD T) hr.m T.bH.m T.bH.F.kp T.bH.b .nil au (aa (ad 2) (aa bn ae))))) (.of rfl (by exact ⟨rfl,rfl,trivial⟩) (by walk_at "c") rfl (by exact ⟨⟨rfl,rfl,rfl,rfl⟩,⟨rfl,rfl,rfl,rfl⟩,trivial⟩))) ae)))))))) ?_
 refine stI [some (V.ref st),none,none] ?_;right;right;refine ⟨by decide +kernel,ai ?_⟩;left;refine mX aU (by decide) (by decide) fun d H1 d0 d1 h1 k1=>iR h1 rfl (by simp) (by simp) fun v H2 hv h2 k2=>?_;obtain ⟨m,hm,rfl⟩:∃ m:Nat,m<=60/\v=V.int (m:Nat):=by
  obtain ⟨n,rfl⟩:=PP d0;simp only [li,lv,wn] at hv;rcases hv with rfl | rfl | rfl | rfl
  ·exact ⟨0,by decide,rfl⟩
  ·exact ⟨60,by decide,rfl⟩
  ·exact ⟨n,by omega,rfl⟩
  ·exact ⟨3,by decide,rfl⟩
 have al:(Str.ofString " !\"#$&'()*+,-./0123456789:;<=>?@ABCDEFGHIJKLMNOPQRSTUVWXYZ[\\]^_`" ++ Str.ofString "abcdefghijklmnopqrstuvwxyz{|}~").cps.toList.length=94:=by decide +kernel
 have al2:(Str.ofString " !\"#$&'()*+,-./0123456789:;<=>?@ABCDEFGHIJKLMNOPQRSTUVWXYZ[\\]^_`" ++ Str.ofString "abcdefghijklmnopqrstuvwxyz{|}~").length=94:=by decide +kernel
 generalize Str.ofString " !\"#$&'()*+,-./0123456789:;<=>?@ABCDEFGHIJKLMNOPQRSTUVWXYZ[\\]^_`" ++ Str.ofString "abcdefghijklmnopqrstuvwxyz{|}~" = az at al al2 ⊢;refine ⟨[.str az,.ref st],cC rfl (cC rfl jH),⟨by omega,by omega⟩,AL m (fun i ys H'=>cb st H H'/\Dr st H'/\∃ ps:List (List Nat),ys=PV ps/\(∀ w∈ps,w.length<=1)/\ps.length=i) (by omega) ⟨k1.trans k2,h2,[],rfl,nofun,rfl⟩ (fun i ys H1 h=>?_) (fun k ys H3 hk h R r=>?_) (fun ys H3 l h hl=>?_)⟩
 ·obtain ⟨_,_,ps,rfl,_,e⟩:=h;rw [<- e]; simp [PV]
 ·obtain ⟨k3,d3,ps,rfl,hp,e⟩:=h;left;refine mX d3 (by decide) (by decide) fun d H4 e0 e1 d4 k4=>⟨fits (by omega),?_⟩;obtain ⟨n,rfl⟩:=PP e0;rw [eR (j:=n) (mo (by omega))];exact r _ _ ⟨k3.trans k4,d4,ps++[[_]],by simp [PV]; rfl,fun w hw=>by
   rcases KB.mp hw with hw | hw
   ·exact hp w hw
   ·rw [AT.mp hw]; exact ss 1,by rw [sK,e]; rfl⟩
 ·obtain ⟨k3,d3,ps,rfl,hp,e⟩:=h;have s4:=ao.upd (o:=.lst (PV ps)) hl;have h0:=Au 0 1 ps hp;refine ⟨_,aD.of ax,ps.map Tx.S,rfl,?_,?_⟩
  ·have:=wR (Str.ofString "").length (ps.map Tx.S) 0 (fun s hs=>by
    obtain ⟨x,hx,rfl⟩:=AC.mp hs;rw [Tx.cQ]; exact wf (hp x hx) (by decide))
   refine fits (wf this ?_);rw [show (Str.ofString "").length=0 by decide +kernel,nn];omega
  ·rw [show Str.ofString "" = Tx.S (List.replicate 0 47) by decide +kernel,nK];exact q _ _ (by rw [Tx.cQ]; omega) (d3.same s4) (k3.trans (s4.keep st))
def iz (H H':Hp):Prop:=∀ b o,((∃ xs,o=.lst xs)\/∃ xs,o=.tup xs)->H b=some o->H' b=some o
def NX.s {H H':Hp} (k:NX H H'):iz H H':=fun b o h e=>k b o (by rcases h with ⟨_,rfl⟩ | ⟨_,rfl⟩ <;> nofun) e
def iz.l {H H':Hp} (k:iz H H') {b:Addr} {xs:List V} (e:H b=some (.lst xs)):H' b=some (.lst xs):=k _ _ (.inl ⟨_,rfl⟩) e
def iz.t {H H':Hp} (k:iz H H') {b:Addr} {xs:List V} (e:H b=some (.tup xs)):H' b=some (.tup xs):=k _ _ (.inr ⟨_,rfl⟩) e
def eS.lx {H H':Hp} {N:Addr->Prop} {ts:List Th} {l:Addr} (h:eS H N ts l) (k:iz H H'):eS H' N ts l:=by
 obtain ⟨rs,e,el,nd,nl,r⟩:=h;refine ⟨rs,k.l e,el,nd,nl,fun j a t h1 h2=>?_⟩;obtain ⟨ri,pl,nm,e1,e2,e3,e4,n⟩:=r j a t h1 h2;refine ⟨ri,pl,nm,k.l e1,k.t e2,?_,k.l e4,n⟩;rcases e3 with ⟨e,e3⟩ | ⟨f,z,y,e,e3,e5⟩
 ·exact .inl ⟨e,k.l e3⟩
 ·exact .inr ⟨f,z,y,e,k.l e3,k.t e5⟩
section
variable {CH CS CT:Addr} {H H':Hp} {A:Ad} {L:List Ta} {M:Hs} {n:Nat}
def aH.Yv (i:aH CH CS CT H A L M) {b:Addr} {z:Str} {xs:List V} (hb:b∈A.w++L.flatMap Ta.l) (e:H b=Option.some (HO.lst (.str z::xs))):False:=by
 rcases KB.mp hb with h | h
 ·simp only [Ad.w,li,lv,wn] at h;rcases h with rfl | rfl | rfl | rfl | rfl | rfl | rfl | rfl
  ·obtain ⟨_,_,e',_⟩:=i.h; rw [e'] at e; cases e
  ·obtain ⟨_,_,e',_⟩:=i.t; rw [e'] at e; cases e
  ·rw [i.ml] at e;cases L with
   | nil=>cases e
   | cons a r=>cases e
  ·rw [i.ro] at e; cases e
  ·rw [i.st] at e; cases e
  ·rw [i.tr] at e; cases e
  ·rw [i.ov] at e; cases e
  ·rw [i.un] at e; cases e
 ·obtain ⟨a,ha,h⟩:=_1.mp h;obtain ⟨j,ha⟩:=_7 ha;have bD:j < M.ts.length:=by rw [<- i.len]; exact (lm.mp ha).1
  obtain ⟨a',e1,t⟩:=i.th j _ (mo bD);rw [ha] at e1; cases e1;simp only [Ta.l,li,lv,wn] at h;rcases h with rfl | rfl | rfl
  ·obtain ⟨_,e',_⟩:=t.o; rw [e'] at e; cases e
  ·rw [t.nm] at e; cases e
  ·rw [t.pl] at e; cases e
def ir.rows (g:ir M n) (hn:n<=60):∀ (k:Nat) (t:Th),M.ts[k]?=some t->t.aQ.length < 64/\(t.bP=[]\/∃ f z,t.bP=[(f,z)]):=fun k t ht=>by
 have h:=g.g.th k t ht;have h1:=h.nl;have h2:=g.n;refine ⟨by omega,?_⟩;rcases h.pl with ⟨_,e⟩ | ⟨f,z,_,_,e,_⟩
 ·exact .inl e
 ·exact .inr ⟨f,z,e⟩
def allEq {K:PySem.W.Frag} {N:Addr->Prop} {l:Addr} {Q:VK} {E:XK} (i:aH CH CS CT H A L M) (g:ir M n) (hn:n<=60) (a:eS H N M.ts l) (q:∀ H',ao H H'->Q (.bl true) H'):IE CH CS CT [.ref A.a] H (fun v H'=>uf K 4 v (.ref l) H' Q) E :=
 ⟨A,L,M,i,rfl,i.len,by have:=g.n; omega,g.rows hn,fun l' H' rs s _ h2 h3 h4 h5=>eS.eq ⟨rs,h2,h3,h4,.inl rfl,h5⟩ (a.same s) (q H' s)⟩
def Lq {K:PySem.W.Frag} {p r:Addr} {xs:List V} {Q:VK} (e:H p=some (.tup xs)) (f:H r=some (.tup xs)) (h:xs.all cG=true) (q:Q (.bl true) H):uf K 4 (.ref p) (.ref r) H Q:=⟨_,_,.inr ⟨bw.of e,bw.of f⟩,rfl,DE.gp h,q⟩
end
def uh (H:Hp) (p:Addr):Sum Rf Nat->Prop
 | .inl (.way r)=>∃ p2,H p=some (.tup [.str "way",.ref p2])/\gu H p2 r
 | .inl (.cO y)=>H p=some (.tup [.str "deed",.str y])
 | .inr k=>H p=some (.tup [.str "good",.int (k:Nat)])
def gu.lx {H H':Hp} {p:Addr} (s:iz H H'):∀ {r:Res},gu H p r->gu H' p r
 | .found _ _,e=>s.t e
 | .failed _ _,e=>s.t e
 | .ring _,⟨l,e,f⟩=>⟨l,s.t e,s.l f⟩
def uh.lx {H H':Hp} {p:Addr} (s:iz H H'):∀ {x:Sum Rf Nat},uh H p x->uh H' p x
 | .inl (.way _),⟨p2,e,f⟩=>⟨p2,s.t e,f.lx s⟩
 | .inl (.cO _),e=>s.t e
 | .inr _,e=>s.t e
def iz.of {H H':Hp} (s:ao H H'):iz H H':=fun _ _ _ e=>s _ _ e
def WD (N:Cn):Sp:=Dx fun h z pt kd sg wd H Q _=>X7 fun A L M root t x bad=>A7 (pt=Tx.S t) (aH N.CH N.CS N.CT H A L M) (A.a=h) (eN ⟨L,M,z,true,root⟩ t kd bad sg wd x) (kd=("folder" : Str)/\bad=("file" : Str)\/kd≠("folder" : Str)/\bad=("folder" : Str)) (i8 (.str sg)=true) (∀ p H',ao H H'->uh H' p x->Q (.ref p) H')
def DG:T.hJ.k P w base 15 (WD T.cn):=by
 refine T.hJ.F.ok GP (fun _ _ _ _ h=>ye h fun _ _ _ _ _ _ _=>rfl) fun ag A outer s H vs Q E hr h=>ye h fun hh z pt kd sg wd h=>?_;obtain ⟨AA,L,M,root,t,x,bad,rfl,i,rfl,hx,hb,hs,q⟩:=h;obtain ⟨e,pw,g1,g2⟩:∃ e,dO ⟨L,M,z,true,root⟩ t e/\((∀ k ns,e.res≠.found k ns)->x=.inl (.way e.res))/\∀ k ns,e.res=.found k ns->∃ a th,L[k]?=some a/\M.ts[k]?=some th/\(th.kd≠kd->x=.inl (.cO bad))/\(th.kd=kd->dw sg (cZ th z)=false->x=.inl (.cO wd))/\(th.kd=kd->dw sg (cZ th z)=true->x=.inr k):=by
  cases hx with
  | way h1 h2=>exact ⟨_,h1,fun _=>rfl,fun k ns e=>absurd e (h2 k ns)⟩
  | kind h1 h2 h3 h4 h5 h6=>exact ⟨_,h1,fun k=>absurd h2 (k _ _),fun k ns e=>by rw [h2] at e; cases e; exact ⟨_,_,h3,h4,fun _=>rfl,fun z=>absurd z h5,fun z=>absurd z h5⟩⟩
  | may h1 h2 h3 h4 h5 h6=>exact ⟨_,h1,fun k=>absurd h2 (k _ _),fun k ns e=>by rw [h2] at e; cases e; exact ⟨_,_,h3,h4,fun z=>absurd h5 z,fun _ _=>rfl,fun _ h7=>nomatch h7.symm.trans h6⟩⟩
  | ok h1 h2 h3 h4 h5 h6=>exact ⟨_,h1,fun k=>absurd h2 (k _ _),fun k ns e=>by rw [h2] at e; cases e; exact ⟨_,_,h3,h4,fun z=>absurd h5 z,fun _ h7=>(nomatch h7.symm.trans h6),fun _ _=>rfl⟩⟩
 refine bF (b:=aR EF) ((am (aO 6 GP.nd (bv (K1 T) hr.m T.LC T.sL.kp T.wk (.cons (show RelV (.bl true) _ from rfl) .nil) au (aa (ad 0) (aa (ad 1) (aa (ad 2) ae)))))
 (am (bu (dk (cK (cY (wL (K:=K) rfl) T.gF gK (aa (ad 6) (aa (dl (.ref T.dH) T.xS rfl) ae))))) (aq (aM (em (aa ap (aa (bv (G4 T) hr.m T.lq.m T.lq.F.kp T.lq.b .nil au (aa (ad 6) ae)) ae))))) ci)
 (am (bu (cf kU (bf T.aJ T.fX.h (pN T) hr.m T.fX.b .nil au (ad 0) (aa (bi T.iQ T.qC (ad 6)) ae)) (ad 3)) (aq (aM (em (aa ap (aa (ce (bh (K:=K) rfl) (cr (aa ap (aa ap ae))) (wb LM T.BA zF (aa (dL ie (ad 3) ap) ae))) ae))))) ci)
 (am (bu (dk (cK (cW T.aJ T.ko.h (Bu T) hr.m T.ko.b .nil di (ad 0) (aa (ad 1) (aa (bi T.iQ T.qC (ad 6)) (aa (ad 4) ae)))))) (aq (aM (em (aa ap (aa (ad 5) ae))))) ci)
 (aq (aM (em (aa ap (aa (bi T.iQ T.qC (ad 6)) ae)))))))))) ?_
 refine stI [some (V.ref AA.a),some (V.str z),some (V.str (Tx.S t)),some (V.str kd),some (V.str sg),some (V.str wd),none] ?_;right;refine ⟨AA,L,M,root,t,e,rfl,i,rfl,pw,fun fd H1 s1 aZ=>ai ?_⟩;have i1:=i.same s1;obtain ⟨NZ,kc,kh,_,oY⟩:=i1.h;left;by_cases hfound:∃ k ns,e.res=.found k ns
 ·obtain ⟨k,ns,hk⟩:=hfound;obtain ⟨a,th,ha,aG,o1,o2,o3⟩:=g2 k ns hk;rw [hk] at aZ;obtain ⟨bA,aZ⟩:=aZ;refine ⟨_,_,_,.of (.ins aZ T.iQ T.q1 T.q2 T.q3 T.q4),.cls T.q5,bg (ai ?_)⟩;left;refine mI kh oY ⟨fd,_,_,_,rfl,aZ,rfl,AA,L,M,k,a,th,i1,rfl,rfl,ha,aG,?_⟩;by_cases bT:th.kd=kd
  ·refine en (by rw [u8 bT]; rfl) (ai ?_);left;refine mI kh oY ⟨fd,_,_,_,rfl,aZ,rfl,Bx i1 pw.hz hs aG ?_⟩;cases hm:dw sg (cZ th z) with
   | false=>exact bK ⟨fits (by simp),fun p hp=>q p _ (s1.trans (ao.upd hp)) (by rw [o2 bT hm]; exact ax)⟩
   | true =>
    refine bg ?_;left;exact ⟨fd,_,_,_,rfl,aZ,rfl,fits (by simp),fun p hp=>q p _ (s1.trans (ao.upd hp)) (by rw [o3 bT hm]; exact ax)⟩
  ·refine et (by rw [pc bT]; rfl) ⟨fits (by simp),fun p hp=>?_⟩;refine ee (o:=.lst [V.str (Str.ofString "folder"),V.str (Str.ofString "file")]) hp fun H2 s2 b2=>?_;have o:=o1 bT;have ea:cD [V.str (Str.ofString "folder"),V.str (Str.ofString "file")] (if decide (kd=("folder" : Str))=true then 1 else 0)=some (.str bad):=by
    rcases hb with ⟨rfl,rfl⟩ | ⟨h,rfl⟩
    ·rw [wT (u8 rfl)]; exact eR (j:=1) rfl
    ·rw [wS (by rw [pc h]; nofun)]; exact eR (j:=0) rfl
   simp only [bJ,b2,ea];exact ⟨fits (by simp),fun p3 eI=>q p3 _ ((s1.trans s2).trans (ao.upd eI)) (by rw [o]; exact ax)⟩
 ·have lS:∀ k ns,e.res≠.found k ns:=fun k ns h=>hfound ⟨k,ns,h⟩;obtain ⟨t1,f1,h1,h2⟩:∃ t1 f1,ud K H1 (.ref fd) t1 f1/\qE K H1 t1 f1 (.ref T.dH) false:=by
   cases j3:e.res with
   | found k ns=>exact absurd j3 (lS k ns)
   | failed k y =>
    rw [j3] at aZ;obtain ⟨_,h⟩:=aZ;exact ⟨_,_,.of (.ins h T.mK T.q6 T.q2 T.q3 T.q7),.cls T.q8⟩
   | ring ns =>
    rw [j3] at aZ;obtain ⟨_,_,h,_⟩:=aZ;exact ⟨_,_,.of (.ins h T.rh T.xO T.q2 T.q3 T.wF),.cls T.DL⟩
  refine ⟨t1,f1,false,h1,h2,bK ⟨e.res,aZ,fun p2 H2 s2 _ eW=>⟨fits (by simp),fun p hp=>?_⟩⟩⟩;have s3:=ao.upd (o:=.tup [V.str (Str.ofString "way"),V.ref p2]) hp;exact q p _ ((s1.trans s2).trans s3) (by rw [g1 lS]; exact ⟨p2,ax,eW.same s3⟩)
def cA (ts:List Th):List V:=ts.map fun t=>V.str t.tx
def wD (ts:List Th):xx (cA ts):=fun v hv a=>by obtain ⟨t,_,rfl⟩:=AC.mp hv; nofun
def nX (N:Cn) (A:Ad) (lt:Addr) (n:Nat) (H:Hp):Prop:=∃ L M,aH N.CH N.CS N.CT H A L M/\ir M n/\H lt=some (.lst (cA M.ts))
abbrev DI (N:Cn) (H:Hp) (f d:Addr):Prop:=(∃ fd p r,H f=some (.tup [.str "way",.ref fd])/\iU N H fd r/\H d=some (.tup [.str "way",.ref p])/\gu H p r)\/∃ y,H f=some (.tup [.str "deed",.str y])/\H d=some (.tup [.str "deed",.str y])
def DI.ng {N:Cn} {H:Hp} {f d:Addr} (h:DI N H f d):∃ w v,H d=some (.tup [.str w,v])/\w≠("good" : Str):=by
 rcases h with ⟨_,_,_,_,_,e,_⟩ | ⟨_,_,e⟩
 ·exact ⟨_,_,e,by decide +kernel⟩
 ·exact ⟨_,_,e,by decide +kernel⟩
def Dc {N:Cn} {H:Hp} {Q:VK} {p:Addr} {x:Sum Rf Nat} (hd:uh H p x) (k:∀ f H',ao H H'->DI N H' f p->Q (.ref f) H'):∀ y,x=.inl y->c7 N H (sQ N Q) y:=fun y e=>by
 subst e;cases y with
 | cO y=>exact fun d H1 s1 e1=>.inr ⟨rfl,d,y,rfl,e1,fun f H2 s2 _ e2=>k f H2 (s1.trans s2) (.inr ⟨y,e2,s2 _ _ (s1 _ _ hd)⟩)⟩
 | way r =>
  obtain ⟨p2,e2,e3⟩:=hd;exact fun fd d H1 s1 t1 e1=>.inl ⟨rfl,d,fd,rfl,e1,fun f H2 s2 _ e4=>k f H2 (s1.trans s2) (.inl ⟨fd,p2,r,e4,t1.same s2,s2 _ _ (s1 _ _ e2),(e3.same s1).same s2⟩)⟩
def DX {M:Hs} {L:List Ta} {n:Nat} {z kd bad sg wd:Str} {t:List Nat} (g:ir M n) (hn:n<=60) (hL:L.length=M.ts.length) (hz:z∈AS) (p:pW t) (hb:kd=("folder" : Str)/\bad=("file" : Str)\/kd=("file" : Str)/\bad=("folder" : Str)):∃ root x,eN ⟨L,M,z,true,root⟩ t kd bad sg wd x:=by
 have hp:=p.l2;have mM:=g.n;obtain ⟨r,e,_,pw,_⟩:=IA (L:=L) g.g hL (by omega) hz true (t:=t) ⟨p.l1,by omega,p.all⟩;by_cases hf:∃ k ns,e.res=.found k ns
 ·obtain ⟨k,ns,hk⟩:=hf;obtain ⟨th,aG,gC⟩:=pw.nl g.g hz hk;obtain ⟨a,ha⟩:=adr hL aG;by_cases h1:th.kd=kd
  ·cases hm:dw sg (cZ th z) with
   | true=>exact ⟨r,_,.ok pw hk ha aG h1 hm⟩
   | false=>exact ⟨r,_,.may pw hk ha aG h1 hm⟩
  ·refine ⟨r,_,.kind pw hk ha aG h1 ?_⟩;rcases (g.g.th k th aG).kd with h | h | h
   ·rcases hb with ⟨e1,_⟩ | ⟨_,e2⟩
    ·exact absurd (h.trans e1.symm) h1
    ·exact h.trans e2.symm
   ·rcases hb with ⟨_,e2⟩ | ⟨e1,_⟩
    ·exact h.trans e2.symm
    ·exact absurd (h.trans e1.symm) h1
   ·exact absurd h gC
 ·exact ⟨r,_,.way pw fun k ns h=>hf ⟨k,ns,h⟩⟩
def eN.at {M:Hs} {L:List Ta} {z kd bad sg wd:Str} {t:List Nat} {root k:Nat} (h:eN ⟨L,M,z,true,root⟩ t kd bad sg wd (.inr k)):∃ a th,L[k]?=some a/\M.ts[k]?=some th/\th.kd=kd:=by
 cases h with
 | ok _ _ ha ht hk=>exact ⟨_,_,ha,ht,hk⟩
def wg:List V->List V
 | [a,b,c]=>[a,b,c]
 | _=>[]
def abG (N:Cn) (Pr:Addr):Sp:=MK fun x lt z pt H Q _=>X4 fun A n t es=>A8 (pt=Tx.S t) (nX N A lt n H) (A.a=x) (n<=60) (z∈AS) (pW t) (dY H Pr oN es) (∀ es' H',nX N A lt n H'->dY H' Pr oN es'->eM Pr H H'->Q (.bl true) H')
def P6 {Pe:Addr} (C:PySem.W.CodeHd base T.oZ Pe) (jm:base.BuiltinsAt mg Pe):aC P w K mg base (bo P w) 20 T.Fc T.yM ["_law_house","_law_texts","_law_asker","_law_path_here"] (abG T.cn Pe):=by
 refine T.xh.tE Cu (fun vs H Q E h=>?_) (fun ag A outer s H vs Q E bL hr h=>?_)
 ·exact JQ h fun _ _ _ _ _=>rfl
 ·refine JQ h fun x lt z pt h=>?_;obtain ⟨AA,n,t,es,rfl,⟨L,M,i,g,bD⟩,rfl,lM,hz,hp,tab,q⟩:=h;have LB_l_read:oK P w K mg base ["_law_house","_law_asker","_law_path_here"] oN (v9 1) (xc s.heap.objs.size) (fun vs=>Lk T.cn (wg vs)):=by
   intro f ag vs A outer s' H Q E hr hw;unfold wg at hw;split at hw
   ·refine ⟨_,(cB (P4 T) hr.m T.pP.m T.pP.F.kp T.pP.b .nil oB (aa (ad 0) (aa (ad 1) (aa (ad 2) ae)))).h,?_⟩;simp only [xz,On];left;exact hw
   ·exact hw.elim
  obtain ⟨root,x,hx⟩:=DX (sg := "l") (wd := "look") g lM i.len hz hp (.inr ⟨rfl,rfl⟩);refine bF (b:=aR qw) ((am (aO 4 Cu.nd (bv (DG T) hr.m T.hJ.m T.hJ.F.kp T.hJ.b .nil au (aa (ad 0) (aa (ad 2) (aa (ad 3) (aa ap (aa ap (aa ap ae))))))))
  (am (aO 5 Cu.nd (ox (oi T) hr.m T.dq.m T.dq.F.kp T.dq.b di LB_l_read (Sj (bL.symm.trans T.ab4) C jm) (Zp _) Rt))
  (am (bu (cf ie (ce (bh (K:=K) rfl) (ad 4) bn) ap) (aq (aM (dL (jz (K:=K) 4 rfl hr.i0) (ad 5) (em (aa ap (aa (ce (bh (K:=K) rfl) (ad 1) (ce (bh (K:=K) rfl) (ad 4) bn)) ae)))))) ci)
  (aq (aM (bv (Dn T) hr.m T.ig.m T.ig.F.kp T.ig.b .nil au (aa (ad 5) (aa (ad 4) ae))))))))) ?_
  rw [show start zt [V.ref AA.a,V.ref lt,V.str z,V.str (Tx.S t)]=[some (V.ref AA.a),some (V.ref lt),some (V.str z),some (V.str (Tx.S t)),none,none] from rfl];right;refine ⟨AA,L,M,root,t,x,"folder",rfl,i,rfl,hx,.inr ⟨by decide +kernel,rfl⟩,by decide +kernel,fun p H1 s1 hd=>ai ?_⟩;left;have nv:=(bO.of s1).tab tab;refine ⟨es,[.ref AA.a,.str z,.str (Tx.S t)],nv,cC rfl (cC rfl (cC rfl jH)),fun c H2 L2=>⟨L2.code,?_⟩⟩;have nx:=nF L2 nv;obtain ⟨lE,pe⟩:=L2.tab;have i2:=(i.same s1).gb nx;have cm:=nx.s.l (s1 _ _ bD);have hd2:=hd.lx nx.s;have fin:∀ {H'},ao H2 H'->Q (.bl true) H':=fun s=>q lE _ ⟨L,M,i2.same s,g,s _ _ cm⟩ ((bO.of s).tab pe) ((bO.of s1).l.trans ((tK L2).trans (bO.of s).l));refine ⟨AA,L,M,root,t,x,rfl,i2,rfl,hx,Dc hd2 fun f H3 s3 ok=>ai ?_,fun k th e ht H3 s3 f H4 s4 _ hf=>ai ?_⟩
  ·obtain ⟨w,v,ep,hw⟩:=ok.ng;left;simp only [bJ,ep,eD];refine en (pc hw) ?_;left;exact ⟨ok,fun H4 s4=>fin (s3.trans s4)⟩
  ·subst e;have pM:=s3.trans s4;have fO:=pM _ _ (show H2 p=some (.tup [.str "good",.int (k:Nat)]) from hd2);left;simp only [bJ,fO,eD];refine et (u8 (by trivial)) ?_;rw [show cD [V.str (Str.ofString "good"),V.int (k:Nat)] 1=some (V.int (k:Nat)) from eR (j:=1) rfl];dsimp only;simp only [pM _ _ cm];rw [eR (j:=k) (v:=V.str th.tx) (by unfold cA; rw [xL,ht]; rfl)];refine ⟨fits (by simp),fun p5 rQ=>?_⟩;have s5:=ao.upd (o:=.tup [V.str (Str.ofString "told"),V.str th.tx]) rQ;exact Lq (s5 _ _ hf) ax rfl (fin (pM.trans s5))
def jM (P lt:Addr) (H H':Hp):Prop:=∀ c o,c≠P->c≠lt->sS o->H c=some o->H' c=some o
def eM.k2 {P lt:Addr} {H H':Hp} (k:eM P H H'):jM P lt H H':=fun c o n _ h e=>k c o n h e
def jM.trans {P lt:Addr} {H H1 H2:Hp} (a:jM P lt H H1) (b:jM P lt H1 H2):jM P lt H H2:=fun c o n m h e=>b c o n m h (a c o n m h e)
def Nl {ts:List Th} {k:Nat} {t:Th}:(cA ts).set k (.str t.tx)=cA (ts.set k t):=by unfold cA; rw [List.map_set]
def aaI {n k:Nat} (h:k < n):eg n (k:Int)=some k:=by
 unfold eg;rw [wT (by omega),wT (by omega)];rfl
def WY (N:Cn) (Pw:Addr):Sp:=K8 fun x lt z pt tx H Q _=>X4 fun A n t es=>A9 (pt=Tx.S t) (nX N A lt n H) (A.a=x) (n<=60) (z∈AS) (pW t) (tx.length<=60) (dY H Pw mC es) (∀ es' H',nX N A lt n H'->dY H' Pw mC es'->jM Pw lt H H'->Q (.bl true) H')
def UI {Pe:Addr} (C:PySem.W.CodeHd base T.o9 Pe) (jm:base.BuiltinsAt mg Pe):aC P w K mg base (bo P w) 20 T.FU T.yZ ["_law_house","_law_texts","_law_asker","_law_path_here","_law_text_here"] (WY T.cn Pe):=by
 refine T.yi.tE xA (fun vs H Q E h=>?_) (fun ag A outer s H vs Q E bL hr h=>?_)
 ·exact JV h fun _ _ _ _ _ _=>rfl
 ·refine JV h fun x lt z pt tx h=>?_;obtain ⟨AA,n,t,es,rfl,⟨L,M,i,g,bD⟩,rfl,lM,hz,hp,o6,tab,q⟩:=h;have LB_l_written:oK P w K mg base ["_law_house","_law_asker","_law_path_here","_law_text_here"] mC (wO 2) (wI s.heap.objs.size) (fun vs=>HX T.cn (wu vs)):=by
   intro f ag vs A outer s' H Q E hr hw;unfold wu at hw;split at hw
   ·refine ⟨_,(cB (Sq T) hr.m T.rq.m T.rq.F.kp T.rq.b .nil oB (aa (ad 0) (aa (ad 1) (aa (ad 2) (aa (ad 3) ae))))).h,?_⟩;simp only [xz,On];left;exact hw
   ·exact hw.elim
  obtain ⟨root,x,hx⟩:=DX (sg := "w") (wd := "write") g lM i.len hz hp (.inr ⟨rfl,rfl⟩);have eK:=hp.l2;have mM:=g.n;obtain ⟨r0,k0,ga⟩:=g.g.as z hz;refine bF (b:=aR qJ) ((am (aO 5 xA.nd (bv (DG T) hr.m T.hJ.m T.hJ.F.kp T.hJ.b .nil au (aa (ad 0) (aa (ad 2) (aa (ad 3) (aa ap (aa ap (aa ap ae))))))))
  (am (aO 6 xA.nd (bv (EC T) hr.m T.iA.m T.iA.F.kp T.iA.b .nil au (aa (ad 0) ae)))
  (am (aO 7 xA.nd (ox (oi T) hr.m T.dq.m T.dq.F.kp T.dq.b di LB_l_written (ZV (bL.symm.trans T.Z6) C jm) (ZC _) abz))
  (am (bu (cf kU (ce (bh (K:=K) rfl) (ad 5) bn) ap) (aq (aM (mJ (bv (Dn T) hr.m T.ig.m T.ig.F.kp T.ig.b .nil au (aa (ad 7) (aa (ad 5) ae))) (ii (dL (jz (K:=K) 4 rfl hr.i0) (bv (EC T) hr.m T.iA.m T.iA.F.kp T.iA.b .nil au (aa (ad 0) ae)) (ad 6)))))) ci)
  (am (u9 (ad 4) (sX (ce (bh (K:=K) rfl) (ad 6) (ce (bh (K:=K) rfl) (ad 5) bn)) bn uq))
  (am (u9 (ad 4) (sX (ad 1) (ce (bh (K:=K) rfl) (ad 5) bn) uq))
  (aq (aM (mJ (dL (jz (K:=K) 4 rfl hr.i0) (ad 7) (em (aa ap (aa ay ae)))) (ii (dL (jz (K:=K) 4 rfl hr.i0) (bv (EC T) hr.m T.iA.m T.iA.F.kp T.iA.b .nil au (aa (ad 0) ae)) (ad 6))))))))))))) ?_
  rw [show start AM [V.ref AA.a,V.ref lt,V.str z,V.str (Tx.S t),V.str tx]=[some (V.ref AA.a),some (V.ref lt),some (V.str z),some (V.str (Tx.S t)),some (V.str tx),none,none,none] from rfl];right;refine ⟨AA,L,M,root,t,x,"folder",rfl,i,rfl,hx,.inr ⟨by decide +kernel,rfl⟩,by decide +kernel,fun p H0 s0 hd=>ai ?_⟩;left;refine ⟨AA,L,M,i.same s0,rfl,i.len,by omega,g.rows lM,fun l H1 rs s1' hl0 hl hlen iJ OS=>ai ?_⟩;have all1:eS H1 (NF H0 l) M.ts l:=⟨rs,hl,hlen,iJ,.inl rfl,OS⟩;have s1:=s0.trans s1';have E5:NF H0 l lt:=.inr ⟨_,s0 _ _ bD⟩;have FE:l≠lt:=fun z=>by rw [z,s0 _ _ bD] at hl0; cases hl0
  have hd1:=hd.lx (iz.of s1');clear hl hlen iJ OS hd;left;have nv:=(bO.of s1).tab tab;refine ⟨es,[.ref AA.a,.str z,.str (Tx.S t),.str tx],nv,cC rfl (cC rfl (cC rfl (cC rfl jH))),fun c H2 L2=>⟨L2.code,?_⟩⟩;have nx:=nF L2 nv;obtain ⟨lE,pe⟩:=L2.tab;have i2:=(i.same s1).gb nx;have cm:=nx.s.l (s1 _ _ bD);have hd2:=hd1.lx nx.s;have all2:=all1.lx nx.s;have vz:jM Pe lt H H2:=(eM.trans (bO.of s1).l (tK L2)).k2;refine ⟨AA,L,M,root,t,x,rfl,o6,i2,rfl,⟨hp.l1,by omega,hp.all⟩,hx,by rw [ga.ro]; rfl,Dc hd2 fun f H3 s3 ok=>ai ?_,fun k a th e ha aG H3 i3 k3 f H4 s4 _ hf=>ai ?_⟩
  ·obtain ⟨w,v,ep,hw⟩:=ok.ng;left;simp only [bJ,ep,eD];refine et (by rw [pc hw]; rfl) ?_;refine ⟨ok,fun H4 s4=>bK (allEq (i2.same (s3.trans s4)) g lM (all2.same (s3.trans s4)) fun H5 s5=>?_)⟩;have s:=(s3.trans s4).trans s5;exact q lE H5 ⟨L,M,i2.same s,g,s _ _ cm⟩ ((bO.of s).tab pe) (vz.trans (bO.of s).l.k2)
  ·subst e;obtain ⟨a',th',ha',hth',bT⟩:=hx.at
   rw [aG] at hth'; cases hth';have gC:th.kd≠("lead" : Str):=by rw [bT]; decide +kernel
   have nW:∀ b∈[AA.t,a.th],∃ C dx fs,H2 b=some (.ins C dx fs):=fun b hb=>by
    simp only [li,lv,wn] at hb;rcases hb with rfl | rfl
    ·obtain ⟨fs,c,e,_⟩:=i2.t;exact ⟨_,_,fs,e⟩
    ·obtain ⟨a',e1,t1⟩:=i2.th k th aG;rw [ha] at e1; cases e1;obtain ⟨fs,e,_⟩:=t1.o;exact ⟨_,_,fs,e⟩
   have ks:iz H2 H3:=fun b o h e=>k3 b o (fun hb=>by
    obtain ⟨C,dx,fs,e'⟩:=nW b hb;rw [e'] at e;rcases h with ⟨_,rfl⟩ | ⟨_,rfl⟩ <;> cases e) e
   have kA:bO H2 H3:=i2.off g.g.ne (fun b hb=>by
    simp only [li,lv,wn] at hb;rcases hb with rfl | rfl
    ·simp [Ad.w]
    ·exact wE _ (jv ha (by simp [Ta.l]))) k3
   have all4:=(all2.lx ks).same s4;have i4:=i3.same s4;have nA:=s4 _ _ (ks.l cm);have fO:H4 p=some (.tup [.str "good",.int (k:Nat)]):=s4 _ _ (ks.t hd2);have g4:=g.chg (t':={ th with tx:=tx }) aG rfl rfl rfl gC;obtain ⟨rs4,ar,xs,fh,hrk,mY,⟨u0,u1,u3,u2,u4,u5,rfl⟩,yU,hset⟩:=all4.set aG;left;simp only [bJ,fO,eD];refine en (by rw [u8 (by trivial)]; rfl) (ai ?_);left;have e1:cD [V.str (Str.ofString "good"),V.int (k:Nat)] 1=some (V.int (k:Nat)):=eR (j:=1) rfl;simp only [bJ,fO,e1,fh];rw [eR (j:=k) (v:=V.ref ar) (by rw [xL,hrk]; rfl)];dsimp only;simp only [mY];rw [show eg [V.str u0,V.str u1,V.ref u2,V.str u3,V.ref u4,V.ref u5].length 3=some 3 from rfl];dsimp only;have N6:=hset tx;have i6:aH T.cn.CH T.cn.CS T.cn.CT (upd H4 ar (.lst ([V.str u0,V.str u1,V.ref u2,V.str u3,V.ref u4,V.ref u5].set 3 (V.str tx)))) AA L { M with ts:=M.ts.set k { th with tx:=tx } } :=
    i4.keep (W:=[ar]) (fun b o hb e=>by rw [ah (by simpa using hb)]; exact e) fun b hb hm=>by
     obtain rfl:b=ar:=by simpa using hm
     exact i4.Yv hb mY
   have k6:bO H4 (upd H4 ar (.lst ([V.str u0,V.str u1,V.ref u2,V.str u3,V.ref u4,V.ref u5].set 3 (V.str tx)))):=fun b o ho e=>by
    by_cases hb:b=ar
    ·subst hb;rw [mY] at e; cases e;exact absurd rfl (ho (.ref u2) (by simp) u2)
    ·rw [ah hb]; exact e
   have rG:=k6 lt (.lst (cA M.ts)) (wD _) nA;have nt:∀ {b:Addr} {ys:List V},H4 b=some (.tup ys)->upd H4 ar (.lst ([V.str u0,V.str u1,V.ref u2,V.str u3,V.ref u4,V.ref u5].set 3 (V.str tx))) b=some (.tup ys):=fun e=>by
    rw [ah (fun z=>by rw [z,mY] at e; cases e)]; exact e
   have pA:=nt fO;have nj:=nt hf;generalize upd H4 ar (.lst ([V.str u0,V.str u1,V.ref u2,V.str u3,V.ref u4,V.ref u5].set 3 (V.str tx)))=H6 at i6 k6 rG pA nj N6 ⊢;right;simp only [bJ,pA,e1,rG];have gz:k < (cA M.ts).length:=by unfold cA; rw [nn]; exact (lm.mp aG).1
   rw [aaI gz];dsimp only;rw [show (cA M.ts).set k (.str tx)=cA (M.ts.set k { th with tx:=tx }) from Nl (t:={ th with tx:=tx })];have kk:cb lt H6 (upd H6 lt (.lst (cA (M.ts.set k { th with tx:=tx })))):=cb.upd;have b7:upd H6 lt (.lst (cA (M.ts.set k { th with tx:=tx }))) lt=some (.lst (cA (M.ts.set k { th with tx:=tx }))):=ax;generalize upd H6 lt (.lst (cA (M.ts.set k { th with tx:=tx })))=H7 at kk b7 ⊢;have i7:=i6.keep (W:=[lt]) (fun b o hb e=>kk b o (by simpa using hb) e) fun b hb hm=>by
    obtain rfl:b=lt:=by simpa using hm
    exact i6.yh (o:=.lst (cA M.ts)) g4.g.ne hb (wD _) rG
   have all7:=N6.off E5 rG FE kk;have hf7:=kk _ _ (fun z=>by rw [z,rG] at nj; cases nj) nj;have jY:dY H7 Pe mC lE:=xE (((kA.trans (bO.of s4)).trans k6).tab pe) fun b φ e=>kk _ _ (fun z=>by rw [z,rG] at e; cases e) e;have Gs:jM Pe lt H H7:=vz.trans (eM.k2 ((kA.trans (bO.of s4)).trans k6).l) |>.trans fun c o _ n _ e=>kk c o n e;refine ⟨fits (by simp),fun p8 FL=>?_⟩;have s8:=ao.upd (o:=.tup [V.str (Str.ofString "told"),V.ay]) FL;refine Lq (s8 _ _ hf7) ax rfl (bK (allEq (i7.same s8) g4 lM (all7.same s8) fun H9 s9=>?_));have y1:=s8.trans s9;exact q lE H9 ⟨L,_,i7.same y1,g4,y1 _ _ b7⟩ ((bO.of y1).tab jY) (Gs.trans (bO.of y1).l.k2)
def Qt (zs:List Str):xx (zs.map V.str):=fun v hv a=>by obtain ⟨z,_,rfl⟩:=AC.mp hv; nofun
def Y1 (N:Cn) (Pk:Addr):Sp:=jJ fun x z pt H Q _=>X6 fun A L M n t es=>A9 (pt=Tx.S t) (aH N.CH N.CS N.CT H A L M) (ir M n) (A.a=x) (n<=60) (z∈AS) (pW t) (dY H Pk mf es) (∀ es' H',aH N.CH N.CS N.CT H' A L M->dY H' Pk mf es'->eM Pk H H'->Q (.bl true) H')
def aaB {Pe:Addr} (C:PySem.W.CodeHd base T.pG Pe) (jm:base.BuiltinsAt mg Pe):aC P w K mg base (bo P w) 20 T.FY T.y6 ["_law_house","_law_asker","_law_path_here"] (Y1 T.cn Pe):=by
 refine T.wq.tE xC (fun vs H Q E h=>?_) (fun ag A outer s H vs Q E bL hr h=>?_)
 ·exact eQ h fun _ _ _ _=>rfl
 ·refine eQ h fun x z pt h=>?_;obtain ⟨AA,L,M,n,t,es,rfl,i,g,rfl,lM,hz,hp,tab,q⟩:=h;have LB_l_looked:oK P w K mg base ["_law_house","_law_asker","_law_path_here"] mf (vX 1) (wc s.heap.objs.size) (fun vs=>LD T.cn (wg vs)):=by
   intro f ag vs A outer s' H Q E hr hw;unfold wg at hw;split at hw
   ·refine ⟨_,(cB (Hc T) hr.m T.kL.m T.kL.F.kp T.kL.b .nil oB (aa (ad 0) (aa (ad 1) (aa (ad 2) ae)))).h,?_⟩;simp only [xz,On];left;exact hw
   ·exact hw.elim
  obtain ⟨root,x,hx⟩:=DX (sg := "l") (wd := "look") g lM i.len hz hp (.inl ⟨rfl,rfl⟩);have jk:∀ (k:Nat) th,M.ts[k]?=some th->th.aQ.length < 64:=fun k th h=>(g.rows lM k th h).1;refine bF (b:=aR qQ) ((am (aO 3 xC.nd (bv (DG T) hr.m T.hJ.m T.hJ.F.kp T.hJ.b .nil au (aa (ad 0) (aa (ad 1) (aa (ad 2) (aa ap (aa ap (aa ap ae))))))))
  (am (aO 4 xC.nd (ox (oi T) hr.m T.dq.m T.dq.F.kp T.dq.b di LB_l_looked (QR (bL.symm.trans T.YV) C jm) (Q2 _) X0))
  (am (bu (cf kU (ce (bh (K:=K) rfl) (ad 3) bn) ap) (aq (aM (bv (Dn T) hr.m T.ig.m T.ig.F.kp T.ig.b .nil au (aa (ad 4) (aa (ad 3) ae))))) ci)
  (am (aO 5 xC.nd (bf T.aJ T.iY.h (xo T) hr.m T.iY.b .nil au (ad 0) (aa (ce (bh (K:=K) rfl) (ad 3) bn) ae)))
  (am (bu (ij (f8 (cf (YU (K:=K) 4 rfl hr.i0) (ad 4) (em (aa ap (aa (ad 5) ae)))) (kq (dk (cK (cY kI T.gF gK (aa (ce (bh (K:=K) rfl) (ad 4) bn) (aa (ky (.ty "list") T.rn Bc rfl) ae)))))))) (aq (aM ge)) ci)
  (am (aV (hX FS Gc kz (ce (bh (K:=K) rfl) (ad 4) bn) (aa ap ae)))
  (aq (aM (mJ (dL (jz (K:=K) 4 rfl hr.i0) (cB (Hc T) hr.m T.kL.m T.kL.F.kp T.kL.b .nil cz (aa (ad 0) (aa (ad 1) (aa (ad 2) ae)))) (ad 5)) (mJ (dL (jz (K:=K) 4 rfl hr.i0) (ad 5) (cY (II (K:=K) rfl rfl) T.An Be (aa (ad 5) ae))) (ii (dL (jz (K:=K) 4 rfl hr.i0) (bf T.aJ T.iY.h (xo T) hr.m T.iY.b .nil au (ad 0) (aa (ce (bh (K:=K) rfl) (ad 3) bn) ae)) (ad 5)))))))))))))) ?_
  rw [show start Dj [V.ref AA.a,V.str z,V.str (Tx.S t)]=[some (V.ref AA.a),some (V.str z),some (V.str (Tx.S t)),none,none,none] from rfl];right;refine ⟨AA,L,M,root,t,x,"file",rfl,i,rfl,hx,.inl ⟨rfl,rfl⟩,by decide +kernel,fun p H1 s1 hd=>ai ?_⟩;left;have nv:=(bO.of s1).tab tab;refine ⟨es,[.ref AA.a,.str z,.str (Tx.S t)],nv,cC rfl (cC rfl (cC rfl jH)),fun c H2 L2=>⟨L2.code,?_⟩⟩;have nx:=nF L2 nv;obtain ⟨lE,pe⟩:=L2.tab;have i2:=(i.same s1).gb nx;have hd2:=hd.lx nx.s;have vz:eM Pe H H2:=eM.trans (bO.of s1).l (tK L2);refine ⟨AA,L,M,root,t,x,rfl,i2,rfl,hx,jk,Dc hd2 fun f H3 s3 ok=>ai ?_,fun k th e ht l1 H3 s3 Gg b1 f H4 s4 _ hf=>ai ?_⟩
  ·obtain ⟨w,v,ep,hw⟩:=ok.ng;left;simp only [bJ,ep,eD];refine et (by rw [pc hw]; rfl) ?_;refine ⟨ok,fun H4 s4=>?_⟩;have s:=s3.trans s4;exact q lE H4 (i2.same s) ((bO.of s).tab pe) (vz.trans (bO.of s).l)
  ·subst e;obtain ⟨a,th',ha,hth',_⟩:=hx.at
   rw [ht] at hth'; cases hth';generalize hNS:(dQ (th.aQ.map (·.1)))=NS at b1;have pM:=s3.trans s4;have fO:H4 p=some (.tup [.str "good",.int (k:Nat)]):=pM _ _ hd2;have e1:cD [V.str (Str.ofString "good"),V.int (k:Nat)] 1=some (V.int (k:Nat)):=eR (j:=1) rfl;have i4:=i2.same pM;left;simp only [bJ,fO,eD];refine en (by rw [u8 (by trivial)]; rfl) (ai ?_);left;simp only [bJ,fO,e1];obtain ⟨NZ,kc,kh,_,oY⟩:=i4.h;refine mI kh oY ⟨AA,L,M,k,a,th,i4,rfl,rfl,ha,ht,jk k th ht,fun l2 cm=>?_⟩;rw [hNS];refine ee (o:=.lst (NS.map V.str)) cm fun H5 s5 b5=>?_;right;refine ⟨fits (by simp),fun p6 pA=>?_⟩;refine ee (o:=.tup [V.str (Str.ofString "told"),V.ref l2]) pA fun H6 s6 b6=>?_;have vq:=s5.trans s6;have nj:=vq _ _ hf;have c1:=vq _ _ (s4 _ _ b1);have c2:=s6 _ _ b5;have hp6':=vq _ _ fO;have i6:=i4.same vq;have FN:l1≠l2:=fun z=>by rw [<- z,s4 _ _ b1] at cm; cases cm
   have n1:∀ {b o},H2 b=some o->b≠l1:=fun e z=>by rw [z,Gg] at e; cases e
   refine ⟨_,_,bw.of nj,bw.of b6,rfl,fun i h1 h2=>?_,?_⟩
   ·match i,h1 with
    | 0,_=>exact DE.flat (v:=.str "told") rfl _
    | 1,_=>exact .inr ⟨_,_,_,_,rfl,rfl,.inl ⟨aD.of c1,aD.of c2⟩,rfl,DE.gp (u6 _)⟩
   ·have e2:cD [V.str (Str.ofString "told"),V.ref l1] 1=some (V.ref l1):=eR (j:=1) rfl;refine bg ?_;simp only [bJ,nj,e2];rw [Rk c1];refine ⟨by decide,bg (ai ?_)⟩;left;simp only [bJ,nj,e2,c1];have hNl:NS.length < 64:=by rw [<- hNS,Ck,nn]; exact jk k th ht
    have hsS:dQ NS=NS:=by rw [<- hNS]; exact Zb (xI _)
    refine ⟨kj (by rw [nn]; omega),?_⟩;have kk:cb l1 H6 (upd H6 l1 (.lst (NS.map V.str++[V.str (Str.ofString "zz")]))):=cb.upd;generalize upd H6 l1 (.lst (NS.map V.str++[V.str (Str.ofString "zz")]))=H7 at kk ⊢;have i7:=i6.keep (W:=[l1]) (fun b o hb e=>kk b o (by simpa using hb) e) fun b hb hm=>by
     obtain rfl:b=l1:=by simpa using hm
     exact i6.yh (o:=.lst (NS.map V.str)) g.g.ne hb (Qt NS) c1
    have hp7:=kk _ _ (fun z=>by rw [z,c1] at hp6'; cases hp6') hp6';have d2:=kk _ _ (pi FN) c2;have Om:=pM.trans vq;have jY:dY H7 Pe mf lE:=xE ((bO.of Om).tab pe) fun b φ e=>kk _ _ (fun z=>by rw [z,c1] at e; cases e) e;have Gs:eM Pe H H7:=fun b o nb ho e=>by
     have e':=vz b o nb ho e;exact kk b o (n1 e') (Om _ _ e')
    refine ⟨AA,L,M,root,t,.inr k,rfl,i7,rfl,hx,jk,(fun y e=>by cases e),fun k' th' e ht' l3 H8 s8 Nz b8=>?_⟩;cases e;rw [ht] at ht'; cases ht';rw [hNS] at b8;have d8:=s8 _ _ d2;refine ⟨_,_,.inl ⟨aD.of b8,aD.of d8⟩,rfl,DE.gp (u6 _),bK (.inl ⟨l2,NS,rfl,aD.of d8,hNl,fun l4 nA=>?_⟩)⟩;rw [hsS];have s9:=ao.upd (o:=.lst (NS.map V.str)) nA;refine ⟨_,_,.inl ⟨aD.of (s9 _ _ d8),aD.of ax⟩,rfl,DE.gp (u6 _),bK ?_⟩;generalize upd H8 l4 (.lst (NS.map V.str))=H9 at s9 ⊢;have E4:=s8.trans s9;have i9:=i7.same E4;obtain ⟨iH,gc,gh,_,c9⟩:=i9.h;simp only [E4 _ _ hp7,e1];refine mI gh c9 ⟨AA,L,M,k,a,th,i9,rfl,rfl,ha,ht,jk k th ht,fun l5 fh=>?_⟩;rw [hNS];have pL:=ao.upd (o:=.lst (NS.map V.str)) fh;have Gw:=E4.trans pL;exact ⟨_,_,.inl ⟨aD.of ax,aD.of (pL _ _ (s9 _ _ d8))⟩,rfl,DE.gp (u6 _),q lE _ (i7.same Gw) ((bO.of Gw).tab jY) (Gs.trans (bO.of Gw).l)⟩
def Cj (K:PySem.W.Frag) (tabs:oz):Sp:=gL fun a H Q _=>A3 (∃ ns:List Int,aD K H a (ns.map V.int)) (oR tabs H) (∀ H',yo tabs H'->Q (.bl true) H')
def mV (K:PySem.W.Frag) (H:Hp) (a:Addr) (ns:List Int):Prop:=(∀ J,aD K J a (ns.map V.int))\/∃ o,H a=some (.eA o (.lst (ns.map V.int)))
def mV.sq {H:Hp} {a:Addr} {ns:List Int} (h:mV K H a ns):aD K H a (ns.map V.int):=by
 rcases h with h | h
 ·exact h H
 ·exact .inl (.inr h)
def mV.kp {H H':Hp} {a:Addr} {ns:List Int} (h:mV K H a ns) (k:∀ o,H a=some (.eA o (.lst (ns.map V.int)))->H' a=some (.eA o (.lst (ns.map V.int)))):mV K H' a ns:=by
 rcases h with h | ⟨o,h⟩
 ·exact .inl h
 ·exact .inr ⟨o,k _ h⟩
def LA (ns:List Int) (lo:Option Int) (k:Nat):∃ ms:List Int,gr (ns.map V.int) lo (some (k:Int))=ms.map V.int/\ms.length<=k:=by
 refine ⟨((ns.drop (HT.dz (ns.map V.int).length 0 lo)).take (HT.dz (ns.map V.int).length (ns.map V.int).length (some (k:Int)) - HT.dz (ns.map V.int).length 0 lo)),?_,?_⟩
 ·unfold gr;rw [<- List.map_drop,<- List.map_take]
 ·rw [_c,HT.zR];omega
def TS (tl:List (Addr×Str)) (H:Hp):Prop:=∀ p∈tl,∃ es,dY H p.1 p.2 es
def TS.kp {tl:List (Addr×Str)} {H H':Hp} (h:TS tl H) (k:∀ c φ,H c=some (.ext φ)->H' c=some (.ext φ)):TS tl H':=fun p hp=>let ⟨es,t⟩:=h p hp; ⟨es,xE t k⟩
def TS.ka {tl:List (Addr×Str)} {H H':Hp} (h:TS tl H) (k:bO H H'):TS tl H':=h.kp fun _ _ e=>k _ _ trivial e
def TS.step {tl:List (Addr×Str)} {H H':Hp} {P:Addr} {q:Str} (h:TS tl H) (nd:(tl.map (·.1)).Nodup) (hm:(P,q)∈tl) (k:∀ c φ,c≠P->H c=some (.ext φ)->H' c=some (.ext φ)) (t':∃ es,dY H' P q es):TS tl H':=fun p hp=>by
 by_cases e:p.1=P
 ·obtain rfl:p=(P,q):=by
   obtain ⟨a,ha,h1⟩:=Sc hp;obtain ⟨b,hb,h2⟩:=Sc hm;have:a=b:=by
    rcases Nat.lt_trichotomy a b with h | h | h
    ·exact ((T0.mp nd) a b (by simpa using ha) (by simpa using hb) h (by rw [_h,_h,h1,h2]; exact e)).elim
    ·exact h
    ·exact ((T0.mp nd) b a (by simpa using hb) (by simpa using ha) h (by rw [_h,_h,h1,h2]; exact e.symm)).elim
   subst this;exact h1.symm.trans h2
  exact t'
 ·obtain ⟨es,t⟩:=h p hp;obtain ⟨es0,t0⟩:=h _ hm;exact ⟨es,k _ _ e t.tab,fun x hx=>k _ _ (fun z=>by
   have c:=t.code x hx;rw [z,t0.tab] at c;exact SQ (EQ c)) (t.code x hx)⟩
def eM.x {P:Addr} {H H':Hp} (k:eM P H H'):∀ c φ,c≠P->H c=some (.ext φ)->H' c=some (.ext φ):=fun c φ n e=>k c _ n trivial e
def jM.x {P lt:Addr} {H H':Hp} {xs:List V} (k:jM P lt H H') (e0:H lt=some (.lst xs)):∀ c φ,c≠P->H c=some (.ext φ)->H' c=some (.ext φ):=fun c φ n e=>k c _ n (fun z=>by rw [z,e0] at e; cases e) trivial e
def TS.ne {tl:List (Addr×Str)} {H:Hp} (h:TS tl H) {p:Addr×Str} (hp:p∈tl) {b:Addr} {o:HO} (no:∀ φ,o≠.ext φ) (e:H b=some o):b≠p.1:=fun z=>by
 obtain ⟨es,t⟩:=h p hp;rw [z,t.tab] at e; cases e; exact no _ rfl
def zZ:List (Str×Nat):=[("own",0),("guest",0)]
def M3:Hs:={ ts:=[{ kd := "folder",ow := "own",mi := "lgw",re := "lg",tx := "",aQ:=[],bP:=[] }],ro:=zZ,st:=zZ,tr:=[("main",0)],ov:=[],un:=[] }
def Jx:∀ z∈AS,aS (sD zZ) (.inr z)=some (.int ((0:Nat):Int)):=by
 intro z hz;unfold AS at hz;simp only [li,lv,wn] at hz;rcases hz with rfl | rfl <;> decide +kernel
def Y2:ir M3 1:=by
 refine ⟨⟨rfl,rfl,rfl,fun z hz=>⟨0,0,Jx z hz,Jx z hz,.refl,⟨_,rfl,rfl⟩,_,rfl,rfl⟩,by decide,by decide,⟨_,rfl,rfl⟩,fun k t ht=>?_⟩,ss 1⟩;cases k with
 | zero =>
  cases ht;exact ⟨wP _,.inl rfl,fun e=>absurd (show ("folder" : Str) = "lead" from e) (by decide +kernel),.inl ⟨rfl,rfl⟩,fun z v h=>by cases h⟩
 | succ k=>simp [M3] at ht
def Hz.same {CH CS CT:Addr} {A:Ad} {n:Nat} {H H':Hp} (h:Hz CH CS CT A n H) (s:ao H H'):Hz CH CS CT A n H':=let ⟨L,M,i,g⟩:=h; ⟨L,M,i.same s,g⟩
def VH {ts:List Th} {k:Nat} {t t':Th} (h:ts[k]?=some t) (e:t'.tx=t.tx):cA (ts.set k t')=cA ts:=by
 rw [<- Nl,e];refine List.ext_getElem? fun j=>?_;rw [List.getElem?_set];split
 ·rename_i hj;subst hj;have:(cA ts)[k]?=some (.str t.tx):=by unfold cA; rw [xL,h]; rfl
  rw [this];split
  ·rfl
  ·rename_i hk;exact absurd ((lm.mp this).1) hk
 ·rfl
structure iy (N:Cn) (tl:List (Addr×Str)) (A:Ad) (lt ll:Addr) (zs:List Int) (n:Nat) (H:Hp):Prop where
 h:nX N A lt n H
 ts:TS tl H
 l:H ll=some (.lst (zs.map V.int))
section
variable {N:Cn} {tl:List (Addr×Str)} {A:Ad} {lt ll st:Addr} {zs:List Int} {n:Nat} {H H':Hp}
def iy.same (j:iy N tl A lt ll zs n H) (s:ao H H'):iy N tl A lt ll zs n H':=⟨let ⟨L,M,i,g,e⟩:=j.h; ⟨L,M,i.same s,g,s _ _ e⟩,j.ts.ka (bO.of s),s _ _ j.l⟩
def iy.drawn (j:iy N tl A lt ll zs n H) (nl:ll≠st) (nt:lt≠st) (d:Dr st H) (k:cb st H H'):iy N tl A lt ll zs n H':=by
 refine ⟨let ⟨L,M,i,g,e⟩:=j.h; ⟨L,M,i.drawn g.g.ne d k,g,k _ _ nt e⟩,j.ts.kp fun b φ e=>k _ _ (fun z=>by obtain ⟨_,_,_,d⟩:=d; rw [z,d] at e; cases e) e,k _ _ nl j.l⟩
end
def Kh:List V->List V
 | [h,z,p,m]=>[h,z,p,m,.str "lgw"]
 | _=>[]
def La {T:Tx K mg} {H:Hp} {A:Ad} {L:List Ta} {M:Hs} {R:VK} {E:XK} (i:aH T.aI T.aP T.aW H A L M) (hn:M.ts.length<=60) (q:∀ l,H l=none->R (.ref l) (upd H l (.lst (cA M.ts)))) :
  MI T.aI (Str.ofString "many") (.ref A.a) H (z7 T.aI T.aP T.aW Ad.a [.ref A.a] H (fun x H1=>match [x] with
   | [.int j]=>(-2 ^ 62<=j/\j < 2 ^ 62)/\tm (jF 0 j.toNat) 1 [.ref A.a] (fV 0) mq (qT T.aI (Str.ofString "text_of") (gq T.aI T.aP T.aW Ad.a DM) [] E0 (iX 1) (oQ (iX 0) kO)) R H1
   | _=>False) E):=by
 obtain ⟨NZ,kc,kh,_,oY⟩:=i.h;have hl:(cA M.ts).length=M.ts.length:=nn _;refine mI kh oY ⟨A,L,M,i,rfl,⟨by omega,by omega⟩,AL M.ts.length (fun i ys H'=>H'=H/\ys=(cA M.ts).take i/\i<=M.ts.length) (by omega) ⟨rfl,rfl,wP _⟩ (fun i ys H1 h=>?_) (fun k ys H1 hk h R r=>?_) (fun ys H1 l h hl0=>?_)⟩
 ·obtain ⟨_,rfl,hi⟩:=h;rw [_c,hl]; omega
 ·obtain ⟨rfl,rfl,_⟩:=h;have ht:M.ts[k]?=some M.ts[k]:=mo hk;obtain ⟨a,ha⟩:=adr i.len ht;left;refine mI kh oY ⟨A,L,M,k,a,_,i,rfl,rfl,ha,ht,r _ _ ⟨rfl,?_,hk⟩⟩;rw [List.take_succ];unfold cA;rw [xL,ht];rfl
 ·obtain ⟨rfl,rfl,_⟩:=h;rw [show (cA M.ts).take M.ts.length=cA M.ts by rw [<- hl]; exact List.take_length];exact q l hl0
def RB {Pe Pr Pw Pk Pl:Addr} (C1:PySem.W.CodeHd base T.pJ Pe) (b1:base.BuiltinsAt mg Pe) (C2:PySem.W.CodeHd base T.oZ Pr) (b2:base.BuiltinsAt mg Pr) (C3:PySem.W.CodeHd base T.o9 Pw) (b3:base.BuiltinsAt mg Pw) (C4:PySem.W.CodeHd base T.pG Pk) (b4:base.BuiltinsAt mg Pk) (C:PySem.W.CodeHd base T.rA Pl) (jm:base.BuiltinsAt mg Pl) (rY:[Pe,Pr,Pw,Pk,Pl].Nodup) :
  aC P w K mg base (bo P w) 21 T.Fp T.vx ["_law_script"] (Cj K [(T.pJ,Pe),(T.oZ,Pr),(T.o9,Pw),(T.pG,Pk),(T.rA,Pl)]):=by
 have G_l_built:=aa0 (P:=P) (w:=w) (base:=base) T C1 b1;have G_l_read:=P6 (P:=P) (w:=w) (base:=base) T C2 b2;have G_l_written:=UI (P:=P) (w:=w) (base:=base) T C3 b3;have G_l_looked:=aaB (P:=P) (w:=w) (base:=base) T C4 b4;refine T.xu.tE iT (fun vs H Q E h=>?_) (fun ag A outer s H vs Q E bL hr h=>?_)
 ·exact cX h fun _ _=>rfl
 ·refine cX h fun a h=>?_;obtain ⟨⟨ns,hS⟩,hO,q⟩:=h;have LB_law:oK P w K mg base ["_law_house","_law_asker","_law_path_here","_law_mine"] tW (xn 4) (xM s.heap.objs.size) (fun vs=>MW T.cn (Kh vs)):=by
   intro f ag vs A outer s' H Q E hr hw;unfold Kh at hw;split at hw
   ·refine ⟨_,(cB (abO T) hr.m T.qz.m T.qz.F.kp T.qz.b .nil oB (aa (ad 0) (aa (ad 1) (aa (ad 2) (aa (ad 3) (aa ap ae)))))).h,?_⟩;simp only [xz,On];left;exact hw
   ·exact hw.elim
  refine bF (b:=aR l9) ((am (aO 1 iT.nd (im T.XU (QL T) hr.m T.Vt T.vc.b .nil au (aa ap ae)))
  (am (aV (bf T.aJ T.uc.h (PF T) hr.m T.uc.b .nil au (ad 1) (aa ap ae)))
  (am (wM J6 rfl (uu (K:=K) rfl (io (qI (K:=K) rfl) (ad 0) sI (oT bn))) (il 2 iT.nd) (aq (aV (cB G_l_built hr.m T.Tr T.xD.kp T.C0 .nil cz (aa (ad 1) (aa (ad 2) ae))))))
  (am (BD 3 rfl iT.nd (TN:=["_law_number"]) (caps:=["_law_house"]) (ix:=[1]) (tQ T.vh (aa (nH T.aJ T.kX.h (Az T) hr.m T.kX.b .nil au (ad 1)) ae)) (fun _ _ _ _=>by exact pR) (fun _ _ _ _=>by exact (il 0 (show List.Nodup (["_law_number","_law_house"]:List Str) by decide))) (fun _ _ _ _=>by exact (bf T.aJ T.gO.h (uo T) hr.m T.gO.b .nil au (ad 1) (aa (ad 0) ae))) (.of rfl (by exact ⟨rfl,trivial⟩) (by walk_at "c") rfl (by exact ⟨⟨rfl,rfl,rfl,rfl⟩,trivial⟩)))
  (am (wM J6 rfl (uu (K:=K) rfl (io (qI (K:=K) rfl) (ad 0) (oT bn) (oT bn))) (il 2 iT.nd) (am (aO 4 iT.nd (bv (He T) hr.m T.lb.m T.lb.F.kp T.lb.b .nil au (aa (ad 2) ae)))
  (am (aO 5 iT.nd (ce (bh (K:=K) rfl) (cr (aa ap (aa ap ae))) (bv (fD T) hr.m T.bH.m T.bH.F.kp T.bH.b .nil au (aa (ad 4) (aa bn ae)))))
  (am (aO 6 iT.nd (bv (Bh T) hr.m T.g8.m T.g8.F.kp T.g8.b .nil au (aa (ad 4) (aa bn ae))))
  (am (bu (cf ie (bv (fD T) hr.m T.bH.m T.bH.F.kp T.bH.b .nil au (aa (ad 4) (aa bn ae))) bn) (am (aO 7 iT.nd (cr (aa ap (aa ap (aa ap (aa ap (aa ap (aa ap ae))))))))
  (am (aO 8 iT.nd (ce (bh (K:=K) rfl) (ad 7) (bv (fD T) hr.m T.bH.m T.bH.F.kp T.bH.b .nil au (aa (ad 4) (aa bn ae)))))
  (aq (aV (ox (oi T) hr.m T.dq.m T.dq.F.kp T.dq.b di LB_law (Qy (bL.symm.trans T.SM) C jm) (abQ _) Xp))))) ci)
  (am (bu (dk (cK (cB G_l_written hr.m T.T6 T.yi.kp T.zf .nil cz (aa (ad 1) (aa (ad 3) (aa (ad 5) (aa (ad 6) (aa (bv (XD T) hr.m T.qA.m T.qA.F.kp T.qA.b .nil au (aa (ad 4) ae)) ae)))))))) (aq (aM ge)) ci)
  (am (aO 9 iT.nd (ce (bh (K:=K) rfl) (cr (aa ap (aa ap ae))) (bv (fD T) hr.m T.bH.m T.bH.F.kp T.bH.b .nil au (aa (ad 4) (aa bn ae)))))
  (aq (bu (ij (f8 (dk (cK (cB G_l_read hr.m T.T8 T.xh.kp T.Bj .nil cz (aa (ad 1) (aa (ad 3) (aa (ad 9) (aa (ad 6) ae))))))) (kq (dk (cK (cB G_l_looked hr.m T.abK T.wq.kp T.Ez .nil cz (aa (ad 1) (aa (ad 9) (aa (ad 6) ae))))))))) (aq (aM ge)) ci)))))))))
  (aq (aM (dL (jz (K:=K) 4 rfl hr.i0) (B7 rfl (TN:=["_law_number"]) (caps:=["_law_house"]) (ix:=[1]) (tQ T.vh (aa (nH T.aJ T.kX.h (Az T) hr.m T.kX.b .nil au (ad 1)) ae)) (fun _ _ _ _=>by exact pR) (fun _ _ _ _=>by exact (il 0 (show List.Nodup (["_law_number","_law_house"]:List Str) by decide))) (fun _ _ _ _=>by exact (bf T.aJ T.gO.h (uo T) hr.m T.gO.b .nil au (ad 1) (aa (ad 0) ae))) (.of rfl (by exact ⟨rfl,trivial⟩) (by walk_at "c") rfl (by exact ⟨⟨rfl,rfl,rfl,rfl⟩,trivial⟩))) (ad 3)))))))))) ?_
  rw [show start Ea [V.ref a]=[some (.ref a),none,none,none,none,none,none,none,none,none] from rfl];obtain ⟨tl,lK⟩:∃ tl:List (Addr×Str),tl=[(Pe,iw),(Pr,oN),(Pw,mC),(Pk,mf),(Pl,tW)]:=⟨_,rfl⟩;have nd:(tl.map (·.1)).Nodup:=by rw [lK]; exact rY
  have m1:(Pe,iw)∈tl:=by rw [lK]; simp
  have m2:(Pr,oN)∈tl:=by rw [lK]; simp
  have m3:(Pw,mC)∈tl:=by rw [lK]; simp
  have m4:(Pk,mf)∈tl:=by rw [lK]; simp
  have m5:(Pl,tW)∈tl:=by rw [lK]; simp
  have OV:TS tl H:=fun p hp=>by
   rw [lK] at hp;simp only [li,lv,wn] at hp;rcases hp with rfl | rfl | rfl | rfl | rfl
   ·exact ⟨[],hO.ok (c:=T.pJ) _ (by simp)⟩
   ·exact ⟨[],hO.ok (c:=T.oZ) _ (by simp)⟩
   ·exact ⟨[],hO.ok (c:=T.o9) _ (by simp)⟩
   ·exact ⟨[],hO.ok (c:=T.pG) _ (by simp)⟩
   ·exact ⟨[],hO.ok (c:=T.rA) _ (by simp)⟩
  have fin:∀ {H':Hp},TS tl H'->Q (.bl true) H':=fun {H'} h=>q H' fun qq hq=>by
   rw [lK] at h;simp only [li,lv,wn] at hq;rcases hq with rfl | rfl | rfl | rfl | rfl
   ·exact let ⟨es,t⟩:=h (Pe,iw) (by simp); ⟨es,t.tab⟩
   ·exact let ⟨es,t⟩:=h (Pr,oN) (by simp); ⟨es,t.tab⟩
   ·exact let ⟨es,t⟩:=h (Pw,mC) (by simp); ⟨es,t.tab⟩
   ·exact let ⟨es,t⟩:=h (Pk,mf) (by simp); ⟨es,t.tab⟩
   ·exact let ⟨es,t⟩:=h (Pl,tW) (by simp); ⟨es,t.tab⟩
  clear lK rY;have OJ:mV K H a ns:=by
   rcases hS with hS | hS
   ·rcases hS with hS | hS
    ·rcases hO.all a with z | ⟨o,xs,z⟩ | ⟨qq,hq,z⟩
     ·rw [z] at hS; cases hS
     ·rw [z] at hS; cases hS
     ·have z2:=hO.tab qq hq;rw [<- z,hS] at z2; cases z2
    ·exact .inr hS
   ·exact .inl fun J=>.inr hS
  right;intro x dx hx lR dS;refine ⟨⟨dx,ax⟩,by decide +kernel,by decide +kernel,fun A1 L1 H2 hA1 i2 pq iF=>⟨rfl,?_⟩⟩;subst hA1;have k2:bO H H2:=fun b o ho e=>iF _ _ (by rw [AT]; exact aK e hx) (by rw [ah (aK e hx),ah (aK e lR)]; exact e);obtain ⟨iH,gc,gh,m6,c9⟩:=i2.h;right;refine mI gh c9 ⟨A1,L1,_,i2,rfl,by decide +kernel,by decide +kernel,by decide,by decide,by decide +kernel,by decide +kernel,fun H3 i3 k3=>?_⟩;have k4':=k2.trans (i2.off (by nofun) (W:=[A1.a,A1.ro,A1.st]) (fun b hb=>by
   simp only [li,lv,wn] at hb;rcases hb with rfl | rfl | rfl <;> simp [Ad.w]) k3)
  have h4:Hz T.cn.CH T.cn.CS T.cn.CT A1 1 H3:=⟨L1,M3,i3,Y2⟩;have ts4:=OV.ka k4';have NJ:=OJ.kp fun o e=>k4' _ _ trivial e;clear i2 i3 k2 k3 k4' OV OJ gh c9 iF pq;refine kS (fun σ' H'=>(∃ n,n<=21/\Hz T.cn.CH T.cn.CS T.cn.CT A1 n H')/\TS tl H'/\mV K H' a ns/\∃ t1,σ'=[some (.ref a),some (.ref A1.a),t1,none,none,none,none,none,none,none]) ?_ ?_
  ·left;refine ⟨_,NJ.sq,fun ll rT=>⟨⟨_,aD.of ax⟩,?_⟩⟩;obtain ⟨zs,ez,hzl⟩:=LA ns none 20;rw [show ((20:Nat):Int)=20 from rfl] at ez;rw [ez];refine ee (o:=.lst (zs.map V.int)) rT fun H5 s5 b5=>?_;refine Du (xs:=zs.map V.int) (fun i σ' H'=>(Hz T.cn.CH T.cn.CS T.cn.CT A1 (1+i) H'/\TS tl H'/\mV K H' a ns/\H' ll=some (.lst (zs.map V.int)))/\∃ t1,σ'=[some (.ref a),some (.ref A1.a),t1,none,none,none,none,none,none,none]) ⟨⟨h4.same s5,ts4.ka (bO.of s5),NJ.kp fun o e=>s5 _ _ e,b5⟩,_,rfl⟩ (fun i σ' H' _ h=>aD.of h.1.2.2.2) ?_ ?_
   ·rintro i x σ' H6 hx ⟨⟨jh,jt,js,jl⟩,t1,rfl⟩;obtain ⟨m,hm,rfl⟩:=AC.mp (KK hx);have hi:=(lm.mp hx).1;rw [nn] at hi;obtain ⟨es,te⟩:=jt _ m1;left;refine ⟨A1,1+i,es,jh,rfl,by omega,te,fun v es' H7 h7 t7 k7=>?_⟩;exact ⟨⟨by rw [<- Nat.add_assoc]; exact h7,jt.step nd m1 k7.x ⟨es',t7⟩,js.kp fun o e=>k7 _ _ (jt.ne m1 (by nofun) e) trivial e,k7 _ _ (jt.ne m1 (by nofun) jl) (mB zs) jl⟩,_,rfl⟩
   ·rintro σ' H6 ⟨⟨jh,jt,js,jl⟩,t1,rfl⟩;rw [nn] at jh;exact ⟨⟨_,by omega,jh⟩,jt,js,_,rfl⟩
  ·rintro σ' H5 ⟨⟨n,hn,L,M,i5,g5⟩,Ow,OK,t1,rfl⟩;have mM:=g5.n;right;refine ⟨[.ref A1.a],cC rfl jH,La i5 (by omega) fun lt bD=>?_⟩;refine ee (o:=.lst (cA M.ts)) bD fun H6 s6 b6=>?_;have h6:nX T.cn A1 lt n H6:=⟨L,M,i5.same s6,g5,b6⟩;have NG:=Ow.ka (bO.of s6);have NC:=OK.kp fun o e=>s6 _ _ e;clear i5 g5 Ow OK s6 b6 bD mM;refine kS (fun σ' H'=>nX T.cn A1 lt n H'/\TS tl H'/\∃ t1 t2 t3 t4 t5 t6 t7,σ'=[some (.ref a),some (.ref A1.a),t1,some (.ref lt),t2,t3,t4,t5,t6,t7]) ?_ ?_
   ·left;refine ⟨_,NC.sq,fun ll rT=>⟨⟨_,aD.of ax⟩,?_⟩⟩;obtain ⟨zs,ez,hzl⟩:=LA ns (some 20) 50;rw [show ((50:Nat):Int)=50 from rfl] at ez;rw [ez];have j7:iy T.cn tl A1 lt ll zs n (upd H6 ll (.lst (zs.map V.int))):=by
     have s7:=ao.upd (o:=.lst (zs.map V.int)) rT;exact ⟨let ⟨L,M,i,g,e⟩:=h6; ⟨L,M,i.same s7,g,s7 _ _ e⟩,NG.ka (bO.of s7),ax⟩
    have E5:ll≠lt:=fun z=>by obtain ⟨_,_,_,_,e⟩:=h6; rw [<- z,rT] at e; cases e
    generalize upd H6 ll (.lst (zs.map V.int))=H7 at j7 ⊢;refine Du (xs:=zs.map V.int) (fun i σ' H'=>iy T.cn tl A1 lt ll zs n H'/\∃ t1 t2 t3 t4 t5 t6 t7,σ'=[some (.ref a),some (.ref A1.a),t1,some (.ref lt),t2,t3,t4,t5,t6,t7]) ⟨j7,_,_,_,_,_,_,_,rfl⟩ (fun i σ' H' _ h=>aD.of h.1.l) ?_ ?_
    ·clear j7 h6 NG NC;rintro i x σ' H7 hx ⟨j,t1,t2,t3,t4,t5,t6,t7,rfl⟩;obtain ⟨m,hm,rfl⟩:=AC.mp (KK hx);left;right;intro st a0 b0 c0 aU;have nl:ll≠st:=fun z=>by have:=j.l; rw [z,aU] at this; cases this
     have nt:lt≠st:=fun z=>by obtain ⟨_,_,_,_,e⟩:=j.h; rw [z,aU] at e; cases e
     have j8:=j.same (ao.upd (o:=.lst [.int a0,.int b0,.int c0]) aU);have d8:Dr st (upd H7 st (.lst [.int a0,.int b0,.int c0])):=⟨a0,b0,c0,ax⟩;generalize upd H7 st (.lst [.int a0,.int b0,.int c0])=H8 at j8 d8 ⊢;right;refine iR d8 rfl (by simp) (by simp) fun v H9 hv d9 k9=>?_;have as:∀ {v},v∈[V.str (Str.ofString "own"),V.str (Str.ofString "guest")]->∃ z,z∈AS/\v=V.str z:=fun hv=>by
      simp only [li,lv,wn] at hv;rcases hv with rfl | rfl <;> exact ⟨_,by decide +kernel,rfl⟩
     obtain ⟨z,hz,rfl⟩:=as hv;have j9:=j8.drawn nl nt d8 k9;right;refine ⟨d9,by decide,by decide,fun t rK hp d10 jW=>?_⟩;have Nw:=j9.drawn nl nt d9 jW;clear j8 j9 d8 d9 k9 jW j;refine kS (fun σ' H'=>iy T.cn tl A1 lt ll zs n H'/\Dr st H'/\∃ t5 t6,σ'=[some (.ref a),some (.ref A1.a),some (.int m),some (.ref lt),some (.ref st),some (.str z),some (.str (Tx.S t)),t5,t6,t7]) ?_ ?_
     ·left;refine mX d10 (by decide) (by decide) fun dg H11 _ _ m8 FJ=>?_;have rF:=Nw.drawn nl nt d10 FJ;refine mS (fun _=>?_) (fun _=>⟨rF,m8,_,_,rfl⟩);right;refine ⟨fits (by simp),fun ps gB=>?_⟩;generalize hSL:[V.str (Str.ofString ""),V.str (Str.ofString "l"),V.str (Str.ofString "w"),V.str (Str.ofString "lw"),V.str (Str.ofString "lgw"),V.str (Str.ofString "lg")]=SL;have j0:=ao.upd (o:=.lst SL) gB;have Fu:upd H11 ps (.lst SL) ps=some (.lst SL):=ax;have np:=m8.ne gB;generalize upd H11 ps (.lst SL)=H12 at j0 Fu ⊢;have iD:=rF.same j0;have r6:=m8.same j0;right;refine mX r6 (by decide) (by decide) fun dm H13 e0 e1 vK o7=>?_;have pC:=iD.drawn nl nt r6 o7;obtain ⟨v,hv,e⟩:=pick (xs:=SL) e0 (by rw [<- hSL]; exact e1);obtain ⟨mi,kR,rfl⟩:∃ z,z∈iu/\v=V.str z:=by
       rw [<- hSL] at hv;simp only [li,lv,wn] at hv;rcases hv with rfl | rfl | rfl | rfl | rfl | rfl <;> exact ⟨_,by decide +kernel,rfl⟩
      simp only [bJ,o7 _ _ np Fu];rw [e];left;clear hSL hv e Fu iD r6 rF m8 Nw d10;obtain ⟨es,NO⟩:=pC.ts _ m5;refine ⟨es,[.ref A1.a,.str z,.str (Tx.S t),.str mi],NO,cC rfl (cC rfl (cC rfl (cC rfl jH))),fun c H14 yI=>⟨yI.code,?_⟩⟩;have nx:=nF yI NO;obtain ⟨L,M,i,g,e⟩:=pC.h;have Gv:=i.gb nx;have ja:iy T.cn tl A1 lt ll zs n H14:=⟨⟨L,M,Gv,g,nx.s.l e⟩,pC.ts.step nd m5 (tK yI).x yI.tab,nx.s.l pC.l⟩;have yK:Dr st H14:=let ⟨x,y,z,e⟩:=vK; ⟨x,y,z,nx.s.l e⟩
      have mM:=g.n;have eK:=hp.l2;obtain ⟨root,x,hx⟩:=abU (L:=L) g.g i.len (by omega) hz (t:=t) ⟨hp.l1,by omega,hp.all⟩;refine ⟨A1,L,M,root,t,x,rfl,Gv,rfl,hx,kR,by decide +kernel,fun y _=>Mn (fun v H2 s=>⟨ja.same s,yK.same s,_,_,rfl⟩) y,fun k a' th ex ha aG H15 i15 vA p H16 s16 _ _=>?_⟩;subst ex;obtain ⟨th',hth',gC⟩:∃ t,M.ts[k]?=some t/\t.kd≠("lead" : Str):=by
       cases hx with
       | ok pw hf=>exact pw.nl g.g hz hf
      rw [aG] at hth'; cases hth';have kA:=Gv.off g.g.ne (W:=[A1.t,a'.th]) (fun b hb=>by
       simp only [li,lv,wn] at hb;rcases hb with rfl | rfl
       ·simp [Ad.w]
       ·exact wE _ (jv ha (by simp [Ta.l]))) vA
      have kB:=kA.trans (bO.of s16);refine ⟨⟨⟨L,_,i15.same s16,g.chg (t':={ th with mi:=mi,re := "lgw" }) aG rfl rfl rfl gC,?_⟩,ja.ts.ka kB,kB _ _ (mB zs) ja.l⟩,let ⟨x,y,z,e⟩:=yK; ⟨x,y,z,kB _ _ (mB [x,y,z]) e⟩,_,_,rfl⟩;rw [show cA (M.ts.set k { th with mi:=mi,re := "lgw" })=cA M.ts from VH aG rfl];exact kB lt (.lst (cA M.ts)) (wD _) (nx.s.l e)
     ·rintro σ' H11 ⟨rF,m8,t5,t6,rfl⟩;right;refine ⟨m8,fun tx H12 o6 r6 k12=>?_⟩;have iD:=rF.drawn nl nt m8 k12;obtain ⟨es,tw⟩:=iD.ts _ m3;obtain ⟨_,M,_,_,Oc⟩:=iD.h;refine ⟨A1,n,t,es,rfl,iD.h,rfl,by omega,hz,hp,o6,tw,fun es' H13 EO NQ o7=>bg (ai ?_)⟩;have pC:iy T.cn tl A1 lt ll zs n H13:=⟨EO,iD.ts.step nd m3 (o7.x Oc) ⟨es',NQ⟩,o7 _ _ (iD.ts.ne m3 (by nofun) iD.l) E5 (mB zs) iD.l⟩;have vK:Dr st H13:=let ⟨x,y,z,e⟩:=r6; ⟨x,y,z,o7 _ _ (iD.ts.ne m3 (by nofun) e) (pi nt) (mB [x,y,z]) e⟩
      clear rF iD m8 r6 k12 tw Oc NQ o7;left;refine iR vK rfl (by simp) (by simp) fun v H14 hv yK k14=>?_;obtain ⟨z2,Pf,rfl⟩:=as hv;have ja:=pC.drawn nl nt vK k14;left;obtain ⟨es,tr⟩:=ja.ts _ m2;refine ⟨A1,n,t,es,rfl,ja.h,rfl,by omega,Pf,hp,tr,fun es' H15 Ob N2 vA=>bg ?_⟩;have rJ:iy T.cn tl A1 lt ll zs n H15:=⟨Ob,ja.ts.step nd m2 vA.x ⟨es',N2⟩,vA _ _ (ja.ts.ne m2 (by nofun) ja.l) (mB zs) ja.l⟩;clear pC ja vK yK k14 tr N2 vA;obtain ⟨L,M,i,g,e⟩:=Ob;obtain ⟨es,tk⟩:=rJ.ts _ m4;exact ⟨A1,L,M,n,t,es,rfl,i,g,rfl,by omega,Pf,hp,tk,fun es' H16 i16 t16 Fs=>bg ⟨⟨⟨L,M,i16,g,Fs lt (.lst (cA M.ts)) (rJ.ts.ne m4 (by nofun) e) (wD _) e⟩,rJ.ts.step nd m4 Fs.x ⟨es',t16⟩,Fs _ _ (rJ.ts.ne m4 (by nofun) rJ.l) (mB zs) rJ.l⟩,_,_,_,_,_,_,_,rfl⟩⟩
    ·rintro σ' H8 ⟨j,hh⟩;exact ⟨j.h,j.ts,hh⟩
   ·rintro σ' H7 ⟨⟨L,M,i7,g7,e7⟩,ts7,t1,t2,t3,t4,t5,t6,t7,rfl⟩;left;have mM:=g7.n;refine ⟨[.ref A1.a],cC rfl jH,La i7 (by omega) fun l8 pB=>?_⟩;have s8:=ao.upd (o:=.lst (cA M.ts)) pB;exact ⟨_,_,.inl ⟨aD.of ax,aD.of (s8 _ _ e7)⟩,rfl,DE.gp (by rw [At]; intro v hv; obtain ⟨_,_,rfl⟩:=AC.mp hv; rfl),fin (ts7.ka (bO.of s8))⟩
end
def Sf {K:PySem.W.Frag} {a:Addr} {od:Option Addr} {tk:Nat} {sl:Array (Option Value)} {t0 t1:Tok} (l:K.lookup a=some ⟨.type "tuple",od,.seq ([.str "." t0,.str ".." t1]:List Value).toArray tk,sl⟩) (H:Hp):bw K H a [.str ".",.str ".."]:=.inr ⟨_,_,_,l,rfl,rfl,fits (by simp),(.cons ⟨_,rfl⟩ (.cons ⟨_,rfl⟩ .nil))⟩
def Qk {K:PySem.W.Frag} {a:Addr} {od:Option Addr} {tk:Nat} {sl:Array (Option Value)} {t0 t1 t2 t3 t4 t5 t6 t7:Tok} (l:K.lookup a=some ⟨.type "tuple",od,.seq ([.str "" t0,.str "l" t1,.str "g" t2,.str "w" t3,.str "lg" t4,.str "lw" t5,.str "gw" t6,.str "lgw" t7]:List Value).toArray tk,sl⟩) (H:Hp):bw K H a [.str "",.str "l",.str "g",.str "w",.str "lg",.str "lw",.str "gw",.str "lgw"]:=.inr ⟨_,_,_,l,rfl,rfl,fits (by simp),(.cons ⟨_,rfl⟩ (.cons ⟨_,rfl⟩ (.cons ⟨_,rfl⟩ (.cons ⟨_,rfl⟩ (.cons ⟨_,rfl⟩ (.cons ⟨_,rfl⟩ (.cons ⟨_,rfl⟩ (.cons ⟨_,rfl⟩ .nil))))))))⟩
def Zd {K:PySem.W.Frag} {a:Addr} {od:Option Addr} {tk:Nat} {sl:Array (Option Value)} {t0 t1 t2:Tok} (l:K.lookup a=some ⟨.type "tuple",od,.seq ([.str "l" t0,.str "g" t1,.str "w" t2]:List Value).toArray tk,sl⟩) (H:Hp):bw K H a [.str "l",.str "g",.str "w"]:=.inr ⟨_,_,_,l,rfl,rfl,fits (by simp),(.cons ⟨_,rfl⟩ (.cons ⟨_,rfl⟩ (.cons ⟨_,rfl⟩ .nil)))⟩
def TK {K:PySem.W.Frag} {H:Hp} {a:Addr} {ns:List Int} {tabs:oz} (hO:oR tabs H) (hS:aD K H a (ns.map V.int)):Cj K tabs [.ref a] H (fun v H'=>v=.bl true/\yo tabs H') fun _ _ _=>False:=⟨⟨ns,hS⟩,hO,fun H' t=>⟨rfl,t⟩⟩
def VX {P:Program} {w:World} {outer:List Env} {H:Hp} {s s':Shared} {e:Value} (z:bo P w outer H s (fun _ _ _=>False) e s'):False:=by
 obtain ⟨_,_,_,_,_,_,z⟩:=z;exact z
def RO {l:PySem.W.OpenLaw} {q:Program} {loose:List Str} {XP:(Str->Option Value)->Heap->Prop} {YP:World->Heap->Prop} {d:DefRec} {K:Params->PySem.W.Frag} {c0 p0 c1 p1 c2 p2 c3 p3 c4 p4:Addr} (hn:l.most=some 63) (vF:d.params.defaults=[]) (lF:d.name = "law")
  (hY:∀ (w:World) (h:Heap),YP w h->(K w.params).In h) (pI:∀ w:World,PySem.W.noTabs (K w.params)=true)
  (rB:∀ w:World,∃ e,(recsOf q).find? (fun e=>e.name == ("_law_built" : Str))=some e/\PySem.W.tabIn (K w.params) "_law_built" = some (c0,p0))
  (gZ:∀ w:World,∃ e,(recsOf q).find? (fun e=>e.name == ("_law_read" : Str))=some e/\PySem.W.tabIn (K w.params) "_law_read" = some (c1,p1))
  (eW:∀ w:World,∃ e,(recsOf q).find? (fun e=>e.name == ("_law_written" : Str))=some e/\PySem.W.tabIn (K w.params) "_law_written" = some (c2,p2))
  (FK:∀ w:World,∃ e,(recsOf q).find? (fun e=>e.name == ("_law_looked" : Str))=some e/\PySem.W.tabIn (K w.params) "_law_looked" = some (c3,p3))
  (vk:∀ w:World,∃ e,(recsOf q).find? (fun e=>e.name == ("law" : Str))=some e/\PySem.W.tabIn (K w.params) "law" = some (c4,p4))
  (rY:[p0,p1,p2,p3,p4].Nodup)
  (F:∀ (w:World) (mg:Str->Option Value) (h:Heap),(K w.params).In h->h.Ns mainGlobals mg->∃ T:Tx (K w.params) mg,T.pJ=c0/\T.oZ=c1/\T.o9=c2/\T.pG=c3/\T.rA=c4) :
  PySem.W.WalkO q loose XP YP l.row.toRowW d [] (fun f vs=>PySem.call f vs) :=
 L2.UG (n:=63) (k:=21) (x := "_law_script") (CX:=fun w=>bo l.prog w) (sp:=fun w=>Cj (K w.params) [(c0,p0),(c1,p1),(c2,p2),(c3,p3),(c4,p4)]) (tabs:=[(c0,p0),(c1,p1),(c2,p2),(c3,p3),(c4,p4)]) hn (by decide) vF ⟨rfl,by decide,by decide⟩ hY pI
  (fun w t ht=>by
   simp only [li,lv,wn] at ht;rcases ht with rfl | rfl | rfl | rfl | rfl
   ·exact let ⟨e,h1,h2⟩:=rB w; ⟨_,e,h1,h2⟩
   ·exact let ⟨e,h1,h2⟩:=gZ w; ⟨_,e,h1,h2⟩
   ·exact let ⟨e,h1,h2⟩:=eW w; ⟨_,e,h1,h2⟩
   ·exact let ⟨e,h1,h2⟩:=FK w; ⟨_,e,h1,h2⟩
   ·exact let ⟨e,h1,h2⟩:=vk w; ⟨_,e,h1,h2⟩)
  (fun w mg fa h KX G hfa=>by
   obtain ⟨T,rfl,rfl,rfl,rfl,rfl⟩:=F w mg h KX G;rw [lF] at hfa;have e:=hfa.symm.trans T.ZJ;cases e;refine ⟨T.vx,fun s u=>by obtain ⟨oc,od,kV,doc,pm,an,ag,ct,da,e,_⟩:=T.xu.ex; rw [e]; exact .of_eq rfl,fun base _ _ hb=>?_⟩;have g0:=hb (T.pJ,p0) (by simp);have g1:=hb (T.oZ,p1) (by simp);have g2:=hb (T.o9,p2) (by simp);have g3:=hb (T.pG,p3) (by simp);have g4:=hb (T.rA,p4) (by simp);exact RB T g0.1 g0.2 g1.1 g1.2 g2.1 g2.2 g3.1 g3.2 g4.1 g4.2 rY)
  (fun _ _ a ns _ hO hS=>TK hO hS) fun _ _ _ _ _ z=>VX z
end L2.bN

open PySem PySem.W PyProof.Rows
local macro_rules | `(tactic| walk_at "fa")=>`(tactic| (refine' L2.FA.mk ?n ?l ?c ?k; (case n=>k_is); (case l=>k_is); (case c=>k_is); (case k=>k_is)))
local macro_rules | `(tactic| walk_at "ma")=>`(tactic| (refine' L2.MA.mk ?n ?l ?c ?k ?t; (case n=>k_is); (case l=>k_is); (case c=>k_is); (case k=>k_is); (case t=>k_is)))
local macro_rules | `(tactic| walk_at "ar")=>`(tactic| (intro _ _ _ _ _ _; first | (refine L2.Ii ?_; exact fun _=>rfl) | (refine L2.GS ?_; exact fun _ _=>rfl) | (refine L2.xq ?_; exact fun _ _ _=>rfl) | (refine L2.ur ?_; exact fun _ _ _ _=>rfl) | (refine L2.yl ?_; exact fun _ _ _ _ _=>rfl) | (refine L2.Bk ?_; exact fun _ _ _ _ _ _=>rfl) | (refine L2.Qw ?_; exact fun _ _ _ _ _ _ _=>rfl) | (refine L2.LU ?_; exact rfl)))
local macro_rules | `(tactic| walk_at "mg")=>`(tactic| (refine' PySem.W.mg_of (by assumption) (by assumption) ?n; (case n=>k_is)))
local macro_rules | `(tactic| walk_at "mn")=>`(tactic| (refine' PySem.W.mg_none_of (by assumption) (by assumption) ?n; (case n=>k_is)))
local macro_rules | `(tactic| walk_at "ft")=>`(tactic| (refine' Classical.choice (L2.FA.gt (by assumption) (by assumption) ?b ?a); (case a=>walk_at "fa"); (case b=>walk_at "ar")))
local macro_rules | `(tactic| walk_at "mt")=>`(tactic| (refine' Classical.choice (L2.MA.gt ?b ?a); (case a=>walk_at "ma"); (case b=>walk_at "ar")))
local macro_rules | `(tactic| walk_at "mk")=>`(tactic| (refine' L2.Ri ?a ?b; (case a=>k_is); (case b=>k_is)))
local macro_rules | `(tactic| walk_at "xf")=>`(tactic| (refine' L2.Yp ?a ?b ?c ?d ?e ?f ?g; (case a=>kernel_rfl); (case b=>k_is); (case c=>k_is); (case d=>k_is); (case e=>k_is); (case f=>k_is); (case g=>k_is)))
local macro_rules | `(tactic| walk_at "cl")=>`(tactic| (refine' L2.cS.mk ?a ?b ?c ?d; (case a=>k_is); (case b=>k_is); (case c=>k_is); (case d=>k_is)))
local macro_rules | `(tactic| walk_at "fu")=>`(tactic| (refine' L2.Bg ?l ?c ?k; (case l=>k_is); (case c=>k_is); (case k=>k_is)))
local macro_rules | `(tactic| walk_at "fd")=>`(tactic| (refine' L2.abj ?l ?c ?k ?d ?h; (case l=>k_is); (case c=>k_is); (case k=>k_is); (case d=>k_is); (case h=>exact rfl)))
set_option maxRecDepth 100000 in
set_option maxHeartbeats 0 in
theorem PySem.Challenge.cw_leadnames_k47_read_written_looked_holds : PySem.Challenge.rw_leadnames_k47_read_written_looked.Holds := by
 refine L2.bN.hd0 ?_;unfold L2.bN.eZ
 k_fill
 refine L2.bN.RO (l:=PySem.Challenge.rw_leadnames_k47_read_written_looked) (c0:=?z0) (p0:=?y0) (c1:=?z1) (p1:=?y1) (c2:=?z2) (p2:=?y2) (c3:=?z3) (p3:=?y3) (c4:=?z4) (p4:=?y4) rfl rfl rfl (fun w h Y=>PySem.W.km_in_of (e:=fun _=>by kernel_rfl) Y) ?pI ?rB ?gZ ?eW ?FK ?vk ?rY ?F
 case pI=>intro w; first | kernel_rfl | exact rfl
 case rB =>
  intro w;refine' ⟨_,rfl,L2.ub ?n0 ?l0 ?c0 ?lc0 ?v0⟩
  (case n0=>k_is)
  (case l0=>k_is)
  (case c0=>exact rfl)
  (case lc0=>k_is)
  (case v0=>exact rfl)
 case gZ =>
  intro w;refine' ⟨_,rfl,L2.ub ?n1 ?l1 ?c1 ?lc1 ?v1⟩
  (case n1=>k_is)
  (case l1=>k_is)
  (case c1=>exact rfl)
  (case lc1=>k_is)
  (case v1=>exact rfl)
 case eW =>
  intro w;refine' ⟨_,rfl,L2.ub ?n2 ?l2 ?c2 ?lc2 ?v2⟩
  (case n2=>k_is)
  (case l2=>k_is)
  (case c2=>exact rfl)
  (case lc2=>k_is)
  (case v2=>exact rfl)
 case FK =>
  intro w;refine' ⟨_,rfl,L2.ub ?n3 ?l3 ?c3 ?lc3 ?v3⟩
  (case n3=>k_is)
  (case l3=>k_is)
  (case c3=>exact rfl)
  (case lc3=>k_is)
  (case v3=>exact rfl)
 case vk =>
  intro w;refine' ⟨_,rfl,L2.ub ?n4 ?l4 ?c4 ?lc4 ?v4⟩
  (case n4=>k_is)
  (case l4=>k_is)
  (case c4=>exact rfl)
  (case lc4=>k_is)
  (case v4=>exact rfl)
 case rY=>decide
 case F =>
  intro w mg h KX G;refine' ⟨L2.bN.Tx.mk ?_ ?_ ?_ ?_ ?_ ?_ ?_ ?_ ?_ ?_ ?_ ?_ ?_ ?_ ?_ ?_ ?_ ?_ ?_ ?sL ?_ ?Jy ?wk ?_ ?_ ?_ ?_ ?_ ?_ ?_ ?_ ?_ ?_ ?_ ?_ ?_ ?xQ ?_ ?Cr ?Hl ?IY ?xw ?_ ?zN ?MP ?Jz ?_ ?_ ?_ ?_ ?_ ?_ ?_ ?_ ?_ ?_ ?_ ?_ ?xD ?_ ?C0 ?_ ?_ ?_ ?_ ?xh ?_ ?Bj ?yi ?_ ?zf ?wq ?_ ?Ez ?xu ?_ ?MB ?_ ?BW ?_ ?_ ?_ ?_ ?_ ?_ ?_ ?_ ?_ ?_ ?_ ?_ ?_ ?_ ?_ ?_ ?_ ?_ ?_ ?_ ?BN ?_ ?_ ?BJ ?_ ?_ ?_ ?_ ?_ ?_ ?_ ?_ ?_ ?_ ?_ ?_ ?_ ?_ ?_ ?_ ?_ ?_ ?_ ?_ ?_ ?_ ?_ ?_ ?_ ?_ ?_ ?_ ?_ ?_ ?_ ?_ ?_ ?_ ?_ ?_ ?_ ?_ ?_ ?_ ?_ ?_ ?_ ?_ ?_ ?_ ?_ ?_ ?_ ?_ ?_ ?_ ?_ ?_ ?_ ?_ ?_ ?_ ?_ ?_ ?_ ?_ ?_ ?_ ?_ ?_ ?_ ?_ ?_ ?_ ?_ ?_ ?_ ?_ ?_ ?_ ?_ ?_ ?_ ?_ ?_ ?_ ?_ ?_ ?_ ?_ ?_ ?_ ?_ ?_ ?_ ?_ ?_ ?_ ?_ ?_ ?_ ?_ ?_ ?_ ?_ ?_ ?_ ?_ ?_ ?_ ?_ ?_ ?_ ?_ ?_ ?_ ?_ ?_ ?_ ?_ ?_ ?_ ?_ ?_ ?_ ?_ ?_ ?_ ?_ ?_ ?_ ?_ ?_ ?_ ?_ ?_ ?_ ?_ ?_ ?_ ?_ ?_ ?_ ?_ ?_ ?_ ?_ ?_ ?_ ?_ ?_ ?_ ?_ ?_ ?_ ?_ ?_ ?_ ?_ ?_ ?_ ?_ ?_ ?_ ?_ ?_ ?_ ?_ ?_ ?_ ?_ ?_ ?_ ?_ ?_ ?_ ?_,rfl,rfl,rfl,rfl,rfl⟩

  all_goals try (first | walk_at "mg" | walk_at "ft" | walk_at "mt" | k_is | (show PySem.W.findIn _ _ _=some none; k_is) | walk_at "mn" | kit_is | k_exc | walk_at "mk" | walk_at "cl" | walk_at "xf" | exact rfl | kernel_rfl)
  (case BW=>(refine' L2.bN.Sf ?l_DOTS; (case l_DOTS=>k_is)))
  (case BN=>(refine' L2.bN.Qk ?l_RIGHTS; (case l_RIGHTS=>k_is)))
  (case BJ=>(refine' L2.bN.Zd ?l_SINGLE_RIGHTS; (case l_SINGLE_RIGHTS=>k_is)))
  (case sL=>walk_at "fd")
  (case Jy=>exact L2.mv (x := "walk") (y := "walk") (st:=L2.bN.vd) (ds:=[.bool true]) 1 (by k_is) (by exact rfl) (fun _ _ _ _ _ _ _ us hl=>by (have e:us.length=4:=(by have h:=hl; rw [List.length_append] at h; simp at h; omega)); clear hl; revert us; refine L2.ur ?_; exact fun _ _ _ _=>⟨_,rfl,rfl⟩))
  (case wk=>exact L2.mv (x := "walk") (y := "walk") (st:=L2.bN.vd) (ds:=[.bool true]) 0 (by k_is) (by exact rfl) (fun _ _ _ _ _ _ _ us hl=>by (have e:us.length=3:=(by have h:=hl; rw [List.length_append] at h; simp at h; omega)); clear hl; revert us; refine L2.xq ?_; exact fun _ _ _=>⟨_,rfl,rfl⟩))
  (case xQ=>walk_at "fd")
  (case Cr=>exact L2.mv (x := "make_folder") (y := "make_folder") (st:=L2.bN.qY) (ds:=[.str "lgw" _,.str "" _]) 2 (by k_is) (by exact rfl) (fun _ _ _ _ _ _ _ us hl=>by (have e:us.length=5:=(by have h:=hl; rw [List.length_append] at h; simp at h; omega)); clear hl; revert us; refine L2.yl ?_; exact fun _ _ _ _ _=>⟨_,rfl,rfl⟩))
  (case Hl=>exact L2.mv (x := "make_folder") (y := "make_folder") (st:=L2.bN.qY) (ds:=[.str "lgw" _,.str "" _]) 1 (by k_is) (by exact rfl) (fun _ _ _ _ _ _ _ us hl=>by (have e:us.length=4:=(by have h:=hl; rw [List.length_append] at h; simp at h; omega)); clear hl; revert us; refine L2.ur ?_; exact fun _ _ _ _=>⟨_,rfl,rfl⟩))
  (case IY=>exact L2.mv (x := "make_folder") (y := "make_folder") (st:=L2.bN.qY) (ds:=[.str "lgw" _,.str "" _]) 0 (by k_is) (by exact rfl) (fun _ _ _ _ _ _ _ us hl=>by (have e:us.length=3:=(by have h:=hl; rw [List.length_append] at h; simp at h; omega)); clear hl; revert us; refine L2.xq ?_; exact fun _ _ _=>⟨_,rfl,rfl⟩))
  (case xw=>walk_at "fd")
  (case zN=>exact L2.mv (x := "make_file") (y := "make_file") (st:=L2.bN.qr) (ds:=[.str "lgw" _,.str "" _]) 2 (by k_is) (by exact rfl) (fun _ _ _ _ _ _ _ us hl=>by (have e:us.length=6:=(by have h:=hl; rw [List.length_append] at h; simp at h; omega)); clear hl; revert us; refine L2.Bk ?_; exact fun _ _ _ _ _ _=>⟨_,rfl,rfl⟩))
  (case MP=>exact L2.mv (x := "make_file") (y := "make_file") (st:=L2.bN.qr) (ds:=[.str "lgw" _,.str "" _]) 1 (by k_is) (by exact rfl) (fun _ _ _ _ _ _ _ us hl=>by (have e:us.length=5:=(by have h:=hl; rw [List.length_append] at h; simp at h; omega)); clear hl; revert us; refine L2.yl ?_; exact fun _ _ _ _ _=>⟨_,rfl,rfl⟩))
  (case Jz=>exact L2.mv (x := "make_file") (y := "make_file") (st:=L2.bN.qr) (ds:=[.str "lgw" _,.str "" _]) 0 (by k_is) (by exact rfl) (fun _ _ _ _ _ _ _ us hl=>by (have e:us.length=4:=(by have h:=hl; rw [List.length_append] at h; simp at h; omega)); clear hl; revert us; refine L2.ur ?_; exact fun _ _ _ _=>⟨_,rfl,rfl⟩))
  (case xD=>walk_at "fu")
  (case C0=>exact L2.Binds.all (fun us hl=>match us,hl with | [_,_],_=>rfl))
  (case xh=>walk_at "fu")
  (case Bj=>exact L2.Binds.all (fun us hl=>match us,hl with | [_,_,_,_],_=>rfl))
  (case yi=>walk_at "fu")
  (case zf=>exact L2.Binds.all (fun us hl=>match us,hl with | [_,_,_,_,_],_=>rfl))
  (case wq=>walk_at "fu")
  (case Ez=>exact L2.Binds.all (fun us hl=>match us,hl with | [_,_,_],_=>rfl))
  (case xu=>walk_at "fu")
  (case MB=>exact L2.Binds.all (fun us hl=>match us,hl with | [_],_=>rfl))
  all_goals try (first | walk_at "mg" | walk_at "ft" | walk_at "mt" | k_is | (show PySem.W.findIn _ _ _=some none; k_is) | walk_at "mn" | kit_is | k_exc | walk_at "mk" | walk_at "cl" | walk_at "xf" | exact rfl | kernel_rfl)

