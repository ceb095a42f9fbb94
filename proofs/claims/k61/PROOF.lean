import PyProof.Rows.All
import Wide.All
import OpenK.AllK
import Wide.FinOn
import Lean
import PyProof.EqAt
import PyProof.EqKinds
import PyProof.TupleCall
import PyProof.NsDelKeeps
import PyProof.InstStoreFacts
import KE.KLam
import KE.KRevIter
import PyProof.ZipIter
import KE.KUnpack
import PyProof.Conv_int_bool
import PyProof.CallStr
import KE.KRevSl
import PyProof.NeKinds
import PyProof.AttrMissHeap
import KE.KDictOf
import PySem.Challenge.RW_leadnames_k61_files_held
set_option Elab.async false
set_option linter.all false
set_option maxRecDepth 100000
open PySem renaming Value→ϊ, Addr→ϋ, Shared→ό, Program→ύ
open PySem.Str renaming ofString→ώ
open PySem.Challenge renaming rw_leadnames_k61_files_held→Ϗ
open PySem.W.Fast renaming tw6613529449190102663→tw1, tw10156331382660048174→tw2, tw11892475500146522536→tw3, tw14364793385576792824→tw4
namespace L2
open PySem PySem.W
def qN (tb:String->Option Builtin) (p:ύ) (w:World) (n₀:Nat) (ann:Option ϊ):Nat->SharedT->Thread->Option SharedT
 | 0,_,_=>none
 | n+1,s,t=>match through t with
  | true=>some s
  | false=>match stepOk n₀ ann t with
   | false=>none
   | true=>match stepT (denote tb) p w s t with
    | some (s',t')=>qN tb p w n₀ ann n s' t'
    | none=>none
theorem KW {tb:String->Option Builtin} {p:ύ} {w:World} {n₀:Nat} {ann:Option ϊ}:∀ {n:Nat} {s s':SharedT} {t:Thread},qN tb p w n₀ ann n s t=some s'->topRun tb p w n₀ ann n s.abs t=some s'.abs
 | 0,_,_,_,h=>by cases h
 | n+1,s,s',t,h=>by
  unfold qN at h;unfold topRun;cases he:through t with
  | true=>rw [he] at h; cases h; rfl
  | false =>
   rw [he] at h;cases hk:stepOk n₀ ann t with
   | false=>rw [hk] at h; cases h
   | true =>
    rw [hk] at h;cases hs:stepT (denote tb) p w s t with
    | none=>rw [hs] at h; cases h
    | some r=>obtain ⟨s₂,t₂⟩:=r; rw [hs] at h; rw [stepT_spec hs]; exact KW h
def treeOf:List Obj->Nat->BT->BT
 | [],_,t=>t
 | o::r,n,t=>treeOf r (n+1) (t.ins n o)
theorem LeftO.adL {p q:ύ} {loose:List Str} {Xt:ό->Bool} {α:Type} {Yf:ό->α} {Ya:World->α} {N:Nat} {g0:Bool} {H₀:Params->Heap} {T₀:Params->BT} {n₀:Nat} {life:Life} {nW:Array GenState} {d₀:Drawn} {k₀:Nat} {ann:Option ϊ}
  (Gf:∀ w:World,(fencedOpening treeTable p w N).map (fun s=>(s.heap,s.gens,s.drawn,s.toks))=some (H₀ w.params,nW,d₀,k₀))
  (tr:∀ P:Params,absHeap (T₀ P) n₀ life=H₀ P)
  (size:∀ P:Params,((H₀ P).isNs mainGlobals && nW.size == 0,(H₀ P).objs.size,(H₀ P).nsMap mainGlobals "__annotations__")=(true,n₀,ann))
  (run:∀ (w:World) (os:OsState),(qN treeTable p w n₀ ann N ⟨T₀ w.params,n₀,life,nW,d₀,k₀,os⟩ (topStub p)).map (fun s=>((staticsOk (importedModules p.main.body) (H₀ w.params) s.abs.heap && namesBound p s.abs.heap && gensDone s.abs && laidKept (H₀ w.params) s.abs.heap),
    openSeen q loose (importedModules p.main.body) Xt g0 s.abs,Yf s.abs))=some (true,openGood q loose,Ya w)):LeftO p q loose Xt Yf Ya N g0:=fun w=>by
 obtain ⟨⟨h,gs,d,k,os⟩,e,e'⟩:=Option.map_eq_some_iff.mp (Gf w);obtain ⟨rfl,rfl,rfl,rfl⟩:h=H₀ w.params/\gs=nW/\d=d₀/\k=k₀:=by simpa using e'
 obtain ⟨z1,z2,z3⟩:_/\_/\_:=by simpa only [Prod.mk.injEq] using size w.params
 obtain ⟨s₁,r1,r2⟩:=Option.map_eq_some_iff.mp (run w os);obtain ⟨l1,l2,l3⟩:_/\_/\_:=by simpa only [Prod.mk.injEq] using r2
 have r:=KW r1;have ea:SharedT.abs ⟨T₀ w.params,n₀,life,gs,d,k,os⟩=⟨H₀ w.params,gs,d,k,os⟩:=by
  unfold SharedT.abs;rw [tr]
 rw [ea] at r;have t:topFrom treeTable p w N ⟨H₀ w.params,gs,d,k,os⟩=some s₁.abs:=by
  unfold topFrom;dsimp only;rw [z1,z2,z3,r];show (match staticsOk (importedModules p.main.body) (H₀ w.params) s₁.abs.heap && namesBound p s₁.abs.heap && gensDone s₁.abs && laidKept (H₀ w.params) s₁.abs.heap with | true=>_ | false=>_)=_;rw [l1]
 unfold openEnds;rw [e];show (topFrom treeTable p w N _).map _=_;rw [t];exact congrArg some (Prod.ext l2 l3)
def eM (ok:Nat->Option ϊ->Thread->Bool) (st:SharedT->Thread->Option (SharedT×Thread)) (n₀:Nat) (ann:Option ϊ):Nat->SharedT->Thread->Option SharedT
 | 0,_,_=>none
 | n+1,s,t=>match through t with
  | true=>some s
  | false=>match ok n₀ ann t with
   | false=>none
   | true=>match st s t with
    | some (s',t')=>eM ok st n₀ ann n s' t'
    | none=>none
theorem Mn {tb:String->Option Builtin} {p:ύ} {w:World} {n₀:Nat} {ann:Option ϊ}:∀ (n:Nat) (s:SharedT) (t:Thread),eM stepOk (stepT (denote tb) p w) n₀ ann n s t=qN tb p w n₀ ann n s t
 | 0,_,_=>rfl
 | n+1,s,t=>by
  unfold eM qN;cases through t with
  | true=>rfl
  | false =>
   cases stepOk n₀ ann t with
   | false=>rfl
   | true =>
    cases stepT (denote tb) p w s t with
    | none=>rfl
    | some r=>exact Mn n r.1 r.2
theorem LeftO.Za {p q:ύ} {loose:List Str} {Xt:ό->Bool} {α:Type} {Yf:ό->α} {Ya:World->α} {N:Nat} {g0:Bool} {H₀:Params->Heap} {T₀:Params->BT} {n₀:Nat} {life:Life} {nW:Array GenState} {d₀:Drawn} {k₀:Nat} {ann:Option ϊ}
  {ok:Nat->Option ϊ->Thread->Bool} {st:(Code->Sem Fin)->ύ->World->SharedT->Thread->Option (SharedT×Thread)} {den:(String->Option Builtin)->Code->Sem Fin} {tb:String->Option Builtin}
  (e1:stepOk=ok) (e2:stepT=st) (e3:denote=den) (e4:treeTable=tb)
  (Gf:∀ w:World,(fencedOpening treeTable p w N).map (fun s=>(s.heap,s.gens,s.drawn,s.toks))=some (H₀ w.params,nW,d₀,k₀))
  (tr:∀ P:Params,absHeap (T₀ P) n₀ life=H₀ P)
  (size:∀ P:Params,((H₀ P).isNs mainGlobals && nW.size == 0,(H₀ P).objs.size,(H₀ P).nsMap mainGlobals "__annotations__")=(true,n₀,ann))
  (run:∀ (w:World) (os:OsState),(eM ok (st (den tb) p w) n₀ ann N ⟨T₀ w.params,n₀,life,nW,d₀,k₀,os⟩ (topStub p)).map (fun s=>((staticsOk (importedModules p.main.body) (H₀ w.params) s.abs.heap && namesBound p s.abs.heap && gensDone s.abs && laidKept (H₀ w.params) s.abs.heap),
    openSeen q loose (importedModules p.main.body) Xt g0 s.abs,Yf s.abs))=some (true,openGood q loose,Ya w)):LeftO p q loose Xt Yf Ya N g0:=by
 subst e1 e2 e3 e4;refine LeftO.adL Gf tr size fun w os=>?_;rw [<- Mn];exact run w os
noncomputable def fQ (P:Params):BT:=treeOf (boot_heap P).objs.toList 0 .nil
end L2

namespace L2
open PySem PySem.W PyProof.Rows
theorem RF {α β γ:Type} {o:Option α} {F:α->β×γ} {G:β×γ} (h1:o.map (fun s=>(F s).1)=some G.1) (h2:o.map (fun s=>(F s).2)=some G.2):o.map F=some G:=by
 cases o with
 | none=>cases h1
 | some a=>injection h1 with h1; injection h2 with h2; exact congrArg some (Prod.ext h1 h2)
theorem atS {α β:Type} {o:Option α} {s:α} {f:α->β} {g:β} (hs:o=some s) (h:o.map f=some g):f s=g:=by
 subst hs; exact Option.some.inj h
theorem jR {α β:Type} {a b:α} {c d:β} (h:a=b) (k:c=d):(a,c)=(b,d):=by rw [h,k]
def F0 (p:ύ) (H₀:Heap) (s:SharedT):Bool:=staticsOk (importedModules p.main.body) H₀ s.abs.heap && namesBound p s.abs.heap && gensDone s.abs && laidKept H₀ s.abs.heap
def F3 (p q:ύ) (loose:List Str) (Xt:ό->Bool) (g0:Bool) (s:SharedT):Bool:=s.abs.heap.keysOk (looseW q loose) ((recsOf q).map (·.name)) ((litsOf q).map (·.1)) ((clssOf q (looseW q loose)).map (·.name)) && s.abs.heap.accountedOkI (importedModules p.main.body) && s.abs.heap.isNs mainGlobals && s.abs.heap.isNs builtinsNs && tablesOk q s.abs.heap && Xt s.abs && (if g0 then s.abs.gens.size == 0 else !leftWithCleanup s.abs.gens)
def F1 (q:ύ) (s:SharedT):=seen ((recsOf q).map (·.name)) (ownsOf q) [] { s.abs with gens:=#[] }
theorem aen {p q:ύ} {loose:List Str} {Xt:ό->Bool} {α:Type} {Yf:ό->α} {Ya:World->α} {g0:Bool} {H₀:Heap} {o:Option SharedT} {w:World}
  (q0:o.map (F0 p H₀)=some true) (q1:o.map (F1 q)=some (expectedOf q)) (q2:o.map (fun s:SharedT=>s.abs.heap.bltView)=some bltViewBooted)
  (q3:o.map (F3 p q loose Xt g0)=some true) (q4:o.map (fun s:SharedT=>tabsOk q s.abs)=some true) (q5:o.map (fun s:SharedT=>pinSeenD q (drecsOf q) s.abs)=some (pinGoodD (drecsOf q)))
  (q6:o.map (fun s:SharedT=>plainSeenE q (looseW q loose) s.abs)=some (plainGoodE q (looseW q loose))) (q7:o.map (fun s:SharedT=>plainSeenD q loose s.abs)=some (plainGoodD q loose))
  (q8:o.map (fun s:SharedT=>wideSeen q s.abs)=some (wideGood q)) (q9:o.map (fun s:SharedT=>clsSeenW q loose s.abs)=some (clsGoodW q loose))
  (rV:o.map (fun s:SharedT=>Yf s.abs)=some (Ya w)) :
  o.map (fun s:SharedT=>(F0 p H₀ s,openSeen q loose (importedModules p.main.body) Xt g0 s.abs,Yf s.abs))=some (true,openGood q loose,Ya w):=by
 obtain ⟨s,hs,a0⟩:=Option.map_eq_some_iff.mp q0;have a1:=atS hs q1;have a2:=atS hs q2;have a3:=atS hs q3;have a4:=atS hs q4;have a5:=atS hs q5;have a6:=atS hs q6;have a7:=atS hs q7;have a8:=atS hs q8;have a9:=atS hs q9;have HM:=atS hs rV;clear q0 q1 q2 q3 q4 q5 q6 q7 q8 q9 rV;subst hs;show some _=some _;refine congrArg some (jR a0 (jR ?_ HM));unfold openSeen openGood;exact jR a1 (jR a2 (jR a3 (jR a4 (jR a5 (jR a6 (jR a7 (jR a8 a9)))))))
theorem vn {α β γ:Type} {o:Option α} {f:α->β} {g:α->γ} {b:β} {c:γ} (h:o.map (fun s=>(f s,g s))=some (b,c)):o.map f=some b:=by
 cases o with
 | none=>cases h
 | some a=>injection h with h; exact congrArg some (congrArg Prod.fst h)
theorem gA {α β γ:Type} {o:Option α} {f:α->β} {g:α->γ} {b:β} {c:γ} (h:o.map (fun s=>(f s,g s))=some (b,c)):o.map g=some c:=by
 cases o with
 | none=>cases h
 | some a=>injection h with h; exact congrArg some (congrArg Prod.snd h)
theorem uh {α β γ:Type} {o:Option α} {l:List β} {f:α->β->γ} {g:β->γ} (n:Nat) (h1:o.map (fun s=>(l.take n).map (f s))=some ((l.take n).map g)) (h2:o.map (fun s=>(l.drop n).map (f s))=some ((l.drop n).map g)):o.map (fun s=>l.map (f s))=some (l.map g):=by
 cases o with
 | none=>cases h1
 | some a =>
  injection h1 with h1;injection h2 with h2;refine congrArg some ?_;show l.map (f a)=l.map g;rw [<- List.take_append_drop n l,List.map_append,List.map_append];exact congr (congrArg _ h1) h2
theorem ZJ {K:Params->Frag} {as:List ϋ} {e:∀ P,as=(K P).map (·.1)} {ts:List ϋ} {o:Option SharedT} {w:World} (h:o.map (fun s=>(K w.params).map fun p=>s.abs.heap.get? p.1)=some ((K w.params).map fun p=>some p.2)) (ht:o.map (fun s=>ts.map s.abs.heap.get?)=some (ts.map fun _=>some (tabObj #[]))) :
  o.map (fun s=>(kmHook K as e ts).obs s.abs)=some ((kmHook K as e ts).val w):=by
 refine RF (F:=fun s:SharedT=>(kmHook K as e ts).obs s.abs) (G:=(kmHook K as e ts).val w) ?_ ht;show o.map (fun s:SharedT=>as.map s.abs.heap.get?)=some ((K w.params).map fun p=>some p.2);rw [e w.params];simp only [List.map_map];exact h
end L2

section
open PySem PySem.W PyProof.Rows
namespace L2.bX
theorem sa:(Ϗ).row.wellSaid=true:=by kernel_rfl
theorem Jx:(Ϗ).wellSaid=true:=by
 unfold OpenLaw.wellSaid
 iterate 18 refine look_both ?_ ?_
 ·exact sa
 all_goals kernel_rfl
noncomputable def QV:ύ:=view (Ϗ).prog [0,2,3,4,5,6,7,8,9,10,11,13,14,15,16,18,19,20,21,22,23,24,25,26,27,28,29,30,31,32,33,34,35,36,38,39,40,41,42,44,45,46,47,48,49,50,51,52,53,56,57,58,59,60,61,62,63,64,65,66,67,68,69,70,73,74,75,76,78,79,80,81,82,83,84,85,86,88,89,91,92,93,94,95,96,97,98,99,100,101,102,103,104]
theorem nN:∀ w:World,(fencedOpening treeTable (Ϗ).prog w 17150).map (fun s=>(s.heap,s.gens,s.drawn,s.toks))=some (boot_heap w.params,Array.mk [],boot_drawn,boot_toks):=boot_open rfl rfl (fun _=>rfl)
theorem dk:∀ P:Params,absHeap (L2.fQ P) 11 {}=boot_heap P:=by intro P; kernel_rfl
theorem jW:∀ P:Params,((boot_heap P).isNs mainGlobals && (Array.mk ([]:List GenState)).size == 0,(boot_heap P).objs.size,(boot_heap P).nsMap mainGlobals "__annotations__")=(true,11,some (.ref 6)):=by intro P; kernel_rfl
set_option maxHeartbeats 0
theorem qL (w:World) (os:OsState):((eM tw1 (tw2 (tw3 tw4) (Ϗ).prog w) 11 (some (.ref 6)) 17150 ⟨L2.fQ w.params,11,{},Array.mk [],boot_drawn,boot_toks,os⟩ (topStub (Ϗ).prog))).map (fun s=>(((staticsOk (importedModules (Ϗ).prog.main.body) (boot_heap w.params) s.abs.heap && namesBound (Ϗ).prog s.abs.heap && gensDone s.abs && laidKept (boot_heap w.params) s.abs.heap)),s.abs.heap.bltView,pinSeenD QV (drecsOf QV) s.abs,plainSeenD QV [ώ "walk",ώ "make_folder",ώ "make_file"] s.abs,clsSeenW QV [ώ "walk",ώ "make_folder",ώ "make_file"] s.abs,[1174,1167,1160,1139].map s.abs.heap.get?))=some ((true,bltViewBooted,pinGoodD (drecsOf QV),plainGoodD QV [ώ "walk",ώ "make_folder",ώ "make_file"],clsGoodW QV [ώ "walk",ώ "make_folder",ώ "make_file"],[1174,1167,1160,1139].map fun _=>some (tabObj #[]))):=by kernel_rfl
theorem SR (w:World) (os:OsState):((eM tw1 (tw2 (tw3 tw4) (Ϗ).prog w) 11 (some (.ref 6)) 17150 ⟨L2.fQ w.params,11,{},Array.mk [],boot_drawn,boot_toks,os⟩ (topStub (Ϗ).prog))).map (fun s=>seen ((recsOf QV).map (·.name)) (ownsOf QV) [] { s.abs with gens:=#[] })=some (expectedOf QV):=by kernel_rfl
theorem Su (w:World) (os:OsState):((eM tw1 (tw2 (tw3 tw4) (Ϗ).prog w) 11 (some (.ref 6)) 17150 ⟨L2.fQ w.params,11,{},Array.mk [],boot_drawn,boot_toks,os⟩ (topStub (Ϗ).prog))).map (fun s=>wideSeen QV s.abs)=some (wideGood QV):=by kernel_rfl
theorem q3 (w:World) (os:OsState):((eM tw1 (tw2 (tw3 tw4) (Ϗ).prog w) 11 (some (.ref 6)) 17150 ⟨L2.fQ w.params,11,{},Array.mk [],boot_drawn,boot_toks,os⟩ (topStub (Ϗ).prog))).map (fun s=>(s.abs.heap.keysOk (looseW QV [ώ "walk",ώ "make_folder",ώ "make_file"]) ((recsOf QV).map (·.name)) ((litsOf QV).map (·.1)) ((clssOf QV (looseW QV [ώ "walk",ώ "make_folder",ώ "make_file"])).map (·.name)) && s.abs.heap.accountedOkI (importedModules (Ϗ).prog.main.body) && s.abs.heap.isNs mainGlobals && s.abs.heap.isNs builtinsNs && tablesOk QV s.abs.heap && (fun s=>xlAt QV [] s && recOk (RowW.records (OpenRow.toRowW (Ϗ).row)) s) s.abs && (if true then s.abs.gens.size == 0 else !leftWithCleanup s.abs.gens)))=some (true):=by kernel_rfl
theorem q4 (w:World) (os:OsState):((eM tw1 (tw2 (tw3 tw4) (Ϗ).prog w) 11 (some (.ref 6)) 17150 ⟨L2.fQ w.params,11,{},Array.mk [],boot_drawn,boot_toks,os⟩ (topStub (Ϗ).prog))).map (fun s=>tabsOk QV s.abs)=some (true):=by kernel_rfl
theorem Xu {h:Heap} {c:ClsRec} (n:Nat) (h1:h.plainShapeAt { c with meths:=c.meths.take n }=some (ClsRec.plainShape { c with meths:=c.meths.take n })) (h2:h.plainShapeAt { c with meths:=c.meths.drop n }=some (ClsRec.plainShape { c with meths:=c.meths.drop n })):h.plainShapeAt c=some c.plainShape:=by
 unfold Heap.plainShapeAt at h1 h2 ⊢;dsimp only [ClsRec.plainShape,ClsRec.quiet] at h1 h2 ⊢;cases e:h.clsAt mainGlobals c.name with
 | none=>rw [e] at h1; cases h1
 | some x =>
  rw [e] at h1 h2;simp only [Option.map_some,Option.some.injEq,PlainShape.mk.injEq] at h1 h2 ⊢;obtain ⟨a1,a2,a3,a4,a5,a6,a7,a8,a9,HM,a11⟩:=h1;obtain ⟨_,_,_,_,_,_,_,_,_,b10,b11⟩:=h2;refine ⟨a1,a2,a3,a4,a5,a6,a7,a8,a9,?_,?_⟩
  ·rw [<- List.take_append_drop n c.meths,List.map_append,List.map_append,HM,b10]
  ·rw [<- List.take_append_drop n c.meths,List.all_append,a11,b11]; rfl
theorem Xf {α:Type} {o:Option α} {l:List ClsRec} {F:α->Heap} (n:Nat) (h1:o.map (fun s=>l.map fun c=>(F s).plainShapeAt { c.withCmp with meths:=c.withCmp.meths.take n })=some (l.map fun c=>some (ClsRec.plainShape { c.withCmp with meths:=c.withCmp.meths.take n }))) (h2:o.map (fun s=>l.map fun c=>(F s).plainShapeAt { c.withCmp with meths:=c.withCmp.meths.drop n })=some (l.map fun c=>some (ClsRec.plainShape { c.withCmp with meths:=c.withCmp.meths.drop n }))):o.map (fun s=>l.map fun c=>(F s).plainShapeAt c.withCmp)=some (l.map fun c=>some c.withCmp.plainShape):=by
 cases o with
 | none=>cases h1
 | some a =>
  injection h1 with h1;injection h2 with h2;exact congrArg some (List.map_congr_left fun c hc=>Xu n (List.map_inj_left.mp h1 c hc) (List.map_inj_left.mp h2 c hc))
theorem q6x (w:World) (os:OsState):((eM tw1 (tw2 (tw3 tw4) (Ϗ).prog w) 11 (some (.ref 6)) 17150 ⟨L2.fQ w.params,11,{},Array.mk [],boot_drawn,boot_toks,os⟩ (topStub (Ϗ).prog))).map (fun s=>((plainsOf QV (looseW QV [ώ "walk",ώ "make_folder",ώ "make_file"])).take 6).map fun c=>s.abs.heap.plainShapeAt c.withCmp)=some (((plainsOf QV (looseW QV [ώ "walk",ώ "make_folder",ώ "make_file"])).take 6).map fun c=>some (ClsRec.plainShape c.withCmp)):=by kernel_rfl
theorem RU (w:World) (os:OsState):((eM tw1 (tw2 (tw3 tw4) (Ϗ).prog w) 11 (some (.ref 6)) 17150 ⟨L2.fQ w.params,11,{},Array.mk [],boot_drawn,boot_toks,os⟩ (topStub (Ϗ).prog))).map (fun s=>(((plainsOf QV (looseW QV [ώ "walk",ώ "make_folder",ώ "make_file"])).drop 6).take 1).map fun c=>s.abs.heap.plainShapeAt { c.withCmp with meths:=c.withCmp.meths.take 20 })=some ((((plainsOf QV (looseW QV [ώ "walk",ώ "make_folder",ώ "make_file"])).drop 6).take 1).map fun c=>some (ClsRec.plainShape { c.withCmp with meths:=c.withCmp.meths.take 20 })):=by kernel_rfl
theorem VO (w:World) (os:OsState):((eM tw1 (tw2 (tw3 tw4) (Ϗ).prog w) 11 (some (.ref 6)) 17150 ⟨L2.fQ w.params,11,{},Array.mk [],boot_drawn,boot_toks,os⟩ (topStub (Ϗ).prog))).map (fun s=>(((plainsOf QV (looseW QV [ώ "walk",ώ "make_folder",ώ "make_file"])).drop 6).take 1).map fun c=>s.abs.heap.plainShapeAt { c.withCmp with meths:=c.withCmp.meths.drop 20 })=some ((((plainsOf QV (looseW QV [ώ "walk",ώ "make_folder",ώ "make_file"])).drop 6).take 1).map fun c=>some (ClsRec.plainShape { c.withCmp with meths:=c.withCmp.meths.drop 20 })):=by kernel_rfl
theorem V5 (w:World) (os:OsState):((eM tw1 (tw2 (tw3 tw4) (Ϗ).prog w) 11 (some (.ref 6)) 17150 ⟨L2.fQ w.params,11,{},Array.mk [],boot_drawn,boot_toks,os⟩ (topStub (Ϗ).prog))).map (fun s=>(((plainsOf QV (looseW QV [ώ "walk",ώ "make_folder",ώ "make_file"])).drop 6).drop 1).map fun c=>s.abs.heap.plainShapeAt c.withCmp)=some ((((plainsOf QV (looseW QV [ώ "walk",ώ "make_folder",ώ "make_file"])).drop 6).drop 1).map fun c=>some (ClsRec.plainShape c.withCmp)):=by kernel_rfl
theorem q6 (w:World) (os:OsState):((eM tw1 (tw2 (tw3 tw4) (Ϗ).prog w) 11 (some (.ref 6)) 17150 ⟨L2.fQ w.params,11,{},Array.mk [],boot_drawn,boot_toks,os⟩ (topStub (Ϗ).prog))).map (fun s=>plainSeenE QV (looseW QV [ώ "walk",ώ "make_folder",ώ "make_file"]) s.abs)=some (plainGoodE QV (looseW QV [ώ "walk",ώ "make_folder",ώ "make_file"])):=L2.uh 6 (q6x w os) (L2.uh 1 (Xf 20 (RU w os) (VO w os)) (V5 w os))
end L2.bX
end
section
open PySem PySem.W PyProof.Rows
local macro_rules | `(tactic| o_head $H)=>`(tactic| (refine (by assumption:∀ h':PySem.W.Hook,h'=_->PySem.W.OpenRow.Holds _) $H ?_; rfl))
set_option maxHeartbeats 0 in
noncomputable def L2.bX.fE:(h:Hook) ×' ((∀ h':Hook,h'=h->(Ϗ).row.Holds)->(Ϗ).row.Holds):=by
 refine' ⟨_,fun x=>_⟩
 rotate_left
 k_head
end
section
open PySem PySem.W PyProof.Rows
namespace L2.bX
set_option maxHeartbeats 0
theorem ya (w:World) (os:OsState):((eM tw1 (tw2 (tw3 tw4) (Ϗ).prog w) 11 (some (.ref 6)) 17150 ⟨L2.fQ w.params,11,{},Array.mk [],boot_drawn,boot_toks,os⟩ (topStub (Ϗ).prog))).map (fun s=>(((fE.heap_1 w.params).take 371).take 185).map fun p=>s.abs.heap.get? p.1)=some ((((fE.heap_1 w.params).take 371).take 185).map fun p=>some p.2):=by kernel_rfl
theorem yb (w:World) (os:OsState):((eM tw1 (tw2 (tw3 tw4) (Ϗ).prog w) 11 (some (.ref 6)) 17150 ⟨L2.fQ w.params,11,{},Array.mk [],boot_drawn,boot_toks,os⟩ (topStub (Ϗ).prog))).map (fun s=>(((fE.heap_1 w.params).take 371).drop 185).map fun p=>s.abs.heap.get? p.1)=some ((((fE.heap_1 w.params).take 371).drop 185).map fun p=>some p.2):=by kernel_rfl
theorem yc (w:World) (os:OsState):((eM tw1 (tw2 (tw3 tw4) (Ϗ).prog w) 11 (some (.ref 6)) 17150 ⟨L2.fQ w.params,11,{},Array.mk [],boot_drawn,boot_toks,os⟩ (topStub (Ϗ).prog))).map (fun s=>(((fE.heap_1 w.params).drop 371).take 186).map fun p=>s.abs.heap.get? p.1)=some ((((fE.heap_1 w.params).drop 371).take 186).map fun p=>some p.2):=by kernel_rfl
theorem yd (w:World) (os:OsState):((eM tw1 (tw2 (tw3 tw4) (Ϗ).prog w) 11 (some (.ref 6)) 17150 ⟨L2.fQ w.params,11,{},Array.mk [],boot_drawn,boot_toks,os⟩ (topStub (Ϗ).prog))).map (fun s=>(((fE.heap_1 w.params).drop 371).drop 186).map fun p=>s.abs.heap.get? p.1)=some ((((fE.heap_1 w.params).drop 371).drop 186).map fun p=>some p.2):=by kernel_rfl
theorem rV (w:World) (os:OsState):((eM tw1 (tw2 (tw3 tw4) (Ϗ).prog w) 11 (some (.ref 6)) 17150 ⟨L2.fQ w.params,11,{},Array.mk [],boot_drawn,boot_toks,os⟩ (topStub (Ϗ).prog))).map (fun s=>Hook.obs fE.1 s.abs)=some (Hook.val fE.1 w) :=
 L2.ZJ (K:=fE.heap_1) (e:=fun _=>by kernel_rfl) (L2.uh 371 (L2.uh 185 (ya w os) (yb w os)) (L2.uh 186 (yc w os) (yd w os))) (L2.gA (L2.gA (L2.gA (L2.gA (L2.gA (qL w os))))))
end L2.bX
local macro_rules | `(tactic| o_law)=>`(tactic| refine PySem.W.holds_law L2.bX.Jx fun Jx=>?_)
local macro_rules | `(tactic| k_head)=>`(tactic| (
 refine holds_open (q:=L2.bX.QV) (loose:=[ώ "walk",ώ "make_folder",ώ "make_file"]) (Xt:=fun s=>xlAt L2.bX.QV [] s && recOk (RowW.records (OpenRow.toRowW (Ϗ).row)) s) (XP:=XL L2.bX.QV []) (Yf:=Hook.obs L2.bX.fE.1) (Ya:=Hook.val L2.bX.fE.1) (YP:=Hook.says L2.bX.fE.1) (N:=17150) ?hl (Hook.of L2.bX.fE.1) (Hook.keeps L2.bX.fE.1) (fun s e=>xl_of s (Bool.and_eq_true_iff.mp e).1) XL.keeps (by rfl) (by rfl) (by rfl) (fun s e=>recFacts_of (Bool.and_eq_true_iff.mp e).2) (by rfl) (by first | assumption | decide +kernel) (by decide +kernel) ⟨rfl,rfl,rfl,rfl,rfl,by decide +kernel⟩ ?hw ?hc
 case hl =>
  refine L2.LeftO.Za Fast.te6613529449190102663 Fast.te10156331382660048174 Fast.te11892475500146522536 Fast.te14364793385576792824 L2.bX.nN L2.bX.dk L2.bX.jW (fun w os=>?_);exact L2.aen (L2.vn (L2.bX.qL w os)) (L2.bX.SR w os) (L2.vn (L2.gA (L2.bX.qL w os))) (L2.bX.q3 w os) (L2.bX.q4 w os) (L2.vn (L2.gA (L2.gA (L2.bX.qL w os)))) (L2.bX.q6 w os) (L2.vn (L2.gA (L2.gA (L2.gA (L2.bX.qL w os))))) (L2.bX.Su w os) (L2.vn (L2.gA (L2.gA (L2.gA (L2.gA (L2.bX.qL w os)))))) (L2.bX.rV w os)))
set_option maxHeartbeats 0 in
open_top L2.bX.hd0 for PySem.Challenge.rw_leadnames_k61_files_held
end
theorem zzq(_:1=1:=by rfl):True:=trivial
section
set_option compiler.extract_closed false
set_option hygiene false
local macro_rules|`(‹$x›)=>`(autoParam $x zzq._auto_1)
local macro_rules|`(tactic|omega)=>`(tactic|first|lia|omega (config:={}))
local macro_rules (kind:=Lean.Parser.Command.declaration)
 | x=>do
  let d:=x[1]
  let n:=d[0].getTrailingSize
  let k:=d.getKind
  let D:=`Lean.Parser.Command.definition
  if n==1 && k==D && d[2][1].getNumArgs==1 then pure (x.setArg 1 (.node .none `Lean.Parser.Command.theorem #[Lean.mkAtom "theorem",d[1],.node .none `Lean.Parser.Command.declSig #[d[2][0],d[2][1][0]],d[3]])) else if n != 0 && (k==D || k==`Lean.Parser.Command.abbrev) then pure ((x.setArg 1 (d.setArg 0 (Lean.mkAtom (if k==D then "def" else "abbrev")))).setArg 0 (x[0].setArg 4 (Lean.mkNullNode #[.node .none `Lean.Parser.Command.noncomputable #[Lean.mkAtom "noncomputable"]]))) else Lean.Macro.throwUnsupported
local macro_rules (kind:=Lean.Parser.Term.fun)
 | `(fun $xs*=>$b)=>do
  let .some i:=xs.findIdx? (·.raw.isOfKind `«term#[_,]») | Lean.Macro.throwUnsupported
  let ps:=xs[i]!.raw[1].getSepArgs
  let h:=Lean.mkIdent (←Lean.Macro.addMacroScope `h)
  let r:=xs.extract (i+1) xs.size
  let b←if r.isEmpty then pure b else `(fun $r*=>$b)
  let q:=if ps.size==2 then ps[1]! else .node .none `«term#[_,]» #[Lean.mkAtom "#[",Lean.mkNullNode (Lean.mkSepArray (ps.extract 1 ps.size) (Lean.mkAtom ",")),Lean.mkAtom "]"]
  let ys:=(xs.extract 0 i).push ⟨h⟩
  `(fun $ys*=>($h).elim fun $(⟨ps[0]!⟩) $(⟨q⟩)=>$b)
local macro_rules | `(tactic|let ⟨$xs,*⟩:=$e)=>do
 let p←`(⟨$xs,*⟩)
 let N:=Lean.Syntax.node .none
 let M:=fun y=>N `Lean.Parser.Tactic.rcasesPatMed #[Lean.mkNullNode #[y]]
 let q:=p.raw.rewriteBottomUp fun x=>if x.isIdent then N `Lean.Parser.Tactic.rcasesPat.one #[x] else if x.isOfKind `Lean.Parser.Term.hole then N `Lean.Parser.Tactic.rcasesPat.ignore #[x[0]] else if x.isOfKind `Lean.Parser.Term.anonymousCtor then N `Lean.Parser.Tactic.rcasesPat.tuple #[x[0],Lean.mkNullNode (x[1].getArgs.mapIdx fun i y=>if i%2==1 then y else N `Lean.Parser.Tactic.rcasesPatLo #[M y,Lean.mkNullNode]),x[2]] else x
 `(tactic|obtain $(⟨M q⟩):rcasesPatMed:=$e)
local macro_rules | `(tactic|let ⟨$xs,*⟩:$t :=$e)=>`(tactic|(have z:$t :=$e;let ⟨$xs,*⟩:=z))
local macro_rules | `(-$x)=>`(.ref $x)
local macro_rules | `(!$x)=>`(some $x)
local macro_rules | `(tactic|show $e)=>`(tactic|refine $e)
local macro_rules | `(())=>`(by simp)
local macro_rules | `(∅)=>`(by omega)
local macro_rules | `(⋯)=>`(by decide)
local macro_rules | `(tactic|exists $n)=>`(tactic|(refine stJ $n ?_;dsimp only [List.map,List.replicate,List.cons_append,List.nil_append]))
local macro_rules | `(tactic|exists $t,$n,⟨$xs,*⟩)=>`(tactic|refine ($t).F.ok $n (fun vs H Q E h=>by let ⟨$xs,*⟩:=h;rw[e];rfl) fun ah A _ s H vs Q E hr h=>?_)
local macro_rules | `(tactic|exists $t,$n,$m,$k)=>`(tactic|refine ($t).F.ok $n (fun _ _ _ _ h=>$m h (by intros;rfl)) fun ah A _ s H vs Q E hr h=>$m h $k)
local macro_rules | `($f<$>$t $x)=>`(bn ($f T) hr.m ($t).m ($t).F.kp ($t).b .nil ay $x)
local macro_rules | `($f<*>$t $x)=>`(bY ($f T) hr.m ($t).m ($t).F.kp ($t).b .nil cg $x)
local macro_rules | `($f<*$t $x $y)=>`(bx T.aJ ($t).h ($f T) hr.m ($t).b .nil ay $x $y)
local macro_rules | `($f*>$t $x $y)=>`(bx T.b8 ($t).h ($f T) hr.m ($t).b .nil ay $x $y)
local macro_rules | `($f<&>$t $x $y)=>`(cW T.b8 ($t).h ($f T) hr.m ($t).b .nil cO $x $y)
local macro_rules | `(#[$xs,*]) => `(⟨$xs,*⟩)
local macro_rules | `(#[])=>`(by walk_at "s")
namespace L2
abbrev ν:=PySem.W.Frag
end L2

namespace L2
open PySem PySem.Spec PyProof.Rows
def ii:=@wpAny_bind
def jp:=@List.mem_cons
def kt:=@List.not_mem_nil
def li:=@Heap.get?_push_of_some
def lm:=@List.getElem?_eq_some_iff
def lv:=@List.length_map
def mo:=@decide_eq_false
def pc:=@wpAny_pure
def pi:=@Nat.le_refl
def pp:=@Ne.symm
def ss:=@List.size_toArray
def sw:=@List.getElem?_eq_getElem
def sB:=@Heap.lt_size
def sK:=@List.length_append
def tz:=@Heap.get?_push_size
def ul:=@decide_eq_true
def ut:=@List.mem_singleton
def u8:=@List.mem_append_right
def wf:=@Nat.lt_of_lt_of_le
def wn:=@Bool.false_ne_true
def ww:=@or_false
def wE:=@Nat.le_trans
def wP:=@if_neg
def wS:=@List.map_cons
def wT:=@Nat.ne_of_lt
def xz:=@List.getElem?_map
def xL:=@if_pos
def zn:=@List.mem_map
def At:=@Nat.zero_le
def AC:=@List.mem_cons_of_mem
def AT:=@List.getElem?_set_ne
def Ch:=@List.nodup_cons
def Cl:=@Bool.and_eq_true
def Da:=@List.all_eq_true
def Db:=@List.getElem?_set_self
def Do:=@beq_eq_false_iff_ne
def Ev:=@Bool.false_eq_true
def EQ:=@PySem.mem_of_lookup
def Fa:=@List.length_cons
def Fk:=@Option.some.inj
def Fr:=@List.mem_append
def FB:=@wpAny_Call_Name_kw
def FM:=@wpAny_holding
def FS:=@List.getElem?_append_right
def Gc:=@List.getElem?_append_left
def Go:=@List.map_append
def GE:=@W.looks_findIn
def GM:=@List.mem_of_getElem?
def GT:=@Heap.get?_update_other
def Id:=@List.nodup_append
def Ix:=@Nat.lt_irrefl
def IN:=@PySem.F.slot_list_append
def IO:=@PySem.F.type_list_append
def IR:=@W.kia_one
def KB:=@wpAny_mono
def KK:=@List.all_cons
def KM:=@congrArg
def LE:=@Nat.lt_succ_self
def LT:=@Array.length_toList
def No:=@Array.getElem?_toList
def NE:=@List.map_nil
def On:=@Calls.spliced_cons
def Op:=@Calls.callWith_builtin
def Os:=@List.map_map
def Pi:=@Calls.spliced_nil
def PP:=@wpAny_truthy_bool
def P3:=@Heap.get?_update_self
def Re:=@not_or
def Rs:=@List.length_eq_zero_iff
def Sc:=@PyProof.Rows.callWith_type1
def SC:=@Option.map_eq_some_iff
def SL:=@List.find?_cons
def ST:=@List.length_filter_le
def SZ:=@List.mem_cons_self
def Tk:=@W.callWith_K
def Tm:=@List.mem_append_left
def Ty:=@Heap.size_push
def TD:=@if_false
def TW:=@Calls.evalArgs_plain
def T0:=@PySem.boot_len
def Uf:=@List.flatMap_cons
def UF:=@Int.eq_ofNat_of_zero_le
def UV:=@List.mem_filter
def Wp:=@call_meets
def WF:=@List.replicate_succ
def WP:=@List.take_of_length_le
def W1:=@List.length_take
def XV:=@List.filter_cons
def ZB:=@beq_iff_eq
def _a:=@wpAny_call
def _b:=@tupleKind_room_in1
def _c:=@Nat.lt_of_le_of_lt
def _d:=@Option.eq_none_iff_forall_not_mem
def _e:=@wpAny_passesOwn
def _f:=@Bool.eq_iff_iff
def _g:=@Heap.get?_none_of_le
def _h:=@codeAny_call_builtin
def _i:=@Array.toArray_toList
def _j:=@List.any_cons
def _k:=@List.filterMap_cons
def _l:=@List.getElem_of_mem
def _m:=@W.looks_mroIn
def _n:=@wpAny_loadPart
def _o:=@PySem.F.plainAttrs_dict
def _p:=@W.Looks.ld
def _q:=@PySem.F.attr_ValueError
def _r:=@wpAny_call_entry
def _s:=@wpAny_typeNameOfWhole_keyiter
def _t:=@codeAny_mono
def _u:=@List.append_nil
def _v:=@F.slot_dict_keyiterator_next
def _w:=@PassesOwn.never
def _x:=@PySem.F.slot_dict_pop
def _y:=@decide_eq_true_eq
def _z:=@Nat.lt_succ_of_lt
def _A:=@wpAny_newObj_type
def _B:=@List.filter_congr
def _C:=@typeIs_str
def _D:=@List.getD_eq_getElem?_getD
def _E:=@PySem.F.excBase_ValueError
def _F:=@F.plain_min_loop
def _G:=@Calls.call_function_entry
def _H:=@List.mem_of_find?_eq_some
def _I:=@List.getElem?_zip_eq_some
def _J:=@Heap.SameBut.update
def _K:=@List.mem_map_of_mem
def _L:=@Bool.not_true
def _M:=@wpAny_execs_nil
def _N:=@List.length_nil
def _O:=@List.filter_map
def _P:=@Int.emod_nonneg
def _Q:=@List.mem_filterMap
def _R:=@List.pairwise_cons
def _S:=@Int.emod_lt_of_pos
def _T:=@Nat.le_succ
def _U:=@PySem.F.slot_list_index
def _V:=@W.cellsFrom_some
def _W:=@List.flatten_cons
def _X:=@List.append_assoc
def _Y:=@List.ext_getElem?
def _Z:=@wpAny_dictEntries
def _0:=@Option.some.injEq
def _1:=@W.methodCall_KW
def _2:=@List.length_replicate
def _3:=@PySem.F.slot_dict_get
def _4:=@List.getElem?_eq_none
def _5:=@List.mem_iff_getElem?
def _6:=@List.eq_nil_or_concat
def _7:=@List.concat_eq_append
def _8:=@List.getElem_mem
def _9:=@List.getElem_map
def Ja0:=@wpAny_standAt
def Ja1:=@List.not_lt
def Ja2:=@Around.under_plainId
def Ja3:=@List.of_mem_zip
def Ja4:=@List.length_set
def Ja5:=@codeAny_builtin
def Ja6:=@wpAny_ite_split
def Ja7:=@W.hideAll_get
def Ja8:=@W.plainGet_of
def Ja9:=@ne_true_of_eq_false
def Jaa:=@W.kdu_collect
def Jab:=@List.length_reverse
def Jac:=@Nat.le_of_lt
def Jad:=@Nat.ne_of_gt
def Jae:=@W.of_hideAll
def Jaf:=@List.mem_range
def Jag:=@Bool.false_and
def Jah:=@List.nodup_nil
def Jai:=@F.args_str_split_2
def Jaj:=@SeqAt.RcNeAt.lists
def Jak:=@Obj.data_mapFields
def Jal:=@Code.quiet_builtin
def Jam:=@wpAny_seqItems
def Jan:=@List.find?_eq_none
def Jao:=@sizeLine_eq
def Jap:=@Paired.length
def Jaq:=@Bool.or_false
def Jar:=@wpAny_attempt
def Jas:=@List.map_drop
abbrev Key:=Sum Int Str
def  md:Key->ϊ->Bool
 | .inl k,v=>ϊ.isInt k v
 | .inr x,v=>ϊ.isStrOf x v
def  VB(w:World):Key->Int
 | .inl k=>hashInt k
 | .inr x=>hashStr w x
def jw:∀ {k:Key}{v:ϊ},md k v=true->(∃ i t,k=Sum.inl i/\v=ϊ.int i t)\/(∃ x t,k=Sum.inr x/\v=ϊ.str x t)
 | .inl i,v,h=>by
  let⟨t,e⟩:=ϊ.isInt_shape (k:=i) (v:=v) h;show .inl #[i,t,rfl,e]
 | .inr x,v,h=>by
  let⟨t,e⟩:=ϊ.isStrOf_shape (x:=x) (v:=v) h;show .inr #[x,t,rfl,e]
def ab4(i:Int)(t:Tok):md (.inl i) (.int i t)=true:=by simp[md,ϊ.isInt]
def ab0(x:Str)(t:Tok):md (.inr x) (.str x t)=true:=by simp[md,ϊ.isStrOf]
def Tw(a b:Int):decide ((Sum.inl a:Key)=Sum.inl b)=(a == b):=by
 by_cases e:a=b
 ·subst e;simp
 ·have h:¬ (Sum.inl a:Key)=Sum.inl b:=fun q=>e (Sum.inl.inj q);rw[mo h];show(Do.mpr e).symm
def ZV(a b:Str):decide ((Sum.inr a:Key)=Sum.inr b)=decide (a=b):=by
 by_cases e:a=b
 ·subst e;simp
 ·have h:¬ (Sum.inr a:Key)=Sum.inr b:=fun q=>e (Sum.inr.inj q);rw[mo h,mo e]
def adm(a:Int)(b:Str):decide ((Sum.inl a:Key)=Sum.inr b)=false:=mo (fun q=>nomatch q)
def ab3(a:Str)(b:Int):decide ((Sum.inr a:Key)=Sum.inl b)=false:=mo (fun q=>nomatch q)
def  cY(prog:ύ)(w:World):PySem.KeyKind prog w Key where
 is:=md
 hash:=VB w
 inj:=fun v a b ha hb=>by
  rcases jw ha with ⟨i,t,rfl,rfl⟩ | ⟨x,t,rfl,rfl⟩
  ·rcases jw hb with ⟨j,u,rfl,e⟩ | ⟨y,u,rfl,e⟩
   ·injection e with e1 _;rw[e1]
   ·show nomatch e
  ·rcases jw hb with ⟨j,u,rfl,e⟩ | ⟨y,u,rfl,e⟩
   ·show nomatch e
   ·injection e with e1 _;rw[e1]
 byValue:=fun k v h=>by
  rcases jw h with ⟨i,t,rfl,rfl⟩ | ⟨x,t,rfl,rfl⟩ <;> rfl
 pyHash:=fun hv h=>by
  rcases jw hv with ⟨i,t,rfl,rfl⟩ | ⟨x,t,rfl,rfl⟩
  ·show wpAny_pyHash_int h
  ·show wpAny_pyHash_str h
 eqBool:=fun hu hv h=>by
  rcases jw hu with ⟨i,t,rfl,rfl⟩ | ⟨x,t,rfl,rfl⟩
  ·rcases jw hv with ⟨j,u,rfl,rfl⟩ | ⟨y,u,rfl,rfl⟩
   ·rw[Tw]at h;show wpAny_eqBool_int h
   ·rw[adm]at h;show SeqAt.EqAt.int_str i t y u _ _ _ _ h
  ·rcases jw hv with ⟨j,u,rfl,rfl⟩ | ⟨y,u,rfl,rfl⟩
   ·rw[ab3]at h;show SeqAt.EqAt.str_int x t j u _ _ _ _ h
   ·rw[ZV]at h;show wpAny_eqBool_str h
 «strs»:=fun k x t v h=>by
  rcases jw h with ⟨i,u,rfl,e⟩ | ⟨y,u,rfl,e⟩
  ·show nomatch e
  ·injection e with e1 _;subst e1;cases v <;> rfl
def Xm(prog:ύ)(w:World)(i:Int)(t:Tok):(cY prog w).is (.inl i) (.int i t)=true:=ab4 i t
def ade(prog:ύ)(w:World)(x:Str)(t:Tok):(cY prog w).is (.inr x) (.str x t)=true:=ab0 x t
inductive V where
 | au | bl (b:Bool) | int (i:Int) | str (x:Str) | byt (b:Array UInt8) | oj (b:UInt64) | ref (a:ϋ) | ty (n:String)
 deriving DecidableEq
def  RelV:V->ϊ->Prop
 | .au,u=>u=ϊ.none
 | .bl b,u=>u=ϊ.bool b
 | .int i,u=>∃ t,u=ϊ.int i t
 | .str x,u=>∃ t,u=ϊ.str x t
 | .byt b,u=>∃ t,u=ϊ.bytes b t
 | .oj b,u=>∃ t,u=ϊ.float b t
 | .ref a,u=>u=ϊ.ref a
 | .ty n,u=>u=ϊ.type n
abbrev Vals:List V->List ϊ->Prop:=Paired RelV
def Vals.length{xs:List V}{us:List ϊ}(r:Vals xs us):xs.length=us.length:=Jap r
def Vals.get:∀ {xs:List V}{us:List ϊ}{i:Nat}{x:V},Vals xs us->xs[i]?=!x->∃ u,us[i]?=!u/\RelV x u
 | _,_,_,_,.nil,e=>by simp at e
 | _,_,0,_,.cons r _,e=>by simp at e;subst e;show#[_,rfl,r]
 | _,_,i+1,x,.cons _ t,e=>by
  let⟨u,h1,h2⟩:=Vals.get (i:=i) (x:=x) t (by simpa using e);show#[u,by simpa using h1,h2]
def Vals.set{x:V}{u:ϊ}(r:RelV x u):∀ {xs:List V}{us:List ϊ} (i:Nat),Vals xs us->Vals (xs.set i x) (us.set i u)
 | _,_,_,.nil=>.nil
 | _,_,0,.cons _ t=>.cons r t
 | _,_,i+1,.cons q t=>.cons q (Vals.set r i t)
def Vals.append:∀ {xs ys:List V}{us ws:List ϊ},Vals xs us->Vals ys ws->Vals (xs++ys) (us++ws)
 | _,_,_,_,.nil,s=>s
 | _,_,_,_,.cons r t,s=>.cons r (Vals.append t s)
def Vals.take:∀ {xs:List V}{us:List ϊ} (n:Nat),Vals xs us->Vals (xs.take n) (us.take n)
 | _,_,0,_=>.nil
 | _,_,_+1,.nil=>.nil
 | _,_,n+1,.cons r t=>.cons r (Vals.take n t)
def Vals.drop:∀ {xs:List V}{us:List ϊ} (n:Nat),Vals xs us->Vals (xs.drop n) (us.drop n)
 | _,_,0,r=>r
 | _,_,_+1,.nil=>.nil
 | _,_,n+1,.cons _ t=>Vals.drop n t
def  eA:Option V->Option ϊ->Prop
 | some v,!u=>RelV v u
 | none,none=>True
 | _,_=>False
def  KV{κ:Type}:List (κ×V)->List (κ×ϊ)->Prop:=Paired fun (p:κ×V) (q:κ×ϊ)=>p.1=q.1/\RelV p.2 q.2
def  kV:Key->V
 | .inl i=>.int i
 | .inr x=>.str x
inductive HO where
 /-- a list -/
 | lst (xs:List V)
 /-- a tuple (never changes) -/
 | tup (xs:List V)
 /-- a dict whose keys are ints and texts;one whose keys are tuples of ints and texts (k8 empty one is both) -/
 | dK (kvs:List (Key×V)) | dT (kvs:List (List Key×V))
 /-- a set of ints: aq members,aq size -/
 | set (S:Int->Bool) (n:Nat)
 /-- an instance of k8 class at C,aq dict at dx,aq attributes -/
 | ins (C dx:ϋ) (fs:List (Str×V))
 /-- k8 dict of k8 instance at x -/
 | own (x:ϋ)
 /-- k8 dict of an exception -/
 | xd (fs:List (Str×V))
 /-- a bound method,f of x -/
 | met (f x:ϋ)
 /-- a range object lo,lo+1,.. below hi -/
 | yW (lo hi:Int)
 /-- a thing that is known to k8 object (k8 script;a dict while a loop walks it): read,never written while it is so -/
 | cD (o:Obj) (u:HO)
 /-- a code object's table -/
 | nu (ps:Array ϊ)
 /-- any other thing,by what is true of aq one object (a def of one's own: SetO a S n:=HO.ext fun h=>..) -/
 | ext (φ:Heap->Prop)
abbrev Hp:=ϋ->Option HO
def  upd(H:Hp)(a:ϋ)(o:HO):Hp:=fun b=>if b=a then !o else H b
def aw{H:Hp}{a:ϋ}{o:HO}:upd H a o a=!o:=by unfold upd;rw[xL rfl]
def ag{H:Hp}{a b:ϋ}{o:HO}(h:b≠a):upd H a o b=H b:=by unfold upd;rw[wP h]
def ku{H:Hp}{a:ϋ}{o u:HO}:upd (upd H a o) a u=upd H a u:=by
 funext b;unfold upd;split <;> rfl
def qD{H:Hp}{a b:ϋ}{o u:HO}(h:H a=!o)(h':H b=!u)(d:o≠u):a≠b:=by
 intro e;subst e;rw[h]at h';show d (Fk h')
def gx{H:Hp}{a b:ϋ}{o:HO}(h:H a=!o)(h':H b=none):a≠b:=by
 intro e;subst e;rw[h]at h';cases h'
def  BF(h:Heap)(a:ϋ)(items:Array ϊ):Prop:=∃ o,h.get? a=!o/\o.cls=.type "tuple" /\ ∃ n,o.data=.seq items n/\o.dict=none
def BF.t{h:Heap}{a:ϋ}{items:Array ϊ}(x:BF h a items):IsTup h a items:=let ⟨o,e,c,n,d,_⟩:=x;#[o,e,c,n,d]
section
variable (P:ύ)(w:World)
def  bU(H:Hp)(h:Heap)(a:ϋ):HO->Prop
 | .lst xs=>xs.length<=sizeLine/\∃ (aq:List ϊ) (n:Nat),Vals xs aq/\h.get? a=!{ cls:=.type "list",data:=.seq aq.toArray n }
 | .tup xs=>xs.length<=sizeLine/\∃ aq:List ϊ,Vals xs aq/\BF h a aq.toArray
 | .dK kvs=>kvs.length<=sizeLine/\(a == sysModules)=false/\∃ vs,KV kvs vs/\h.DictOf (cY P w) a vs
 | .dT kvs=>kvs.length<=sizeLine/\(a == sysModules)=false/\∃ xs:List (List Key×ϋ×ϊ),
   Paired (fun (p:List Key×V) (q:List Key×ϋ×ϊ)=>p.1=q.1/\H q.2.1=!.tup (p.1.map kV)/\RelV p.2 q.2.2) kvs xs /\
   ∃ o es ep,h.get? a=!o/\o.ExactDict/\o.data=.dict es ep/\es.toList=xs.map (entryOfKey (tupleKind (cY P w)))/\(xs.map (·.1)).Nodup
 | .set S n=>h.SetOf (intKind P w) a S n
 | .ins C dx fs=>H dx=!.own a/\fs.length<=1000/\dx≠a/\h.get? a=!W.instObj C dx /\
   ∃ mA,h.Ns1 dx mA/\(∀ f,eA (fs.lookup f) (mA f))/\PySem.Within mA (fs.map (·.1))
 | .own _=>∃ o,h.get? a=!o
 | .xd fs=>∃ mA,h.Ns1 a mA/\∀ f,eA (fs.lookup f) (mA f)
 | .yW lo hi=>∃ t u v,h.get? a=!{ cls:=.type "range",data:=.fields (List.toArray [.int lo t,.int hi u,.int 1 v]) }
 | .cD o u=>h.get? a=!o/\bU H h a u
 | .nu ps=>h.get? a=!{ cls:=.none,data:=.fields ps }
 | .met f x=>h.get? a=!W.methodObj (-f) (-x)
 | .ext φ=>φ h/\(∃ o,h.get? a=!o)/\∀ h1 h2:Heap,φ h1->(∀ o,h1.get? a=!o->h2.get? a=!o)->φ h2
def  cw(H:Hp)(h:Heap):Prop:=∀ a o,H a=!o->bU P w H h a o
end
section
variable {P:ύ}{w:World}{H H':Hp}{h h':Heap}{a:ϋ}{o:HO}
def bU.lt(x:bU P w H h a o):a < h.objs.size:=by
 cases o with
 | lst xs=>let⟨_,_,_,_,e⟩:=x;show sB e
 | tup xs=>let⟨_,_,_,p⟩:=x;show p.t.lt
 | dK kvs=>let⟨_,_,_,_,o,_,_,e,_⟩:=x;show sB e
 | dT kvs=>let⟨_,_,_,_,o,_,_,e,_⟩:=x;show sB e
 | set S n=>let⟨o,_,_,_,e,_⟩:=x;show sB e
 | ins C dx fs=>let⟨_,_,_,e,_⟩:=x;show sB e
 | own y=>let⟨_,e⟩:=x;show sB e
 | xd fs=>let⟨_,⟨_,_,_,e,_⟩,_⟩:=x;show sB e
 | yW lo hi=>let⟨_,_,_,e⟩:=x;show sB e
 | cD ob u=>let⟨e,_⟩:=x;show sB e
 | nu ps=>show sB (show h.get? a=some _ from x)
 | met f y=>show sB (show h.get? a=some _ from x)
 | ext φ=>let⟨_,⟨_,e⟩,_⟩:=x;show sB e
def Paired.AH{α β:Type}{F G:α->β->Prop}:∀ {l₁:List α}{l₂:List β},Paired F l₁ l₂->(∀ a b,F a b->G a b)->Paired G l₁ l₂
 | _,_,.nil,_=>.nil
 | _,_,.cons r t,f=>.cons (f _ _ r) (Paired.AH t f)
def bU.gk(x:bU P w H h a o)(k:∀ b u,(b=a\/H b=!.own a)->h.get? b=!u->h'.get? b=!u)(ho:∀ b,H b=!.own a->H' b=!.own a)(ht:∀ b xs,H b=!.tup xs->H' b=!.tup xs):bU P w H' h' a o:=by
 induction o with
 | lst xs=>let⟨z,aq,n,r,e⟩:=x;show#[z,aq,n,r,k _ _ (.inl rfl) e]
 | tup xs=>let⟨z,aq,r,ob,e,c⟩:=x;show#[z,aq,r,ob,k _ _ (.inl rfl) e,c]
 | dK kvs=>let⟨z,y,vs,r,ob,es,ep,e,c⟩:=x;show#[z,y,vs,r,ob,es,ep,k _ _ (.inl rfl) e,c]
 | dT kvs =>
  let⟨z,y,xs,r,ob,es,ep,e,c⟩:=x;show#[z,y,xs,Paired.AH r fun p q z=>#[z.1,ht _ _ z.2.1,z.2.2],ob,es,ep,k _ _ (.inl rfl) e,c]
 | set S n=>let⟨ob,es,ep,t,e,c⟩:=x;show#[ob,es,ep,t,k _ _ (.inl rfl) e,c]
 | ins C dx fs =>
  let⟨d,z,ne,e,mA,⟨od,es,ep,e2,c⟩,r⟩:=x;show#[ho _ d,z,ne,k _ _ (.inl rfl) e,mA,#[od,es,ep,k _ _ (.inr d) e2,c],r]
 | own y=>let⟨ob,e⟩:=x;show#[ob,k _ _ (.inl rfl) e]
 | xd fs=>let⟨mA,⟨od,es,ep,e,c⟩,r⟩:=x;show#[mA,#[od,es,ep,k _ _ (.inl rfl) e,c],r]
 | yW lo hi=>let⟨t,u,v,e⟩:=x;show#[t,u,v,k _ _ (.inl rfl) e]
 | cD ob u ih=>let⟨e,q⟩:=x;show#[k _ _ (.inl rfl) e,ih q]
 | nu ps =>
  have e:h.get? a=!{ cls:=.none,data:=.fields ps }:=x;change h'.get? a=!{ cls:=.none,data:=.fields ps };show k a _ (.inl rfl) e
 | met f y =>
  have e:h.get? a=!W.methodObj (-f) (-y):=x;change h'.get? a=!W.methodObj (-f) (-y);show k a _ (.inl rfl) e
 | ext φ=>let⟨p,⟨o,e⟩,st⟩:=x;show#[st _ _ p fun o q=>k _ _ (.inl rfl) q,#[o,k _ _ (.inl rfl) e],st]
def cw.lt(x:cw P w H h)(e:H a=!o):a < h.objs.size:=(x a o e).lt
def cw.fresh(x:cw P w H h)(e:h.objs.size<=a):H a=none:=by
 cases q:H a with
 | none=>rfl
 | some u=>show absurd (wf (x.lt q) e) (Ix _)
def cw.kept(x:cw P w H h)(k:∀ b u,h.get? b=!u->h'.get? b=!u):cw P w H h':=fun a o e =>
 (x a o e).gk (fun b u _ q=>k b u q) (fun _ q=>q) fun _ _ q=>q
def cw.laid(x:cw P w H h)(k:∀ b u,h.get? b=!u->h'.get? b=!u)(hp:h.objs.size<=a)(new:bU P w (upd H a o) h' a o):cw P w (upd H a o) h':=fun b u e=>by
 have hn:=x.fresh hp;by_cases hb:b=a
 ·subst hb;rw[aw]at e;cases e;show new
 ·rw[ag hb]at e;show(x b u e).gk (fun c v _ q=>k c v q) (fun c q=>by rw[ag (gx q hn)];show q) fun c xs q=>by rw[ag (gx q hn)];show q
end
def  Rd(H:Hp)(a:ϋ)(u:HO):Prop:=H a=!u\/∃ o,H a=!.cD o u
def Rd.ok{P:ύ}{w:World}{H:Hp}{h:Heap}{a:ϋ}{u:HO}(r:Rd H a u)(x:cw P w H h):bU P w H h a u:=by
 rcases r with r | ⟨o,r⟩
 ·show x a u r
 ·let⟨_,q⟩:=x a _ r;show q
def  qZ:Option HO->Prop
 | some (.lst _)=>True
 | some (.dK _)=>True
 | some (.dT _)=>True
 | some (.set _ _)=>True
 | some (.ins _ _ _)=>True
 | some (.ext _)=>True
 | _=>False
section
variable {P:ύ}{w:World}{H:Hp}{h h':Heap}{x e:ϋ}{o':HO}
def cw.write(ok:cw P w H h)(mu:qZ (H x))(he:e=x\/H e=!.own x)(k:∀ b u,b≠e->h.get? b=!u->h'.get? b=!u)(sW:∃ u,h'.get? e=!u)(new:bU P w (upd H x o') h' x o'):cw P w (upd H x o') h':=fun b u q=>by
 have QZ:∀ c y,H c=!.own y->c≠x:=fun c y r z=>by subst z;rw[r]at mu;show mu
 have ntup:∀ c xs,H c=!.tup xs->c≠x:=fun c xs r z=>by subst z;rw[r]at mu;show mu
 by_cases hb:b=x
 ·subst hb;rw[aw]at q;cases q;show new
 ·rw[ag hb]at q;by_cases pO:b=e
  ·have q':H b=!.own x:=by
    rcases he with z | z
    ·show absurd (pO.trans z) hb
    ·rw[pO];show z
   rw[q]at q';cases q';let⟨v,hv⟩:=sW;show#[v,by rw[pO];show hv]
  ·show(ok b u q).gk (fun c v hc r=>k c v ?_ r) (fun c r=>by rw[ag (QZ c b r)];show r) fun c xs r=>by rw[ag (ntup c xs r)];show r
   rcases hc with rfl | hc
   ·show pO
   ·rintro rfl;rcases he with z | z
    ·show QZ c b hc z
    ·rw[hc]at z;cases z;show hb rfl
end
structure Un(fs ex:List ϋ)(H H':Hp)(h h':Heap):Prop where
 keep:∀ b o,h.get? b=!o->H b=none->b ∉ fs->b ∉ ex->h'.get? b=!o
 slot:∀ b o,h.get? b=!o->H b=none->b∈fs->b ∉ ex->∃ sl,h'.get? b=!{ o with slots:=sl }
 free:∀ b o,h.get? b=!o->H b=none->b ∉ ex->H' b=none
 there:∀ b o,h.get? b=!o->b ∉ ex->∃ o',h'.get? b=!o'
 fS:∀ b xs,H b=!.tup xs->H' b=!.tup xs
 fc:∀ b o u,H b=!.cD o u->H' b=!.cD o u
 fK:∀ b ps,H b=!.nu ps->∃ more,H' b=!.nu (ps++more)
section
variable {fs fs' ex ex':List ϋ}{H H1 H2:Hp}{h h1 h2 h':Heap}{a x e:ϋ}{o:HO}
def Un.any(u:Un fs ex H H1 h h1){b:ϋ}{ob:Obj}(q:h.get? b=!ob)(n:H b=none)(hx:b ∉ ex):∃ sl,h1.get? b=!{ ob with slots:=sl }:=by
 by_cases hb:b∈fs
 ·show u.slot b ob q n hb hx
 ·show#[ob.slots,u.keep b ob q n hb hx]
def Un.kept(k:∀ b u,h.get? b=!u->h'.get? b=!u):Un fs ex H H h h' :=
 #[fun b ob q _ _ _=>k b ob q,fun b ob q _ _ _=>#[ob.slots,k b ob q],fun _ _ _ n _=>n,fun b ob q _=>#[ob,k b ob q],fun _ _ q=>q,fun _ _ _ q=>q,fun _ ps q=>#[(List.toArray []),by rw[q];simp]]
def Un.refl:Un fs ex H H h h:=Un.kept fun _ _ q=>q
def Un.laid(k:∀ b u,h.get? b=!u->h'.get? b=!u)(hp:h.objs.size<=a)(hn:H a=none):Un fs ex H (upd H a o) h h' where
 keep:=fun b u q _ _ _=>k b u q
 slot:=fun b u q _ _ _=>#[u.slots,k b u q]
 free:=fun b u q n _=>by rw[ag (wT (wf (sB q) hp))];show n
 there:=fun b u q _=>#[u,k b u q]
 fS:=fun b xs q=>by rw[ag (gx q hn)];show q
 fc:=fun b u xs q=>by rw[ag (gx q hn)];show q
 fK:=fun b ps q=>#[(List.toArray []),by rw[ag (gx q hn),q];simp]
def Un.write(mu:qZ (H x))(he:e=x\/H e=!.own x)(k:∀ b u,b≠e->h.get? b=!u->h'.get? b=!u)(sW:∃ u,h'.get? e=!u):Un fs ex H (upd H x o) h h':=by
 have hx:∀ b,H b=none->b≠x:=fun b n z=>by subst z;rw[n]at mu;show mu
 have hb:∀ b,H b=none->b≠e:=fun b n z=>by
  subst z;rcases he with r | r
  ·show hx b n r
  ·rw[n]at r;cases r
 have hm:∀ b u,H b=!u->¬ qZ (!u)->b≠x:=fun b u q nm z=>by subst z;rw[q]at mu;show nm mu
 show#[fun b u q n _ _=>k b u (hb b n) q,fun b u q n _ _=>#[u.slots,k b u (hb b n) q],fun b u q n _=>by rw[ag (hx b n)];show n,fun b u q _=>?_,
  fun b xs q=>by rw[ag (hm b _ q fun z=>z)];show q,fun b u xs q=>by rw[ag (hm b _ q fun z=>z)];show q,fun b ps q=>#[(List.toArray []),by rw[ag (hm b _ q fun z=>z),q];simp]]
 by_cases pO:b=e
 ·subst pO;show sW
 ·show#[u,k b u pO q]
end
def  xB(h:Heap)(H:Hp):List ϋ:=(List.range h.objs.size).filter fun a=>(H a).isSome
def  jC(h:Heap)(H:Hp):Heap:=W.hideAll h (xB h H)
def acJ(h:Heap)(H:Hp):(jC h H).objs.size=h.objs.size:=W.hideAll_size _ _
def aez{h:Heap}{H:Hp}{b:ϋ}{o:Obj}(e:h.get? b=!o)(n:H b=none):(jC h H).get? b=!o :=
 Ja7 _ e fun hm=>by
  have q:(H b).isSome=true:=(UV.mp hm).2;rw[n]at q;simp at q
def RO{h:Heap}{H:Hp}{b:ϋ}{o:Obj}(e:(jC h H).get? b=!o):h.get? b=!o/\H b=none:=by
 have e':h.get? b=!o:=Jae (xB h H) e;show#[e',?_];cases q:H b with
 | none=>rfl
 | some x =>
  have hm:b∈xB h H:=UV.mpr #[Jaf.mpr (sB e'),by simp[q]];have z:(jC h H).get? b=none:=W.hideAll_none (xB h H) hm;rw[z]at e;cases e
def  Yt(g h:Heap)(L:ϋ):List (ϋ×Obj):=(List.range h.objs.size).filterMap fun a=>if a=L\/(g.get? a).isSome=true then none else (h.get? a).map fun o=>(a,o)
def  rest(g h:Heap)(L d:ϋ):List (ϋ×Obj):=(Yt g h L).filter fun p=>decide (p.1≠d)
structure Mod(K:ν)(mg:Str->Option ϊ)(base:Heap):Prop where
 iN:K.In base
 glob:base.Ns mainGlobals mg
 blt:∃ mb,base.Ns builtinsNs mb/\∀ x:Str,x ≠ "__name__" -> mb x=bootBuiltins x
 nolimit:base.NoLimit
structure Cx where
 prog:ύ
 w:World
 K:ν
 mg:Str->Option ϊ
 base:Heap
 A:Around
 N:List Str
 s₀:ό
 H₀:Hp
 env:Env
 outer:List Env
 stack:List Env
 ex:List ϋ
 fn:Str->Bool
 calm:Bool
 pn:List (ϋ×Obj)
 xe:ϊ->ό->Prop
def  bZ(l:List Env):List ϋ:=l.filterMap (·.frame)
abbrev Cx.fs(X:Cx):List ϋ:=bZ X.outer
def  nH(sc:Scope)(x:Str):Prop:=sc.names.lookup x=!.local\/sc.names.lookup x=!.cell\/sc.names.lookup x=!.free
def  Loc(sc:Scope)(x:Str):Prop:=sc.names.lookup x=!.local\/sc.names.lookup x=!.cell
def  Look(env:Env)(h:Heap)(m:Str->Option ϊ)(x:Str)(u:ϊ):Prop :=
 (env.kindOf x=!.local/\m x=!u)\/((env.kindOf x=!.cell\/env.kindOf x=!.free)/\∃ c,env.cells.lookup x=!c/\h.IsCell c (!u))
structure Cx.Ok(X:Cx):Prop where
 mod:Mod X.K X.mg X.base
 kind:X.env.scope.kind=.function
 glob:X.env.globals=mainGlobals
 blt:X.env.builtins=builtinsNs
 above:X.s₀.heap.objs.size<=X.env.locals
 inj:∀ x y c,X.env.cells.lookup x=!c->X.env.cells.lookup y=!c->x=y
 has:∀ x,(X.env.kindOf x=!.cell\/X.env.kindOf x=!.free)->∃ c,X.env.cells.lookup x=!c
 lQ:∀ x c,X.fn x=true->X.env.cells.lookup x=!c->X.s₀.heap.objs.size<=c
 hd:X.calm=true->X.A.handled=none
 frames:X.A.frames=!X.stack
 dM:X.stack=X.outer\/(X.stack=X.env::X.outer/\X.env.frame=!X.env.locals)
 uL:∀ b∈X.ex,b≠X.env.locals/\∀ x c,X.env.cells.lookup x=!c->c≠b
 bs:∀ b o,X.base.get? b=!o->X.s₀.heap.get? b=!o/\X.H₀ b=none
 ia:X.base.objs.size<=X.s₀.heap.objs.size
 nM:∀ b o,X.base.get? b=!o->b ∉ X.ex
 nj:∀ b∈X.ex,b ∉ X.fs
 fB:X.s₀.heap.FunFrames X.base X.outer
 jG:∀ b∈X.fs,X.H₀ b=none
structure Inv(X:Cx)(π:List (ϋ×Obj))(σ:List (Option V))(H:Hp)(s:ό):Prop where
 ok:X.Ok
 os:s.os=X.s₀.os
 bare:AllBare s.gens
 base:Un X.fs X.ex X.H₀ H X.s₀.heap s.heap
 loc:∃ m,s.heap.Ns X.env.locals m/\∀ (i:Nat) (x:Str) (v:V),X.N[i]?=!x->σ[i]?=!(!v)->nH X.env.scope x->∃ u,RelV v u/\Look X.env s.heap m x u
 cell:∀ x c,X.env.cells.lookup x=!c->∃ v,s.heap.IsCell c v
 free:H X.env.locals=none
 eN:∀ x c,X.env.cells.lookup x=!c->H c=none
 pin:∀ p∈X.pn++π,s.heap.get? p.1=!p.2/\H p.1=none/\p.1≠X.env.locals/\p.1 ∉ X.fs/\∀ v,p.2.data≠.cell v
 aA:cw X.prog X.w H s.heap
 len:σ.length=X.N.length
section
variable {X:Cx}{π:List (ϋ×Obj)}{σ:List (Option V)}{H H':Hp}{s:ό}{h':Heap}
def Cx.Ok.aa8(ok:X.Ok){b:ϋ}{o:Obj}(e:X.base.get? b=!o):b ∉ X.fs:=fun hb=>by
 have:=(ok.fB.mem hb).1;rw[e]at this;cases this
def Inv.bs(I:Inv X π σ H s):∀ b o,X.base.get? b=!o->s.heap.get? b=!o/\H b=none:=fun b o e =>
 #[I.base.keep b o (I.ok.bs b o e).1 (I.ok.bs b o e).2 (I.ok.aa8 e) (I.ok.nM b o e),I.base.free b o (I.ok.bs b o e).1 (I.ok.bs b o e).2 (I.ok.nM b o e)]
def Inv.bk(I:Inv X π σ H s):∀ b o,X.base.get? b=!o->s.heap.get? b=!o:=fun b o e=>(I.bs b o e).1
def Inv.mod(I:Inv X π σ H s):Mod X.K X.mg X.base:=I.ok.mod
def Inv.cq(I:Inv X π σ H s):X.K.In s.heap:=I.ok.mod.iN.keeps I.bk
def Inv.lt(I:Inv X π σ H s):X.env.locals < s.heap.objs.size:=let ⟨_,hn,_⟩:=I.loc;hn.lt
def Inv.sz(I:Inv X π σ H s):X.s₀.heap.objs.size<=s.heap.objs.size:=wE I.ok.above (Jac I.lt)
def Inv.Mi(I:Inv X π σ H s){a:ϋ}(h:s.heap.objs.size<=a):a ∉ X.fs:=fun hb=>by
 let⟨_,o,ho,_⟩:=I.ok.fB.mem hb;show absurd (wf (sB ho) (wE I.sz h)) (Ix _)
def Inv.jX(I:Inv X π σ H s):∀ x c,X.env.cells.lookup x=!c->c≠X.env.locals:=fun x c e z=>by
 let⟨v,o,ho,hd⟩:=I.cell x c e;let⟨m,⟨o',es,ep,ho',hd',_⟩,_⟩:=I.loc;rw[z,ho']at ho;cases ho;rw[hd']at hd;cases hd
def Inv.fB(I:Inv X π σ H s):s.heap.FunFrames X.base X.outer:=by
 have all:∀ (l:List Env),(∀ b∈bZ l,b∈X.fs)->X.s₀.heap.FunFrames X.base l->s.heap.FunFrames X.base l:=by
  intro l
  induction l with
  | nil=>intro _ _;trivial
  | cons env r ih =>
   intro hs hl;let⟨hk,⟨L,o,hf,hn,ho,hd⟩,hr⟩:=hl;have hL:L∈X.fs:=hs L (by unfold bZ;rw[_k,hf];show SZ);let⟨sl,e⟩:=I.base.slot L o ho (I.ok.jG L hL) hL fun z=>I.ok.nj L z hL;show#[hk,#[L,_,hf,hn,e,hd],ih (fun b hb=>hs b (by unfold bZ;rw[_k,hf];show AC _ hb)) hr]
 show all X.outer (fun _ hb=>hb) I.ok.fB
def Inv.stack(I:Inv X π σ H s):s.heap.FunFrames X.base X.stack:=by
 rcases I.ok.dM with e | ⟨e,hf⟩
 ·rw[e];show I.fB
 ·rw[e];let⟨m,hn,_⟩:=I.loc;show .cons (by rw[I.ok.kind];decide) hf hn ?_ I.fB;show _g (wE I.ok.ia I.ok.above)
def Inv.vj(I:Inv X π σ H s):∀ b∈bZ X.stack,b∈X.env.locals::X.fs:=fun b hb=>by
 rcases I.ok.dM with e | ⟨e,hf⟩
 ·rw[e]at hb;show AC _ hb
 ·rw[e]at hb;unfold bZ at hb;rw[_k,hf]at hb;show hb
def Inv.xn(I:Inv X π σ H s):∀ b∈bZ X.stack,H b=none:=fun b hb=>by
 rcases jp.mp (I.vj b hb) with e | hb
 ·rw[e];show I.free
 ·let⟨_,o,ho,_⟩:=I.ok.fB.mem hb;show I.base.free b o ho (I.ok.jG b hb) fun z=>I.ok.nj b z hb
def Inv.step{g':Array GenState}{t':Nat}{d':Drawn}{ch:List ϋ}(I:Inv X π σ H s)(ly:∀ b∈ch,(b∈X.ex\/X.s₀.heap.objs.size<=b)/\b≠X.env.locals/\(∀ x c,X.env.cells.lookup x=!c->c≠b)/\∀ p∈X.pn++π,p.1≠b)(keep:∀ b o,b≠X.env.locals->b ∉ X.fs->b ∉ ch->s.heap.get? b=!o->H b=none->h'.get? b=!o)(slot:∀ b o,b≠X.env.locals->b∈X.fs->b ∉ ch->s.heap.get? b=!o->H b=none->∃ sl,h'.get? b=!{ o with slots:=sl })(free:∀ b o,b ∉ ch->s.heap.get? b=!o->H b=none->H' b=none)(there:∀ b o,b ∉ ch->s.heap.get? b=!o->∃ o',h'.get? b=!o')(fS:∀ b xs,H b=!.tup xs->H' b=!.tup xs)(fc:∀ b o u,H b=!.cD o u->H' b=!.cD o u)(fK:∀ b ps,H b=!.nu ps->∃ more,H' b=!.nu (ps++more))(ns:∀ m,s.heap.Ns X.env.locals m->h'.Ns X.env.locals m)(aA:cw X.prog X.w H' h')(hg:AllBare g') :
  Inv X π σ H' { s with heap:=h',gens:=g',drawn:=d',toks:=t' }:=by
 have vZ:∀ b o,X.s₀.heap.get? b=!o->b≠X.env.locals:=fun b o e=>wT (wf (sB e) I.ok.above);have zO:∀ b o,X.s₀.heap.get? b=!o->b ∉ X.ex->b ∉ ch:=fun b o e hx hb=>by
  rcases (ly b hb).1 with z | z
  ·show hx z
  ·show absurd (wf (sB e) z) (Ix _)
 have cellK:∀ x c,X.env.cells.lookup x=!c->∀ v,s.heap.IsCell c v->h'.IsCell c v:=fun x c e v #[o,ho,hd]=>by
  have wg:c ∉ ch:=fun z=>(ly c z).2.2.1 x c e rfl;by_cases hc:c∈X.fs
  ·let⟨sl,q⟩:=slot c o (I.jX x c e) hc wg ho (I.eN x c e);show#[_,q,hd]
  ·show#[o,keep c o (I.jX x c e) hc wg ho (I.eN x c e),hd]
 show#[I.ok,I.os,hg,#[fun b o e n hb hx=>?_,fun b o e n hb hx=>?_,fun b o e n hx=>?_,fun b o e hx=>?_,fun b xs e=>fS b xs (I.base.fS b xs e),fun b o xs e=>fc b o xs (I.base.fc b o xs e),fun b ps e=>?_],?_,fun x c e=>?_,?_,fun x c e=>?_,fun p hp=>?_,aA,I.len]
 ·show keep b o (vZ b o e) hb (zO b o e hx) (I.base.keep b o e n hb hx) (I.base.free b o e n hx)
 ·let⟨sl,e1⟩:=I.base.slot b o e n hb hx;let⟨sl',e2⟩:=slot b _ (vZ b o e) hb (zO b o e hx) e1 (I.base.free b o e n hx);show#[sl',e2]
 ·let⟨o',e1⟩:=I.base.there b o e hx;show free b o' (zO b o e hx) e1 (I.base.free b o e n hx)
 ·let⟨o',e1⟩:=I.base.there b o e hx;show there b o' (zO b o e hx) e1
 ·let⟨m1,e1⟩:=I.base.fK b ps e;let⟨m2,e2⟩:=fK b _ e1;show#[m1++m2,by rw[e2,Array.append_assoc]]
 ·let⟨m,hn,hl⟩:=I.loc;show#[m,ns m hn,fun i x v e1 e2 e3=>?_];let⟨u,r,l⟩:=hl i x v e1 e2 e3;show#[u,r,?_];rcases l with l | ⟨k,c,e,z⟩
  ·show .inl l
  ·show .inr #[k,c,e,cellK x c e _ z]
 ·let⟨v,z⟩:=I.cell x c e;show#[v,cellK x c e v z]
 ·let⟨m,⟨o,_,_,ho,_⟩,_⟩:=I.loc;show free _ o (fun z=>(ly _ z).2.1 rfl) ho I.free
 ·let⟨v,o,ho,hd⟩:=I.cell x c e;show free c o (fun z=>(ly c z).2.2.1 x c e rfl) ho (I.eN x c e)
 ·let⟨e,n,ne,nf,d⟩:=I.pin p hp;have wg:p.1 ∉ ch:=fun z=>(ly p.1 z).2.2.2 p hp rfl;show#[keep p.1 p.2 ne nf wg e n,free p.1 p.2 wg e n,ne,nf,d]
def Inv.un{t':Nat}(I:Inv X π σ H s)(u:Un X.fs [] H H' s.heap h')(aA:cw X.prog X.w H' h'):Inv X π σ H' { s with heap:=h',toks:=t' }:=by
 let⟨m,⟨o,es,ep,ho,r⟩,_⟩:=id I.loc;let⟨sl,hL⟩:=u.any ho I.free ();show I.step (g':=s.gens) (d':=s.drawn) (ch:=[]) (fun _ z=>nomatch z) (fun b o _ hb _ e n=>u.keep b o e n hb ()) (fun b o _ hb _ e n=>u.slot b o e n hb ()) (fun b o _ e n=>u.free b o e n ()) (fun b o _ e=>u.there b o e ()) u.fS u.fc u.fK (fun m' hm=>by
  let⟨o',es',ep',ho',r'⟩:=hm;rw[ho]at ho';cases ho';show#[_,es',ep',hL,r']) aA I.bare
def Inv.call{g':Array GenState}{t':Nat}{d':Drawn}{ch:List ϋ}(I:Inv X π σ H s)(u:Un (bZ X.stack) ch H H' s.heap h')(aA:cw X.prog X.w H' h')(hg:AllBare g')(ly:∀ b∈ch,(b∈X.ex\/X.s₀.heap.objs.size<=b)/\b≠X.env.locals/\(∀ x c,X.env.cells.lookup x=!c->c≠b)/\∀ p∈X.pn++π,p.1≠b) :
  Inv X π σ H' { s with heap:=h',gens:=g',drawn:=d',toks:=t' }:=by
 let⟨m,⟨o,es,ep,ho,r⟩,_⟩:=id I.loc;let⟨sl,hL⟩:=u.any ho I.free fun z=>(ly _ z).2.1 rfl;show I.step (ch:=ch) ly (fun b o hL hb hc e n=>u.keep b o e n (fun z=>(jp.mp (I.vj b z)).elim hL hb) hc) (fun b o _ _ hc e n=>u.any e n hc) (fun b o hc e n=>u.free b o e n hc) (fun b o hc e=>u.there b o e hc) u.fS u.fc u.fK (fun m' hm=>by
  let⟨o',es',ep',ho',r'⟩:=hm;rw[ho]at ho';cases ho';show#[_,es',ep',hL,r']) aA hg
def Inv.turned{t':Nat}{it:ϋ}(I:Inv X π σ H s)(k:∀ b o,b≠it->s.heap.get? b=!o->h'.get? b=!o)(hn:H it=none)(hL:it≠X.env.locals)(h1:it∈X.ex\/X.s₀.heap.objs.size<=it)(h2:∀ x c,X.env.cells.lookup x=!c->c≠it)(h3:∀ p∈X.pn++π,p.1≠it):Inv X π σ H { s with heap:=h',toks:=t' }:=by
 have Q6:∀ b u,H b=!u->b≠it:=fun b u e z=>by rw[z,hn]at e;cases e
 show I.step (g':=s.gens) (d':=s.drawn) (ch:=[it]) (fun b hb=>?_) (fun b o _ _ hc e _=>k b o (fun z=>hc (by simp[z])) e) (fun b o _ _ hc e _=>#[o.slots,k b o (fun z=>hc (by simp[z])) e]) (fun _ _ _ _ n=>n)
  (fun b o hc e=>#[o,k b o (fun z=>hc (by simp[z])) e]) (fun _ _ e=>e) (fun _ _ _ e=>e) (fun b ps e=>#[(List.toArray []),by rw[e];simp]) (fun m hm=>?_) (fun b u e=>?_) I.bare
 ·have e:b=it:=by simpa using hb
  subst e;show#[h1,hL,h2,h3]
 ·let⟨o,es,ep,ho,r⟩:=hm;show#[o,es,ep,k _ o (pp hL) ho,r]
 ·show(I.aA b u e).gk (fun c v hc q=>k c v ?_ q) (fun _ q=>q) fun _ _ q=>q;rcases hc with z | z
  ·rw[z];show Q6 b u e
  ·show Q6 c _ z
def Inv.tok(I:Inv X π σ H s)(t:Nat):Inv X π σ H { s with toks:=t }:=I.un (h':=s.heap) (t':=t) Un.refl I.aA
def Inv.kept{t':Nat}(I:Inv X π σ H s)(k:∀ b u,s.heap.get? b=!u->h'.get? b=!u):Inv X π σ H { s with heap:=h',toks:=t' }:=I.un (Un.kept k) (I.aA.kept k)
def Inv.laid{a:ϋ}{o:HO}{t':Nat}(I:Inv X π σ H s)(k:∀ b u,s.heap.get? b=!u->h'.get? b=!u)(hp:s.heap.objs.size<=a)(new:bU X.prog X.w (upd H a o) h' a o) :
  Inv X π σ (upd H a o) { s with heap:=h',toks:=t' }:=I.un (Un.laid k hp (I.aA.fresh hp)) (I.aA.laid k hp new)
def Inv.write{x e:ϋ}{o:HO}{t':Nat}(I:Inv X π σ H s)(mu:qZ (H x))(he:e=x\/H e=!.own x)(k:∀ b u,b≠e->s.heap.get? b=!u->h'.get? b=!u)(sW:∃ u,h'.get? e=!u)(new:bU X.prog X.w (upd H x o) h' x o):Inv X π σ (upd H x o) { s with heap:=h',toks:=t' }:=I.un (Un.write mu he k sW) (I.aA.write mu he k sW new)
def Inv.uC{π':List (ϋ×Obj)}(I:Inv X π σ H s)(h:∀ p∈π',s.heap.get? p.1=!p.2/\H p.1=none/\p.1≠X.env.locals/\p.1 ∉ X.fs/\∀ v,p.2.data≠.cell v):Inv X π' σ H s :=
 #[I.ok,I.os,I.bare,I.base,I.loc,I.cell,I.free,I.eN,fun p hp=>(Fr.mp hp).elim (fun z=>I.pin p (Tm _ z)) (h p),I.aA,I.len]
def Dm{N:List Str}(hN:N.Nodup){i j:Nat}{x:Str}(a:N[i]?=!x)(b:N[j]?=!x):i=j:=by
 let⟨h1,e1⟩:=lm.mp a;let⟨h2,e2⟩:=lm.mp b;show(List.getElem_inj hN).mp (e1.trans e2.symm)
def Oq{M:Model}{A:Around}{E:ϊ->ό->Prop}{i:Nat}{x:Str}{v:V}{u:ϊ}{Q:Unit->ό->Prop}(I:Inv X π σ H s)(hN:X.N.Nodup)(hi:X.N[i]?=!x)(hx:Loc X.env.scope x)(r:RelV v u)(h:∀ s',Inv X π (σ.set i (!v)) H s'->(∃ a,Heap.SameBut a s.heap s'.heap/\(a=X.env.locals\/X.env.cells.lookup x=!a))->Q .unit s')(hf:X.fn x=true\/X.env.scope.names.lookup x=!.local:=by first | show .inl rfl | show .inr rfl | assumption):wpAny M A (storeName X.env x u) Q E s:=by
 let⟨m,hn,hl⟩:=id I.loc;have GX:(X.env.scope.kind == .class || (X.env.scope.kind == .module && X.env.locals != X.env.globals))=false:=by rw[I.ok.kind];rfl
 have Pc:i < σ.length:=by rw[I.len];show(lm.mp hi).1
 have jX:=I.jX;have tracked:∀ {a:ϋ}{h':Heap},(∃ o,s.heap.get? a=!o/\H a=none)->Heap.SameBut a s.heap h'->cw X.prog X.w H h':=fun {a h'} ha hs b ob e=>by
  let⟨_,_,nU⟩:=ha;show(I.aA b ob e).gk (fun c w' hc q=>(hs.2 c ?_).trans q) (fun _ q=>q) fun _ _ q=>q;rintro rfl;rcases hc with rfl | hc
  ·rw[nU]at e;cases e
  ·rw[nU]at hc;cases hc
 rcases hx with hk | hk
 ·show wpAny_storeName_local hk hn (fun h' hn' hs=>?_) GX;let⟨oL,_,_,ir,_⟩:=id hn;show h _ #[I.ok,I.os,I.bare,#[fun b o e n hb hx=>?_,fun b o e n hb hx=>?_,I.base.free,fun b o e hx=>?_,I.base.fS,I.base.fc,I.base.fK],#[_,hn',fun j y v' e1 e2 e3=>?_],fun y c e=>?_,I.free,I.eN,fun p hp=>?_,tracked #[oL,ir,I.free] hs,by simpa using I.len] #[_,hs,.inl rfl]
  ·show(hs.2 b (wT (wf (sB e) I.ok.above))).trans (I.base.keep b o e n hb hx)
  ·let⟨sl,e1⟩:=I.base.slot b o e n hb hx;show#[sl,(hs.2 b (wT (wf (sB e) I.ok.above))).trans e1]
  ·let⟨o',e1⟩:=I.base.there b o e hx;show#[o',(hs.2 b (wT (wf (sB e) I.ok.above))).trans e1]
  ·by_cases hj:j=i
   ·subst hj;rw[hi]at e1;cases e1;rw[Db Pc]at e2;cases e2;show#[u,r,.inl #[hk,()]]
   ·rw[AT (pp hj)]at e2;let⟨u',r',q⟩:=hl j y v' e1 e2 e3;show#[u',r',?_];rcases q with ⟨k,e⟩ | ⟨k,c,e,z⟩
    ·show .inl #[k,?_];have:y≠x:=fun e=>hj (Dm hN e1 (e ▸ hi));simp[this,e]
    ·show .inr #[k,c,e,z.sameBut hs (jX y c e)]
  ·let⟨w',z⟩:=I.cell y c e;show#[w',z.sameBut hs (jX y c e)]
  ·let⟨e,n,ne,nf,d⟩:=I.pin p hp;show#[(hs.2 p.1 ne).trans e,n,ne,nf,d]
 ·have qc:X.fn x=true:=by
   rcases hf with z | z
   ·show z
   ·rw[z]at hk;cases hk
  let⟨c,hc⟩:=I.ok.has x (.inl hk);let⟨w',z⟩:=I.cell x c hc;show wpAny_storeName_cell I.ok.kind hk hc z (fun h' hc' hs=>?_);let⟨oc,PN,hocd⟩:=id z;show h { s with heap:=h' } #[I.ok,I.os,I.bare,#[fun b o e n hb hx=>?_,fun b o e n hb hx=>?_,I.base.free,fun b o e hx=>?_,I.base.fS,I.base.fc,I.base.fK],#[m,hn.sameBut hs (pp (jX x c hc)),fun j y v' e1 e2 e3=>?_],fun y c' e=>?_,I.free,I.eN,fun p hp=>?_,tracked #[oc,PN,I.eN x c hc] hs,by simpa using I.len] #[c,hs,.inr hc]
  ·show(hs.2 b (wT (wf (sB e) (I.ok.lQ x c qc hc)))).trans (I.base.keep b o e n hb hx)
  ·let⟨sl,e1⟩:=I.base.slot b o e n hb hx;show#[sl,(hs.2 b (wT (wf (sB e) (I.ok.lQ x c qc hc)))).trans e1]
  ·let⟨o',e1⟩:=I.base.there b o e hx;show#[o',(hs.2 b (wT (wf (sB e) (I.ok.lQ x c qc hc)))).trans e1]
  ·by_cases hj:j=i
   ·subst hj;rw[hi]at e1;cases e1;rw[Db Pc]at e2;cases e2;show#[u,r,.inr #[.inl hk,c,hc,hc']]
   ·rw[AT (pp hj)]at e2;let⟨u',r',q⟩:=hl j y v' e1 e2 e3;show#[u',r',?_];rcases q with q | ⟨k,c',e,z'⟩
    ·show .inl q
    ·show .inr #[k,c',e,z'.sameBut hs ?_];rintro rfl;show hj (Dm hN e1 (I.ok.inj _ _ _ e hc ▸ hi))
  ·by_cases zw:c'=c
   ·subst zw;show#[_,hc']
   ·let⟨w2,z2⟩:=I.cell y c' e;show#[w2,z2.sameBut hs zw]
  ·let⟨e,n,ne,nf,d⟩:=I.pin p hp;show#[(hs.2 p.1 ?_).trans e,n,ne,nf,d];intro q;rw[q,PN]at e;have q':oc=p.2:=Fk e;show d w' (by rw[<- q'];show hocd)
def Fv{M:Model}{A:Around}{E:ϊ->ό->Prop}{i:Nat}{x:Str}{v:V}{u:ϊ}{Q:Unit->ό->Prop}(I:Inv X π σ H s)(hN:X.N.Nodup)(hi:X.N[i]?=!x)(hx:Loc X.env.scope x)(r:RelV v u)(h:∀ s',Inv X π (σ.set i (!v)) H s'->Q .unit s')(hf:X.fn x=true\/X.env.scope.names.lookup x=!.local:=by first | show .inl rfl | show .inr rfl | assumption):wpAny M A (storeName X.env x u) Q E s :=
 Oq I hN hi hx r (fun s' I' _=>h s' I') hf
def Inv.LQ{s':ό}{ch:List ϋ}(I:Inv X π σ H s)(ho:s'.os=s.os)(u:Un (bZ X.stack) ch H H' s.heap s'.heap)(aA:cw X.prog X.w H' s'.heap)(hg:AllBare s'.gens)(ly:∀ b∈ch,(b∈X.ex\/X.s₀.heap.objs.size<=b)/\b≠X.env.locals/\(∀ x c,X.env.cells.lookup x=!c->c≠b)/\∀ p∈X.pn++π,p.1≠b):Inv X π σ H' s':=by
 let⟨h',g',d',t',o'⟩:=s';have e:o'=s.os:=ho;subst e;show I.call (g':=g') (t':=t') (d':=d') u aA hg ly
end
abbrev XK:=ϊ->Option ϋ->Hp->Prop
abbrev St:=List (Option V)
abbrev VK:=V->Hp->Prop
abbrev TE:=St->Hp->VK->Prop
abbrev TT:=St->Hp->(Bool->Hp->Prop)->Prop
abbrev TA:=St->Hp->(List V->Hp->Prop)->Prop
structure Ends where
 nx:St->Hp->Prop
 rt:VK
 bk:St->Hp->Prop:=fun _ _=>False
 ct:St->Hp->Prop:=fun _ _=>False
abbrev TS:=Ends->St->Hp->Prop
def  EP(X:Cx)(π:List (ϋ×Obj))(σ:St)(Q:VK)(u:ϊ)(s':ό):Prop:=∃ v H',Inv X π σ H' s'/\RelV v u/\Q v H'
def  TP(X:Cx)(π:List (ϋ×Obj))(σ:St)(Q:Bool->Hp->Prop)(b:Bool)(s':ό):Prop:=∃ H',Inv X π σ H' s'/\Q b H'
def  AP(X:Cx)(π:List (ϋ×Obj))(σ:St)(Q:List V->Hp->Prop)(us:List ϊ)(s':ό):Prop:=∃ vs H',Inv X π σ H' s'/\Vals vs us/\Q vs H'
def  SP(X:Cx)(π:List (ϋ×Obj))(D:Ends)(f:Flow)(s':ό):Prop :=
 match f with
 | .next=>∃ σ' H',Inv X π σ' H' s'/\D.nx σ' H'
 | .brk=>∃ σ' H',Inv X π σ' H' s'/\D.bk σ' H'
 | .cont=>∃ σ' H',Inv X π σ' H' s'/\D.ct σ' H'
 | .ret u=>∃ v σ' H',Inv X π σ' H' s'/\RelV v u/\D.rt v H'
def  PE(X:Cx)(e:Expr)(t:TE):Prop :=
 ∀ (π:List (ϋ×Obj)) (s:ό) (σ:St) (H:Hp) (Q:VK),Inv X π σ H s->t σ H Q->wpAny (model X.prog X.w) X.A (eval e X.env) (EP X π σ Q) X.xe s
def  PT(X:Cx)(e:Expr)(t:TT):Prop :=
 ∀ (π:List (ϋ×Obj)) (s:ό) (σ:St) (H:Hp) (Q:Bool->Hp->Prop),Inv X π σ H s->t σ H Q->wpAny (model X.prog X.w) X.A (isTrue e X.env (eval e X.env)) (TP X π σ Q) X.xe s
def  PW(X:Cx)(e:Expr)(t:TT):Prop :=
 ∀ (whole:Sem ϊ) (π:List (ϋ×Obj)) (s:ό) (σ:St) (H:Hp) (Q:Bool->Hp->Prop),Inv X π σ H s->t σ H Q->wpAny (model X.prog X.w) X.A (isTrue e X.env whole) (TP X π σ Q) X.xe s
def PW.pt{X:Cx}{e:Expr}{t:TT}(h:PW X e t):PT X e t:=h _
def  PA(X:Cx)(es:List Expr)(t:TA):Prop :=
 ∀ (pos:Pos) (π:List (ϋ×Obj)) (s:ό) (σ:St) (H:Hp) (Q:List V->Hp->Prop),Inv X π σ H s->t σ H Q->wpAny (model X.prog X.w) X.A (spliced (backTo pos (starEach es X.env))) (AP X π σ Q) X.xe s
def  PS(X:Cx)(st:Stmt)(t:TS):Prop :=
 ∀ (π:List (ϋ×Obj)) (s:ό) (σ:St) (H:Hp) (D:Ends),Inv X π σ H s->t D σ H->wpAny (model X.prog X.w) X.A (exec st X.env) (SP X π D) X.xe s
def  dm(X:Cx)(st:List Stmt)(t:TS):Prop :=
 ∀ (π:List (ϋ×Obj)) (s:ό) (σ:St) (H:Hp) (D:Ends),Inv X π σ H s->t D σ H->wpAny (model X.prog X.w) X.A (execs st X.env) (SP X π D) X.xe s
def aD{α:Type}{t:Sem α}{Q Q':α->ό->Prop}{M:Model}{A:Around}{E:ϊ->ό->Prop}{s:ό}(h:wpAny M A t Q E s)(hQ:∀ a s,Q a s->Q' a s):wpAny M A t Q' E s:=KB h hQ fun _ _ x=>x
section
variable {X:Cx}
def  Jt(i:Nat):TE:=fun σ H Q=>∃ v,σ[i]?=!(!v)/\Q v H
def  tC(v:V):TE:=fun _ H Q=>Q v H
def Ca{i:Nat}{x:Str}{pos:Pos}(hN:X.N[i]?=!x)(hv:nH X.env.scope x)(hd:(x == ("__debug__":Str))=false:=by decide)(bM:(x == ("__classdict__":Str))=false:=by decide):PE X (.Name x pos) (Jt i):=by
 intro π s σ H Q I h;let⟨v,e,h⟩:=h;let⟨m,hn,hl⟩:=I.loc;let⟨u,r,l⟩:=hl i x v hN e hv;have fin:EP X π σ Q u s:=#[v,H,I,r,h];rcases l with ⟨hk,hm⟩ | ⟨hk,c,hc,Px⟩
 ·show wpAny_Name (wpAny_loadName_local I.ok.kind hk hn hm fin) hd
 ·rcases hk with hk | hk
  ·show wpAny_Name (wpAny_loadName_cell I.ok.kind hk hc Px fin) hd
  ·show wpAny_Name (wpAny_loadName_free I.ok.kind hk hc Px fin bM) hd
def RK{i j pos}:PE X (.Constant (.int i) j pos) (tC (.int i)):=fun _ _ _ H _ I h=>wpAny_Constant_int #[.int i,H,I.tok _,#[_,rfl],h]
def XD{b j pos}:PE X (.Constant (.bool b) j pos) (tC (.bl b)):=fun _ _ _ H _ I h=>Constant_bool #[.bl b,H,I,rfl,h]
def Ui{j pos}:PE X (.Constant .none j pos) (tC .au):=fun _ _ _ H _ I h=>Constant_none #[.au,H,I,rfl,h]
def abi{x j pos}:PE X (.Constant (.str x) j pos) (tC (.str x)):=fun _ _ _ H _ I h=>Calls.Constant_str #[.str x,H,I.tok _,#[_,rfl],h]
def  Gl(X:Cx)(x:Str):Prop:=X.env.kindOf x=!.globalImplicit
def lM{E:ϊ->ό->Prop}{π:List (ϋ×Obj)}{s:ό}{σ:St}{H:Hp}{x:Str}{u:ϊ}{pos:Pos}{Q:ϊ->ό->Prop}(I:Inv X π σ H s)(hg:Gl X x)(hm:X.mg x=!u)(h:Q u s)(hd:(x == ("__debug__":Str))=false:=by decide):wpAny (model X.prog X.w) X.A (eval (.Name x pos) X.env) Q E s :=
 Calls.Name_function_global I.ok.kind hg (Calls.loadGlobal_global (by rw[I.ok.glob];show I.mod.glob.keeps I.bk) hm h) hd
def nI{E:ϊ->ό->Prop}{π:List (ϋ×Obj)}{s:ό}{σ:St}{H:Hp}{x:Str}{u:ϊ}{pos:Pos}{Q:ϊ->ό->Prop}(I:Inv X π σ H s)(hg:Gl X x)(hm:X.mg x=none)(hv:bootBuiltins x=!u)(h:Q u s)(hn:x ≠ "__name__" := by decide)(hd:(x == ("__debug__":Str))=false:=by decide):wpAny (model X.prog X.w) X.A (eval (.Name x pos) X.env) Q E s:=by
 let⟨mb,h1,h2⟩:=I.mod.blt;show Calls.Name_function_global I.ok.kind hg (Calls.loadGlobal_builtin (by rw[I.ok.glob];show I.mod.glob.keeps I.bk) hm (by rw[I.ok.blt];show h1.keeps I.bk) ((h2 x hn).trans hv) h) hd
def WT{x:Str}{v:V}{u:ϊ}{pos:Pos}(hg:Gl X x)(hm:X.mg x=!u)(r:RelV v u)(hd:(x == ("__debug__":Str))=false:=by decide):PE X (.Name x pos) (tC v) :=
 fun _ _ _ H _ I h=>lM I hg hm #[v,H,I,r,h] hd
def Uv{x:Str}{v:V}{u:ϊ}{pos:Pos}(hg:Gl X x)(hm:X.mg x=none)(hv:bootBuiltins x=!u)(r:RelV v u)(hn:x ≠ "__name__" := by decide)(hd:(x == ("__debug__":Str))=false:=by decide):PE X (.Name x pos) (tC v) :=
 fun _ _ _ H _ I h=>nI I hg hm hv #[v,H,I,r,h] hn hd
def  W6(ta tb:TE)(k:Int->Int->Hp->Prop):St->Hp->Prop:=fun σ H=>ta σ H fun x H1=>tb σ H1 fun y H2=>∃ i j,x=.int i/\y=.int j/\k i j H2
variable {a b:Expr}{ta tb:TE}{pos:Pos}
def  PC(X:Cx)(op:CmpOp)(a b:Expr)(t:TE):Prop :=
 ∀ (π:List (ϋ×Obj)) (s:ό) (σ:St) (H:Hp) (Q:VK),Inv X π σ H s->t σ H Q ->
  wpAny (model X.prog X.w) X.A (eval a X.env) (fun v s₁=>wpAny (model X.prog X.w) X.A (eval b X.env) (fun u s₂=>wpAny (model X.prog X.w) X.A (compareOp op v u) (EP X π σ Q) X.xe s₂) X.xe s₁) X.xe s
def uQ(b:Expr){op:CmpOp}(h:op≠.In)(h2:op≠.NotIn):behindInMarks op b=false:=by
 have e1:(op == CmpOp.In)=false:=by cases op <;> first | rfl | show absurd rfl h
 have e2:(op == CmpOp.NotIn)=false:=by cases op <;> first | rfl | show absurd rfl h2
 cases b <;> simp[behindInMarks,e1,e2]
def  sr(p:Int->Int->Bool)(ta tb:TE):TE:=fun σ H Q=>W6 ta tb (fun i j H2=>Q (.bl (p i j)) H2) σ H
abbrev tLt:TE->TE->TE:=sr fun i j=>decide (i < j)
abbrev tLe:TE->TE->TE:=sr fun i j=>decide (i<=j)
abbrev tGt:TE->TE->TE:=sr fun i j=>decide (j < i)
abbrev tGe:TE->TE->TE:=sr fun i j=>decide (j<=i)
abbrev aeZ:TE->TE->TE:=sr fun i j=>decide (i=j)
abbrev ae0:TE->TE->TE:=sr fun i j=>Bool.not (decide (i=j))
def  U2(ta:TE):TE:=fun σ H Q=>ta σ H fun x H1=>Q (.bl (decide (x=.au))) H1
def  tB(t:TE):TT:=fun σ H Q=>t σ H fun x H1=>∃ c,x=.bl c/\Q c H1
def acA{op:CmpOp}{t:TE}(h:PC X op a b t)(h1:behindInMarks op b=false:=by first | show uQ _ ⋯ ⋯ | rfl):PE X (.Compare a [op] [b] pos) t:=fun π s σ H Q I hw=>wpAny_Compare1 (h π s σ H Q I hw) h1
variable {tA tB':TT}{rest:List Expr}
def  yE(t u:TT):TT:=fun σ H Q=>t σ H fun c H1=>if c=true then u σ H1 Q else Q false H1
def  zh(t u:TT):TT:=fun σ H Q=>t σ H fun c H1=>if c=true then Q true H1 else u σ H1 Q
def  B2(t:TT):TT:=fun σ H Q=>t σ H fun c H1=>Q (Bool.not c) H1
def aab(ha:PT X a tA):PW X (.BoolOp .And [a] pos) tA:=by
 intro wh π s σ H Q I h;show isTrue_and (aD (ha π s σ H Q I h) fun c s1 e=>?_);cases c with
 | true=>show isTrue_and_nil e
 | false=>show e
def V8(ha:PT X a tA):PW X (.BoolOp .Or [a] pos) tA:=by
 intro wh π s σ H Q I h;show isTrue_or (aD (ha π s σ H Q I h) fun c s1 e=>?_);cases c with
 | false=>show isTrue_or_nil e
 | true=>show e
def Zj(ha:PT X a tA)(hb:PW X (.BoolOp .And (b::rest) pos) tB'):PW X (.BoolOp .And (a::b::rest) pos) (yE tA tB'):=by
 intro wh π s σ H Q I h;show isTrue_and (aD (ha π s σ H _ I h) fun c s1 #[H1,I1,q1]=>?_);cases c with
 | true=>show hb wh π s1 σ H1 Q I1 q1
 | false=>show#[H1,I1,q1]
def UT(ha:PT X a tA)(hb:PW X (.BoolOp .Or (b::rest) pos) tB'):PW X (.BoolOp .Or (a::b::rest) pos) (zh tA tB'):=by
 intro wh π s σ H Q I h;show isTrue_or (aD (ha π s σ H _ I h) fun c s1 #[H1,I1,q1]=>?_);cases c with
 | true=>show#[H1,I1,q1]
 | false=>show hb wh π s1 σ H1 Q I1 q1
def UE(ha:PT X a tA):PT X (.UnaryOp .Not a pos) (B2 tA):=by
 intro π s σ H Q I h;show isTrue_not (ha π s σ H (fun c H1=>Q (Bool.not c) H1) I h)
def Wg{op}{t:TE}(h:PE X a t):PE X (.BoolOp op [a] pos) t:=fun π s σ H Q I hw=>BoolOp_one (h π s σ H Q I hw)
def  Ar(t:TT)(ta tb:TE):TE:=fun σ H Q=>t σ H fun c H1=>if c=true then ta σ H1 Q else tb σ H1 Q
def abp{c:Expr}(hc:PT X c tA)(ha:PE X a ta)(hb:PE X b tb):PE X (.IfExp c a b pos) (Ar tA ta tb):=by
 intro π s σ H Q I h;show wpAny_IfExp (aD (hc π s σ H _ I h) fun d s1 #[H1,I1,q1]=>?_);cases d with
 | true=>show ha π s1 σ H1 Q I1 q1
 | false=>show hb π s1 σ H1 Q I1 q1
end
def  aI(K:ν)(H:Hp)(a:ϋ)(xs:List V):Prop :=
 Rd H a (.lst xs) \/
  ∃ (o:Obj) (aq:Array ϊ) (n:Nat),K.lookup a=!o/\o.cls=.type "list" /\ o.dict=none/\o.data=.seq aq n/\aq.size<=sizeLine/\Vals xs aq.toList
def  bH(K:ν)(H:Hp)(a:ϋ)(xs:List V):Prop :=
 Rd H a (.tup xs) \/
  ∃ (o:Obj) (aq:Array ϊ) (n:Nat),K.lookup a=!o/\o.cls=.type "tuple" /\ o.data=.seq aq n/\aq.size<=sizeLine/\Vals xs aq.toList
def  TJ:ϊ->Option V
 | .none=>!.au
 | .bool b=>!.bl b
 | .int i _=>!.int i
 | .str x _=>!.str x
 | .bytes b _=>!.byt b
 | .float b _=>!.oj b
 | .ref a=>!-a
 | .type n=>!.ty n
 | _=>none
def RelV.abs{x:V}{u:ϊ}(r:RelV x u):TJ u=!x:=by
 cases x with
 | au=>cases r;rfl
 | bl _=>cases r;rfl
 | int _=>let⟨t,rfl⟩:=r;rfl
 | str _=>let⟨t,rfl⟩:=r;rfl
 | byt _=>let⟨t,rfl⟩:=r;rfl
 | oj _=>let⟨t,rfl⟩:=r;rfl
 | ref _=>cases r;rfl
 | ty _=>cases r;rfl
def RelV.inj{x y:V}{u:ϊ}(r:RelV x u)(q:RelV y u):x=y:=Fk (r.abs.symm.trans q.abs)
def Vals.inj:∀ {xs ys:List V}{us:List ϊ},Vals xs us->Vals ys us->xs=ys
 | _,_,_,.nil,.nil=>rfl
 | _,_,_,.cons r t,.cons r' t'=>by rw[r.inj r',Vals.inj t t']
section
variable {X:Cx}{π:List (ϋ×Obj)}{σ:St}{H:Hp}{s:ό}{a:ϋ}{xs ys:List V}
def aI.of{K:ν}(h:H a=!.lst xs):aI K H a xs:=.inl (.inl h)
def bH.of{K:ν}(h:H a=!.tup xs):bH K H a xs:=.inl (.inl h)
def Inv.list(I:Inv X π σ H s)(h:aI X.K H a xs):∃ aq:List ϊ,Vals xs aq/\PlainL s.heap a aq.toArray/\xs.length<=sizeLine:=by
 rcases h with h | ⟨o,aq,n,hk,hc,hd,hs,hz,r⟩
 ·let⟨z,aq,n,r,e⟩:=h.ok I.aA;show#[aq,r,#[_,n,e,rfl,rfl,rfl],z]
 ·show#[aq.toList,r,#[o,n,I.cq a o hk,hc,hd,by simpa using hs],?_];have e:=r.length;simp only[LT]at e;omega
def Inv.tuple(I:Inv X π σ H s)(h:bH X.K H a xs):∃ aq:List ϊ,Vals xs aq/\IsTup s.heap a aq.toArray/\xs.length<=sizeLine:=by
 rcases h with h | ⟨o,aq,n,hk,hc,hs,hz,r⟩
 ·let⟨z,aq,r,p⟩:=h.ok I.aA;show#[aq,r,p.t,z]
 ·show#[aq.toList,r,#[o,I.cq a o hk,hc,n,by simpa using hs],?_];have e:=r.length;simp only[LT]at e;omega
def Inv.UB(I:Inv X π σ H s)(h:aI X.K H a xs)(h':aI X.K H a ys):xs=ys:=by
 let⟨aq,r,⟨o,n,e,_,_,d⟩,_⟩:=I.list h;let⟨its',r',⟨o',n',e',_,_,d'⟩,_⟩:=I.list h';rw[e]at e';cases e';rw[d]at d';injection d' with d1 _;have:aq=its':=by simpa using KM Array.toList d1
 subst this;show r.inj r'
end
abbrev Cx.bW(X:Cx)(E:ϊ->ό->Prop):Cx:={ X with xe:=E }
abbrev Cx.r9(X:Cx):Cx:=X.bW fun _ _=>False
def Cx.Ok.bW{X:Cx}(ok:X.Ok)(E:ϊ->ό->Prop):(X.bW E).Ok :=
 #[ok.mod,ok.kind,ok.glob,ok.blt,ok.above,ok.inj,ok.has,ok.lQ,ok.hd,ok.frames,ok.dM,ok.uL,ok.bs,ok.ia,ok.nM,ok.nj,ok.fB,ok.jG]
def Cx.Ok.nq{X:Cx}{E:ϊ->ό->Prop}(ok:(X.bW E).Ok):X.Ok :=
 #[ok.mod,ok.kind,ok.glob,ok.blt,ok.above,ok.inj,ok.has,ok.lQ,ok.hd,ok.frames,ok.dM,ok.uL,ok.bs,ok.ia,ok.nM,ok.nj,ok.fB,ok.jG]
section
variable {X:Cx}{π:List (ϋ×Obj)}{σ:St}{H:Hp}{s:ό}{E:ϊ->ό->Prop}
def Inv.bW(I:Inv X π σ H s)(E:ϊ->ό->Prop):Inv (X.bW E) π σ H s:=#[I.ok.bW E,I.os,I.bare,I.base,I.loc,I.cell,I.free,I.eN,I.pin,I.aA,I.len]
def Inv.nq(I:Inv (X.bW E) π σ H s):Inv X π σ H s:=#[I.ok.nq,I.os,I.bare,I.base,I.loc,I.cell,I.free,I.eN,I.pin,I.aA,I.len]
def SP.nq{D:Ends}{f:Flow}{s':ό}(h:SP (X.bW E) π D f s'):SP X π D f s':=by
 cases f with
 | next=>let⟨σ',H',I,q⟩:=h;show#[σ',H',I.nq,q]
 | brk=>let⟨σ',H',I,q⟩:=h;show#[σ',H',I.nq,q]
 | cont=>let⟨σ',H',I,q⟩:=h;show#[σ',H',I.nq,q]
 | ret u=>let⟨v,σ',H',I,r,q⟩:=h;show#[v,σ',H',I.nq,r,q]
def dm.r9{st:List Stmt}{t:TS}(h:dm X.r9 st t):dm X st t:=fun π s σ H D I hw =>
 KB (h π s σ H D (I.bW _) hw) (fun _ _ q=>q.nq) fun _ _ z=>False.elim z
end
section
variable {X:Cx}{st:Stmt}{rest:List Stmt}{t u:TS}{e:Expr}{te:TE}{pos:Pos}
def  Cp:TS:=fun D σ H=>D.nx σ H
def  abe(t u:TS):TS:=fun D σ H=>t { D with nx:=u D } σ H
def ack:dm X [] Cp:=fun _ _ σ H _ I h=>_M #[σ,H,I,h]
def Yc(h1:PS X st t)(h2:dm X rest u):dm X (st::rest) (abe t u):=by
 intro π s σ H D I h;show wpAny_execs_cons (aD (h1 π s σ H { D with nx:=u D } I h) fun f s1 q=>?_);cases f with
 | next =>
  let⟨σ',H',I',q⟩:=q;show h2 π s1 σ' H' D I' q
 | ret v=>show q
 | brk=>show q
 | cont=>show q
def acv(h1:PS X st t):dm X [st] t:=by
 intro π s σ H D I h;show wpAny_execs_cons (aD (h1 π s σ H D I h) fun f s1 q=>?_);cases f with
 | next=>show _M q
 | ret v=>show q
 | brk=>show q
 | cont=>show q
def Inv.quiet{π:List (ϋ×Obj)}{σ:St}{H:Hp}{s:ό}(I:Inv X π σ H s):interactive X.env=false:=by simp[interactive,I.ok.kind]
def  EK(te:TE):TS:=fun D σ H=>te σ H fun _ H1=>D.nx σ H1
def aaP(he:PE X e te)(hs:‹swapsWith e none pos.line X.env=pure false›):PS X (.Expr e pos) (EK te):=by
 intro π s σ H D I h;show wpAny_Expr_any (aD (he π s σ H _ I h) fun v s1 #[x,H1,I1,r1,q1]=>#[σ,H1,I1,q1]) I.quiet hs
def  Dc(te:TE):TS:=fun D σ H=>te σ H D.rt
def Vi(he:PE X e te):PS X (.Return (!e) pos) (Dc te):=by
 intro π s σ H D I h;show wpAny_Return_some (aD (he π s σ H _ I h) fun v s1 #[x,H1,I1,r1,q1]=>#[x,σ,H1,I1,r1,q1])
def  BX:TS:=fun D _ H=>D.rt .au H
def WI:PS X (.Return none pos) BX:=fun _ _ σ H _ I h=>wpAny_Return_none #[.au,σ,H,I,rfl,h]
def  wD(c:TT)(t u:TS):TS:=fun D σ H=>c σ H fun b H1=>if b=true then t D σ H1 else u D σ H1
def acn{c:Expr}{a b:List Stmt}{tc:TT}(hc:PT X c tc)(ha:dm X a t)(hb:dm X b u):PS X (.If c a b pos) (wD tc t u):=by
 intro π s σ H D I h;show wpAny_If (aD (hc π s σ H _ I h) fun d s1 #[H1,I1,q1]=>?_);cases d with
 | true=>show ha π s1 σ H1 D I1 q1
 | false=>show hb π s1 σ H1 D I1 q1
def  FC:TS:=fun _ _ _=>False
def Yq:PS X st FC:=fun _ _ _ _ _ _ h=>h.elim
end
abbrev TG:=V->St->Hp->(St->Hp->Prop)->Prop
abbrev kW:=List V->St->Hp->(St->Hp->Prop)->Prop
def  PG(X:Cx)(target:Expr)(t:TG):Prop :=
 ∀ (π:List (ϋ×Obj)) (s:ό) (σ:St) (H:Hp) (v:V) (u:ϊ) (Q:St->Hp->Prop),Inv X π σ H s->RelV v u->t v σ H Q ->
  wpAny (model X.prog X.w) X.A (assign target X.env u) (fun _ s'=>∃ σ' H',Inv X π σ' H' s'/\Q σ' H') X.xe s
def  vy(X:Cx)(ts:List Expr)(t:kW):Prop :=
 ∀ (π:List (ϋ×Obj)) (s:ό) (σ:St) (H:Hp) (vs:List V) (us:List ϊ) (Q:St->Hp->Prop),Inv X π σ H s->Vals vs us->t vs σ H Q ->
  wpAny (model X.prog X.w) X.A (assignInOrder ((assignEach ts X.env).map (·.2)) us) (fun _ s'=>∃ σ' H',Inv X π σ' H' s'/\Q σ' H') X.xe s
abbrev vb:=V->V->V->Hp->(Hp->Prop)->Prop
def  yP(X:Cx)(t:vb):Prop :=
 ∀ (π:List (ϋ×Obj)) (s:ό) (σ:St) (H:Hp) (o i v:V) (ov iv u:ϊ) (Q:Hp->Prop),Inv X π σ H s->RelV o ov->RelV i iv->RelV v u->t o i v H Q ->
  wpAny (model X.prog X.w) X.A (setItem ov iv u) (fun _ s'=>∃ H',Inv X π σ H' s'/\Q H') X.xe s
abbrev TIp:=V->V->Hp->VK->Prop
section
variable {X:Cx}{pos:Pos}
def  fC(i:Nat):TG:=fun v σ H Q=>Q (σ.set i (!v)) H
def Ve{i:Nat}{x:Str}(hN:X.N.Nodup)(hi:X.N[i]?=!x)(hx:Loc X.env.scope x)(hf:X.fn x=true\/X.env.scope.names.lookup x=!.local:=by first | show .inl rfl | show .inr rfl | assumption):PG X (.Name x pos) (fC i):=by
 intro π s σ H v u Q I r h;show wpAny_assign_Name (Fv I hN hi hx r (fun s' I'=>#[_,H,I',h]) hf)
def  Cj:kW:=fun vs σ H Q=>vs=[]/\Q σ H
def  Cf(t:TG)(u:kW):kW:=fun vs σ H Q=>∃ v r,vs=v::r/\t v σ H fun σ' H'=>u r σ' H' Q
def adz:vy X [] Cj:=by
 intro π s σ H vs us Q I r h;let⟨e,h⟩:=h;subst e;cases r;show assignInOrder_nil #[σ,H,I,h]
def R1{e:Expr}{es:List Expr}{t:TG}{u:kW}(h1:PG X e t)(h2:vy X es u)(hs:‹(assignEach (e::es) X.env).map (·.2)=assign e X.env::(assignEach es X.env).map (·.2)›):vy X (e::es) (Cf t u):=by
 intro π s σ H vs us Q I r h;let⟨v,vr,e1,h⟩:=h;subst e1;cases r with
 | cons r rr =>
  rw[hs];show assignInOrder_cons (aD (h1 π s σ H _ _ _ I r h) fun _ s1 #[σ1,H1,I1,q1]=>?_);show h2 π s1 σ1 H1 _ _ Q I1 rr q1
def  CU(K:ν)(n:Nat)(t:kW):TG:=fun v σ H Q=>∃ a xs,v=-a/\bH K H a xs/\xs.length=n/\t xs σ H Q
def Sb{es:List Expr}{k:Nat}{t:kW}{n:Nat}(hc:X.calm=true)(h:vy X es t)(hn:‹(assignEach es X.env).length=n›)(aX:‹(assignEach es X.env).findIdx? (·.1)=none›):PG X (.Tuple es k pos) (CU X.K n t):=by
 intro π s σ H v u Q I r hw;let⟨a,xs,e1,hq,hl,hw⟩:=hw;subst e1;cases r;let⟨aq,rv,ht,hz⟩:=I.tuple hq;show assign_Tuple_tuple (I.ok.hd hc) ht (by simp[hn,<- hl,rv.length]) aX fun h' hx=>?_;have I1:Inv X π σ H { s with heap:=h' }:=I.kept (t':=s.toks) fun b o e=>hx b o (wT (sB e)) e;show h π _ σ H xs _ Q I1 (by simpa using rv) hw
def  DP(to ti:TE)(t:vb):TG:=fun v σ H Q=>to σ H fun o H1=>ti σ H1 fun i H2=>t o i v H2 fun H3=>Q σ H3
def Wk{o i:Expr}{to ti:TE}{t:vb}(ho:PE X o to)(hi:PE X i ti)(hs:yP X t)(ha:∀ v,assign (.Subscript o i pos) X.env v=(do
   let ov <- holding [v] (eval o X.env)
   let iv <- holding [v,ov] (eval i X.env)
   standAt pos
   holding [v,ov,iv] (setItem ov iv v)
   release [v,ov,iv] []):=by intro _;rfl):PG X (.Subscript o i pos) (DP to ti t):=by
 intro π s σ H v u Q I r h;rw[ha];show ii (FM (aD (ho π s σ H _ I h) fun ov s1 #[x,H1,I1,r1,q1]=>?_));show ii (FM (aD (hi π s1 σ H1 _ I1 q1) fun iv s2 #[y,H2,I2,r2,q2]=>?_));show ii (Ja0 (ii (FM (aD (hs π s2 σ H2 x y v ov iv u _ I2 r1 r2 r q2) fun _ s3 #[H3,I3,q3]=>?_))));show wpAny_release #[σ,H3,I3,q3]
def  mM(te:TE)(g:TG):TS:=fun D σ H=>te σ H fun x H1=>g x σ H1 D.nx
def RV{tg e:Expr}{te:TE}{g:TG}(he:PE X e te)(hg:PG X tg g)(hs:‹swapsWithSole [tg] e pos.line X.env=pure false›)(hw:‹swappedStores [tg] e X.env=pure none›)(h1:‹(assignEach [tg] X.env).map (·.2)=[assign tg X.env]›):PS X (.Assign [tg] e pos) (mM te g):=by
 intro π s σ H D I h;show wpAny_Assign_stores (aD (he π s σ H _ I h) fun v s1 #[x,H1,I1,r1,q1]=>?_) hs hw;rw[h1];show aD (hg π s1 σ H1 x v _ I1 r1 q1) fun _ s2 q=>q
def WH{i:Nat}{x:Str}{e:Expr}{te:TE}{pos':Pos}(hN:X.N.Nodup)(hi:X.N[i]?=!x)(hx:Loc X.env.scope x)(he:PE X e te)(hs:‹swapsWith e (!.Name x pos') pos.line X.env=pure false›)(hf:X.fn x=true\/X.env.scope.names.lookup x=!.local:=by first | show .inl rfl | show .inr rfl | assumption) :
  PS X (.Assign [.Name x pos'] e pos) (mM te (fC i)):=by
 intro π s σ H D I h;show wpAny_Assign_Name (aD (he π s σ H _ I h) fun v s1 #[y,H1,I1,r1,q1]=>?_) hs;show Fv I1 hN hi hx r1 (fun s2 I2=>#[_,H1,I2,q1]) hf
end
section
variable {X:Cx}{pos:Pos}
def  LV(c:TT)(tb:TS):TS:=fun D σ H=>∃ W:Nat->St->Hp->Prop,(∃ m,W m σ H)/\∀ m σ H,W m σ H ->
 c σ H fun b H1=>if b=true then ∃ N:St->Hp->Prop,(∀ σ' H',N σ' H'->∃ m',m' < m/\W m' σ' H')/\tb { D with nx:=N,ct:=N,bk:=D.nx } σ H1 else D.nx σ H1
def Uj{c:Expr}{body:List Stmt}{tc:TT}{tb:TS}(hp:PassesOwn (model X.prog X.w) X.A X.env X.xe)(hc:PT X c tc)(hb:dm X body tb):PS X (.While c body [] pos) (LV tc tb):=by
 intro π s σ H D I h;let⟨W,⟨m0,w0⟩,turn⟩:=h;show wpAny_While (codeAny_whileLoop (fun n s'=>∃ σ' H',Inv X π σ' H' s'/\W n σ' H') ?_ m0 #[σ,H,I,w0]);rintro n s1 ⟨σ1,H1,I1,w1⟩;show _e hp (aD (hc π s1 σ1 H1 _ I1 (turn n σ1 H1 w1)) fun b s2 #[H2,I2,q2]=>?_);cases b with
 | true =>
  let⟨N,hN,q2⟩:=q2;rw[xL rfl];show _e hp (aD (hb π s2 σ1 H2 _ I2 q2) fun f s3 q3=>?_);cases f with
  | next =>
   let⟨σ3,H3,I3,n3⟩:=q3;let⟨m',hm,w3⟩:=hN σ3 H3 n3;show#[m',hm,σ3,H3,I3,w3]
  | cont =>
   let⟨σ3,H3,I3,n3⟩:=q3;let⟨m',hm,w3⟩:=hN σ3 H3 n3;show#[m',hm,σ3,H3,I3,w3]
  | brk=>show q3
  | ret v=>show q3
 | false =>
  rw[wP wn];show _M #[σ1,H2,I2,q2]
end
structure It where
 go:Nat->Hp->Prop
 mU:Nat->Hp->V->Hp->Prop
 stop:Nat->Hp->Prop
def  kb(X:Cx)(π:List (ϋ×Obj))(H:Hp)(b:ϋ):Prop :=
 H b=none/\b≠X.env.locals/\b ∉ X.fs/\(b∈X.ex\/X.s₀.heap.objs.size<=b)/\(∀ x c,X.env.cells.lookup x=!c->c≠b)/\∀ p∈X.pn++π,p.1≠b
def Inv.yg{X:Cx}{π:List (ϋ×Obj)}{σ:St}{H H':Hp}{s:ό}{b:ϋ}(I:Inv X π σ H s)(hb:s.heap.objs.size<=b)(hn:H' b=none):kb X π H' b:=by
 show#[hn,Jad (wf I.lt hb),I.Mi hb,.inr (wE I.sz hb),fun x c e z=>?_,fun p hp z=>?_]
 ·let⟨v,q⟩:=I.cell x c e;show absurd (wf q.lt (by rw[z];show hb)) (Ix _)
 ·show absurd (wf (sB (I.pin p hp).1) (by rw[z];show hb)) (Ix _)
structure Turn(P:ύ)(w:World)(K:ν)(tg:Expr)(J:It)(fp:List ϋ)(it:ϋ)(tn:Nat->Heap->Prop):Prop where
 mem:it∈fp
 obj:∀ i h,tn i h->∀ b∈fp,∃ o,h.get? b=!o/\∀ v,o.data≠.cell v
 keep:∀ i h h',tn i h->(∀ b∈fp,∀ o,h.get? b=!o->h'.get? b=!o)->tn i h'
 item:∀ (X:Cx),X.prog=P->X.w=w->X.K=K->X.calm=true->∀ (i:Nat) (π:List (ϋ×Obj)) (s:ό) (σ:St) (H:Hp) (E:ϊ->ό->Prop),Inv X π σ H s->(∀ b∈fp,kb X π H b)->tn i s.heap->J.go i H ->
  wpAny (model P w) X.A (pyNext (-it)) (fun r s1=>∃ u,r=!u /\
   wpAny (model P w) X.A (letOwnedTupleGo tg (-it) u) (fun _ s2=>∃ x H',Inv X π σ H' s2/\RelV x u/\J.mU i H x H'/\tn (i+1) s2.heap/\∀ b∈fp,H' b=none) E s1) E s
 done:∀ (X:Cx),X.prog=P->X.w=w->X.K=K->X.calm=true->∀ (i:Nat) (π:List (ϋ×Obj)) (s:ό) (σ:St) (H:Hp) (E:ϊ->ό->Prop),Inv X π σ H s->(∀ b∈fp,kb X π H b)->tn i s.heap->J.stop i H ->
  wpAny (model P w) X.A (pyNext (-it)) (fun r s1=>r=none/\Inv X π σ H s1) E s
 self:∀ (A:Around) (i:Nat) (s:ό) (Q:ϊ->ό->Prop) (E:ϊ->ό->Prop),tn i s.heap->Q (-it) s->wpAny (model P w) A (pyIter (-it)) Q E s
abbrev TI:=St->Hp->(It->Hp->Prop)->Prop
def  O0(X:Cx)(π:List (ϋ×Obj))(σ:St)(tg:Expr)(R:It->Hp->Prop)(HB:ϊ)(s2:ό):Prop :=
 ∃ (it:ϋ) (fp:List ϋ) (tn:Nat->Heap->Prop) (J:It) (H':Hp),HB=-it/\Inv X π σ H' s2/\Turn X.prog X.w X.K tg J fp it tn/\tn 0 s2.heap/\(∀ b∈fp,kb X π H' b)/\R J H'
def  PI(X:Cx)(tg iter:Expr)(wi:TI):Prop :=
 ∀ (π:List (ϋ×Obj)) (s:ό) (σ:St) (H:Hp) (R:It->Hp->Prop),Inv X π σ H s->wi σ H R ->
  wpAny (model X.prog X.w) X.A (eval iter X.env) (fun v s1=>wpAny (model X.prog X.w) X.A (pyIter v) (O0 X π σ tg R) X.xe s1) X.xe s
def xo{M:Model}{A:Around}{E:ϊ->ό->Prop}{s:ό}{tg:Expr}{it:ϋ}{u:ϊ}{o:Obj}{n:String}{vs:Array ϊ}{Q:Unit->ό->Prop}(ho:s.heap.get? it=!o)(hc:o.cls=.type n)(hd:o.data=.fields vs)(hn:["enumerate","zip","dict_itemiterator","dict_reverseitemiterator","odict_iterator","itertools.zip_longest","itertools.pairwise"].contains n=false)(hQ:Q .unit s):wpAny M A (letOwnedTupleGo tg (-it) u) Q E s:=by
 unfold letOwnedTupleGo;cases tg <;> first
  | show pc hQ
  | (cases u <;> first
    | show pc hQ
    | (show ii (wpAny_load ho ?_)
       rw[hc,hd];change wpAny M A (if (["enumerate","zip","dict_itemiterator","dict_reverseitemiterator","odict_iterator","itertools.zip_longest","itertools.pairwise"].contains n && vs[0]? == !rawInt _)=true then _ else _) Q E s;rw[wP (by intro h;rw[hn,Jag]at h;cases h)];show pc hQ))
def  mS(K:ν)(a:ϋ):It :=
 #[fun i H=>∃ xs x,aI K H a xs/\xs[i]?=!x,fun i H x H'=>H'=H/\∀ xs,aI K H a xs->xs[i]?=!x,fun i H=>∃ xs,aI K H a xs/\xs.length<=i]
def  oQ(lo:Int)(n:Nat):It:=#[fun i _=>i < n,fun i H x H'=>H'=H/\x=.int (lo+i),fun i _=>n<=i]
def acG{P:ύ}{w:World}{K:ν}{tg:Expr}(a it:ϋ):Turn P w K tg (mS K a) [it] it (fun i h=>h.IsListIter it a i) where
 mem:=()
 obj:=fun i h st b hb=>by
  have e:b=it:=by simpa using hb
  subst e;let⟨o,e,c,d⟩:=st;show#[o,e,fun v z=>by rw[d]at z;cases z]
 keep:=fun i h h' st k=>st.at fun o e=>k it () o e
 item:=by
  intro X hP hw hK hc i π s σ H E I hf st hg;subst hP hw hK;let⟨xs,x,hq,hx⟩:=hg;let⟨aq,rv,p,hz⟩:=I.list hq;let⟨u,hu,ru⟩:=rv.get hx;let⟨f0,f1,f2,f3,f4,f5⟩:=hf it ();show wpAny_pyNext_list_item st p.isList (x:=u) (by simpa using hu) fun h' st' sb=>?_;have I1:Inv X π σ H { s with heap:=h' }:=I.turned (t':=s.toks) (fun b o hb e=>(sb.2 b hb).trans e) f0 f1 f3 f4 f5;let⟨o,e,c,d⟩:=id st';show#[u,rfl,xo (s:={ s with heap:=h' }) e c d ⋯ #[x,H,I1,ru,#[rfl,fun ys hy=>by rw[I.UB hy hq];show hx],st',fun b hb=>(hf b hb).1]]
 done:=by
  intro X hP hw hK hc i π s σ H E I hf st hg;subst hP hw hK;let⟨xs,hq,hx⟩:=hg;let⟨aq,rv,p,hz⟩:=I.list hq;let⟨f0,f1,f2,f3,f4,f5⟩:=hf it ();have hl:=rv.length;show wpAny_pyNext_list_end (I.ok.hd hc) st p.isList (by simp;omega) fun h' eb=>#[rfl,I.turned (t':=s.toks) (fun b o hb e=>eb b o hb e) f0 f1 f3 f4 f5]
 self:=fun _ _ _ _ _ st h=>wpAny_pyIter_listiter st h
def VA{P:ύ}{w:World}{K:ν}{tg:Expr}(it:ϋ)(lo:Int)(n:Nat):Turn P w K tg (oQ lo n) [it] it (fun i h=>IsRangeIter h it (lo+(i:Nat) * 1) ((n:Int) - (i:Nat)) 1) where
 mem:=()
 obj:=fun i h st b hb=>by
  have e:b=it:=by simpa using hb
  subst e;show#[_,st,fun v z=>by
   have z':Data.fields _=Data.cell v:=z;cases z']
 keep:=fun i h h' st k=>k it () _ st
 item:=by
  intro X hP hw hK hc i π s σ H E I hf st hg;subst hP hw hK;let⟨f0,f1,f2,f3,f4,f5⟩:=hf it ();have W:=Walks.range (prog:=X.prog) (w:=X.w) (I.ok.hd hc) it lo 1 n;show W.item i s _ _ hg st fun v h' tk hv st' kk=>?_;let⟨t,rfl⟩:=hv;have I1:Inv X π σ H { s with heap:=h',toks:=tk }:=I.turned (fun b o hb e=>kk b o (by simpa using hb) e) f0 f1 f3 f4 f5;show#[_,rfl,xo (s:={ s with heap:=h',toks:=tk }) (n := "range_iterator") st' rfl rfl ⋯ #[.int (lo+i),H,I1,#[t,?_],#[rfl,rfl],st',fun b hb=>(hf b hb).1]];rw[Int.mul_one]
 done:=by
  intro X hP hw hK hc i π s σ H E I hf st hg;subst hP hw hK;let⟨f0,f1,f2,f3,f4,f5⟩:=hf it ();show wpAny_pyNext_range_end (I.ok.hd hc) st (by have:n<=i:=hg;omega) fun h' eb=>#[rfl,I.turned (t':=s.toks) (fun b o hb e=>eb b o hb e) f0 f1 f3 f4 f5]
 self:=fun _ _ _ _ _ st h=>wpAny_pyIter_rangeiter st h
section
variable {X:Cx}{tg:Expr}
def  Z5(K:ν)(tl:TE):TI:=fun σ H R=>tl σ H fun x H1=>∃ a,x=-a/\(∃ xs,aI K H1 a xs)/\R (mS K a) H1
def Zt{l:Expr}{tl:TE}(hl:PE X l tl):PI X tg l (Z5 X.K tl):=by
 intro π s σ H R I h;show aD (hl π s σ H _ I h) fun v s1 #[x,H1,I1,r1,q1]=>?_;let⟨a,e,⟨xs,hq⟩,q⟩:=q1;subst e;cases r1;let⟨aq,rv,p,hz⟩:=I1.list hq;show wpAny_pyIter_list p.isList ?_;show#[s1.heap.objs.size,[s1.heap.objs.size],_,_,H1,rfl,I1.kept (t':=s1.toks) fun b o e=>li _ e,acG a _,#[_,tz _ rfl,rfl,rfl],fun b hb=>?_,q];have e:b=s1.heap.objs.size:=by simpa using hb
 subst e;show I1.yg (pi _) (I1.aA.fresh (pi _))
def V7{π:List (ϋ×Obj)}{σ:St}{H:Hp}{s:ό}{R:It->Hp->Prop}{E:ϊ->ό->Prop}{lo hi:Int}{t u v:Tok}{tk:Nat}(I:Inv X π σ H s)(h1:(unop% Neg.neg ((2 ^ 62)))<=lo)(h2:lo < 2 ^ 62)(h3:(unop% Neg.neg ((2 ^ 62)))<=hi)(h4:hi < 2 ^ 62)(q:R (oQ lo (hi - lo).toNat) H):wpAny (model X.prog X.w) X.A (pyIter (-s.heap.objs.size)) (O0 X π σ tg R) E { s with heap:=s.heap.push { cls:=.type "range",data:=.fields (List.toArray [.int lo t,.int hi u,.int 1 v]) },toks:=tk }:=by
 show wpAny_pyIter_range (IsRange.new ..) (small_one h1 h2 h3 h4) ?_;have I1:Inv X π σ H { s with heap:=s.heap.push { cls:=.type "range",data:=.fields (List.toArray [.int lo t,.int hi u,.int 1 v]) },toks:=tk }:=I.kept fun b o e=>li _ e;show#[(s.heap.push { cls:=.type "range",data:=.fields (List.toArray [.int lo t,.int hi u,.int 1 v]) }).objs.size,[(s.heap.push { cls:=.type "range",data:=.fields (List.toArray [.int lo t,.int hi u,.int 1 v]) }).objs.size],_,_,H,rfl,
  I1.kept (t':=tk) fun b o e=>li _ e,VA _ lo (hi - lo).toNat,?_,fun b hb=>?_,q]
 ·have e1:lo+((0:Nat):Int) * 1=lo:=()
  have e2:(((hi - lo).toNat:Nat):Int) - ((0:Nat):Int)=Builtin.Range.rangeSize lo hi 1:=by rw[rangeSize_one];split <;> omega
  change IsRangeIter _ _ (lo+((0:Nat):Int) * 1) ((((hi - lo).toNat:Nat):Int) - ((0:Nat):Int)) 1;rw[e1,e2];show tz _ rfl
 ·have e:b=(s.heap.push { cls:=.type "range",data:=.fields (List.toArray [.int lo t,.int hi u,.int 1 v]) }).objs.size:=by simpa using hb
  subst e;show I1.yg (pi _) (I1.aA.fresh (pi _))
def  Wb(ta:TA):TI:=fun σ H R=>ta σ H fun vs H1=>∃ j:Int,vs=[.int j]/\(unop% Neg.neg ((2 ^ 62)))<=j/\j < 2 ^ 62/\R (oQ 0 j.toNat) H1
def Xo{a:Expr}{ta:TA}{p pos:Pos}(hg:Gl X "range")(hm:X.mg "range" = none)(ha:PA X [a] ta)(hs:‹starEach [a] X.env=[(false,eval a X.env)]›):PI X tg (.Call (.Name "range" p) [a] [] pos) (Wb ta):=by
 intro π s σ H R I h;show Call_ (nI I hg hm boot_range (Sc (aD (ha pos π s σ H _ I h) fun us s1 #[vs,H1,I1,r1,q1]=>?_) hs rfl));let⟨j,e,q1,q2,q⟩:=q1;subst e;cases r1 with
 | cons r rr =>
  cases rr;let⟨t,rfl⟩:=r;show call_range_1 (V7 I1 ∅ ∅ q1 q2 (by simpa using q))
def  D9(wi:TI)(g:TG)(tb:TS):TS:=fun D σ H=>wi σ H fun J H1=>∃ W:Nat->Nat->St->Hp->Prop,(∃ m,W 0 m σ H1)/\∀ i m σ H,W i m σ H ->
 (J.stop i H/\D.nx σ H)\/(J.go i H/\∃ N:St->Hp->Prop,(∀ σ' H',N σ' H'->∃ m',m' < m/\W (i+1) m' σ' H')/\∀ x H',J.mU i H x H'->g x σ H' fun σ2 H2=>tb { D with nx:=N,ct:=N,bk:=D.nx } σ2 H2)
def  tG(fp:List ϋ)(h:Heap):List (ϋ×Obj):=fp.filterMap fun b=>(h.get? b).map fun o=>(b,o)
def yh{fp:List ϋ}{h:Heap}{b:ϋ}{o:Obj}(hb:b∈fp)(e:h.get? b=!o):(b,o)∈tG fp h:=_Q.mpr #[b,hb,by rw[e];rfl]
def XJ{fp:List ϋ}{h:Heap}{p:ϋ×Obj}(hp:p∈tG fp h):p.1∈fp/\h.get? p.1=!p.2:=by
 let⟨b,hb,e⟩:=_Q.mp hp;cases q:h.get? b with
 | none=>rw[q]at e;cases e
 | some o =>
  rw[q]at e;have e':(b,o)=p:=Fk e;subst e';show#[hb,q]
def Inv.pinned{π:List (ϋ×Obj)}{σ:St}{H:Hp}{s:ό}{fp:List ϋ}(I:Inv X π σ H s)(hf:∀ b∈fp,kb X π H b)(ho:∀ b∈fp,∃ o,s.heap.get? b=!o/\∀ v,o.data≠.cell v):Inv X (π++tG fp s.heap) σ H s :=
 I.uC fun p hp=>(Fr.mp hp).elim (fun z=>I.pin p (u8 _ z)) fun z=>by
  let⟨hb,e⟩:=XJ z;let⟨f0,f1,f2,_⟩:=hf p.1 hb;let⟨o,e',d⟩:=ho p.1 hb;rw[e]at e';cases e';show#[e,f0,f1,f2,d]
def Inv.E4{π pl:List (ϋ×Obj)}{σ:St}{H:Hp}{s:ό}(I:Inv X (π++pl) σ H s):Inv X π σ H s:=I.uC fun p hp=>I.pin p (u8 _ (Tm _ hp))
def UR{iter:Expr}{body:List Stmt}{wi:TI}{g:TG}{tb:TS}{pos:Pos}(hp:PassesOwn (model X.prog X.w) X.A X.env X.xe)(hc:X.calm=true)(hi:PI X tg iter wi)(hg:PG X tg g)(hb:dm X body tb)(hs:∀ x,foldedSetIterable iter X.env x=pure x:=by intro _;rfl):PS X (.For tg iter body [] pos) (D9 wi g tb):=by
 intro π s σ H D I h;show wpAny_For (aD (hi π s σ H _ I h) fun v s1 h1=>aD h1 fun HB s2 h2=>?_) hs;let⟨it,fp,tn,J,H2,e,I2,T,lz,f2,W,⟨m0,w0⟩,turn⟩:=h2;subst e
 -- what stays true of k8 iterator's objects through k8 loop
 have Hx:∀ {H':Hp},(∀ b∈fp,H' b=none)->∀ b∈fp,kb X π H' b:=fun hn b hb=>#[hn b hb,(f2 b hb).2];show codeAny_forLoop_any (fun n s'=>∃ i σ' H',Inv X π σ' H' s'/\tn i s'.heap/\(∀ b∈fp,H' b=none)/\W i n σ' H') ?_ m0 #[0,σ,H2,I2,lz,fun b hb=>(f2 b hb).1,w0];rintro n s3 ⟨i,σ3,H3,I3,Qz,zK,w3⟩;rcases turn i n σ3 H3 w3 with ⟨stop,qn⟩ | ⟨go,N,hN,step⟩
 ·show _e hp (aD (T.done X rfl rfl rfl hc i π s3 σ3 H3 X.xe I3 (Hx zK) Qz stop) fun r s4 #[hr,I4]=>?_);subst hr;show _M #[σ3,H3,I4,qn]
 ·show _e hp (aD (T.item X rfl rfl rfl hc i π s3 σ3 H3 X.xe I3 (Hx zK) Qz go) fun r s4 #[u,hr,h4]=>?_);subst hr;show _e hp (aD h4 fun _ s5 #[x,H5,I5,r5,y5,sY,Ai]=>?_);have I5':=I5.pinned (Hx Ai) (T.obj _ _ sY);show _e hp (aD (hg _ s5 σ3 H5 x u _ I5' r5 (step x H5 y5)) fun _ s6 #[σ6,H6,I6,q6]=>?_);show _e hp (aD (hb _ s6 σ6 H6 _ I6 q6) fun f s7 q7=>?_);have again:∀ {σ7:St}{H7:Hp},Inv X (π++tG fp s5.heap) σ7 H7 s7->N σ7 H7->∃ m,m < n/\∃ i σ' H',Inv X π σ' H' s7/\tn i s7.heap/\(∀ b∈fp,H' b=none)/\W i m σ' H':=fun {σ7 H7} I7 n7=>by
   let⟨m',hm,w7⟩:=hN σ7 H7 n7;show#[m',hm,i+1,σ7,H7,I7.E4,T.keep _ _ _ sY fun b hb o e=>(I7.pin (b,o) (u8 _ (u8 _ (yh hb e)))).1,fun b hb=>?_,w7];let⟨o,e,d⟩:=T.obj _ _ sY b hb;show(I7.pin (b,o) (u8 _ (u8 _ (yh hb e)))).2.1
  cases f with
  | next=>let⟨σ7,H7,I7,n7⟩:=q7;show again I7 n7
  | cont=>let⟨σ7,H7,I7,n7⟩:=q7;show again I7 n7
  | brk=>let⟨σ7,H7,I7,q7⟩:=q7;show#[σ7,H7,I7.E4,q7]
  | ret v=>let⟨x7,σ7,H7,I7,r7,q7⟩:=q7;show#[x7,σ7,H7,I7.E4,r7,q7]
end
def ac4{K:ν}{a:ϋ}{xs:List V}{g:TG}{tb:TS}{D:Ends}{σ:St}{H:Hp}(Pv:Nat->St->Hp->Prop)(h0:Pv 0 σ H)(hl:∀ i σ H,i<=xs.length->Pv i σ H->aI K H a xs)(hs:∀ i x σ H,xs[i]?=!x->Pv i σ H->g x σ H fun σ2 H2=>tb { D with nx:=Pv (i+1),ct:=Pv (i+1),bk:=D.nx } σ2 H2)(hd:∀ σ H,Pv xs.length σ H->D.nx σ H) :
  ∃ W:Nat->Nat->St->Hp->Prop,(∃ m,W 0 m σ H)/\∀ i m σ H,W i m σ H ->
   ((mS K a).stop i H/\D.nx σ H)\/((mS K a).go i H/\∃ N:St->Hp->Prop,(∀ σ' H',N σ' H'->∃ m',m' < m/\W (i+1) m' σ' H')/\∀ x H',(mS K a).mU i H x H'->g x σ H' fun σ2 H2=>tb { D with nx:=N,ct:=N,bk:=D.nx } σ2 H2):=by
 show#[fun i m σ H=>m=xs.length - i/\i<=xs.length/\Pv i σ H,#[xs.length,(),At _,h0],?_];rintro i m σ H ⟨rfl,hi,p⟩;have q:=hl i σ H hi p;by_cases bS:i < xs.length
 ·show .inr #[#[xs,xs[i],q,by simp[bS]],Pv (i+1),fun σ' H' p'=>#[xs.length - (i+1),∅,rfl,bS,p'],fun x H' y=>?_];let⟨e,y⟩:=y;subst e;show hs i x σ _ (y xs q) p
 ·have e:i=xs.length:=∅
  subst e;show .inl #[#[xs,q,pi _],hd σ H p]
abbrev R2:=V->V->Hp->VK->Prop
def  aZ(X:Cx)(f:ϊ->ϊ->Sem ϊ)(r:R2):Prop :=
 ∀ (π:List (ϋ×Obj)) (s:ό) (σ:St) (H:Hp) (x y:V) (v u:ϊ) (Q:VK),Inv X π σ H s->RelV x v->RelV y u->r x y H Q ->
  wpAny (model X.prog X.w) X.A (f v u) (EP X π σ Q) X.xe s
def  tI(X:Cx)(f:ϊ->Sem ϊ)(r:V->Hp->VK->Prop):Prop :=
 ∀ (π:List (ϋ×Obj)) (s:ό) (σ:St) (H:Hp) (x:V) (v:ϊ) (Q:VK),Inv X π σ H s->RelV x v->r x H Q ->
  wpAny (model X.prog X.w) X.A (f v) (EP X π σ Q) X.xe s
def  cM(X:Cx)(f:ϊ)(r:List V->Hp->VK->Prop):Prop :=
 ∀ (π:List (ϋ×Obj)) (s:ό) (σ:St) (H:Hp) (xs:List V) (us:List ϊ) (Q:VK),Inv X π σ H s->Vals xs us->r xs H Q ->
  wpAny (model X.prog X.w) X.A (call f us) (EP X π σ Q) X.xe s
def  jg(r:R2)(ta tb:TE):TE:=fun σ H Q=>ta σ H fun x H1=>tb σ H1 fun y H2=>r x y H2 Q
def  DH(r:V->Hp->VK->Prop)(ta:TE):TE:=fun σ H Q=>ta σ H fun x H1=>r x H1 Q
def  rI(C:Int->Int->Prop)(g:Int->Int->V):R2:=fun x y H Q=>∃ i j,x=.int i/\y=.int j/\C i j/\Q (g i j) H
def  mR(g:Int->Int->V):R2:=fun x y H Q=>∃ i j,x=.int i/\y=.int j/\Q (g i j) H
def  rU(g:Int->V):V->Hp->VK->Prop:=fun x H Q=>∃ i,x=.int i/\Q (g i) H
section
variable {X:Cx}{a b c:Expr}{ta tb tc:TE}{pos:Pos}
def ED(ha:PE X a ta)(hb:PE X b tb){π:List (ϋ×Obj)}{s:ό}{σ:St}{H:Hp}{R:V->V->Hp->Prop}(I:Inv X π σ H s)(h:ta σ H fun x H1=>tb σ H1 fun y H2=>R x y H2){Q:ϊ->ό->Prop}{f:ϊ->ϊ->Sem ϊ}(hf:∀ v u s2 x y H2,Inv X π σ H2 s2->RelV x v->RelV y u->R x y H2->wpAny (model X.prog X.w) X.A (f v u) Q X.xe s2) :
  wpAny (model X.prog X.w) X.A (eval a X.env) (fun v s₁=>wpAny (model X.prog X.w) X.A (eval b X.env) (fun u s₂=>wpAny (model X.prog X.w) X.A (f v u) Q X.xe s₂) X.xe s₁) X.xe s:=by
 show aD (ha π s σ H _ I h) fun v s1 #[x,H1,I1,r1,q1]=>?_;show aD (hb π s1 σ H1 _ I1 q1) fun u s2 #[y,H2,I2,r2,q2]=>?_;show hf v u s2 x y H2 I2 r1 r2 q2
def WK{op:Operator}{r:R2}(ho:aZ X (binaryOp op) r)(ha:PE X a ta)(hb:PE X b tb):PE X (.BinOp a op b pos) (jg r ta tb):=by
 intro π s σ H Q I h;show wpAny_BinOp (ED ha hb I h fun v u s2 x y H2 I2 rx ry q=>ho π s2 σ H2 x y v u Q I2 rx ry q)
def aaI{op:UnaryOp}{r:V->Hp->VK->Prop}(ho:tI X (unaryOp op) r)(ha:PE X a ta):PE X (.UnaryOp op a pos) (DH r ta):=by
 intro π s σ H Q I h;show UnaryOp_ (aD (ha π s σ H _ I h) fun v s1 #[x,H1,I1,r1,q1]=>ho π s1 σ H1 x v Q I1 r1 q1)
def yl{f:ϊ->ϊ->Sem ϊ}{C:Int->Int->Prop}{g:Int->Int->Int}(rule:∀ (i j:Int) (t u:Tok) (s:ό) (Q:ϊ->ό->Prop) (E:ϊ->ό->Prop),C i j->Q (.int (g i j) s.toks) { s with toks:=s.toks+1 }->wpAny (model X.prog X.w) X.A (f (.int i t) (.int j u)) Q E s) :
  aZ X f (rI C fun i j=>.int (g i j)):=by
 intro π s σ H x y v u Q I rx ry h;let⟨i,j,rfl,rfl,hc,q⟩:=h;let⟨t,rfl⟩:=rx;let⟨t',rfl⟩:=ry;show rule i j t t' s _ _ hc #[.int (g i j),H,I.tok _,#[_,rfl],q]
def NC{f:ϊ->ϊ->Sem ϊ}{g:Int->Int->Int}(rule:∀ (i j:Int) (t u:Tok) (s:ό) (Q:ϊ->ό->Prop) (E:ϊ->ό->Prop),Q (.int (g i j) s.toks) { s with toks:=s.toks+1 }->wpAny (model X.prog X.w) X.A (f (.int i t) (.int j u)) Q E s) :
  aZ X f (mR fun i j=>.int (g i j)):=by
 intro π s σ H x y v u Q I rx ry h;let⟨i,j,rfl,rfl,q⟩:=h;let⟨t,rfl⟩:=rx;let⟨t',rfl⟩:=ry;show rule i j t t' s _ _ #[.int (g i j),H,I.tok _,#[_,rfl],q]
def Fl{f:ϊ->ϊ->Sem ϊ}{g:Int->Int->Bool}(rule:∀ (i j:Int) (t u:Tok) (s:ό) (Q:ϊ->ό->Prop) (E:ϊ->ό->Prop),Q (.bool (g i j)) s->wpAny (model X.prog X.w) X.A (f (.int i t) (.int j u)) Q E s) :
  aZ X f (mR fun i j=>.bl (g i j)):=by
 intro π s σ H x y v u Q I rx ry h;let⟨i,j,rfl,rfl,q⟩:=h;let⟨t,rfl⟩:=rx;let⟨t',rfl⟩:=ry;show rule i j t t' s _ _ #[.bl (g i j),H,I,rfl,q]
def  NA(i j:Int):Prop:=0 < j/\j < 1073741824
def  KA(i j:Int):Prop:=0<=j/\j<=1000000/\i.natAbs < 2 ^ 64
def  zi(i j:Int):Prop:=((unop% Neg.neg ((2 ^ 64))) < i/\i < 2 ^ 64)\/((unop% Neg.neg ((2 ^ 64))) < j/\j < 2 ^ 64)
def zi.ok{i j:Int}(h:zi i j):IntMulOk i j:=by
 rcases h with ⟨h1,h2⟩ | ⟨h1,h2⟩
 ·show .of_left (intBits_le_64 h1 h2)
 ·show .of_right (intBits_le_64 h1 h2)
def Z7:aZ X (binaryOp .Add) (mR fun i j=>.int (i+j)):=NC fun _ _ _ _ _ _ _ q=>add_int q
def aaa:aZ X (binaryOp .Sub) (mR fun i j=>.int (i - j)):=NC fun _ _ _ _ _ _ _ q=>sub_int q
def adX:aZ X (binaryOp .Mult) (rI zi fun i j=>.int (i * j)):=yl fun _ _ _ _ _ _ _ hc q=>mul_int q hc.ok
def WJ:aZ X (binaryOp .FloorDiv) (rI NA fun i j=>.int (i / j)):=yl fun i j _ _ _ _ _ hc q=>by
 have h1:(0:Int) < j:=hc.1;have h2:j < 1073741824:=hc.2;show floordiv_int ∅ (by rw[Int.fdiv_eq_ediv_of_nonneg i ∅];show q) (.inl (PyProof.noPylong_small ∅))
def YF:aZ X (binaryOp .Mod) (rI (fun _ j=>0 < j) fun i j=>.int (i % j)):=yl fun i j _ _ _ _ _ hc q=>by
 have h1:(0:Int) < j:=hc;show mod_int' ∅ (by rw[Int.fmod_eq_emod_of_nonneg i ∅];show q)
def Sq:aZ X (binaryOp .Pow) (rI KA fun i j=>.int (i ^ j.toNat)):=yl fun _ _ _ _ _ _ _ hc q=>pow_int_small hc.1 hc.2.1 hc.2.2 q
def unI{f:ϊ->Sem ϊ}{g:Int->Int}(rule:∀ (i:Int) (t:Tok) (s:ό) (Q:ϊ->ό->Prop) (E:ϊ->ό->Prop),Q (.int (g i) s.toks) { s with toks:=s.toks+1 }->wpAny (model X.prog X.w) X.A (f (.int i t)) Q E s) :
  tI X f (rU fun i=>.int (g i)):=by
 intro π s σ H x v Q I rx h;let⟨i,rfl,q⟩:=h;let⟨t,rfl⟩:=rx;show rule i t s _ _ #[.int (g i),H,I.tok _,#[_,rfl],q]
def abj:tI X (unaryOp .USub) (rU fun i=>.int ((unop% Neg.neg (i)))):=unI fun _ _ _ _ _ q=>neg_int q
end
def  y9:V->V->Bool
 | .au,.au=>true | .au,.int _=>true | .int _,.au=>true | .au,.bl _=>true | .bl _,.au=>true | .au,.str _=>true | .str _,.au=>true
 | .int _,.int _=>true | .bl _,.bl _=>true | .str _,.str _=>true | .byt _,.byt _=>true
 | .int _,.str _=>true | .str _,.int _=>true | .bl _,.str _=>true | .str _,.bl _=>true
 | _,_=>false
def  Se:R2:=fun x y H Q=>y9 x y=true/\Q (.bl (decide (x=y))) H
def  Xy:R2:=fun x y H Q=>y9 x y=true/\Q (.bl (Bool.not (decide (x=y)))) H
def Ju{i j:Int}:decide (V.int i=V.int j)=(i == j):=by
 rw[_f];simp
def Ig{i j:Bool}:decide (V.bl i=V.bl j)=(i == j):=by
 rw[_f];simp
def Lq{i j:Str}:decide (V.str i=V.str j)=(i == j):=by
 rw[_f];simp
def IA{i j:Array UInt8}:decide (V.byt i=V.byt j)=(i.toList == j.toList):=by
 rw[_f];cases i;cases j;simp
section
variable {X:Cx}{a b c:Expr}{ta tb tc:TE}{pos:Pos}
def cE{π:List (ϋ×Obj)}{σ:St}{H:Hp}{s:ό}{Q:VK}{k k':Bool}(I:Inv X π σ H s)(q:Q (.bl k) H)(e:k=k'):EP X π σ Q (.bool k') s:=by
 subst e;show#[.bl k,H,I,rfl,q]
def Rr:aZ X (compareOp .Eq) Se:=by
 intro π s σ H x y v u Q I rx ry h;let⟨hs,q⟩:=h;cases x with
 | au =>
  cases rx;cases y with
  | au=>cases ry;show PySem.EqNone.eq_none_none (cE I q ())
  | bl j=>cases ry;show PySem.EqNone.eq_none_bool (cE I q ())
  | int j=>let⟨t',rfl⟩:=ry;show PySem.EqNone.eq_none_int (cE I q ())
  | str j=>let⟨t',rfl⟩:=ry;show PySem.EqNone.eq_none_str (cE I q ())
  | _=>show absurd (show false=true from hs) wn
 | bl i =>
  cases rx;cases y with
  | au=>cases ry;show PySem.EqNone.eq_bool_none (cE I q ())
  | bl j=>cases ry;show eq_bool (cE I q Ig)
  | str j=>let⟨t',rfl⟩:=ry;show PySem.EqMixed.eq_bool_str (cE I q ())
  | _=>show absurd (show false=true from hs) wn
 | int i =>
  let⟨t,rfl⟩:=rx;cases y with
  | au=>cases ry;show PySem.EqNone.eq_int_none (cE I q ())
  | int j=>let⟨t',rfl⟩:=ry;show eq_int (cE I q Ju)
  | str j=>let⟨t',rfl⟩:=ry;show PySem.EqMixed.eq_int_str (cE I q ())
  | _=>show absurd (show false=true from hs) wn
 | str i =>
  let⟨t,rfl⟩:=rx;cases y with
  | au=>cases ry;show PySem.EqNone.eq_str_none (cE I q ())
  | bl j=>cases ry;show PySem.EqMixed.eq_str_bool (cE I q ())
  | int j=>let⟨t',rfl⟩:=ry;show PySem.EqMixed.eq_str_int (cE I q ())
  | str j=>let⟨t',rfl⟩:=ry;show eq_str (cE I q Lq)
  | _=>show absurd (show false=true from hs) wn
 | byt i =>
  let⟨t,rfl⟩:=rx;cases y with
  | byt j=>let⟨t',rfl⟩:=ry;show W.eq_bytes (cE I q IA)
  | _=>show absurd (show false=true from hs) wn
 | _=>cases y <;> show absurd (show false=true from hs) wn
def Xl:aZ X (compareOp .NotEq) Xy:=by
 intro π s σ H x y v u Q I rx ry h;let⟨hs,q⟩:=h;cases x with
 | au =>
  cases rx;cases y with
  | au=>cases ry;show PySem.EqNone.ne_none_none (cE I q ())
  | bl j=>cases ry;show PySem.EqNone.ne_none_bool (cE I q ())
  | int j=>let⟨t',rfl⟩:=ry;show PySem.EqNone.ne_none_int (cE I q ())
  | str j=>let⟨t',rfl⟩:=ry;show PySem.EqNone.ne_none_str (cE I q ())
  | _=>show absurd (show false=true from hs) wn
 | bl i =>
  cases rx;cases y with
  | au=>cases ry;show PySem.EqNone.ne_bool_none (cE I q ())
  | bl j=>cases ry;show ne_bool (cE I q (KM not Ig))
  | str j=>let⟨t',rfl⟩:=ry;show PySem.EqMixed.ne_bool_str (cE I q ())
  | _=>show absurd (show false=true from hs) wn
 | int i =>
  let⟨t,rfl⟩:=rx;cases y with
  | au=>cases ry;show PySem.EqNone.ne_int_none (cE I q ())
  | int j=>let⟨t',rfl⟩:=ry;show ne_int (cE I q (KM not Ju))
  | str j=>let⟨t',rfl⟩:=ry;show PySem.EqMixed.ne_int_str (cE I q ())
  | _=>show absurd (show false=true from hs) wn
 | str i =>
  let⟨t,rfl⟩:=rx;cases y with
  | au=>cases ry;show PySem.EqNone.ne_str_none (cE I q ())
  | bl j=>cases ry;show PySem.EqMixed.ne_str_bool (cE I q ())
  | int j=>let⟨t',rfl⟩:=ry;show PySem.EqMixed.ne_str_int (cE I q ())
  | str j=>let⟨t',rfl⟩:=ry;show ne_str (cE I q (KM not Lq))
  | _=>show absurd (show false=true from hs) wn
 | byt i =>
  let⟨t,rfl⟩:=rx;cases y with
  | byt j=>let⟨t',rfl⟩:=ry;show W.ne_bytes (cE I q (KM not IA))
  | _=>show absurd (show false=true from hs) wn
 | _=>cases y <;> show absurd (show false=true from hs) wn
def Va:aZ X (compareOp .Lt) (mR fun i j=>.bl (decide (i < j))):=Fl fun _ _ _ _ _ _ _ q=>lt_int q
def UL:aZ X (compareOp .LtE) (mR fun i j=>.bl (decide (i<=j))):=Fl fun _ _ _ _ _ _ _ q=>le_int q
def VT:aZ X (compareOp .Gt) (mR fun i j=>.bl (decide (j < i))):=Fl fun _ _ _ _ _ _ _ q=>gt_int q
def UW:aZ X (compareOp .In) (fun x y H Q=>∃ i j,x=.str i/\y=.str j/\Q (.bl (Bool.not (Builtin.Str.occurrences j i 0 j.length 1).isEmpty)) H):=by
 intro π s σ H x y v u Q I rx ry h;let⟨i,j,rfl,rfl,q⟩:=h;let⟨t,rfl⟩:=rx;let⟨t',rfl⟩:=ry;show in_str (cE I q rfl)
def uD:aZ X (compareOp .Is) (fun x y H Q=>y=.au/\Q (.bl (decide (x=.au))) H):=by
 intro π s σ H x y v u Q I rx ry h;let⟨rfl,q⟩:=h;cases ry;show is_none_gen (cE I q ?_);cases x <;> first
  | (cases rx;rfl)
  | (let⟨t,rfl⟩:=rx;rfl)
def O6:aZ X (compareOp .IsNot) (fun x y H Q=>y=.au/\Q (.bl (Bool.not (decide (x=.au)))) H):=by
 intro π s σ H x y v u Q I rx ry h;let⟨rfl,q⟩:=h;cases ry;show isnot_none_gen (cE I q ?_);cases x <;> first
  | (cases rx;rfl)
  | (let⟨t,rfl⟩:=rx;rfl)
def Yr:aZ X (compareOp .NotIn) (fun x y H Q=>∃ i j,x=.str i/\y=.str j/\Q (.bl (Bool.not (Bool.not (Builtin.Str.occurrences j i 0 j.length 1).isEmpty))) H):=by
 intro π s σ H x y v u Q I rx ry h;let⟨i,j,rfl,rfl,q⟩:=h;let⟨t,rfl⟩:=rx;let⟨t',rfl⟩:=ry;show notIn_str (cE I q rfl)
def aZ.or{f:ϊ->ϊ->Sem ϊ}{r r':R2}(h:aZ X f r)(h':aZ X f r'):aZ X f (fun x y H Q=>r x y H Q\/r' x y H Q):=by
 intro π s σ H x y v u Q I rx ry q;rcases q with q | q
 ·show h π s σ H x y v u Q I rx ry q
 ·show h' π s σ H x y v u Q I rx ry q
def adC{op:CmpOp}{r:R2}(ho:aZ X (compareOp op) r)(ha:PE X a ta)(hb:PE X b tb)(hm:behindInMarks op b=false):PE X (.Compare a [op] [b] pos) (jg r ta tb):=by
 intro π s σ H Q I h;show wpAny_Compare1 (ED ha hb I h fun v u s2 x y H2 I2 rx ry q=>ho π s2 σ H2 x y v u Q I2 rx ry q) hm
def UI{κ:Type}{kvs:List (κ×V)}{vs:List (κ×ϊ)}(r:KV kvs vs):(Bool.not vs.isEmpty)=Bool.not kvs.isEmpty:=by
 cases r <;> rfl
def ud:(sizeLine:Nat) < 2 ^ 63:=by rw[Jao];decide
def Tu:aZ X (binaryOp .Add) (fun x y H Q=>∃ i j,x=.str i/\y=.str j/\i.length+j.length<=sizeLine/\Q (.str (i++j)) H):=by
 intro π s σ H x y v u Q I rx ry h;let⟨i,j,rfl,rfl,hz,q⟩:=h;let⟨t,rfl⟩:=rx;let⟨t',rfl⟩:=ry;show add_str (fun t' tk=>#[.str (i++j),H,I.tok _,#[_,rfl],q]) hz
def vals1{x:V}{us:List ϊ}(r:Vals [x] us):∃ u,us=[u]/\RelV x u:=by
 cases r with
 | cons r1 r2=>cases r2;show#[_,rfl,r1]
def vals2{x y:V}{us:List ϊ}(r:Vals [x,y] us):∃ u w',us=[u,w']/\RelV x u/\RelV y w':=by
 cases r with
 | cons r1 r2 =>
  cases r2 with
  | cons r3 r4=>cases r4;show#[_,_,rfl,r1,r3]
def  Yj(K:ν)(x:V)(H:Hp)(n:Nat):Prop :=
 match x with
 | .str y=>y.length<=sizeLine/\n=y.length
 | .byt y=>y.size<=sizeLine/\n=y.size
 | .ref p=>(∃ xs,aI K H p xs/\n=xs.length)\/∃ xs,bH K H p xs/\n=xs.length
 | _=>False
def abL:cM X (.builtin "len") (fun xs H Q=>∃ x n,xs=[x]/\Yj X.K x H n/\Q (.int n) H):=by
 intro π s σ H xs us Q I r h;let⟨x,n,rfl,e,q⟩:=h;let⟨u,rfl,rx⟩:=vals1 r;have hl:=ud;have hs:sizeLine=16777216:=Jao;cases x with
 | str y =>
  let⟨t,rfl⟩:=rx;let⟨hy,e'⟩:y.length<=sizeLine/\n=y.length:=e;subst e';show len_str ∅ #[.int _,H,I.tok _,#[_,rfl],q]
 | byt y =>
  let⟨t,rfl⟩:=rx;let⟨hy,e'⟩:y.size<=sizeLine/\n=y.size:=e;subst e';show W.len_bytes ∅ #[.int _,H,I.tok _,#[_,rfl],q]
 | ref p =>
  cases rx;have e':(∃ xs,aI X.K H p xs/\n=xs.length)\/∃ xs,bH X.K H p xs/\n=xs.length:=e;rcases e' with ⟨xs,hx,e'⟩ | ⟨xs,hx,e'⟩
  ·subst e';let⟨aq,r',pl,hz⟩:=I.list hx;have hlen:=r'.length;show Calls.call_len_list pl.isList (by simp only[ss];omega) #[.int xs.length,H,I.tok _,#[_,by simp only[ss];rw[hlen]],q]
  ·subst e';let⟨aq,r',pl,hz⟩:=I.tuple hx;have hlen:=r'.length;show len_tuple pl (by simp only[ss];omega) #[.int xs.length,H,I.tok _,#[_,by simp only[ss];rw[hlen]],q]
 | _=>show(show False from e).elim
end
structure oN(h:Heap)(x dx C:ϋ)(mA:Str->Option ϊ):Prop where
 obj:h.get? x=!W.instObj C dx
 ns:h.Ns1 dx mA
 ne:dx≠x
def Zf{h:Heap}{dx:ϋ}{mA:Str->Option ϊ}(n:h.Ns1 dx mA):∃ od,h.get? dx=!od/\∀ name,W.lookIn name od=!mA name:=by
 let⟨o,es,ep,ho,hd,hk,_,hm⟩:=n;show#[o,ho,fun name=>?_];have e:=hm name;unfold nsFind findBy at e;rw[<- Array.find?_toList]at e;unfold W.lookIn;rw[hd];dsimp only;split
 ·rename_i y q;rw[q]at e;show KM some e
 ·rename_i q;rw[q]at e;have a:es.toList.any (·.refKey)=false:=by
   rw[List.any_eq_false];intro y hy;let⟨z,t,sy⟩:=hk y (Array.mem_toList_iff.mp hy);simp[DictEntry.refKey,sy]
  have a':¬ es.toList.any (·.refKey)=true:=by rw[a];show wn
  rw[wP a'];show KM some e
def oN.look{h:Heap}{x dx C:ϋ}{mA:Str->Option ϊ}(I:oN h x dx C mA):∃ od,W.InstAt h x (W.instObj C dx) C (!od)/\∀ name,W.lookIn name od=!mA name :=
 let ⟨od,ho,hl⟩:=Zf I.ns
 #[od,#[I.obj,rfl,rfl,ho],hl]
section
variable {prog:ύ}{w:World}{A:Around}{E:ϊ->ό->Prop}{s:ό}{K:ν}{x dx C f:ϋ}{mA:Str->Option ϊ}{name:Str}{v:ϊ}
def get_map{expr:Bool}{Q:ϊ->ό->Prop}(X:K.In s.heap)(I:oN s.heap x dx C mA)(hg:W.plainGet K C name=true)(hh:W.hasDictIn K C=true)(ha:W.findIn K (-C) name=!none)(hv:mA name=!v)(hv':W.handedIn v=true)(h:Q v { s with toks:=s.toks+1 }) :
  wpAny (model prog w) A (getAttr (-x) name expr) Q E s:=by
 let⟨od,J,hl⟩:=I.look;show W.get_value X J (Ja8 hg).1 (W.findObj_own hh ha rfl (by rw[hl,hv])) hv' h
def Sr{pl:Sem Bool}{Q:ϊ×List ϊ->ό->Prop}(X:K.In s.heap)(I:oN s.heap x dx C mA)(hg:W.plainGet K C name=true)(hf:W.findIn K (-C) name=!(!-f))(ht:W.isFn K (-f)=true)(hv:mA name=none)(h:Q (-f,[-x]) s) :
  wpAny (model prog w) A (getMethod (-x) name pl) Q E s:=by
 let⟨od,J,hl⟩:=I.look;show W.method_fn X J (Ja8 hg).1 (Ja8 hg).2 hf (ZB.mp ht) (by change(W.lookIn name od).map (·.isSome)=!false;rw[hl,hv];rfl) h
def To{ns:List Str}{Q:Unit->ό->Prop}(X:K.In s.heap)(I:oN s.heap x dx C mA)(hs:W.findIn K (-C) "__setattr__" = !(!.builtin "object.__setattr__"))(hp:W.plainOver K C=true)(ht:W.takerIn K C name=!none)(hh:W.hasDictIn K C=true)(hw:PySem.Within mA ns)(hsz:ns.length<=sizeLine)(h:∀ h',oN h' x dx C (fun y=>if y=name then !v else mA y)->Heap.SameBut dx s.heap h'->Q .unit { s with heap:=h',toks:=s.toks+2 }) :
  wpAny (model prog w) A (setAttr (-x) name v) Q E s:=by
 let⟨od,J,hl⟩:=I.look;show W.set_plain X J hs (W.osa_open (s:={ s with toks:=s.toks+1 }) (r:=none) X J hp ht fun b=>?_);let⟨cd,hc,hd'⟩:=W.any_some hh;have hx:s.heap.get? x=!#[-C,!dx,.plain,(List.toArray [])]:=I.obj;show ii (pc (ii (ii (_n hx (ii (W.Looks.here (s:={ s with toks:=s.toks+1 }) (W.looks_clsIn X hc) ?_))))));rw[hd'];show pc (a:=!dx) (ii (pc (ii ?_)));show wpAny_nsSet1 (s:={ s with toks:=s.toks+1 }) I.ns fun h' gJ zE=>?_;let⟨oD,JR,epD,GU,HG,Hk⟩:=gJ.count (PySem.Within.cons name v hw);show ii (wpAny_lookBehind GU (by rw[HG];show pastItsLine_dict (wE Hk (by rw[Fa];omega))) ?_);show pc (h _ #[(zE.2 _ (pp I.ne)).trans I.obj,gJ,I.ne] zE)
def abV{R:Result->ό->Prop}{vs:List ϊ}{kw:List (Str×ϊ)}(X:K.In s.heap)(hm:W.makesIn K C=true)(hi:W.findIn K (-C) "__init__" = !(!-f))(hf:W.typeIn K (-f)=!.type "function")(h:codeAny (model prog w) (A.under (.builtin "type.__call__" #[-C::vs,kw])) (.call (-f) #[-(s.heap.objs.size+1)::vs,kw]) (W.InitBack (s.heap.objs.size+1) R)
   { s with heap:=(s.heap.push W.emptyDict).push (W.instObj C s.heap.objs.size) }) :
  codeAny (model prog w) A (.call (-C) #[vs,kw]) R s:=by
 let⟨hh,g,d,t,os⟩:=s;show W.make_core (W.makes_of X hm) (GE X hi) (fun self=>W.bind_fn X self hf) (.inl rfl) h
end
def  az(f:Str)(v:V):List (Str×V)->List (Str×V)
 | []=>[(f,v)]
 | (g,x)::r=>if g=f then (g,v)::r else (g,x)::az f v r
def eB(f g:Str)(v:V):∀ fs:List (Str×V),(az f v fs).lookup g=if g=f then !v else fs.lookup g
 | []=>by
  change List.lookup g [(f,v)]=_;by_cases h:g=f
  ·have hb:(g == f)=true:=ZB.mpr h;simp only[List.lookup,hb,xL h]
  ·have hb:(g == f)=false:=Do.mpr h;simp only[List.lookup,hb,wP h]
 | (k,x)::r=>by
  have ih:=eB f g v r;rw[show az f v ((k,x)::r)=(if k=f then (k,v)::r else (k,x)::az f v r) from rfl];by_cases hk:k=f
  ·rw[xL hk];by_cases h:g=k
   ·have hb:(g == k)=true:=ZB.mpr h;simp only[List.lookup,hb,xL (h.trans hk)]
   ·have hb:(g == k)=false:=Do.mpr h;simp only[List.lookup,hb,wP (fun e:g=f=>h (e.trans hk.symm))]
  ·rw[wP hk];by_cases h:g=k
   ·have hb:(g == k)=true:=ZB.mpr h;simp only[List.lookup,hb,wP (fun e:g=f=>hk (h.symm.trans e))]
   ·have hb:(g == k)=false:=Do.mpr h;simp only[List.lookup,hb];show ih
def Ay(f:Str)(v:V):∀ fs:List (Str×V),f∈(az f v fs).map (·.1)/\∀ g,g∈fs.map (·.1)->g∈(az f v fs).map (·.1)
 | []=>#[by simp[az],fun g h=>by simp at h]
 | (k,x)::r=>by
  let⟨i1,i2⟩:=Ay f v r;rw[show az f v ((k,x)::r)=(if k=f then (k,v)::r else (k,x)::az f v r) from rfl];by_cases hk:k=f
  ·rw[xL hk];subst hk;show#[(),fun g h=>by simpa using h]
  ·rw[wP hk];show#[?_,fun g h=>?_]
   ·rw[wS];show AC _ i1
   ·rw[wS]at h ⊢;rcases jp.mp h with e | e
    ·show jp.mpr (.inl e)
    ·show AC _ (i2 g e)
def BJ(f:Str)(v:V):∀ fs:List (Str×V),(az f v fs).length<=fs.length+1
 | []=>by simp[az]
 | (k,x)::r=>by
  have ih:=BJ f v r;rw[show az f v ((k,x)::r)=(if k=f then (k,v)::r else (k,x)::az f v r) from rfl];by_cases hk:k=f
  ·rw[xL hk,Fa,Fa];omega
  ·rw[wP hk,Fa,Fa];omega
def eA.some_of{v:V}{o:Option ϊ}(r:eA (!v) o):∃ u,o=!u/\RelV v u:=by
 cases o with
 | none=>show(show False from r).elim
 | some u=>show#[u,rfl,r]
def eA.none_of{o:Option ϊ}(r:eA none o):o=none:=by
 cases o with
 | none=>rfl
 | some u=>show(show False from r).elim
def aeh{v:V}{u:ϊ}(r:RelV v u):W.handedIn u=true:=by
 cases v with
 | au=>cases (show u=ϊ.none from r);rfl
 | bl b=>cases (show u=ϊ.bool b from r);rfl
 | int i=>let⟨t,e⟩:=(show ∃ t,u=ϊ.int i t from r);cases e;rfl
 | str x=>let⟨t,e⟩:=(show ∃ t,u=ϊ.str x t from r);cases e;rfl
 | byt b=>let⟨t,e⟩:=(show ∃ t,u=ϊ.bytes b t from r);cases e;rfl
 | oj b=>let⟨t,e⟩:=(show ∃ t,u=ϊ.float b t from r);cases e;rfl
 | ref a=>cases (show u=ϊ.ref a from r);rfl
 | ty n=>cases (show u=ϊ.type n from r);rfl
section
variable {P:ύ}{w:World}{H H':Hp}{h h':Heap}{a C dx:ϋ}{fs fs':List (Str×V)}
def yJ(aA:cw P w H h)(e:H a=!.ins C dx fs):∃ mA,oN h a dx C mA/\(∀ f,eA (fs.lookup f) (mA f))/\PySem.Within mA (fs.map (·.1))/\fs.length<=1000/\H dx=!.own a:=by
 let⟨d,z,ne,ob,mA,n,r,q⟩:=(show bU P w H h a (.ins C dx fs) from aA a _ e);show#[mA,#[ob,n,ne],r,q,z,d]
end
structure c9(K:ν)(C:ϋ):Prop where
 pg:W.plainGet K C Str.empty=true
 hd:W.hasDictIn K C=true
 po:W.plainOver K C=true
 sa:W.findIn K (-C) "__setattr__" = !(!.builtin "object.__setattr__")
def c9.get{K:ν}{C:ϋ}(c:c9 K C)(f:Str):W.plainGet K C f=true:=c.pg
def  bL(K:ν)(C:ϋ)(f:Str):Prop:=W.findIn K (-C) f=!none
def bL.abn{K:ν}{C:ϋ}{f:Str}(n:bL K C f):W.takerIn K C f=!none:=by
 unfold W.takerIn;rw[show W.findIn K (-C) f=some none from n];rfl
structure Con(K:ν)(C:ϋ)(f:Str)(v:V)(u:ϊ):Prop where
 at_:W.findIn K (-C) f=!(!u)
 rel:RelV v u
 get:W.specialIn K u "__get__" = !none
 cp:W.copiedNames.contains f=false
structure Meth(K:ν)(C:ϋ)(m:Str)(f:ϋ):Prop where
 at_:W.findIn K (-C) m=!(!-f)
 fn:W.isFn K (-f)=true
 kp:W.keepIn K (-f)=true
section
variable {X:Cx}{π:List (ϋ×Obj)}{σ:St}{H:Hp}{s:ό}{a C dx:ϋ}{fs:List (Str×V)}{f:Str}{v:V}{A:Around}{E:ϊ->ό->Prop}
def Ii{b:Bool}{Q:ϊ->ό->Prop}(I:Inv X π σ H s)(e:H a=!.ins C dx fs)(c:c9 X.K C)(n:bL X.K C f)(l:fs.lookup f=!v)(h:∀ u s',Inv X π σ H s'->RelV v u->Q u s'):wpAny (model X.prog X.w) A (getAttr (-a) f b) Q E s:=by
 let⟨mA,O,r,_,_,_⟩:=yJ I.aA e;let⟨u,hu,ru⟩:=eA.some_of (v:=v) (o:=mA f) (by rw[<- l];show r f);show get_map I.cq O (c.get f) c.hd n hu (aeh ru) (h u _ (I.tok _) ru)
def Dj{m:Str}{g:ϋ}{pl:Sem Bool}{Q:ϊ×List ϊ->ό->Prop}(I:Inv X π σ H s)(e:H a=!.ins C dx fs)(c:c9 X.K C)(k:Meth X.K C m g)(l:fs.lookup m=none)(h:Q (-g,[-a]) s):wpAny (model X.prog X.w) A (getMethod (-a) m pl) Q E s:=by
 let⟨mA,O,r,_,_,_⟩:=yJ I.aA e;have hn:mA m=none:=eA.none_of (by rw[<- l];show r m);show Sr I.cq O (c.get m) k.at_ k.fn hn h
def NF{y:V}{u:ϊ}{Q:Unit->ό->Prop}(I:Inv X π σ H s)(e:H a=!.ins C dx fs)(c:c9 X.K C)(n:bL X.K C f)(hl:fs.length < 1000)(ry:RelV y u)(h:∀ s',Inv X π σ (upd H a (.ins C dx (az f y fs))) s'->Q .unit s'):wpAny (model X.prog X.w) A (setAttr (-a) f u) Q E s:=by
 let⟨mA,O,r,wi,_,ho⟩:=yJ I.aA e;have hz:(fs.map (·.1)).length<=sizeLine:=by rw[lv,Jao];omega
 show To I.cq O c.sa c.po n.abn c.hd wi hz fun h' O' sb=>h _ ?_;have hd:∃ o,h'.get? dx=!o:=let ⟨o,_,_,e',_⟩:=O'.ns;#[o,e']
 show I.write (x:=a) (e:=dx) (by rw[e];show True.intro) (.inr ho) (fun b q hb z=>(sb.2 b hb).trans z) hd ?_;show#[by rw[ag O.ne];show ho,?_,O.ne,O'.obj,_,O'.ns,fun g=>?_,fun g hg=>?_]
 ·have:=BJ f y fs;omega
 ·change eA ((az f y fs).lookup g) (if g=f then !u else mA g);rw[eB];by_cases q:g=f
  ·rw[xL q,xL q];show ry
  ·rw[wP q,wP q];show r g
 ·by_cases q:g=f
  ·rw[q];show(Ay f y fs).1
  ·show(Ay f y fs).2 g (wi g fun z=>hg ?_);change(if g=f then !u else mA g)=none;rw[wP q];show z
def Inv.made(I:Inv X π σ H s):Inv X π σ (upd (upd H s.heap.objs.size (.own (s.heap.objs.size+1))) (s.heap.objs.size+1) (.ins C s.heap.objs.size []))
  { s with heap:=(s.heap.push W.emptyDict).push (W.instObj C s.heap.objs.size) }:=by
 have e1:(s.heap.push W.emptyDict).get? s.heap.objs.size=!W.emptyDict:=tz s.heap rfl;have e2:((s.heap.push W.emptyDict).push (W.instObj C s.heap.objs.size)).get? (s.heap.objs.size+1)=!W.instObj C s.heap.objs.size:=by
  have:=tz (s.heap.push W.emptyDict) (o:=W.instObj C s.heap.objs.size) rfl
  rwa [Ty]at this
 have e3:(s.heap.push W.emptyDict).Ns s.heap.objs.size (fun _=>none):=#[W.emptyDict,(List.toArray []),_,e1,rfl,(fun e he=>absurd he ()),fun _=>rfl];have I1:=I.laid (a:=s.heap.objs.size) (o:=.own (s.heap.objs.size+1)) (h':=s.heap.push W.emptyDict) (t':=s.toks) (fun b u q=>li _ q) (pi _) #[_,e1];show I1.laid (a:=s.heap.objs.size+1) (o:=.ins C s.heap.objs.size []) (t':=s.toks) (fun b u q=>li _ q) (Nat.le_of_eq (Ty _ _)) ?_;have ne:s.heap.objs.size≠s.heap.objs.size+1:=wT (LE _);show#[by rw[ag ne,aw],At _,ne,e2,fun _=>none,(Heap.Ns1.of_empty e3).at fun o q=>li _ q,fun _=>True.intro,fun y hy=>absurd rfl hy]
def Km{prog:ύ}{w:World}{env:Env}{e:Expr}{f:Str}{pos:Pos}{s:ό}{Q:ϊ->ό->Prop}(hb:attributeBase e f env (eval e env)=eval e env)(h:wpAny (model prog w) A (eval e env) (fun o s₁=>wpAny (model prog w) A (getAttr o f true) Q E s₁) E s):wpAny (model prog w) A (eval (.Attribute e f pos) env) Q E s :=
 Attribute_any_ h (by rw[arm_eval_Attribute,hb])
end
def  BW(X:Cx)(op:Operator)(rd:V->V->Hp->VK->Prop):Prop :=
 ∀ (π:List (ϋ×Obj)) (s:ό) (σ:St) (H:Hp) (x y:V) (u v:ϊ) (Q:VK),Inv X π σ H s->RelV x u->RelV y v->rd x y H Q->wpAny (model X.prog X.w) X.A (inplaceOp op u v) (EP X π σ Q) X.xe s
section
variable {X:Cx}{o e value:Expr}{f:Str}{pos pos' sG:Pos}{ta tv:TE}
def  OW:V->V->Hp->VK->Prop:=fun x y H Q=>∃ i j,x=.int i/\y=.int j/\Q (.int (i+j)) H
def iR:BW X .Add OW:=by
 rintro π s σ H x y u v Q I rx ry ⟨i,j,rfl,rfl,q⟩;let⟨t,rfl⟩:=(show ∃ t,u=ϊ.int i t from rx);let⟨t',rfl⟩:=(show ∃ t',v=ϊ.int j t' from ry);show PyProof.Rows.iadd_int #[.int (i+j),H,I.tok _,#[_,rfl],q]
end
section
variable {X:Cx}{π:List (ϋ×Obj)}{σ:St}{H:Hp}{s:ό}{A:Around}{E:ϊ->ό->Prop}{Q:ϊ->ό->Prop}{c:ϊ}{b:Bool}
inductive fW(K:ν)(H:Hp):V->ϊ->Prop where
 | au:fW K H .au (.type "NoneType")
 | bl (x:Bool):fW K H (.bl x) (.type "bool")
 | int (i:Int):fW K H (.int i) (.type "int")
 | str (x:Str):fW K H (.str x) (.type "str")
 | oj (x:UInt64):fW K H (.oj x) (.type "float")
 | lst {a:ϋ}{xs:List V} (e:H a=!.lst xs):fW K H (-a) (.type "list")
 | cD {a:ϋ}{o:Obj}{xs:List V} (e:H a=!.cD o (.lst xs)):fW K H (-a) (.type "list")
 | tup {a:ϋ}{xs:List V} (e:H a=!.tup xs):fW K H (-a) (.type "tuple")
 | dK {a:ϋ}{kvs:List (Key×V)} (e:H a=!.dK kvs):fW K H (-a) (.type "dict")
 | dT {a:ϋ}{kvs:List (List Key×V)} (e:H a=!.dT kvs):fW K H (-a) (.type "dict")
 | ins {a C dx:ϋ}{fs:List (Str×V)} (e:H a=!.ins C dx fs) (cl:c9 K C) (ha:W.findIn K (-C) "__class__" = !(!.builtin "object.__class__"))
   (hn:W.specialIn K (.builtin "object.__class__") "__get__" = !(!.builtin "getset_descriptor.__get__")) (fq:W.takesIn K (.builtin "object.__class__")=!true)
   (hm:W.mroIn K C (.type "object")=!true):fW K H (-a) (-C)
def Ax{x:V}{u t:ϊ}(I:Inv X π σ H s)(rx:RelV x u)(ty:fW X.K H x t)(e:W.kitOne X.K t c=!b)(h:∀ tk,Q (.bool b) { s with toks:=tk }) :
  wpAny (model X.prog X.w) A (call (.builtin "isinstance") [u,c]) Q E s:=by
 cases ty with
 | au=>cases (show u=ϊ.none from rx);show IR W.kitx_none I.cq True.intro e (fun z=>nomatch z) h
 | bl y=>cases (show u=ϊ.bool y from rx);show IR W.kitx_bool I.cq True.intro e (fun z=>nomatch z) h
 | int i=>let⟨t,q⟩:=(show ∃ t,u=ϊ.int i t from rx);cases q;show IR W.kitx_int I.cq True.intro e (fun z=>nomatch z) h
 | str y=>let⟨t,q⟩:=(show ∃ t,u=ϊ.str y t from rx);cases q;show IR W.kitx_str I.cq True.intro e (fun z=>nomatch z) h
 | oj y=>let⟨t,q⟩:=(show ∃ t,u=ϊ.float y t from rx);cases q;show IR W.kitx_float I.cq True.intro e (fun z=>nomatch z) h
 | @lst a xs ea =>
  cases (show u=ϊ.ref a from rx);let⟨_,_,n,_,h1⟩:=(show bU X.prog X.w H s.heap a (.lst xs) from I.aA a _ ea);show IR W.kitx_list I.cq #[_,h1,rfl] e (fun z=>nomatch z) h
 | @cD a ob xs ea =>
  cases (show u=ϊ.ref a from rx);let⟨_,_,_,n,_,h1⟩:=(show bU X.prog X.w H s.heap a (.cD ob (.lst xs)) from I.aA a _ ea);show IR W.kitx_list I.cq #[_,h1,rfl] e (fun z=>nomatch z) h
 | @tup a xs ea =>
  cases (show u=ϊ.ref a from rx);let⟨_,_,_,p⟩:=(show bU X.prog X.w H s.heap a (.tup xs) from I.aA a _ ea);let⟨o,h1,h2,_⟩:=p;show IR W.kitx_tuple I.cq #[o,h1,h2] e (fun z=>nomatch z) h
 | @dK a kvs ea =>
  cases (show u=ϊ.ref a from rx);let⟨_,_,vs,_,p⟩:=(show bU X.prog X.w H s.heap a (.dK kvs) from I.aA a _ ea);let⟨o,es,ep,h1,h2,_⟩:=p;show IR W.kitx_dict I.cq #[o,h1,h2.1] e (fun z=>nomatch z) h
 | @dT a kvs ea =>
  cases (show u=ϊ.ref a from rx);let⟨_,_,xs,_,o,es,ep,h1,h2,_⟩:=(show bU X.prog X.w H s.heap a (.dT kvs) from I.aA a _ ea);show IR W.kitx_dict I.cq #[o,h1,h2.1] e (fun z=>nomatch z) h
 | @ins a C dx fs ea cl ha hn fq hm =>
  cases (show u=ϊ.ref a from rx);let⟨mA,O,_⟩:=yJ I.aA ea;let⟨od,J,_⟩:=O.look;show IR (W.kitx_own (cl.get _) cl.hd ha hn fq hm) I.cq J e (fun z=>nomatch z) h
end
structure bh(k:Nat)(A:Around):Prop where
 hd:A.handled=none
 dp:A.depth+3 * k+5 < recursionLimit
 un:A.units+16 * k+200 < cLine
def bh.mono{j k:Nat}{A:Around}(r:bh k A)(h:j<=k):bh j A:=#[r.hd,by have:=r.dp;omega,by have:=r.un;omega]
def bh.deeper{k:Nat}{A:Around}(r:bh (k+1) A)(env:Env):bh k (A.deeper env) :=
 #[r.hd,by have:=r.dp;change A.depth+1+3 * k+5 < _;omega,by have:=r.un;change A.units+3+16 * k+200 < _;omega]
def Xr{A:Around}{C:ϋ}{us:List ϊ}{kw:List (Str×ϊ)}:(A.under (.builtin "type.__call__" #[-C::us,kw])).depth=A.depth+1:=by
 first | rfl | simp[Around.under,Code.weight,Code.isCreation,Code.isGuard,Code.isCaller,Code.frames,Code.isFrame,guardIds]
def WR{A:Around}{C:ϋ}{us:List ϊ}{kw:List (Str×ϊ)}:(A.under (.builtin "type.__call__" #[-C::us,kw])).units=A.units+1:=by
 first | rfl | simp[Around.under,Code.cUnits,Code.frames,Code.isFrame]
def bh.make{k:Nat}{A:Around}(r:bh (k+1) A)(C:ϋ)(us:List ϊ)(kw:List (Str×ϊ)):bh k (A.under (.builtin "type.__call__" #[-C::us,kw])) :=
 #[r.hd,by have:=r.dp;rw[Xr];omega,by have:=r.un;rw[WR];omega]
def bh.depth{k:Nat}{A:Around}(r:bh k A):A.depth < recursionLimit:=by have:=r.dp;omega
def bh.units{k:Nat}{A:Around}(r:bh k A):A.units+64 < cLine:=by have:=r.un;omega
def bh.nA{k:Nat}{A:Around}(r:bh k A):A.units < cLine:=by have:=r.un;omega
def  lA:TA:=fun _ H Q=>Q [] H
def  oF(ta:TE)(tr:TA):TA:=fun σ H Q=>ta σ H fun x H1=>tr σ H1 fun xs H2=>Q (x::xs) H2
section
variable {X:Cx}{e:Expr}{es:List Expr}{te:TE}{t:TA}{pos:Pos}
def aaV:PA X [] lA:=fun _ _ _ _ H Q I h=>Pi #[[],H,I,.nil,h]
def Y2(ha:PE X e te)(hr:PA X es t)(hs:‹starEach (e::es) X.env=(false,eval e X.env)::starEach es X.env›):PA X (e::es) (oF te t):=by
 intro pos π s σ H Q I h;rw[hs];change wpAny _ _ (spliced ((false,eval e X.env)::backTo pos (starEach es X.env))) _ _ s;show On (aD (ha π s σ H _ I h) fun u s1 #[x,H1,I1,r1,q1]=>?_);show aD (hr pos π s1 σ H1 _ I1 q1) fun us s2 #[xs,H2,I2,r2,q2]=>#[x::xs,H2,I2,.cons r1 r2,q2]
def  xt(t:TA):TE:=fun σ H Q=>t σ H fun xs H1=>xs.length<=sizeLine/\∀ p,H1 p=none->Q (-p) (upd H1 p (.tup xs))
def  E9(t:TA):TE:=fun σ H Q=>t σ H fun xs H1=>xs.length<=sizeLine/\∀ p,H1 p=none->Q (-p) (upd H1 p (.lst xs))
def Zz{x1}(h:PA X es t):PE X (.Tuple es x1 pos) (xt t):=by
 intro π s σ H Q I hq;show wpAny_Tuple_spliced (aD (h pos π s σ H _ I hq) fun us s1 #[xs,H1,I1,r,z,q]=>#[by rw[<- r.length];show z,?_]);have hf:H1 s1.heap.objs.size=none:=I1.aA.fresh (pi _);show#[-s1.heap.objs.size,upd H1 s1.heap.objs.size (.tup xs),I1.laid (t':=s1.toks) (fun b u e=>li _ e) (pi _) ?_,rfl,q _ hf];show#[z,us,r,#[_,tz _ rfl,rfl,_,rfl,rfl]]
def Tq(h:PA X es t):PE X (.List es pos) (E9 t):=by
 intro π s σ H Q I hq;show wpAny_List_spliced (aD (h pos π s σ H _ I hq) fun us s1 #[xs,H1,I1,r,z,q]=>#[by rw[<- r.length];show z,?_]);have hf:H1 s1.heap.objs.size=none:=I1.aA.fresh (pi _);show#[-s1.heap.objs.size,upd H1 s1.heap.objs.size (.lst xs),I1.laid (t':=s1.toks) (fun b u e=>li _ e) (pi _) ?_,rfl,q _ hf];show#[z,us,0,r,tz _ rfl]
end
abbrev Sp:=List V->Hp->VK->XK->Prop
abbrev d8:=List Env->Hp->ό->XK->ϊ->ό->Prop
structure lT(P:ύ)(w:World)(K:ν)(mg:Str->Option ϊ)(base:Heap)(A:Around)(outer:List Env)(s:ό)(H:Hp):Prop where
 frames:A.frames=!outer
 mod:Mod K mg base
 bs:∀ b o,base.get? b=!o->s.heap.get? b=!o/\H b=none
 ia:base.objs.size<=s.heap.objs.size
 fB:s.heap.FunFrames base outer
 jG:∀ b∈bZ outer,H b=none
 aA:cw P w H s.heap
 bare:AllBare s.gens
def  CE(outer:List Env)(P:ύ)(w:World)(H:Hp)(s:ό)(Q:VK)(u:ϊ)(s':ό):Prop :=
 ∃ v H',s'.os=s.os/\AllBare s'.gens/\Un (bZ outer) [] H H' s.heap s'.heap/\cw P w H' s'.heap/\RelV v u/\Q v H'
def  CR(CX:d8)(outer:List Env)(P:ύ)(w:World)(H:Hp)(s:ό)(Q:VK)(E:XK)(r:Result)(s':ό):Prop :=
 match r with
 | .ok (.ret u)=>CE outer P w H s Q u s'
 | .ok _=>False
 | .error e=>CX outer H s E e s'
structure aB(P:ύ)(w:World)(K:ν)(mg:Str->Option ϊ)(base:Heap)(CX:d8)(k:Nat)(f:ϋ)(fd:FuncData)(ps:List Str)(sp:Sp):Prop where
 len:∀ vs H Q E,sp vs H Q E->vs.length=ps.length
 run:∀ (A:Around) (outer:List Env) (s:ό) (H:Hp) (args:Args) (us:List ϊ) (vs:List V) (Q:VK) (E:XK),bh k A->lT P w K mg base A outer s H->BindsTo s fd args (ps.zip us)->Vals vs us->sp vs H Q E ->
  codeAny (model P w) A (.call (-f) args) (CR CX outer P w H s Q E) s
def lT.make{P:ύ}{w:World}{K:ν}{mg:Str->Option ϊ}{base:Heap}{A:Around}{outer:List Env}{s:ό}{H:Hp}(e:lT P w K mg base A outer s H)(C:ϋ)(us:List ϊ)(kw:List (Str×ϊ)) :
  lT P w K mg base (A.under (.builtin "type.__call__" #[-C::us,kw])) outer s H:=#[by first | show e.frames | (simpa [Around.under,Code.envs,Code.isFrame,pushEnvs] using e.frames),e.mod,e.bs,e.ia,e.fB,e.jG,e.aA,e.bare]
section
variable {X:Cx}{π:List (ϋ×Obj)}{σ:St}{H:Hp}{s s':ό}
def Inv.rS(I:Inv X π σ H s):lT X.prog X.w X.K X.mg X.base X.A X.stack s H :=
 #[I.ok.frames,I.ok.mod,I.bs,wE I.ok.ia I.sz,I.stack,I.xn,I.aA,I.bare]
def Inv.after{Q:VK}{u:ϊ}(I:Inv X π σ H s)(h:CE X.stack X.prog X.w H s Q u s'):EP X π σ Q u s':=by
 let⟨v,H',os,bare,un,aA,r,q⟩:=h;let⟨hh,g,d,t,os'⟩:=s';obtain rfl:os'=s.os:=os;show#[v,H',I.call (h':=hh) (g':=g) (d':=d) (t':=t) (ch:=[]) un aA bare (fun b z=>absurd z ()),r,q]
end
def  yp(sp:Sp)(bF:List V)(E:XK)(t:TA):TE:=fun σ H Q=>t σ H fun vs H1=>sp (vs++bF) H1 Q E
inductive MI(C:ϋ)(m:Str)(x:V)(H:Hp)(q:Prop):Prop
 | mk:∀ a dx fs,x=-a->H a=!.ins C dx fs->fs.lookup m=none->q->MI C m x H q
def  rb(C:ϋ)(m:Str)(sp:Sp)(bF:List V)(E:XK)(ta:TE)(t:TA):TE:=fun σ H Q=>ta σ H fun x H1=>MI C m x H1 (t σ H1 fun vs H2=>sp (x::(vs++bF)) H2 Q E)
def  va(C:ϋ)(sp:Sp)(bF:List V)(E:XK)(t:TA):TE:=fun σ H Q=>t σ H fun vs H1=>∀ x dx,H1 x=none->H1 dx=none->dx≠x ->
 sp (-x::(vs++bF)) (upd (upd H1 dx (.own x)) x (.ins C dx [])) (fun v H2=>v=.au/\Q (-x) H2) E
def  Binds(K:ν)(fd:FuncData)(ps:List Str)(ds:List ϊ):Prop :=
 ∀ (s:ό) (us:List ϊ),K.In s.heap->(us++ds).length=ps.length->BindsTo s fd #[us,[]] (ps.zip (us++ds))
def Binds.all{K:ν}{fd:FuncData}{ps:List Str}(h:∀ us:List ϊ,us.length=ps.length->bindArgs fd #[us,[]]=pure (ps.zip us)):Binds K fd ps []:=fun s us _ hl=>by
 rw[_u]at hl ⊢;show .of_eq (h us hl)
def  Passes(CX:d8)(X:Cx)(E:XK):Prop:=∀ (π:List (ϋ×Obj)) (σ:St) (H:Hp) (s:ό) (e:ϊ) (s':ό),Inv X π σ H s->CX X.stack H s E e s'->X.xe e s'
section
variable {X:Cx}{CX:d8}{k:Nat}{f C:ϋ}{fd:FuncData}{ps:List Str}{sp:Sp}{bF:List V}{ds:List ϊ}{E:XK}{x m:Str}{p pos apos:Pos}{e o:Expr}{es:List Expr}{ta:TE}{t:TA}
def AU{π:List (ϋ×Obj)}{σ:St}{H:Hp}{s:ό}{Q:VK}{us:List ϊ}{vs:List V}(F:aB X.prog X.w X.K X.mg X.base CX k f fd ps sp)(hr:bh k X.A)(hb:Binds X.K fd ps ds)(hd:Vals bF ds)(hx:Passes CX X E)(I:Inv X π σ H s)(r:Vals vs us)(h:sp (vs++bF) H Q E):wpAny (model X.prog X.w) X.A (call (-f) us) (EP X π σ Q) X.xe s:=by
 have r2:Vals (vs++bF) (us++ds):=r.append hd;have hl:(us++ds).length=ps.length:=by rw[<- r2.length];show F.len _ _ _ _ h
 show _a (_t (F.run X.A X.stack s H #[us,[]] (us++ds) (vs++bF) Q E hr I.rS (hb s us I.cq hl) r2 h) fun r s' hq=>?_);cases r with
 | error e=>show hx π σ H s e s' I hq
 | ok fl =>
  cases fl with
  | ret u=>show I.after hq
  | next=>show False.elim hq
  | brk=>show False.elim hq
  | cont=>show False.elim hq
def YO(F:aB X.prog X.w X.K X.mg X.base CX k f fd ps sp)(hr:bh k X.A)(hg:Gl X x)(hm:X.mg x=!-f)(hk:W.keepIn X.K (-f)=true)(hb:Binds X.K fd ps ds)(hd:Vals bF ds)(hx:Passes CX X E)(ha:PA X (e::es) t)(b7:(x == ("__debug__":Str))=false:=by decide)(he:‹starEach (e::es) X.env=(false,eval e X.env)::starEach es X.env›)(bD:‹(backTo pos (starEach es X.env)).any (·.1)=false›) :
  PE X (.Call (.Name x p) (e::es) [] pos) (yp sp bF E t):=by
 intro π s σ H Q I h;show FB (lM I hg hm ?_ b7);show Tk (h₀:=X.base) I.ok.mod.iN hk (aD (ha pos π s σ H _ I h) fun us s1 #[vs,H1,I1,r,q]=>#[I1.cq,?_]) he bD;show AU F hr hb hd hx I1 r q
def aaA{pl:Sem Bool}(he:PE X o ta)(c:c9 X.K C)(hm:Meth X.K C m f)(F:aB X.prog X.w X.K X.mg X.base CX k f fd ps sp)(hr:bh k X.A)(hb:Binds X.K fd ps ds)(hd:Vals bF ds)(hx:Passes CX X E)(ha:PA X (e::es) t)(aX:‹starEach (e::es) X.env=(false,eval e X.env)::starEach es X.env›)(bD:‹(backTo pos (starEach es X.env)).any (·.1)=false›)(ht:‹eval (.Call (.Attribute o m apos) (e::es) [] pos) X.env=(do
   let ov <- eval o X.env
   standAt apos.atName
   let (f,first) <- holding [ov] (getMethod ov m pl)
   callWith pos f first (backTo pos (starEach (e::es) X.env)) (backToKw pos (keywordEach [] X.env)))›) :
  PE X (.Call (.Attribute o m apos) (e::es) [] pos) (rb C m sp bF E ta t):=by
 intro π s σ H Q I h;show _1 (pl:=pl) (aD (he π s σ H _ I h) fun u s1 ⟨x,H1,I1,rx,a,dx,fs,ex,ea,l,q⟩=>?_) ht;subst ex;obtain rfl:u=ϊ.ref a:=rx;show Dj I1 ea c hm l ?_;show Tk (first:=[-a]) (h₀:=X.base) I.ok.mod.iN hm.kp (aD (ha pos π s1 σ H1 _ I1 q) fun us s2 ⟨vs,H2,I2,r,q2⟩=>#[I2.cq,?_]) aX bD;show AU (us:=-a::us) (vs:=-a::vs) F hr hb hd hx I2 (.cons rfl r) q2
def RC{pl:Sem Bool}(he:PE X o ta)(c:c9 X.K C)(hm:Meth X.K C m f)(F:aB X.prog X.w X.K X.mg X.base CX k f fd ps sp)(hr:bh k X.A)(hb:Binds X.K fd ps ds)(hd:Vals bF ds)(hx:Passes CX X E)(ht:‹eval (.Call (.Attribute o m apos) [] [] pos) X.env=(do
   let ov <- eval o X.env
   standAt apos.atName
   let (f,first) <- holding [ov] (getMethod ov m pl)
   callWith pos f first (backTo pos (starEach [] X.env)) (backToKw pos (keywordEach [] X.env)))›) :
  PE X (.Call (.Attribute o m apos) [] [] pos) (rb C m sp bF E ta lA):=by
 intro π s σ H Q I h;show _1 (pl:=pl) (aD (he π s σ H _ I h) fun u s1 ⟨x,H1,I1,rx,a,dx,fs,ex,ea,l,q⟩=>?_) ht;subst ex;obtain rfl:u=ϊ.ref a:=rx;show Dj I1 ea c hm l ?_;show W.callWith_K0 (first:=[-a]) I1.cq hm.kp (AU (us:=[-a]) (vs:=[-a]) F hr hb hd hx I1 (.cons rfl .nil) q)
structure Mk(K:ν)(C f:ϋ):Prop where
 makes:W.makesIn K C=true
 init:W.findIn K (-C) "__init__" = !(!-f)
 fn:W.isFn K (-f)=true
 kp:W.keepIn K (-C)=true
def KN{π:List (ϋ×Obj)}{σ:St}{H:Hp}{s:ό}{Q:VK}{us:List ϊ}{vs:List V}(M:Mk X.K C f)(F:aB X.prog X.w X.K X.mg X.base CX k f fd ps sp)(hr:bh (k+1) X.A)(hb:Binds X.K fd ps ds)(hd:Vals bF ds)(hx:Passes CX X E)(I:Inv X π σ H s)(r:Vals vs us)(h:∀ x dx,H x=none->H dx=none->dx≠x->sp (-x::(vs++bF)) (upd (upd H dx (.own x)) x (.ins C dx [])) (fun v H2=>v=.au/\Q (-x) H2) E) :
  wpAny (model X.prog X.w) X.A (call (-C) us) (EP X π σ Q) X.xe s:=by
 have hq:=h (s.heap.objs.size+1) s.heap.objs.size (I.aA.fresh (_T _)) (I.aA.fresh (pi _)) (wT (LE _));have I2:=Inv.made (C:=C) I;have r2:Vals (V.ref (s.heap.objs.size+1)::(vs++bF)) (ϊ.ref (s.heap.objs.size+1)::(us++ds)):=.cons rfl (r.append hd);have hl:(ϊ.ref (s.heap.objs.size+1)::us++ds).length=ps.length:=by
  have e:=r2.length;rw[F.len _ _ _ _ hq]at e;show e.symm
 show _a (abV (f:=f) I.cq M.makes M.init (ZB.mp M.fn) (_t (F.run _ X.stack _ _ #[ϊ.ref (s.heap.objs.size+1)::us,[]] (ϊ.ref (s.heap.objs.size+1)::(us++ds)) _ _ E (hr.make C us [])
  (I2.rS.make C us []) (hb _ (ϊ.ref (s.heap.objs.size+1)::us) I2.cq hl) r2 hq) fun r s' hq'=>?_))
 cases r with
 | error e=>show hx π σ _ _ e s' I2 hq'
 | ok fl =>
  cases fl with
  | ret u =>
   let⟨v,H',I3,rv,ev,q3⟩:=I2.after hq';subst ev;show#[rv,#[V.ref (s.heap.objs.size+1),H',I3,rfl,q3]]
  | next=>show False.elim hq'
  | brk=>show False.elim hq'
  | cont=>show False.elim hq'
def U4(M:Mk X.K C f)(F:aB X.prog X.w X.K X.mg X.base CX k f fd ps sp)(hr:bh (k+1) X.A)(hg:Gl X x)(hm:X.mg x=!-C)(hb:Binds X.K fd ps ds)(hd:Vals bF ds)(hx:Passes CX X E)(ha:PA X (e::es) t)(b7:(x == ("__debug__":Str))=false:=by decide)(he:‹starEach (e::es) X.env=(false,eval e X.env)::starEach es X.env›)(bD:‹(backTo pos (starEach es X.env)).any (·.1)=false›) :
  PE X (.Call (.Name x p) (e::es) [] pos) (va C sp bF E t):=by
 intro π s σ H Q I h;show FB (lM I hg hm ?_ b7);show Tk (h₀:=X.base) I.ok.mod.iN M.kp (aD (ha pos π s σ H _ I h) fun us s1 #[vs,H1,I1,r,q]=>#[I1.cq,?_]) he bD;show KN M F hr hb hd hx I1 r q
def acL(M:Mk X.K C f)(F:aB X.prog X.w X.K X.mg X.base CX k f fd ps sp)(hr:bh (k+1) X.A)(hg:Gl X x)(hm:X.mg x=!-C)(hb:Binds X.K fd ps ds)(hd:Vals bF ds)(hx:Passes CX X E)(b7:(x == ("__debug__":Str))=false:=by decide):PE X (.Call (.Name x p) [] [] pos) (va C sp bF E lA):=by
 intro π s σ H Q I h;show FB (lM I hg hm ?_ b7);show W.callWith_K0 I.cq M.kp (KN (us:=[]) M F hr hb hd hx I .nil h)
end
section
variable {X:Cx}{CX:d8}{k:Nat}{f C:ϋ}{fd:FuncData}{ps ks:List Str}{sp:Sp}{E:XK}{x m:Str}{p pos apos kpos:Pos}{e o:Expr}{es:List Expr}{kws:List Keyword}{te ta:TE}{t tk:TA}{nm:Option Str}
structure aeT(K:ν)(fd:FuncData)(ps ks:List Str)(g:List ϊ->List ϊ->List ϊ)(gV:List V->List V->List V):Prop where
 to:∀ (s:ό) (us ws:List ϊ),K.In s.heap->(g us ws).length=ps.length->BindsTo s fd #[us,ks.zip ws] (ps.zip (g us ws))
 rel:∀ {vs:List V}{us:List ϊ}{zs:List V}{ws:List ϊ},Vals vs us->Vals zs ws->Vals (gV vs zs) (g us ws)
def  WU(sp:Sp)(gV:List V->List V->List V)(E:XK)(t tk:TA):TE:=fun σ H Q=>t σ H fun vs H1=>tk σ H1 fun zs H2=>sp (gV vs zs) H2 Q E
variable {g:List ϊ->List ϊ->List ϊ}{gV:List V->List V->List V}
end
structure aC(N P:List Str)(sc:Scope):Prop where
 kind:sc.kind=.function
 co:sc.isCoroutine=false
 gen:sc.isGenerator=false
 nd:N.Nodup
 pre:N.take P.length=P
 par:∀ x∈P,sc.names.lookup x=!.local\/sc.names.lookup x=!.cell
 WV:∀ y∈sc.names,y.2≠.free
def OM{kindOf:Str->Option NameKind}{x:Str}:∀ {binds:List (Str×ϊ)}{m:Str->Option ϊ},(∀ v,(x,v) ∉ binds)->bindL kindOf binds m x=m x
 | [],_,_=>rfl
 | (n,v)::r,m,h=>by
  unfold bindL;rw[OM fun w hw=>h w (AC _ hw)];split
  ·have:x≠n:=by rintro rfl;show h v SZ
   simp[this]
  ·rfl
def Lg{kindOf:Str->Option NameKind}{x:Str}:∀ {binds:List (Str×ϊ)}{m:Str->Option ϊ},(∀ v,(x,v) ∉ binds)->bindC kindOf binds m x=m x
 | [],_,_=>rfl
 | (n,v)::r,m,h=>by
  unfold bindC;rw[Lg fun w hw=>h w (AC _ hw)];split
  ·rfl
  ·have:x≠n:=by rintro rfl;show h v SZ
   simp[this]
def IY{kindOf:Str->Option NameKind}{x:Str}{v:ϊ}:∀ {P:List Str}{vs:List ϊ}{i:Nat}{m:Str->Option ϊ},P.Nodup->P[i]?=!x->vs[i]?=!v->kindOf x=!.local ->
  bindL kindOf (P.zip vs) m x=!v
 | [],_,_,_,_,h,_,_=>by simp at h
 | _::_,[],_,_,_,_,h,_=>by simp at h
 | p::P,w::vs,0,m,nd,h1,h2,hk=>by
  simp at h1 h2;subst h1;subst h2;change bindL kindOf ((p,w)::P.zip vs) m p=_;unfold bindL;rw[OM fun v hv=>(Ch.mp nd).1 (Ja3 hv).1,xL hk];simp
 | p::P,w::vs,i+1,m,nd,h1,h2,hk=>by
  change bindL kindOf ((p,w)::P.zip vs) m x=_;unfold bindL;show IY (i:=i) (Ch.mp nd).2 (by simpa using h1) (by simpa using h2) hk
def II{kindOf:Str->Option NameKind}{x:Str}{v:ϊ}:∀ {P:List Str}{vs:List ϊ}{i:Nat}{m:Str->Option ϊ},P.Nodup->P[i]?=!x->vs[i]?=!v->kindOf x≠!.local ->
  bindC kindOf (P.zip vs) m x=!v
 | [],_,_,_,_,h,_,_=>by simp at h
 | _::_,[],_,_,_,_,h,_=>by simp at h
 | p::P,w::vs,0,m,nd,h1,h2,hk=>by
  simp at h1 h2;subst h1;subst h2;change bindC kindOf ((p,w)::P.zip vs) m p=_;unfold bindC;rw[Lg fun v hv=>(Ch.mp nd).1 (Ja3 hv).1,wP hk];simp
 | p::P,w::vs,i+1,m,nd,h1,h2,hk=>by
  change bindC kindOf ((p,w)::P.zip vs) m x=_;unfold bindC;show II (i:=i) (Ch.mp nd).2 (by simpa using h1) (by simpa using h2) hk
def  start(N:List Str)(vs:List V):St:=vs.map some++List.replicate (N.length - vs.length) none
def  cj(CX:d8)(P:ύ)(w:World)(K:ν)(mg:Str->Option ϊ)(base:Heap)(N:List Str)(qual:Str)(scope:Scope)(f:ϋ)(cd:ϊ)(A:Around)(outer:List Env)(s:ό)(H:Hp)(E:XK):Cx where
 prog:=P
 w:=w
 K:=K
 mg:=mg
 base:=base
 A:=A.deeper (envOfC qual scope s.heap.objs.size f cd)
 N:=N
 s₀:=s
 H₀:=H
 env:=envOfC qual scope s.heap.objs.size f cd
 outer:=outer
 stack:=envOfC qual scope s.heap.objs.size f cd::outer
 ex:=[]
 calm:=true
 fn:=fun _=>true
 pn:=[]
 xe:=fun e s'=>wpAny (model P w) (A.deeper (envOfC qual scope s.heap.objs.size f cd)) (leaving (envOfC qual scope s.heap.objs.size f cd) e) (fun _ s''=>CX outer H s E e s'') (fun e' s''=>CX outer H s E e' s'') s'
def KH{sc:Scope}{n:Nat}{x:Str}(h:sc.names.lookup x=!.cell):∃ c,(cellsFrom n sc.names []).lookup x=!c:=by
 have q:=_V sc.names n [] (.inl h);show Option.isSome_iff_exists.mp q
def OX{CX:d8}{P:ύ}{w:World}{K:ν}{mg:Str->Option ϊ}{base:Heap}{N ps:List Str}{qual:Str}{scope:Scope}{f:ϋ}{cd:ϊ}{A:Around}{outer:List Env}{s s1:ό}{H:Hp}{E:XK}{us:List ϊ}{vs:List V}(S:aC N ps scope)(hd:A.handled=none)(e0:lT P w K mg base A outer s H)(hl:vs.length=ps.length)(r:Vals vs us)(x:InCallC s s.heap.objs.size (bindL (envOfC qual scope s.heap.objs.size f cd).kindOf (ps.zip us) fun _=>none) (cellsFrom (s.heap.objs.size+1) scope.names []) (bindC (envOfC qual scope s.heap.objs.size f cd).kindOf (ps.zip us) fun _=>none) s1) :
  Inv (cj CX P w K mg base N qual scope f cd A outer s H E) [] (start N vs) H s1:=by
 have bD:ps.length<=N.length:=by have:=KM List.length S.pre;rw[W1]at this;omega
 let⟨h1,tk,rfl,hk⟩:=x.done;have mw:∀ b:ϋ,b ∉ (cj CX P w K mg base N qual scope f cd A outer s H E).ex:=fun b z=>absurd (show b∈([]:List ϋ) from z) ();show#[#[e0.mod,S.kind,rfl,rfl,pi _,fun y z c h1 h2=>?_,fun y hy=>?_,fun y c _ h=>?_,fun _=>hd,Around.frames_deeper e0.frames,.inr #[rfl,rfl],fun b z=>absurd z (mw b),e0.bs,e0.ia,fun b _ _=>mw b,fun b z=>absurd z (mw b),e0.fB,e0.jG],
  rfl,e0.bare,Un.kept hk,#[_,x.toInCall.ns,fun i y v h1 h2 h3=>?_],fun y c h=>#[_,x.cell y c h],e0.aA.fresh (pi _),fun y c h=>?_,fun p hp=>absurd (show p∈([]:List (ϋ×Obj)) from hp) (),e0.aA.kept hk,?_]
 ·show name_of_addr x.apart (EQ h1) (EQ h2)
 ·have hy:scope.names.lookup y=!.cell\/scope.names.lookup y=!.free:=hy;rcases hy with hy | hy
  ·show KH hy
  ·show absurd rfl (S.WV _ (EQ hy))
 ·show Jac (x.above y c (EQ h))
 ·have hi:i < vs.length:=by
   unfold start at h2;by_cases hi:i < vs.length
   ·show hi
   ·rw[FS (by simpa using hi)]at h2;rw[List.getElem?_replicate]at h2;split at h2 <;> cases h2
  have ha:vs[i]?=!v:=by
   unfold start at h2;rw[Gc (by simpa using hi),xz]at h2;cases e:vs[i]? with
   | none=>rw[e]at h2;cases h2
   | some a=>rw[e]at h2;cases h2;rfl
  let⟨u,hu,rv⟩:=r.get ha;have hp:ps[i]?=!y:=by
   rw[<- S.pre,List.getElem?_take_of_lt ∅];show h1
  have Qt:ps.Nodup:=by rw[<- S.pre];show S.nd.sublist (List.take_sublist _ _)
  show#[u,rv,?_];rcases S.par y (GM hp) with k | k
  ·show .inl #[k,IY Qt hp hu k]
  ·let⟨c,e⟩:=KH (n:=s.heap.objs.size+1) k;show .inr #[.inl k,c,e,?_];have q:=x.cell y c e;rw[II Qt hp hu (by change scope.names.lookup y≠_;rw[k];decide)]at q;show q
 ·show e0.aA.fresh (Jac (x.above y c (EQ h)))
 ·unfold start;change _=N.length;rw[sK,lv,_2];omega
def wZ{CX:d8}{P:ύ}{w:World}{K:ν}{mg:Str->Option ϊ}{base:Heap}{k:Nat}{f:ϋ}{name qual:Str}{params:Arguments}{body:List Stmt}{scope:Scope}{dV kV doc pm ah ct oc:ϊ}{an od:Option ϋ}{dA:Array (Option ϊ)}{N ps:List Str}{sp:Sp}(lk:K.lookup f=!#[oc,od,.func (W.fnOf name qual params body scope dV kV doc pm an ah ct),dA])(bM:W.codeIn K ah qual=true)(S:aC N ps scope)(len:∀ vs H Q E,sp vs H Q E->vs.length=ps.length)(iw:∀ (A:Around) (outer:List Env) (s:ό) (H:Hp) (vs:List V) (Q:VK) (E:XK),bh k (A.deeper (envOfC qual scope s.heap.objs.size f ah))->sp vs H Q E ->
   ∃ t,dm (cj CX P w K mg base N qual scope f ah A outer s H E) body t/\t { nx:=fun _ H'=>Q .au H',rt:=Q } (start N vs) H) :
  aB P w K mg base CX (k+1) f (W.fnOf name qual params body scope dV kV doc pm an ah ct) ps sp:=by
 show#[len,fun A outer s H args us vs Q E hr e0 hb r dF=>?_];have hl:=len _ _ _ _ dF;have KX:K.In s.heap:=e0.mod.iN.keeps fun b o e=>(e0.bs b o e).1;have lim:s.heap.NoLimit:=e0.mod.nolimit.keeps fun b o e=>(e0.bs b o e).1;have GO:∀ y∈ps.zip us,scope.names.lookup y.1=!.local\/(scope.names.lookup y.1=!.cell/\((cellsFrom (s.heap.objs.size+1) scope.names []).lookup y.1).isSome=true):=fun ⟨n,v⟩ hy=>by
  rcases S.par n (Ja3 hy).1 with q | q
  ·show .inl q
  ·show .inr #[q,_V _ _ _ (.inl q)]
 show codeAny_call_function hr.depth (KX _ _ lk) rfl S.co S.gen rfl (W.codeRec_of KX bM) (hb _ _ _ _ ?_);show wpAny_newFunctionEnv_cells S.kind GO fun env he s1 x=>?_;subst he;show#[lim.keeps x.toInCall.keep,codeAny_func ?_];let⟨t,ht,hq⟩:=iw A outer s H vs Q E (hr.deeper _) dF;have I:Inv (cj CX P w K mg base N qual scope f ah A outer s H E) [] (start N vs) H s1:=OX S hr.hd e0 hl r x;show KB (ht [] s1 (start N vs) H _ I hq) (fun fl s' hs=>?_) fun e s' hs=>hs;have fin:∀ {σ':St}{H':Hp}{v:V}{u:ϊ},Inv (cj CX P w K mg base N qual scope f ah A outer s H E) [] σ' H' s'->RelV v u->Q v H'->CE outer P w H s Q u s' :=
  fun {σ' H' v u} J rv q=>#[v,H',J.os,J.bare,J.base,J.aA,rv,q]
 cases fl with
 | ret u =>
  let⟨v,σ',H',J,rv,q⟩:=hs;show fin J rv q
 | next =>
  let⟨σ',H',J,q⟩:=hs;show fin (v:=V.au) (u:=ϊ.none) J rfl q
 | brk =>
  let⟨_,_,_,q⟩:=hs;show False.elim q
 | cont =>
  let⟨_,_,_,q⟩:=hs;show False.elim q
section
variable {X:Cx}{x:Str}{p pos:Pos}{e:Expr}{es:List Expr}{t:TA}{id T:String}{r:List V->Hp->VK->Prop}
def  oh(r:List V->Hp->VK->Prop)(t:TA):TE:=fun σ H Q=>t σ H fun vs H1=>r vs H1 Q
def ada(hc:cM X (.builtin id) r)(hg:Gl X x)(hm:X.mg x=none)(hv:bootBuiltins x=!.builtin id)(ha:PA X (e::es) t)(hn:x ≠ "__name__" := by decide)(b7:(x == ("__debug__":Str))=false:=by decide)(he:‹starEach (e::es) X.env=(false,eval e X.env)::starEach es X.env›)(bD:‹(backTo pos (starEach es X.env)).any (·.1)=false›):PE X (.Call (.Name x p) (e::es) [] pos) (oh r t):=by
 intro π s σ H Q I h;show FB (nI I hg hm hv ?_ hn b7);show PyProof.Rows.callWith_builtin1 (aD (ha pos π s σ H _ I h) fun us s1 #[vs,H1,I1,r1,q1]=>hc π s1 σ H1 vs us Q I1 r1 q1) he bD
def abF(hc:cM X (.type T) r)(hg:Gl X x)(hm:X.mg x=none)(hv:bootBuiltins x=!.type T)(ha:PA X (e::es) t)(hn:x ≠ "__name__" := by decide)(b7:(x == ("__debug__":Str))=false:=by decide)(he:‹starEach (e::es) X.env=(false,eval e X.env)::starEach es X.env›)(bD:‹(backTo pos (starEach es X.env)).any (·.1)=false›):PE X (.Call (.Name x p) (e::es) [] pos) (oh r t):=by
 intro π s σ H Q I h;show FB (nI I hg hm hv ?_ hn b7);show Sc (aD (ha pos π s σ H _ I h) fun us s1 #[vs,H1,I1,r1,q1]=>hc π s1 σ H1 vs us Q I1 r1 q1) he bD
end
end L2
namespace HT
open PySem PyProof.Rows
section
open PySem.SeqAt
open PySem.AutoSeq1 (wpAny_loadPart')
open PySem.MeetsSeq PySem.MeetsSeq2 PySem.MeetsSeq3
end
section
variable {prog:ύ}{w:World}{A:Around}{E:ϊ->ό->Prop}{s:ό}
def  cX(n d:Nat):Option Int->Nat
 | none=>d
 | some v=>if v < 0 then (v+(n:Int)).toNat else min v.toNat n
def Ck(n d:Nat):cX n d none=d:=rfl
def uy(n d k:Nat):cX n d (!(k:Int))=min k n:=by
 change(if (k:Int) < 0 then ((k:Int)+(n:Int)).toNat else min (k:Int).toNat n)=min k n;rw[if_neg ∅,Int.toNat_natCast]
end
end HT
namespace L2
open PySem PySem.Spec PyProof.Rows
abbrev TO:=St->Hp->(Option Int->Hp->Prop)->Prop
def  PO(X:Cx)(e:Option Expr)(t:TO):Prop :=
 ∀ (π:List (ϋ×Obj)) (s:ό) (σ:St) (H:Hp) (Q:Option Int->Hp->Prop),Inv X π σ H s->t σ H Q ->
  wpAny (model X.prog X.w) X.A (evalPart e X.env) (fun u s'=>∃ o H',Inv X π σ H' s'/\IsPart u o/\Q o H') X.xe s
def  FE:TO:=fun _ H Q=>Q none H
section
variable {X:Cx}{e:Expr}{te:TE}{lo hi:Option Expr}{tl th:TO}{pos p2:Pos}
def aem:PO X none FE:=by
 intro π s σ H Q I h;rw[evalPart_none];show pc #[none,H,I,.none,h]
def  jV(X:Cx)(r:V->Option Int->Option Int->Hp->VK->Prop):Prop :=
 ∀ (π:List (ϋ×Obj)) (s:ό) (σ:St) (H:Hp) (x:V) (v vl vu:ϊ) (lo hi:Option Int) (sl:ϋ) (Q:VK),Inv X π σ H s->RelV x v->s.heap.IsSliceOf sl vl vu .none->IsPart vl lo->IsPart vu hi->r x lo hi H Q ->
  ∃ T id,typeLookup (.type T) "__getitem__" = pure (!.builtin id)/\s.TypeIs v T/\wpAny (model X.prog X.w) X.A (getItem v (-sl)) (EP X π σ Q) X.xe s
def jV.or{r r':V->Option Int->Option Int->Hp->VK->Prop}(h:jV X r)(h':jV X r'):jV X (fun x lo hi H Q=>r x lo hi H Q\/r' x lo hi H Q):=by
 intro π s σ H x v vl vu lo hi sl Q I rx hs pl pu q;rcases q with q | q
 ·show h π s σ H x v vl vu lo hi sl Q I rx hs pl pu q
 ·show h' π s σ H x v vl vu lo hi sl Q I rx hs pl pu q
def  BA(r:V->Option Int->Option Int->Hp->VK->Prop)(te:TE)(tl th:TO):TE:=fun σ H Q=>te σ H fun x H1=>tl σ H1 fun l H2=>th σ H2 fun u H3=>r x l u H3 Q
def VM{r:V->Option Int->Option Int->Hp->VK->Prop}(hr:jV X r)(he:PE X e te)(hl:PO X lo tl)(hu:PO X hi th):PE X (.Subscript e (.Slice lo hi none p2) pos) (BA r te tl th):=by
 intro π s σ H Q I h;show Subscript_ (aD (he π s σ H _ I h) fun v s1 #[x,H1,I1,r1,q1]=>?_);show wpAny_Slice (aD (hl π s1 σ H1 _ I1 q1) fun vl s2 #[l,H2,I2,pl,q2]=>aD (hu π s2 σ H2 _ I2 q2) fun vu s3 #[u,H3,I3,pu,q3]=>?_);rw[evalPart_none];show pc ?_;have I4:Inv X π σ H3 { s3 with heap:=s3.heap.push { cls:=.type "slice",data:=.fields (List.toArray [vl,vu,.none]) } }:=I3.kept (t':=s3.toks) fun b ob q=>li _ q;let⟨T,id,hT,ht,hg⟩:=hr π { s3 with heap:=s3.heap.push { cls:=.type "slice",data:=.fields (List.toArray [vl,vu,.none]) } } σ H3 x v vl vu l u s3.heap.objs.size Q I4 r1 (Heap.IsSliceOf.new ..) pl pu q3;change wpAny (model X.prog X.w) X.A (subscriptTail e (.Slice lo hi none p2) v (-s3.heap.objs.size)) (EP X π σ Q) X.xe { s3 with heap:=s3.heap.push { cls:=.type "slice",data:=.fields (List.toArray [vl,vu,.none]) } };show tail_any (ops:=[-s3.heap.objs.size,v]) ht hT hg (by with_unfolding_all rfl)
def  fR(xs:List V)(lo hi:Option Int):List V:=(xs.drop (HT.cX xs.length 0 lo)).take (HT.cX xs.length xs.length hi - HT.cX xs.length 0 lo)
def Yg(xs:List V)(lo hi:Option Int):(fR xs lo hi).length<=xs.length:=by
 unfold fR;rw[W1,List.length_drop];omega
end
def  fD(n:Nat)(i:Int):Option Nat:=if 0<=i then (if i < n then !i.toNat else none) else if (unop% Neg.neg ((n:Int)))<=i then !(i+n).toNat else none
def  cJ{α:Type}(xs:List α)(i:Int):Option α:=(fD xs.length i).bind fun j=>xs[j]?
def Nb{n:Nat}{i:Int}{j:Nat}(h:fD n i=!j):seqIndex? i n=!j/\j < n/\(unop% Neg.neg ((n:Int)))<=i/\i < n:=by
 unfold fD at h;by_cases h0:0<=i
 ·rw[xL h0]at h;by_cases h1:i < n
  ·rw[xL h1]at h;have e:i.toNat=j:=Fk h;show#[by rw[seqIndex_of h0 h1,e],∅,∅,h1]
  ·rw[wP h1]at h;cases h
 ·rw[wP h0]at h;by_cases h1:(unop% Neg.neg ((n:Int)))<=i
  ·rw[xL h1]at h;have e:(i+n).toNat=j:=Fk h;show#[by rw[seqIndex_neg ∅ h1,e],∅,h1,∅]
  ·rw[wP h1]at h;cases h
def Dd{α:Type}{xs:List α}{i:Int}{v:α}(h:cJ xs i=!v):∃ j,seqIndex? i xs.length=!j/\xs[j]?=!v/\j < xs.length/\(unop% Neg.neg ((xs.length:Int)))<=i/\i < xs.length:=by
 unfold cJ at h;cases e:fD xs.length i with
 | none=>rw[e]at h;cases h
 | some j =>
  rw[e]at h;let⟨h1,h2,h3,h4⟩:=Nb e;show#[j,h1,h,h2,h3,h4]
def gv{α:Type}{xs:List α}{j:Nat}{v:α}(h:xs[j]?=!v):cJ xs (j:Int)=!v:=by
 have hj:j < xs.length:=(lm.mp h).1;have e:fD xs.length (j:Int)=!j:=by
  unfold fD;rw[xL ∅,xL ∅];simp
 unfold cJ;rw[e];show h
def qy{α:Type}(xs:List α)(v:α):cJ (xs++[v]) ((unop% Neg.neg (1)))=!v:=by
 have hl:(xs++[v]).length=xs.length+1:=()
 have e:fD (xs++[v]).length ((unop% Neg.neg (1)))=!xs.length:=by
  unfold fD;rw[hl,wP ⋯,xL ∅]
  congr 1
  omega
 unfold cJ;rw[e];change(xs++[v])[xs.length]?=!v;simp
def  MG(b:Expr):Prop:=∀ o i,subscripted b false o i=operate [o,i] (getItem o i)
def  gi(X:Cx)(r:R2):Prop :=
 ∀ (value slice:Expr) (π:List (ϋ×Obj)) (s:ό) (σ:St) (H:Hp) (x y:V) (v u:ϊ) (Q:VK),Inv X π σ H s->RelV x v->RelV y u->r x y H Q ->
  subscripted slice false v u=operate [v,u] (getItem v u)->wpAny (model X.prog X.w) X.A (subscriptTail value slice v u) (EP X π σ Q) X.xe s
def  ef(X:Cx)(id:String)(r:V->List V->Hp->VK->Prop):Prop :=
 ∀ (π:List (ϋ×Obj)) (s:ό) (σ:St) (H:Hp) (x:V) (xs:List V) (v:ϊ) (us:List ϊ) (Q:VK),Inv X π σ H s->RelV x v->Vals xs us->r x xs H Q ->
  wpAny (model X.prog X.w) X.A (call (.builtin id) (v::us)) (EP X π σ Q) X.xe s
section
variable {X:Cx}{a b:Expr}{ta tb:TE}{pos:Pos}
def gi.or{r r':R2}(h:gi X r)(h':gi X r'):gi X (fun x y H Q=>r x y H Q\/r' x y H Q):=by
 intro value slice π s σ H x y v u Q I rx ry q hs;rcases q with q | q
 ·show h value slice π s σ H x y v u Q I rx ry q hs
 ·show h' value slice π s σ H x y v u Q I rx ry q hs
def WD{r:R2}(hr:gi X r)(ha:PE X a ta)(hb:PE X b tb)(hs:MG b):PE X (.Subscript a b pos) (jg r ta tb):=by
 intro π s σ H Q I h;show Subscript_ (ED ha hb I h fun v u s2 x y H2 I2 rx ry q=>hr a b π s2 σ H2 x y v u Q I2 rx ry q (hs _ _))
def  Lj(K:ν):R2:=fun x y H Q=>∃ p xs i v,x=-p/\y=.int i/\aI K H p xs/\cJ xs i=!v/\Q v H
def  M7(K:ν):R2:=fun x y H Q=>∃ p xs i v,x=-p/\y=.int i/\bH K H p xs/\cJ xs i=!v/\Q v H
def  K7:R2:=fun x y H Q=>∃ z i c,x=.str z/\y=.int i/\z.length<=sizeLine/\cJ z.cps.toList i=!c/\Q (.str #[(List.toArray [c])]) H
def acy:gi X (Lj X.K):=by
 intro value slice π s σ H x y v u Q I rx ry h hs;let⟨p,xs,i,z,rfl,rfl,hq,he,q⟩:=h;cases rx;let⟨t,rfl⟩:=ry;let⟨aq,r,pl,hz⟩:=I.list hq;let⟨j,h1,h2,h3,h4,h5⟩:=Dd he;let⟨w,ew,rw'⟩:=r.get h2;have hl:=r.length;have hn:=ud;have fin:EP X π σ Q w s:=#[z,H,I,rw',q];by_cases h0:0<=i
 ·have hj:i.toNat=j:=by
   rw[seqIndex_of h0 h5]at h1;show Fk h1
  show item_listR pl.isList h0 ∅ (by rw[hj];simpa using ew) fin hs
 ·have hj:(i+(aq.toArray.size:Int)).toNat=j:=by
   rw[seqIndex_neg ∅ h4]at h1;rw[ss,<- hl];show Fk h1
  show subscriptTail_builtinR (x:=w) pl.isList.typeIs slot_list_getitem.lookup
   (wpAny_getItem_list_neg (Q:=fun r s'=>r=w/\EP X π σ Q r s') pl.isList ∅ (by rw[ss] <;> omega) ∅ (by rw[hj];simpa using ew) #[rfl,fin]) hs
def Sy:gi X (M7 X.K):=by
 intro value slice π s σ H x y v u Q I rx ry h hs;let⟨p,xs,i,z,rfl,rfl,hq,he,q⟩:=h;cases rx;let⟨t,rfl⟩:=ry;let⟨aq,r,pl,hz⟩:=I.tuple hq;let⟨j,h1,h2,h3,h4,h5⟩:=Dd he;let⟨w,ew,rw'⟩:=r.get h2;have hl:=r.length;have hn:=ud;have fin:EP X π σ Q w s:=#[z,H,I,rw',q];show subscriptTail_builtinR (x:=w) pl.typeIs slot_tuple_getitem.lookup
  (getItem_tuple (j:=j) (Q:=fun r s'=>r=w/\EP X π σ Q r s') pl ∅ ∅ (by rw[ss,<- hl];show h1) (by simpa using ew) #[rfl,fin]) hs
def TF:gi X K7:=by
 intro value slice π s σ H x y v u Q I rx ry h hs;let⟨z,i,c,rfl,rfl,hz,he,q⟩:=h;let⟨t,rfl⟩:=rx;let⟨t',rfl⟩:=ry;let⟨j,h1,h2,h3,h4,h5⟩:=Dd he;have hl:z.cps.toList.length=z.length:=by simp[Str.length]
 rw[hl]at h1 h4 h5;have hn:=ud;show tail_any (_C s z t) slot_str_getitem.lookup (getItem_str (c:=c) (by
  have e1:decide (i < (unop% Neg.neg ((2 ^ 63:Int))))=false:=mo ∅;have e2:decide (i ≥ 2 ^ 63)=false:=mo ∅;rw[e1,e2,Jaq]) (by rw[h1];simpa using h2) #[.str #[(List.toArray [c])],H,I.tok _,#[_,rfl],q]) hs
def  Vs(K:ν):R2:=fun x y H Q=>Lj K x y H Q\/M7 K x y H Q\/K7 x y H Q
def S0:gi X (Vs X.K):=acy.or (Sy.or TF)
def aa4(aq:List ϊ)(n j:Nat)(u:ϊ):Obj.mapSeq (·.setIfInBounds j u) { cls:=.type "list",data:=.seq aq.toArray n }={ cls:=.type "list",data:=.seq (aq.set j u).toArray n }:=by
 simp[Obj.mapSeq]
def Inv.lst{π:List (ϋ×Obj)}{σ:St}{H:Hp}{s:ό}{p:ϋ}{xs:List V}(I:Inv X π σ H s)(h:H p=!.lst xs) :
  ∃ (aq:List ϊ) (n:Nat),Vals xs aq/\s.heap.get? p=!{ cls:=.type "list",data:=.seq aq.toArray n }/\xs.length<=sizeLine:=by
 let⟨z,aq,n,r,e⟩:=I.aA p _ h;show#[aq,n,r,e,z]
def Inv.Zv{π:List (ϋ×Obj)}{σ:St}{H:Hp}{s:ό}{p:ϋ}{xs ys:List V}{aq its':List ϊ}{n n':Nat}{f:Obj->Obj}(I:Inv X π σ H s)(h:H p=!.lst xs)(ho:s.heap.get? p=!{ cls:=.type "list",data:=.seq aq.toArray n })(hf:f { cls:=.type "list",data:=.seq aq.toArray n }={ cls:=.type "list",data:=.seq its'.toArray n' })(r:Vals ys its')(hz:ys.length<=sizeLine)(t:Nat) :
  Inv X π σ (upd H p (.lst ys)) { s with heap:=s.heap.update p f,toks:=t }:=by
 have e:(s.heap.update p f).get? p=!{ cls:=.type "list",data:=.seq its'.toArray n' }:=by
  rw[P3 f ho (by rw[hf] <;> rfl),hf]
 show I.write (x:=p) (e:=p) (by rw[h];trivial) (.inl rfl) (fun b u hb q=>(GT _ _ (pp hb)).trans q) #[_,e] ?_;show#[hz,its',n',r,e]
def  ZA:V->V->V->Hp->(Hp->Prop)->Prop:=fun o i v H Q=>∃ p xs k j,o=-p/\i=.int k/\H p=!.lst xs/\fD xs.length k=!j/\Q (upd H p (.lst (xs.set j v)))
def set_list:yP X ZA:=by
 intro π s σ H o i v ov iv u Q I ro ri rv h;let⟨p,xs,k,j,rfl,rfl,hp,hj,q⟩:=h;cases ro;let⟨t,rfl⟩:=ri;let⟨aq,n,r,ho,hz⟩:=I.lst hp;let⟨h1,h2,h3,h4⟩:=Nb hj;have hl:=r.length;have hn:=ud;have I':Inv X π σ (upd H p (.lst (xs.set j v))) { s with heap:=s.heap.update p (Obj.mapSeq (·.setIfInBounds j u)) } :=
  I.Zv hp ho (aa4 aq n j u) (r.set rv j) (by rw[Ja4];show hz) s.toks
 by_cases h0:0<=k
 ·have hk:k.toNat=j:=by
   rw[seqIndex_of h0 h4]at h1;show Fk h1
  show W.ki_setAt ho h0 ∅ (by rw[ss,<- hl];show h4) (by rw[hk];show#[_,I',q])
 ·have hk:(k+(aq.toArray.size:Int)).toNat=j:=by
   rw[seqIndex_neg ∅ h3]at h1;rw[ss,<- hl];show Fk h1
  show W.ki_setBack ho ∅ (by rw[ss,<- hl];show h3) ∅ (by rw[hk];show#[_,I',q])
def Xb(lo hi:Option Int)(n:Nat):(sliceBounds lo hi none n).1=((HT.cX n 0 lo:Nat):Int)/\(sliceBounds lo hi none n).2.1=((HT.cX n n hi:Nat):Int)/\(sliceBounds lo hi none n).2.2=1:=by
 show#[?_,?_,rfl]
 ·cases lo with
  | none=>simp[sliceBounds,HT.cX]
  | some i =>
   simp only[sliceBounds,HT.cX,Option.getD_none,show(1:Int) > 0 by decide,if_true];by_cases h:i < 0
   ·simp only[h,if_true] <;> omega
   ·simp only[h,TD] <;> omega
 ·cases hi with
  | none=>simp[sliceBounds,HT.cX]
  | some i =>
   simp only[sliceBounds,HT.cX,Option.getD_none,show(1:Int) > 0 by decide,if_true];by_cases h:i < 0
   ·simp only[h,if_true] <;> omega
   ·simp only[h,TD] <;> omega
def YS(aq:List ϊ)(lo hi:Option Int):slicePick aq.toArray lo hi none=((aq.drop (HT.cX aq.length 0 lo)).take (HT.cX aq.length aq.length hi - HT.cX aq.length 0 lo)).toArray:=by
 let⟨h1,h2,h3⟩:=Xb lo hi aq.toArray.size;unfold slicePick;rw[h1,h2,h3];simp only[sliceRange_one,pick_run,ss] <;> rfl
def  WS(K:ν):V->Option Int->Option Int->Hp->VK->Prop:=fun x lo hi H Q=>∃ a xs,x=-a/\aI K H a xs/\∀ p,H p=none->Q (-p) (upd H p (.lst (fR xs lo hi)))
def acs:jV X (WS X.K):=by
 intro π s σ H x v vl vu lo hi sl Q I rx hs pl pu h;let⟨a,xs,rfl,hx,q⟩:=h;cases rx;let⟨aq,r,ht,hz⟩:=I.list hx;have hlen:=r.length;show#["list",_,slot_list_getitem.lookup,ht.isList.typeIs,?_];show wpAny_getItem_list_slice ht.isList hs pl pu .none () ?_ (by rw[ss] <;> omega);rw[YS,<- hlen];show#[-s.heap.objs.size,_,I.laid (t':=s.toks) (o:=.lst (fR xs lo hi)) (fun b ob q=>li _ q) (pi _) ?_,rfl,q _ (I.aA.fresh (pi _))];show#[wE (Yg xs lo hi) hz,_,0,(r.drop (HT.cX xs.length 0 lo)).take (HT.cX xs.length xs.length hi - HT.cX xs.length 0 lo),tz _ rfl]
def  cH:V->Bool
 | .au=>true
 | .bl _=>true
 | .int _=>true
 | .str _=>true
 | _=>false
def  eV:V->V->Bool
 | .au,.au=>true
 | .bl a,.bl b=>a == b
 | .bl a,.int b=>(if a then 1 else 0) == b
 | .int a,.bl b=>a == (if b then 1 else 0)
 | .int a,.int b=>a == b
 | .str a,.str b=>a == b
 | _,_=>false
def Fb{A:Around}{s:ό}{y x:V}{u v:ϊ}(ry:RelV y u)(rx:RelV x v)(fy:cH y=true)(fx:cH x=true):SeqAt.EqAt A s u v (eV y x):=by
 cases y with
 | au =>
  cases ry;cases x with
  | au=>cases rx;show SeqAt.EqAt.same _
  | bl b=>cases rx;show SeqAt.EqAt.none_bool b
  | int b=>let⟨t,rfl⟩:=rx;show SeqAt.EqAt.none_int b t
  | str b=>let⟨t,rfl⟩:=rx;show SeqAt.EqAt.none_str b t
  | _=>show absurd (show false=true from fx) wn
 | bl a =>
  cases ry;cases x with
  | au=>cases rx;show SeqAt.EqAt.bool_none a
  | bl b=>cases rx;show SeqAt.EqAt.bool_bool a b
  | int b=>let⟨t,rfl⟩:=rx;show SeqAt.EqAt.bool_int a b t
  | str b=>let⟨t,rfl⟩:=rx;show SeqAt.EqAt.bool_str a b t
  | _=>show absurd (show false=true from fx) wn
 | int a =>
  let⟨t',rfl⟩:=ry;cases x with
  | au=>cases rx;show SeqAt.EqAt.int_none a t'
  | bl b=>cases rx;show SeqAt.EqAt.int_bool a t' b
  | int b=>let⟨t,rfl⟩:=rx;show SeqAt.EqAt.int_int a t' b t
  | str b=>let⟨t,rfl⟩:=rx;show SeqAt.EqAt.int_str a t' b t
  | _=>show absurd (show false=true from fx) wn
 | str a =>
  let⟨t',rfl⟩:=ry;cases x with
  | au=>cases rx;show SeqAt.EqAt.str_none a t'
  | bl b=>cases rx;show SeqAt.EqAt.str_bool a t' b
  | int b=>let⟨t,rfl⟩:=rx;show SeqAt.EqAt.str_int a t' b t
  | str b=>let⟨t,rfl⟩:=rx;show SeqAt.EqAt.str_str a t' b t
  | _=>show absurd (show false=true from fx) wn
 | _=>show absurd (show false=true from fy) wn
def  gC(x:V)(u:ϊ):Bool:=match u with
 | .none=>eV .au x
 | .bool b=>eV (.bl b) x
 | .int i _=>eV (.int i) x
 | .str z _=>eV (.str z) x
 | _=>false
def KD{x y:V}{u:ϊ}(r:RelV y u)(f:cH y=true):gC x u=eV y x:=by
 cases y with
 | au=>cases r;rfl
 | bl b=>cases r;rfl
 | int i=>let⟨t,rfl⟩:=r;rfl
 | str z=>let⟨t,rfl⟩:=r;rfl
 | _=>show absurd (show false=true from f) wn
def uP{x:V}:∀ {xs:List V}{us:List ϊ},Vals xs us->xs.all cH=true->us.any (gC x)=xs.any fun y=>eV y x
 | _,_,.nil,_=>rfl
 | y::xs,u::us,.cons r t,f=>by
  rw[KK,Cl]at f;rw[_j,_j,KD r f.1,uP t f.2]
def tF{A:Around}{s:ό}{x:V}{v:ϊ}(rx:RelV x v)(fx:cH x=true):∀ {xs:List V}{us:List ϊ},Vals xs us->xs.all cH=true->∀ u∈us,SeqAt.EqAt A s u v (gC x u)
 | _,_,.nil,_=>fun u hu=>by cases hu
 | y::xs,u::us,.cons r t,f=>fun u' hu=>by
  rw[KK,Cl]at f;rcases jp.mp hu with rfl | hu
  ·rw[KD r f.1];show Fb r rx f.1 fx
  ·show tF rx fx t f.2 u' hu
def  gE(x:V)(xs:List V):Bool:=xs.any fun y=>eV y x
def  JB(K:ν)(neg:Bool):R2:=fun x y H Q=>∃ p xs,y=-p/\(aI K H p xs\/bH K H p xs)/\cH x=true/\xs.all cH=true/\Q (.bl (if neg then Bool.not (gE x xs) else gE x xs)) H
def Jk:aZ X (compareOp .In) (JB X.K false):=by
 intro π s σ H x y v u Q I rx ry h;let⟨p,xs,rfl,hq,fx,fs,q⟩:=h;cases ry;rcases hq with hq | hq
 ·let⟨aq,r,pl,hz⟩:=I.list hq;show SeqAt.in_listAt (gC x) pl.isList (fun w hw=>tF rx fx r fs w (by simpa using hw)) #[.bl _,H,I,rfl,?_];rw[show aq.toArray.any (gC x)=aq.any (gC x) by simp,uP r fs];show q
 ·let⟨aq,r,pl,hz⟩:=I.tuple hq;show SeqAt.in_tupleAt (gC x) pl (fun w hw=>tF rx fx r fs w (by simpa using hw)) #[.bl _,H,I,rfl,?_];rw[show aq.toArray.any (gC x)=aq.any (gC x) by simp,uP r fs];show q
def Yk:aZ X (compareOp .NotIn) (JB X.K true):=by
 intro π s σ H x y v u Q I rx ry h;let⟨p,xs,rfl,hq,fx,fs,q⟩:=h;cases ry;rcases hq with hq | hq
 ·let⟨aq,r,pl,hz⟩:=I.list hq;show SeqAt.notIn_listAt (gC x) pl.isList (fun w hw=>tF rx fx r fs w (by simpa using hw)) #[.bl _,H,I,rfl,?_];rw[show aq.toArray.any (gC x)=aq.any (gC x) by simp,uP r fs];show q
 ·let⟨aq,r,pl,hz⟩:=I.tuple hq;show SeqAt.notIn_tupleAt (gC x) pl (fun w hw=>tF rx fx r fs w (by simpa using hw)) #[.bl _,H,I,rfl,?_];rw[show aq.toArray.any (gC x)=aq.any (gC x) by simp,uP r fs];show q
def ad6:cM X (.type "list") (fun xs H Q=>∃ p ys,xs=[-p]/\(aI X.K H p ys\/bH X.K H p ys)/\∀ l,H l=none->Q (-l) (upd H l (.lst ys))):=by
 intro π s σ H xs us Q I r h;let⟨p,ys,rfl,hq,q⟩:=h;let⟨u,rfl,rx⟩:=vals1 r;cases rx;have fin:∀ (aq:List ϊ),Vals ys aq->ys.length<=sizeLine->∀ (h':Heap) (c':Nat),(∀ b o',s.heap.get? b=!o'->h'.get? b=!o') ->
   h'.get? s.heap.objs.size=!{ cls:=.type "list",dict:=none,data:=.seq aq.toArray c',slots:=(List.toArray []) }->EP X π σ Q (-s.heap.objs.size) { s with heap:=h' }:=fun aq r' hz h' c' kp e =>
  #[-s.heap.objs.size,_,I.laid (t':=s.toks) kp (pi _) (show bU X.prog X.w _ h' _ (.lst ys) from#[hz,aq,c',r',e]),rfl,q _ (I.aA.fresh (pi _))]
 rcases hq with hq | hq
 ·let⟨aq,r',pl,hz⟩:=I.list hq;have hlen:=r'.length;let⟨o,ho,hc,n,hd⟩:=pl.isList;show call_list_seq p (.inl rfl) ho hc hd (fun h' c' kp e=>fin aq r' hz h' c' kp e) (by simp only[ss] <;> omega)
 ·let⟨aq,r',pl,hz⟩:=I.tuple hq;have hlen:=r'.length;let⟨o,ho,hc,n,hd⟩:=pl;show call_list_seq p (.inr rfl) ho hc hd (fun h' c' kp e=>fin aq r' hz h' c' kp e) (by simp only[ss] <;> omega)
def  Sg(K:ν)(T:String)(x:V)(H:Hp):Prop:=match x with
 | .str _=>T = "str"
 | .int _=>T = "int"
 | .ref p=>(T = "list" /\ ∃ xs,aI K H p xs)\/(T = "tuple" /\ ∃ o,K.lookup p=!o/\o.cls=.type "tuple" /\ o.dict=none) \/
   (T = "dict" /\ ((∃ kvs,H p=!.dK kvs)\/∃ kvs,H p=!.dT kvs))\/(T = "set" /\ ∃ S n,H p=!.set S n)
 | _=>False
def Bi{π:List (ϋ×Obj)}{σ:St}{H:Hp}{s:ό}{T:String}{x:V}{v:ϊ}(I:Inv X π σ H s)(r:RelV x v)(ty:Sg X.K T x H) :
  s.TypeIs v T/\∀ a,v=-a->∃ ob,s.heap.get? a=!ob/\ob.dict=none:=by
 cases x with
 | str z =>
  let⟨t,rfl⟩:=r;cases (show T = "str" from ty);show#[_C s z t,fun _ e=>nomatch e]
 | int i =>
  let⟨t,rfl⟩:=r;cases (show T = "int" from ty);show#[typeIs_int s i t,fun _ e=>nomatch e]
 | ref p =>
  cases r;rcases ty with ⟨rfl,xs,hq⟩ | ⟨rfl,o,hk,hc,hd⟩ | ⟨rfl,hk⟩ | ⟨rfl,S,n,hk⟩
  ·let⟨aq,_,pl,_⟩:=I.list hq;show#[pl.isList.typeIs,fun a e=>?_];cases e;let⟨o,n,e,c,hd,_⟩:=pl;show#[o,e,hd]
  ·show#[#[o,I.cq p o hk,hc],fun a e=>?_];cases e;show#[o,I.cq _ o hk,hd]
  ·have z:∃ o,s.heap.get? p=!o/\o.ExactDict:=by
    rcases hk with ⟨kvs,hk⟩ | ⟨kvs,hk⟩
    ·let⟨_,_,_,_,o,_,_,e,ex,_⟩:=I.aA p _ hk;show#[o,e,ex]
    ·let⟨_,_,_,_,o,_,_,e,ex,_⟩:=I.aA p _ hk;show#[o,e,ex]
   let⟨o,e,ex⟩:=z;show#[#[o,e,ex.1],fun a e2=>?_];cases e2;show#[o,e,ex.2.1]
  ·let⟨o,_,_,_,e,ex,_⟩:=I.aA p _ hk;show#[#[o,e,ex.1],fun a e2=>?_];cases e2;show#[o,e,ex.2.1]
 | _=>show False.elim ty
variable {o e:Expr}{es:List Expr}{to:TE}{t:TA}{name:Str}{apos bf:Pos}{T id:String}{r:V->List V->Hp->VK->Prop}
/- xs.append(e),list.index on a module's tuple .. are ef facts of 06m -/
end
def  BY(X:Cx)(id:String)(r:V->List V->Hp->VK->Prop):Prop :=
 ∀ (π:List (ϋ×Obj)) (s:ό) (σ:St) (H:Hp) (x:V) (xs:List V) (v:ϊ) (us:List ϊ) (Q:VK),Inv X π σ H s->RelV x v->Vals xs us->r x xs H Q ->
  wpAny (model X.prog X.w) X.A (call (.builtin id) (v::us)) (EP X π σ Q) X.xe s
def Vals.one:∀ {x:V}{us:List ϊ},Vals [x] us->∃ u,us=[u]/\RelV x u
 | _,_,.cons r .nil=>#[_,rfl,r]
def Vals.zero:∀ {us:List ϊ},Vals [] us->us=[]
 | _,.nil=>rfl
def Vals.dropLast{xs:List V}{us:List ϊ}(h:Vals xs us):Vals xs.dropLast us.dropLast:=by
 induction h with
 | nil=>show .nil
 | cons r t ih =>
  cases t with
  | nil=>show .nil
  | cons q t'=>show .cons r ih
def Vals.rep{xs:List V}{us:List ϊ}(h:Vals xs us):∀ k:Nat,Vals (List.replicate k xs).flatten (List.replicate k us).flatten
 | 0=>.nil
 | k+1=>by
  rw[WF,WF,_W,_W];show Vals.append h (Vals.rep h k)
def U0{α:Type}(l:List α):l.eraseIdx (l.length - 1)=l.dropLast:=by
 induction l with
 | nil=>rfl
 | cons a r ih =>
  cases r with
  | nil=>rfl
  | cons b r =>
   have e:(a::b::r).length - 1=((b::r).length - 1)+1:=by
    have h1:(a::b::r).length=r.length+2:=rfl;have h2:(b::r).length=r.length+1:=rfl;omega
   rw[e,List.eraseIdx_cons_succ,ih]
   all_goals rfl
def foldl_rep(aq:List ϊ):∀ (k:Nat) (acc:List ϊ),
  List.foldl (fun x1 x2=>x1++x2) acc.toArray (List.replicate k aq.toArray)=(acc++(List.replicate k aq).flatten).toArray
 | 0,acc=>by simp
 | k+1,acc=>by
  have e:acc.toArray++aq.toArray=(acc++aq).toArray:=()
  have e2:(acc++aq)++(List.replicate k aq).flatten=acc++(List.replicate (k+1) aq).flatten:=by
   rw[WF,_W,_X]
  rw[<- e2,<- foldl_rep aq k (acc++aq),<- e,WF,List.foldl_cons]
section
variable {X:Cx}{π:List (ϋ×Obj)}{σ:St}{H:Hp}{s:ό}{l b:ϋ}{xs ys zs:List V}
def Inv.EA{aq its':List ϊ}{n:Nat}{f:Array ϊ->Array ϊ}{t':Nat}(I:Inv X π σ H s)(hH:H l=!.lst xs)(e:s.heap.get? l=!{ cls:=.type "list",data:=.seq aq.toArray n })(hf:f aq.toArray=its'.toArray)(hv:Vals ys its')(hz:ys.length<=sizeLine) :
  Inv X π σ (upd H l (.lst ys)) { s with heap:=s.heap.update l (Obj.mapSeq f),toks:=t' }:=by
 have q:=PySem.IsL.update e f;rw[hf]at q;show I.write (x:=l) (e:=l) (by rw[hH];show trivial) (.inl rfl) (fun b' u hb hu=>(GT s.heap (Obj.mapSeq f) (pp hb)).trans hu) #[_,q] ?_;show#[hz,its',_,hv,q]
def Inv.LK{aq:List ϊ}{t':Nat}(I:Inv X π σ H s)(hv:Vals ys aq)(hz:ys.length<=sizeLine) :
  Inv X π σ (upd H s.heap.objs.size (.lst ys)) { s with heap:=s.heap.push { cls:=.type "list",data:=.seq aq.toArray },toks:=t' } :=
 I.laid (fun _ _ q=>li _ q) (pi _) #[hz,aq,0,hv,tz _ rfl]
def Inv.fresh(I:Inv X π σ H s):H s.heap.objs.size=none:=I.aA.fresh (pi _)
def Inv.pd(I:Inv X π σ H s)(hH:H l=!.lst xs):xs.length<=sizeLine/\∃ (aq:List ϊ) (n:Nat),Vals xs aq/\xs.length=aq.length/\s.heap.get? l=!{ cls:=.type "list",data:=.seq aq.toArray n }:=by
 let⟨z,aq,n,r,e⟩:=I.aA l _ hH;show#[z,aq,n,r,r.length,e]
def Ih{n:Nat}(h:n<=sizeLine):Builtin.List.listTooLong n=false:=by
 unfold Builtin.List.listTooLong;show mo ∅
end
section
variable {X:Cx}
def  UA:V->List V->Hp->VK->Prop:=fun x vs H Q=>∃ l xs y,x=-l/\vs=[y]/\H l=!.lst xs/\xs.length < sizeLine/\Q .au (upd H l (.lst (xs++[y])))
def abr:BY X "list.append" UA:=by
 intro π s σ H x vs v us Q I rx rv h;let⟨l,xs,y,rfl,rfl,hH,hz,q⟩:=h;cases rx;let⟨u,rfl,ru⟩:=rv.one;let⟨z,aq,n,r,hl,e⟩:=I.pd hH;show Wp F.slot_list_append #[_,e,rfl] F.entry_list_append (F.args_list_append_2 _ _) (PySem.list_append l aq.toArray n u (by rw[ss];omega)) #[e,?_];show#[.au,_,I.EA (its':=aq++[u]) hH e () (r.append (.cons ru .nil)) ?_,rfl,q];rw[sK,List.length_singleton];omega
def  SG:V->List V->Hp->VK->Prop:=fun x vs H Q=>∃ l b xs zs,x=-l/\vs=[-b]/\H l=!.lst xs/\H b=!.lst zs/\xs.length+zs.length<=sizeLine/\Q .au (upd H l (.lst (xs++zs)))
def ael:BY X "list.extend" SG:=by
 intro π s σ H x vs v us Q I rx rv h;let⟨l,b,xs,zs,rfl,rfl,hH,hB,hz,q⟩:=h;cases rx;let⟨u,rfl,ru⟩:=rv.one;cases ru;let⟨z,aq,n,r,hl,e⟩:=I.pd hH;let⟨z2,pH,n2,r2,dk,e2⟩:=I.pd hB;have hsz:aq.toArray.size+pH.toArray.size<=sizeLine:=by rw[ss,ss];omega
 have HV:¬ (Bool.not aq.toArray.isEmpty && Builtin.List.listTooLong (aq.toArray.size+pH.toArray.size))=true:=by
  rw[Ih hsz,Bool.and_false];show wn
 show Wp F.slot_list_extend #[_,e,rfl] F.entry_list_extend (F.args_list_extend_2 _ _)
  (AutoSeq1.list_extend_list_list_0 l aq.toArray n b pH.toArray n2 HV (by rw[ss];omega) ∅) #[e,e2,?_]
 show#[.au,_,I.EA (its':=aq++pH) hH e () (r.append r2) ?_,rfl,q];rw[sK];omega
def  JT:V->List V->Hp->VK->Prop:=fun x vs H Q=>∃ l xs y,x=-l/\vs=[]/\H l=!.lst xs/\xs[xs.length - 1]?=!y/\Q y (upd H l (.lst xs.dropLast))
def Ym:BY X "list.pop" JT:=by
 intro π s σ H x vs v us Q I rx rv h;let⟨l,xs,y,rfl,rfl,hH,hy,q⟩:=h;cases rx;have hus:=rv.zero;subst hus;let⟨z,aq,n,r,hl,e⟩:=I.pd hH;let⟨u,hu,ru⟩:=r.get hy;have hy':aq.toArray[aq.toArray.size - 1]?=!u:=by
  change aq.toArray[aq.length - 1]?=!u;rw[<- No,<- hl];show hu
 show Wp F.slot_list_pop #[_,e,rfl] F.entry_list_pop (F.args_list_pop_1 _) (MeetsSeq.list_pop_last l aq.toArray n u hy' (by rw[ss];omega)) #[e,?_];show#[y,_,I.EA (its':=aq.dropLast) hH e ?_ r.dropLast ?_,ru,q]
 ·change aq.toArray.eraseIdxIfInBounds (aq.toArray.size - 1)=aq.dropLast.toArray;rw[ss,List.eraseIdxIfInBounds_toArray,U0]
 ·rw[List.length_dropLast];omega
def  aac:R2:=fun x y H Q=>∃ l b xs zs,x=-l/\y=-b/\H l=!.lst xs/\H b=!.lst zs/\xs.length+zs.length<=sizeLine/\∀ p,H p=none->Q (-p) (upd H p (.lst (xs++zs)))
def RD:aZ X (binaryOp .Add) aac:=by
 intro π s σ H x y v u Q I rx ry h;let⟨l,b,xs,zs,rfl,rfl,hH,hB,hz,q⟩:=h;cases rx;cases ry;let⟨z,aq,n,r,hl,e⟩:=I.pd hH;let⟨z2,pH,n2,r2,dk,e2⟩:=I.pd hB;show PySem.P.add_list e e2 ?_ (by rw[ss,ss];omega);have ea:aq.toArray++pH.toArray=(aq++pH).toArray:=()
 rw[ea];show#[-_,_,I.LK (t':=s.toks) (r.append r2) (by rw[sK];omega),rfl,q _ I.fresh]
def  Vj:R2:=fun x y H Q=>∃ l k xs,x=-l/\y=.int k/\H l=!.lst xs/\(unop% Neg.neg ((2 ^ 63)))<=k/\k < 2 ^ 63/\xs.length * k.toNat<=sizeLine /\
 ∀ p,H p=none->Q (-p) (upd H p (.lst (List.replicate k.toNat xs).flatten))
def len_rep{α:Type}(xs:List α)(k:Nat):(List.replicate k xs).flatten.length=k * xs.length:=by
 induction k with
 | zero=>simp
 | succ k ih=>rw[WF,_W,sK,ih,Nat.succ_mul,Nat.add_comm]
def S5:aZ X (binaryOp .Mult) Vj:=by
 intro π s σ H x y v u Q I rx ry h;let⟨l,k,xs,rfl,rfl,hH,h1,h2,hz,q⟩:=h;cases rx;let⟨t,rfl⟩:=ry;let⟨z,aq,n,r,hl,e⟩:=I.pd hH;have hlen:aq.toArray.size * k.toNat<=sizeLine:=by rw[ss,<- hl];show hz
 have hcap:¬ aq.toArray.size * k.toNat > (2 ^ 63 - 1) / 8:=by
  have:(sizeLine:Nat)<=(2 ^ 63 - 1) / 8:=⋯
  omega
 have GB:¬ (Bool.not (Builtin.List.listFitsIndex k))=true:=by
  rw[fitsIndex_both h1 h2];show wn
 have HV:¬ Builtin.List.listTooLong (aq.toArray.size * k.toNat)=true:=by
  rw[Ih hlen];show wn
 have hnew:List.foldl (fun x1 x2=>x1++x2) (List.toArray []) (List.replicate (if aq.toArray.isEmpty=true then 0 else k.toNat) aq.toArray)=(List.replicate k.toNat aq).flatten.toArray:=by
  have f0:∀ m:Nat,List.foldl (fun x1 x2=>x1++x2) (List.toArray []) (List.replicate m aq.toArray)=(List.replicate m aq).flatten.toArray:=fun m=>by
   have:=foldl_rep aq m [];rw[List.nil_append]at this;show this
  rw[f0];cases aq with
  | nil=>simp
  | cons a r'=>rw[wP ()]
 show wpAny_binaryOp_repeat_ref (T := "list") (U := "int") ⋯ #[_,e,rfl] (fun s'=>typeIs_int s' k t) noFill_list_mul F.fills_int_mul F.slot_int_rmul repeat_list F.slot_int_index.lookup
  (Wp F.slot_int_rmul (typeIs_int s k t) F.entry_int_rmul (F.args_int_rmul_2 _ _) (int___rmul___int_list k t l aq.toArray n)
   #[e,rfl,#[_,e,rfl],Wp F.slot_list_mul #[_,e,rfl] F.entry_list_mul (F.args_list_mul_2 _ _) (AutoListH.list___mul___list_int_3 l aq.toArray n k t GB hcap HV) #[e,?_]])
 rw[hnew];show#[-_,_,I.LK (t':=s.toks) (r.rep k.toNat) (by rw[len_rep,Nat.mul_comm];show hz),rfl,q _ I.fresh]
end
section
variable {prog:ύ}{w:World}{A:Around}{E:ϊ->ό->Prop}{s:ό}
end
section
variable {X:Cx}
end
section
variable {κ:Type}[DecidableEq κ]
def  aH(kvs:List (κ×V))(k:κ):Option V:=(kvs.find? fun kv=>decide (kv.1=k)).map (·.2)
def  putK(kvs:List (κ×V))(k:κ)(v:V):List (κ×V) :=
 if (kvs.any fun kv=>decide (kv.1=k))=true then kvs.map (fun kv=>if kv.1=k then (kv.1,v) else kv) else kvs++[(k,v)]
def  fw(kvs:List (κ×V))(k:κ):List (κ×V):=kvs.filter fun kv=>decide (kv.1≠k)
def nF{p:κ×V}{r:List (κ×V)}{k:κ}(e:p.1=k):aH (p::r) k=!p.2:=by simp[aH,SL,e]
def kL{p:κ×V}{r:List (κ×V)}{k:κ}(e:¬ p.1=k):aH (p::r) k=aH r k:=by simp[aH,SL,e]
def xX(k:κ):∀ kvs:List (κ×V),(kvs.any fun kv=>decide (kv.1=k))=(aH kvs k).isSome
 | []=>rfl
 | p::r=>by
  rw[_j];by_cases e:p.1=k
  ·simp only[nF e,ul e,Bool.true_or,Option.isSome_some]
  ·rw[kL e,mo e,Bool.false_or];show xX k r
def Jr(k j:κ)(y:V):∀ kvs:List (κ×V),aH kvs k=none->aH (kvs++[(k,y)]) j=if j=k then !y else aH kvs j
 | [],_=>by
  by_cases e:k=j
  ·rw[xL e.symm];show nF (p:=(k,y)) e
  ·rw[wP (fun z=>e z.symm)];show kL (p:=(k,y)) e
 | p::r,hn=>by
  rw[List.cons_append];have hk:¬ p.1=k:=fun z=>by rw[nF z]at hn;cases hn
  rw[kL hk]at hn;have ih:=Jr k j y r hn;by_cases e:p.1=j
  ·rw[nF e,nF e,wP (fun z=>hk (e.trans z))]
  ·rw[kL e,kL e,ih]
def LH(kvs:List (κ×V))(k:κ)(v:V):(putK kvs k v).length<=kvs.length+1:=by
 unfold putK;split
 ·rw[lv];omega
 ·rw[sK,Fa,_N];omega
def Oz{kvs:List (κ×V)}{k:κ}(v:V)(h:aH kvs k=none):putK kvs k v=kvs++[(k,v)]:=by
 unfold putK;rw[xX,h];show wP ⋯
def eA.uo{o:Option V}{u:Option ϊ}(r:eA o u):o.isSome=u.isSome:=by
 cases o with
 | none=>cases u with
  | none=>rfl
  | some _=>show(show False from r).elim
 | some _=>cases u with
  | none=>show(show False from r).elim
  | some _=>rfl
def eA.getD{o:Option V}{u:Option ϊ}{d:V}{d':ϊ}(r:eA o u)(rd:RelV d d'):RelV (o.getD d) (u.getD d'):=by
 cases o with
 | none=>cases u with
  | none=>show rd
  | some _=>show(show False from r).elim
 | some _=>cases u with
  | none=>show(show False from r).elim
  | some _=>show r
def KV.val{kvs:List (κ×V)}{vs:List (κ×ϊ)}(r:KV kvs vs)(k:κ):eA (aH kvs k) (valueAt vs k):=by
 unfold KV at r
 induction r with
 | nil=>show True.intro
 | @cons p q ps qs h t ih =>
  let⟨h1,h2⟩:=h;by_cases e:p.1=k
  ·have e':q.1=k:=h1.symm.trans e;have b:valueAt (q::qs) k=!q.2:=by simp[valueAt,SL,e']
   rw[nF e,b];show h2
  ·have e':¬ q.1=k:=fun z=>e (h1.trans z);have b:valueAt (q::qs) k=valueAt qs k:=by simp[valueAt,SL,e']
   rw[kL e,b];show ih
def KV.any{kvs:List (κ×V)}{vs:List (κ×ϊ)}(r:KV kvs vs)(k:κ):(kvs.any fun kv=>decide (kv.1=k))=vs.any fun kv=>decide (kv.1=k):=by
 unfold KV at r
 induction r with
 | nil=>rfl
 | cons h t ih=>rw[_j,_j,ih,h.1]
def KV.Ep{kvs:List (κ×V)}{vs:List (κ×ϊ)}(r:KV kvs vs)(k:κ){y:V}{u:ϊ}(ry:RelV y u) :
  KV (kvs.map fun kv=>if kv.1=k then (kv.1,y) else kv) (vs.map fun kv=>if kv.1=k then (kv.1,u) else kv):=by
 unfold KV at r ⊢
 induction r with
 | nil=>show .nil
 | @cons p q ps qs h t ih =>
  rw[wS,wS];show .cons ?_ ih;let⟨h1,h2⟩:=h;by_cases e:p.1=k
  ·rw[xL e,xL (h1.symm.trans e)];show#[h1,ry]
  ·rw[wP e,wP (fun z=>e (h1.trans z))];show#[h1,h2]
def KV.put{kvs:List (κ×V)}{vs:List (κ×ϊ)}(r:KV kvs vs)(k:κ){y:V}{u:ϊ}(ry:RelV y u):KV (putK kvs k y) (stored vs k u):=by
 unfold putK stored;rw[r.any k];by_cases e:(vs.any fun kv=>decide (kv.1=k))=true
 ·rw[xL e,xL e];show r.Ep k ry
 ·rw[wP e,wP e];show Paired.snoc r #[rfl,ry]
def KV.drop{kvs:List (κ×V)}{vs:List (κ×ϊ)}(r:KV kvs vs)(k:κ):KV (fw kvs k) (without vs k):=by
 unfold KV at r ⊢;unfold fw without
 induction r with
 | nil=>show .nil
 | @cons p q ps qs h t ih =>
  let⟨h1,h2⟩:=h;rw[XV,XV];by_cases e:p.1=k
  ·have a:¬ decide (p.1≠k)=true:=by simp[e]
   have b:¬ decide (q.1≠k)=true:=by simp[h1.symm.trans e]
   rw[wP a,wP b];show ih
  ·have e':¬ q.1=k:=fun z=>e (h1.trans z);have a:decide (p.1≠k)=true:=by simp[e]
   have b:decide (q.1≠k)=true:=by simp[e']
   rw[xL a,xL b];show .cons #[h1,h2] ih
def KV.keys{kvs:List (κ×V)}{vs:List (κ×ϊ)}(r:KV kvs vs):kvs.map (·.1)=vs.map (·.1):=by
 unfold KV at r
 induction r with
 | nil=>rfl
 | cons h t ih=>rw[wS,wS,ih,h.1]
def KV.length{kvs:List (κ×V)}{vs:List (κ×ϊ)}(r:KV kvs vs):kvs.length=vs.length:=Jap r
def IL(kvs:List (κ×V))(k:κ):(fw kvs k).length<=kvs.length:=ST _ _
end
def ox{P:ύ}{w:World}{k:Key}{u:ϊ}(r:RelV (kV k) u):(cY P w).is k u=true:=by
 cases k with
 | inl i=>let⟨t,e⟩:=(show ∃ t,u=ϊ.int i t from r);subst e;show Xm P w i t
 | inr x=>let⟨t,e⟩:=(show ∃ t,u=ϊ.str x t from r);subst e;show ade P w x t
def M9{P:ύ}{w:World}:∀ {ks:List Key}{us:List ϊ},Vals (ks.map kV) us->ItemsAre (cY P w) ks us
 | [],_,r=>by rw[NE]at r;cases r;show .nil
 | k::ks,_,r=>by
  rw[wS]at r;cases r with
  | cons h t=>show .cons (ox h) (M9 t)
abbrev KT(H:Hp):List (List Key×V)->List (List Key×ϋ×ϊ)->Prop:=Paired fun p q=>p.1=q.1/\H q.2.1=!.tup (p.1.map kV)/\RelV p.2 q.2.2
def KT.val{H:Hp}{kvs:List (List Key×V)}{xs:List (List Key×ϋ×ϊ)}(r:KT H kvs xs)(k:List Key):eA (aH kvs k) ((atKey xs k).map (·.2)):=by
 induction r with
 | nil=>show True.intro
 | @cons p q ps qs h t ih =>
  let⟨h1,_,h2⟩:=h;by_cases e:p.1=k
  ·have e':q.1=k:=h1.symm.trans e;have b:atKey (q::qs) k=!q.2:=by simp[atKey,SL,e']
   rw[nF e,b];show h2
  ·have e':¬ q.1=k:=fun z=>e (h1.trans z);have b:atKey (q::qs) k=atKey qs k:=by simp[atKey,SL,e']
   rw[kL e,b];show ih
def KT.Ep{H:Hp}{kvs:List (List Key×V)}{xs:List (List Key×ϋ×ϊ)}(r:KT H kvs xs)(k:List Key){y:V}{u:ϊ}(ry:RelV y u) :
  KT H (kvs.map fun kv=>if kv.1=k then (kv.1,y) else kv) (xs.map (putAt k u)):=by
 induction r with
 | nil=>show .nil
 | @cons p q ps qs h t ih =>
  rw[wS,wS];show .cons ?_ ih;let⟨h1,h2,h3⟩:=h;unfold putAt;by_cases e:p.1=k
  ·rw[xL e,xL (h1.symm.trans e)];show#[h1,h2,ry]
  ·rw[wP e,wP (fun z=>e (h1.trans z))];show#[h1,h2,h3]
def KT.put{H:Hp}{kvs:List (List Key×V)}{xs:List (List Key×ϋ×ϊ)}(r:KT H kvs xs)(k:List Key){b:ϋ}{y:V}{u:ϊ}(hb:H b=!.tup (k.map kV))(ry:RelV y u) :
  KT H (putK kvs k y) (storedH xs k b u):=by
 have e:(kvs.any fun kv=>decide (kv.1=k))=(atKey xs k).isSome:=by
  rw[xX,(r.val k).uo,Option.isSome_map]
 unfold putK storedH;rw[e];by_cases q:(atKey xs k).isSome=true
 ·rw[xL q,xL q];show r.Ep k ry
 ·rw[wP q,wP q];show Paired.snoc r #[rfl,hb,ry]
def KT.keeps{H H':Hp}{kvs:List (List Key×V)}{xs:List (List Key×ϋ×ϊ)}(r:KT H kvs xs)(ht:∀ b ys,H b=!.tup ys->H' b=!.tup ys):KT H' kvs xs :=
 Paired.AH r fun _ _ z=>#[z.1,ht _ _ z.2.1,z.2.2]
section
variable {P:ύ}{w:World}{H:Hp}{h:Heap}{a:ϋ}
def Nq{u:HO}(ok:cw P w H h)(e:Rd H a u):bU P w H h a u:=e.ok ok
def oB{kvs:List (Key×V)}(ok:cw P w H h)(e:Rd H a (.dK kvs)):kvs.length<=sizeLine/\(a == sysModules)=false/\∃ vs,KV kvs vs/\h.DictOf (cY P w) a vs :=
 show bU P w H h a (.dK kvs) from Nq ok e
def Jj{kvs:List (Key×V)}(ok:cw P w H h)(e:H a=!.dK kvs):kvs.length<=sizeLine/\(a == sysModules)=false/\∃ vs,KV kvs vs/\h.DictOf (cY P w) a vs:=oB ok (.inl e)
def o9{ks:List Key}(ok:cw P w H h)(e:H a=!.tup (ks.map kV)):(tupleKind (cY P w)).is h ks a:=by
 let⟨_,aq,r,o,h1,h2,n,h3⟩:=(show bU P w H h a (.tup (ks.map kV)) from ok a _ e);show#[o,aq.toArray,n,h1,h2,h3.1,by simpa using M9 r]
def ou{kvs:List (List Key×V)}(ok:cw P w H h)(e:Rd H a (.dT kvs)):kvs.length<=sizeLine/\(a == sysModules)=false /\
  ∃ xs,KT H kvs xs/\h.DictOfH (tupleKind (cY P w)) a xs:=by
 let⟨z,y,xs,r,o,es,ep,h1,h2,h3,h4,h5⟩:=(show bU P w H h a (.dT kvs) from Nq ok e);show#[z,y,xs,r,o,es,ep,h1,h2,h3,h4,fun x hx=>?_,h5];have all:∀ {l:List (List Key×V)}{m:List (List Key×ϋ×ϊ)},KT H l m->∀ x∈m,(tupleKind (cY P w)).is h x.1 x.2.1:=by
  intro l m q
  induction q with
  | nil=>intro x hx;show nomatch hx
  | @cons p q ps qs hq t ih =>
   intro x hx;rcases jp.mp hx with e | hx
   ·subst e;show o9 ok (by rw[<- hq.1];show hq.2.1)
   ·show ih x hx
 show all r x hx
def Mv{kvs:List (List Key×V)}(ok:cw P w H h)(e:H a=!.dT kvs):kvs.length<=sizeLine/\(a == sysModules)=false /\
  ∃ xs,KT H kvs xs/\h.DictOfH (tupleKind (cY P w)) a xs:=ou ok (.inl e)
end
def  eC(H:Hp)(a:ϋ)(y:V)(r:Option V):Prop :=
 (∃ kvs k,Rd H a (.dK kvs)/\y=kV k/\r=aH kvs k)\/∃ kvs k b,Rd H a (.dT kvs)/\y=-b/\H b=!.tup (k.map kV)/\r=aH kvs k
def  hU(H:Hp)(a:ϋ)(y v:V)(H':Hp):Prop :=
 (∃ kvs k,H a=!.dK kvs/\y=kV k/\kvs.length < sizeLine/\H'=upd H a (.dK (putK kvs k v))) \/
 ∃ kvs k b,H a=!.dT kvs/\y=-b/\H b=!.tup (k.map kV)/\kvs.length < sizeLine/\H'=upd H a (.dT (putK kvs k v))
def eC.k{H:Hp}{a:ϋ}{kvs:List (Key×V)}{k:Key}(e:H a=!.dK kvs):eC H a (kV k) (aH kvs k):=.inl #[kvs,k,.inl e,rfl,rfl]
def hU.k{H:Hp}{a:ϋ}{kvs:List (Key×V)}{k:Key}{v:V}(e:H a=!.dK kvs)(hl:kvs.length < sizeLine):hU H a (kV k) v (upd H a (.dK (putK kvs k v))):=.inl #[kvs,k,e,rfl,hl,rfl]
def hU.t{H:Hp}{a b:ϋ}{kvs:List (List Key×V)}{k:List Key}{v:V}(e:H a=!.dT kvs)(eb:H b=!.tup (k.map kV))(hl:kvs.length < sizeLine) :
  hU H a (-b) v (upd H a (.dT (putK kvs k v))):=.inr #[kvs,k,b,e,rfl,eb,hl,rfl]
section
variable {X:Cx}{π:List (ϋ×Obj)}{σ:St}{H:Hp}{s:ό}{a:ϋ}{y v:V}{u r:ϊ}{o:Option V}{A:Around}{E:ϊ->ό->Prop}
def Inv.big(I:Inv X π σ H s):sysModules < s.heap.objs.size:=by
 have h:mainGlobals < s.heap.objs.size:=(I.mod.glob.keeps I.bk).lt;show Nat.lt_trans ⋯ h
def UJ{Q:ϊ->ό->Prop}(hu:A.units+1 < cLine)(I:Inv X π σ H s)(g:eC H a y (!v))(ry:RelV y u)(h:∀ w' s',Inv X π σ H s'->RelV v w'->Q w' s') :
  wpAny (model X.prog X.w) A (getItem (-a) u) Q E s:=by
 rcases g with ⟨kvs,k,e,ey,l⟩ | ⟨kvs,k,b,e,ey,eb,l⟩
 ·subst ey;let⟨z,hd,vs,rel,dd⟩:=oB I.aA e;let⟨w',hw,rw'⟩:=eA.some_of (v:=v) (o:=valueAt vs k) (by rw[l];show rel.val k);show wpAny_getItem_of (ox ry) dd.mapOf hw (h w' _ (I.tok _) rw')
 ·subst ey;cases (show u=ϊ.ref b from ry);let⟨z,hd,xs,rel,dd⟩:=ou I.aA e;let⟨w',hw,rw'⟩:=eA.some_of (v:=v) (o:=(atKey xs k).map (·.2)) (by rw[l];show rel.val k);let⟨p,hp,fj⟩:=SC.mp hw;show wpAny_getItem_heap (_b hu) (o9 I.aA eb) dd hp ?_;rw[fj];show h w' _ (I.tok _) rw'
def aa2{Q:ϊ->ό->Prop}(hu:A.units+1 < cLine)(I:Inv X π σ H s)(g:eC H a y o)(ry:RelV y u)(h:∀ s',Inv X π σ H s'->Q (.bool o.isSome) s') :
  wpAny (model X.prog X.w) A (compareOp .In u (-a)) Q E s:=by
 rcases g with ⟨kvs,k,e,ey,l⟩ | ⟨kvs,k,b,e,ey,eb,l⟩
 ·subst ey;let⟨z,hd,vs,rel,dd⟩:=oB I.aA e;show wpAny_in_of (ox ry) hd dd.mapOf ?_;rw[<- (rel.val k).uo,<- l];show h _ (I.tok _)
 ·subst ey;cases (show u=ϊ.ref b from ry);let⟨z,hd,xs,rel,dd⟩:=ou I.aA e;show wpAny_in_heap (_b hu) (o9 I.aA eb) hd dd ?_;have q:=(rel.val k).uo;rw[Option.isSome_map]at q;rw[<- q,<- l];show h _ (I.tok _)
def adk{Q:ϊ->ό->Prop}(hu:A.units+1 < cLine)(I:Inv X π σ H s)(g:eC H a y o)(ry:RelV y u)(h:∀ s',Inv X π σ H s'->Q (.bool (Bool.not o.isSome)) s') :
  wpAny (model X.prog X.w) A (compareOp .NotIn u (-a)) Q E s:=by
 rcases g with ⟨kvs,k,e,ey,l⟩ | ⟨kvs,k,b,e,ey,eb,l⟩
 ·subst ey;let⟨z,hd,vs,rel,dd⟩:=oB I.aA e;show wpAny_notIn_of (ox ry) hd dd.mapOf ?_;rw[<- (rel.val k).uo,<- l];show h _ (I.tok _)
 ·subst ey;cases (show u=ϊ.ref b from ry);let⟨z,hd,xs,rel,dd⟩:=ou I.aA e;show wpAny_notIn_heap (_b hu) (o9 I.aA eb) hd dd ?_;have q:=(rel.val k).uo;rw[Option.isSome_map]at q;rw[<- q,<- l];show h _ (I.tok _)
def yA{h':Heap}{t':Nat}{ob:HO}(I:Inv X π σ H s)(mu:qZ (H a))(hs:Heap.SameBut a s.heap h')(he:∃ q,h'.get? a=!q)(new:bU X.prog X.w (upd H a ob) h' a ob) :
  Inv X π σ (upd H a ob) { s with heap:=h',toks:=t' } :=
 I.write (x:=a) (e:=a) mu (.inl rfl) (fun b q hb z=>(hs.2 b hb).trans z) he new
def JD{P:ύ}{w:World}{H':Hp}{h':Heap}{kvs:List (Key×V)}{vs:List (Key×ϊ)}(z:kvs.length<=sizeLine)(hd:(a == sysModules)=false)(rel:KV kvs vs)(dd:h'.DictOf (cY P w) a vs) :
  bU P w H' h' a (.dK kvs):=#[z,hd,vs,rel,dd]
def Vr{H':Hp}{Q:Unit->ό->Prop}(hu:A.units+1 < cLine)(I:Inv X π σ H s)(g:hU H a y v H')(ry:RelV y u)(rv:RelV v r)(h:∀ s',Inv X π σ H' s'->Q .unit s') :
  wpAny (model X.prog X.w) A (setItem (-a) u r) Q E s:=by
 rcases g with ⟨kvs,k,e,ey,l,eH⟩ | ⟨kvs,k,b,e,ey,eb,l,eH⟩
 ·subst ey eH;let⟨z,hd,vs,rel,dd⟩:=Jj I.aA e;have hz:vs.length<=sizeLine:=by rw[<- rel.length];show z
  have hl:(putK kvs k v).length<=sizeLine:=by have:=LH kvs k v;omega
  show wpAny_setItem_pairs (hsz:=hz) (ox ry) dd fun h' dd' hs=>h _ ?_;have he:∃ q,h'.get? a=!q:=let ⟨q,_,_,hq,_⟩:=dd';#[q,hq]
  show yA I (by rw[e];show True.intro) hs he (JD hl hd (rel.put k rv) dd')
 ·subst ey eH;cases (show u=ϊ.ref b from ry);let⟨z,hd,xs,rel,dd⟩:=Mv I.aA e;have hz:xs.length<=sizeLine:=by rw[<- Jap rel];show z
  have hl:(putK kvs k v).length<=sizeLine:=by have:=LH kvs k v;omega
  show wpAny_setItem_heap (hsz:=hz) (_b hu) (o9 I.aA eb) dd fun h' dd' hs=>h _ ?_;let⟨q,es,ep,hq,h2,h3,h4,_,h5⟩:=dd';show yA I (by rw[e];show True.intro) hs #[q,hq] #[hl,hd,_,(rel.put k eb rv).keeps fun c ys ec=>?_,q,es,ep,hq,h2,h3,h4,h5];rw[ag (qD ec e (fun z=>nomatch z))];show ec
end
section
variable {X:Cx}{π:List (ϋ×Obj)}{σ:St}{H:Hp}{s:ό}{a:ϋ}{kvs:List (Key×V)}{k:Key}{u:ϊ}{A:Around}{E:ϊ->ό->Prop}
def UQ{v:V}{more:List ϊ}{Q:ϊ->ό->Prop}(I:Inv X π σ H s)(e:H a=!.dK kvs)(ry:RelV (kV k) u)(l:aH kvs k=!v)(hm:more=[]\/∃ x,more=[x])(h:∀ w' s',Inv X π σ (upd H a (.dK (fw kvs k))) s'->RelV v w'->Q w' s'):wpAny (model X.prog X.w) A (call (.builtin "dict.pop") (-a::u::more)) Q E s:=by
 let⟨z,hd,vs,rel,dd⟩:=Jj I.aA e;let⟨w',hw,rw'⟩:=eA.some_of (v:=v) (o:=valueAt vs k) (by rw[<- l];show rel.val k);have hp:(keyPart u).isSome=true:=by
  cases k with
  | inl i=>let⟨t,q⟩:=(show ∃ t,u=ϊ.int i t from ry);subst q;rfl
  | inr x=>let⟨t,q⟩:=(show ∃ t,u=ϊ.str x t from ry);subst q;rfl
 have ha:argsOk "dict.pop" #[-a::u::more,[]]:=by
  rcases hm with q | ⟨x,q⟩
  ·subst q;show PySem.F.args_dict_pop_2 _ _
  ·subst q;show PySem.F.args_dict_pop_3 _ _ _
 show call_meetsIn _x dd.typeIs PySem.F.entry_dict_pop ha (meets_dict_pop_there (cY X.prog X.w) a (ox ry) more hm hp)
  #[vs,w',dd,by rw[<- rel.length];show z,hw,fun h' dd' hs=>h w' _ ?_ rw']
 have he:∃ q,h'.get? a=!q:=let ⟨q,_,_,hq,_⟩:=dd';#[q,hq]
 show yA I (by rw[e];show True.intro) hs he (JD (wE (IL kvs k) z) hd (rel.drop k) dd')
end
def  By(i:Expr):Prop:=∀ ov iv,subscripted i false ov iv=operate [ov,iv] (getItem ov iv)
def Wt{prog:ύ}{w:World}{A:Around}{E:ϊ->ό->Prop}{s:ό}{env:Env}{value slice:Expr}{pos:Pos}{T id:String}{Q:ϊ->ό->Prop}(hl:typeLookup (.type T) "__getitem__" = pure (!.builtin id))(hs:By slice)(h:wpAny (model prog w) A (eval value env) (fun o s₁=>wpAny (model prog w) A (eval slice env) (fun i s₂=>s₂.TypeIs o T/\wpAny (model prog w) A (getItem o i) Q E s₂) E s₁) E s) :
  wpAny (model prog w) A (eval (.Subscript value slice pos) env) Q E s:=by
 show Subscript_ (KB h (fun o s₁ h₁=>KB h₁ (fun i s₂ h₂=>?_) fun _ _ x=>x) fun _ _ x=>x);let⟨hT,h₂⟩:=h₂;unfold subscriptTail;show ii ?_;rw[getitemInPython_of_ne hT.not_modules];show ii (wpAny_specialOf hT hl ?_);have fin:wpAny (model prog w) A (subscripted slice false o i) (fun r s₃=>wpAny (model prog w) A (letTemporaryGo value o r >>= fun _=>pure r) Q E s₃) E s₂:=by
  rw[hs o i];show wpAny_operating (KB h₂ (fun r s₃ h₃=>ii (wpAny_letTemporaryGo (pc h₃))) fun _ _ x=>x)
 first
  | show pc (ii fin)
  | show ii (pc (ii fin))
  | show ii fin
def RA{X:Cx}{π:List (ϋ×Obj)}{σ:St}{H:Hp}{s:ό}{a:ϋ}{y:V}{o:Option V}(I:Inv X π σ H s)(g:eC H a y o):s.TypeIs (-a) "dict" := by
 rcases g with ⟨kvs,k,e,_,_⟩ | ⟨kvs,k,b,e,_,_,_⟩
 ·let⟨_,_,vs,_,dd⟩:=oB I.aA e;show dd.typeIs
 ·let⟨_,_,xs,_,dd⟩:=ou I.aA e;show dd.typeIs
def  D3(td ty:TE):TE:=fun σ H Q=>td σ H fun x H1=>ty σ H1 fun y H2=>∃ a v,x=-a/\eC H2 a y (!v)/\Q v H2
def  wM(ty td:TE):TE:=fun σ H Q=>ty σ H fun y H1=>td σ H1 fun x H2=>∃ a o,x=-a/\eC H2 a y o/\Q (.bl o.isSome) H2
def  EO(ty td:TE):TE:=fun σ H Q=>ty σ H fun y H1=>td σ H1 fun x H2=>∃ a o,x=-a/\eC H2 a y o/\Q (.bl (Bool.not o.isSome)) H2
def  Dy(td ty tv:TE):TS:=fun D σ H=>tv σ H fun v H1=>td σ H1 fun x H2=>ty σ H2 fun y H3=>∃ a H4,x=-a/\hU H3 a y v H4/\D.nx σ H4
section
variable {X:Cx}{o i e value:Expr}{pos pos' sG:Pos}{td ty tv:TE}
def Yw(hu:X.A.units+1 < cLine)(ho:PE X o td)(hi:PE X i ty)(hs:By i):PE X (.Subscript o i pos) (D3 td ty):=by
 intro π s σ H Q I h;show Wt PySem.F.slot_dict_getitem.lookup hs (aD (ho π s σ H _ I h) fun u s1 #[x,H1,I1,rx,q1]=>aD (hi π s1 σ H1 _ I1 q1) fun iv s2 #[y,H2,I2,ry,a,v,ex,g,q2]=>?_);subst ex;obtain rfl:u=ϊ.ref a:=rx;show#[RA I2 g,UJ hu I2 g ry fun w' s3 I3 rw'=>#[v,H2,I3,rw',q2]]
def Js(hu:X.A.units+1 < cLine)(hi:PE X i ty)(ho:PE X o td):PC X .In i o (wM ty td):=by
 intro π s σ H Q I h;show aD (hi π s σ H _ I h) fun iv s1 #[y,H1,I1,ry,q1]=>aD (ho π s1 σ H1 _ I1 q1) fun u s2 #[x,H2,I2,rx,a,ov,ex,g,q2]=>?_;subst ex;obtain rfl:u=ϊ.ref a:=rx;show aa2 hu I2 g ry fun s3 I3=>#[.bl ov.isSome,H2,I3,rfl,q2]
def abO(hu:X.A.units+1 < cLine)(hi:PE X i ty)(ho:PE X o td):PC X .NotIn i o (EO ty td):=by
 intro π s σ H Q I h;show aD (hi π s σ H _ I h) fun iv s1 #[y,H1,I1,ry,q1]=>aD (ho π s1 σ H1 _ I1 q1) fun u s2 #[x,H2,I2,rx,a,ov,ex,g,q2]=>?_;subst ex;obtain rfl:u=ϊ.ref a:=rx;show adk hu I2 g ry fun s3 I3=>#[.bl (Bool.not ov.isSome),H2,I3,rfl,q2]
def Sk(hu:X.A.units+1 < cLine)(ho:PE X o td)(hi:PE X i ty)(hv:PE X value tv)(hs:swapsWith value (!.Subscript o i pos') pos.line X.env=pure false) :
  PS X (.Assign [.Subscript o i pos'] value pos) (Dy td ty tv):=by
 intro π s σ H D I h;show wpAny_Assign_Subscript (aD (hv π s σ H _ I h) fun r s1 #[v,H1,I1,rv,q1]=>aD (ho π s1 σ H1 _ I1 q1) fun u s2 #[x,H2,I2,rx,q2]=>aD (hi π s2 σ H2 _ I2 q2) fun iv s3 #[y,H3,I3,ry,a,H4,ex,g,q3]=>?_) hs;subst ex;obtain rfl:u=ϊ.ref a:=rx;show Vr hu I3 g ry rv fun s4 I4=>#[σ,H4,I4,q3]
end
def aag{P:ύ}{w:World}{H:Hp}(h:Heap)(hb:sysModules < h.objs.size):bU P w H (h.push { cls:=.type "dict",data:=.dict (List.toArray []) }) h.objs.size (.dK []) :=
 #[At _,Do.mpr (pp (wT hb)),[],.nil,Heap.DictOf.new h]
def Vm{P:ύ}{w:World}{H:Hp}(h:Heap)(hb:sysModules < h.objs.size):bU P w H (h.push { cls:=.type "dict",data:=.dict (List.toArray []) }) h.objs.size (.dT []) :=
 #[At _,Do.mpr (pp (wT hb)),[],.nil,_,(List.toArray []),0,tz _ rfl,#[rfl,rfl,rfl],rfl,rfl,Jah]
def  vF:TE:=fun _ H Q=>∀ p,H p=none->Q (-p) (upd H p (.dK []))
def  AQ:TE:=fun _ H Q=>∀ p,H p=none->Q (-p) (upd H p (.dT []))
section
variable {X:Cx}{pos:Pos}
def V1:PE X (.Dict [] [] pos) vF:=fun π s σ H Q I h =>
 wpAny_Dict_empty #[-s.heap.objs.size,_,I.laid (a:=s.heap.objs.size) (o:=.dK []) (t':=s.toks) (fun _ _ q=>li _ q) (pi _) (aag s.heap I.big),rfl,h _ (I.aA.fresh (pi _))]
def ad1:PE X (.Dict [] [] pos) AQ:=fun π s σ H Q I h =>
 wpAny_Dict_empty #[-s.heap.objs.size,_,I.laid (a:=s.heap.objs.size) (o:=.dT []) (t':=s.toks) (fun _ _ q=>li _ q) (pi _) (Vm s.heap I.big),rfl,h _ (I.aA.fresh (pi _))]
end
def  N1:List (TE×TE)->St->Hp->(List (V×V)->Hp->Prop)->Prop
 | [],_,H,Q=>Q [] H
 | (tk,tv)::r,σ,H,Q=>tk σ H fun x H1=>tv σ H1 fun y H2=>N1 r σ H2 fun ps H3=>Q ((x,y)::ps) H3
abbrev VV:List (V×V)->List (ϊ×ϊ)->Prop:=Paired fun p q=>RelV p.1 q.1/\RelV p.2 q.2
def  Sa(X:Cx)(pos:Pos)(keys:List (Option Expr))(values:List Expr)(trs:List (TE×TE)):Prop :=
 ∀ (π:List (ϋ×Obj)) (s:ό) (σ:St) (H:Hp) (Q:List (V×V)->Hp->Prop),Inv X π σ H s->N1 trs σ H Q ->
  wpAny (model X.prog X.w) X.A (evalPairs (pairTrees keys values X.env pos)) (fun vs s'=>∃ ps H',Inv X π σ H' s'/\VV ps vs/\Q ps H') X.xe s
structure M1(X:Cx)(o:Expr)(m:Str)(apos:Pos)(e:Expr)(bf:Pos):Prop where
 base:attributeBase o m X.env (eval o X.env)=eval o X.env
 zg:((backTo bf (starEach [e] X.env)).all (fun x=>Bool.not x.1) && (backToKw bf (keywordEach [] X.env)).all (fun x=>x.1.isSome)
  && decide (([e]:List Expr).length+([]:List Keyword).length+(if ([]:List Keyword).isEmpty then 0 else 1) < 30))=true
 line:(apos.endLine == bf.line)=true
 trees:backTo bf (starEach [e] X.env)=[(false,eval e X.env)]
structure M2(X:Cx)(o:Expr)(m:Str)(apos:Pos)(e f:Expr)(bf:Pos):Prop where
 base:attributeBase o m X.env (eval o X.env)=eval o X.env
 zg:((backTo bf (starEach [e,f] X.env)).all (fun x=>Bool.not x.1) && (backToKw bf (keywordEach [] X.env)).all (fun x=>x.1.isSome)
  && decide (([e,f]:List Expr).length+([]:List Keyword).length+(if ([]:List Keyword).isEmpty then 0 else 1) < 30))=true
 line:(apos.endLine == bf.line)=true
 trees:backTo bf (starEach [e,f] X.env)=[(false,eval e X.env),(false,eval f X.env)]
def  xO(H:Hp)(a:ϋ):Prop:=(∃ kvs,Rd H a (.dK kvs))\/∃ kvs,Rd H a (.dT kvs)
def Ed{X:Cx}{π:List (ϋ×Obj)}{σ:St}{H:Hp}{s:ό}{a:ϋ}(I:Inv X π σ H s)(d:xO H a) :
  s.TypeIs (-a) "dict" /\ (∀ b,ϊ.ref a=-b->∃ ob,s.heap.get? b=!ob/\ob.dict=none)/\(a == sysModules)=false:=by
 rcases d with ⟨kvs,e⟩ | ⟨kvs,e⟩
 ·let⟨_,hd,vs,_,dd⟩:=oB I.aA e;show#[dd.typeIs,fun b q=>?_,hd];cases q;let⟨ob,_,_,h1,h2,_⟩:=dd;show#[ob,h1,h2.2.1]
 ·let⟨_,hd,xs,_,dd⟩:=ou I.aA e;show#[dd.typeIs,fun b q=>?_,hd];cases q;let⟨ob,_,_,h1,h2,_⟩:=dd;show#[ob,h1,h2.2.1]
section
variable {X:Cx}{π:List (ϋ×Obj)}{σ:St}{H:Hp}{s:ό}{a:ϋ}{y d:V}{u r:ϊ}{o:Option V}{A:Around}{E:ϊ->ό->Prop}
def aek{Q:ϊ->ό->Prop}(hu:A.units+1 < cLine)(I:Inv X π σ H s)(g:eC H a y o)(ry:RelV y u)(h:∀ w' s',Inv X π σ H s'->RelV (o.getD .au) w'->Q w' s') :
  wpAny (model X.prog X.w) A (call (.builtin "dict.get") [-a,u]) Q E s:=by
 rcases g with ⟨kvs,k,e,ey,l⟩ | ⟨kvs,k,b,e,ey,eb,l⟩
 ·subst ey;let⟨z,hd,vs,rel,dd⟩:=oB I.aA e;show call_meetsIn _3 dd.typeIs PySem.F.entry_dict_get (PySem.F.args_dict_get_2 _ _) (meets_dict_get (cY X.prog X.w) a (ox ry) hd) #[_,dd.mapOf,h _ _ (I.tok _) ?_];rw[l];show(rel.val k).getD rfl
 ·subst ey;cases (show u=ϊ.ref b from ry);let⟨z,hd,xs,rel,dd⟩:=ou I.aA e;show call_meetsIn _3 dd.typeIs PySem.F.entry_dict_get (PySem.F.args_dict_get_2 _ _) (meetsH_dict_get (tupleKind (cY X.prog X.w)) a b hd) #[_b hu,k,xs,o9 I.aA eb,dd,h _ _ (I.tok _) ?_];rw[l];show(rel.val k).getD rfl
end
def  D5(td ty:TE):TE:=fun σ H Q=>td σ H fun x H1=>∃ a,x=-a/\xO H1 a/\ty σ H1 fun y H2=>∃ o,eC H2 a y o/\Q (o.getD .au) H2
def  E6(td ty:TE):TE:=fun σ H Q=>td σ H fun x H1=>∃ a,x=-a/\xO H1 a/\ty σ H1 fun y H2=>∃ kvs k v,H2 a=!.dK kvs/\y=kV k/\aH kvs k=!v/\Q v (upd H2 a (.dK (fw kvs k)))
section
variable {X:Cx}{o e f:Expr}{apos bf:Pos}{td ty tx:TE}
def U5(hu:X.A.units+1 < cLine)(ho:PE X o td)(he:PE X e ty)(m:M1 X o "get" apos e bf):PE X (.Call (.Attribute o "get" apos) [e] [] bf) (D5 td ty):=by
 intro π s σ H Q I h;show wpAny_Call_method m.base m.zg m.line _o _3 PySem.F.type_dict_get (aD (ho π s σ H _ I h) fun u s1 #[x,H1,I1,rx,a,ex,d,q1]=>?_);subst ex;obtain rfl:u=ϊ.ref a:=rx;let⟨t1,t2,_⟩:=Ed I1 d;show#[t1,t2,?_];rw[m.trees];show Op rfl (TW (On (aD (he π s1 σ H1 _ I1 q1) fun iv s2 #[y,H2,I2,ry,ov,g,q2]=>Pi ?_)));show aek hu I2 g ry fun w' s3 I3 rw'=>#[_,H2,I3,rw',q2]
def Zb(ho:PE X o td)(he:PE X e ty)(m:M1 X o "pop" apos e bf):PE X (.Call (.Attribute o "pop" apos) [e] [] bf) (E6 td ty):=by
 intro π s σ H Q I h;show wpAny_Call_method m.base m.zg m.line _o _x PySem.F.type_dict_pop (aD (ho π s σ H _ I h) fun u s1 #[x,H1,I1,rx,a,ex,d,q1]=>?_);subst ex;obtain rfl:u=ϊ.ref a:=rx;let⟨t1,t2,_⟩:=Ed I1 d;show#[t1,t2,?_];rw[m.trees];show Op rfl (TW (On (aD (he π s1 σ H1 _ I1 q1) fun iv s2 #[y,H2,I2,ry,kvs,k,v,ea,ey,l,q2]=>Pi ?_)));subst ey;show UQ I2 ea ry l (.inl rfl) fun w' s3 I3 rw'=>#[v,_,I3,rw',q2]
end
section
variable {X:Cx}{π:List (ϋ×Obj)}{σ:St}{H:Hp}{s:ό}{a:ϋ}{kvs:List (Key×V)}{A:Around}{E:ϊ->ό->Prop}
end
section
variable {X:Cx}{π:List (ϋ×Obj)}{σ:St}{H:Hp}{s:ό}{a:ϋ}{y:V}{u:ϊ}{A:Around}{E:ϊ->ό->Prop}
end
end L2
namespace Att
open PySem PySem.W PySem.Calls PyProof.Rows
def abh{P:Params}{h:Heap}:∀ (ns:List Int) (vs:List ϊ),WellAll P h vs (ns.map WData.int)->IntsAre vs ns:=by
 intro ns
 induction ns with
 | nil =>
  intro vs w;rw[List.map_nil]at w;cases w;show .nil
 | cons n ns ih =>
  intro vs w;rw[List.map_cons]at w;cases w with
  | cons a b =>
   cases a;show .cons _ _ (ih _ b)
def Zd{l:OpenLaw}{n:Nat}(hn:l.most=!n){P:Params}{h:Heap}{args:List WData}{vals:List ϊ}(nT:l.row.toRowW.claim.pre args=true)(sV:WellAll P h vals args) :
  ∃ a vs ns,vals=[ϊ.ref a]/\args=[WData.list (ns.map WData.int)]/\h.get? a=!{ cls:=.type "list",data:=.seq vs.toArray }/\IntsAre vs ns/\ns.length<=n:=by
 have mB:WShape.hasAll [] args [.list .int]=true:=(pre_splitW nT).1;have hc:l.pre.holds [] { args:=args }=true:=(pre_splitW nT).2;let⟨d,r,rfl,h1,h2⟩:=hasAllW_cons mB;obtain rfl:=hasAllW_nil h2;let⟨xs,rfl,h3⟩:=hasW_list h1;let⟨ns,rfl⟩:=items_int h3;have hlen:ns.length<=n:=by
  unfold OpenLaw.pre at hc;have h4:(WTm.not (.lt (.lit (.int (n:Int))) (.len (.arg 0)))).holds [] { args:=[.list (ns.map .int)] }=true:=by
   have h4:=(holds_andW hc).1;rw[hn]at h4;show h4
  have h5:=condW_of h4 (w_not (w_lt w_lit (w_len_list (w_arg rfl))));rw[List.length_map]at h5;show Nat.le_of_not_lt fun q=>?_;have q':(n:Int) < ((ns.length:Nat):Int):=∅
  first
   | (rw[decide_eq_true q']at h5;show absurd h5 ⋯)
   | (simp at h5;omega)
 cases sV with
 | cons w1 w2 =>
  cases w2;cases w1 with
  | list ho mx=>show#[_,_,ns,rfl,rfl,ho,abh ns _ mx,hlen]
def ad8(l:OpenLaw)(args:List WData):l.row.toRowW.claim.post args (.bool true) args=true :=
 postW_of (r:=l.row.toRowW) (X:=(true == true))
  (show WShape.has [] (.bool true) .bool=true by first | rfl | decide | simp[WShape.has,WShape.arms,WShape.armsAll])
  (show(WTm.eq .res (.lit (.bool true))).value [] { args:=args,res:=!.bool true,after:=args }=some (.bool (true == true)) from w_eq_bool (w_res rfl) w_lit) rfl
def Sm{l:OpenLaw}{n:Nat}{q:ύ}{loose:List Str}{XP:(Str->Option ϊ)->Heap->Prop}{YP:World->Heap->Prop}{d:DefRec}(hn:l.most=!n)(wc:d.params.defaults=[])(call:∀ (w:World) (s₀ s₁:ό) (mg mb:Str->Option ϊ) (fa:ϋ) (o:Obj) (pm cd doc:ϊ) (a:ϋ) (vs:List ϊ) (ns:List Int),
   Ground q loose [] XP w s₀ mg mb s₁.heap->YP w s₁.heap ->
   s₁.heap.get? fa=!o->o.data=.func (docDef d.name d.params d.body d.scope pm cd doc)->s₁.heap.CodeRec cd d.name->mg d.name=!-fa ->
   s₁.heap.get? a=!{ cls:=.type "list",data:=.seq vs.toArray }->IntsAre vs ns->ns.length<=n->s₁.gens=(List.toArray []) ->
   codeAny (model l.prog w) callerA (.call (-fa) #[[-a],[]]) (fun r s'=>r=.ok (.ret (.bool true))/\OldK s₁.heap s'.heap/\s'.os=s₁.os/\AllBare s'.gens) s₁) :
  WalkO q loose XP YP l.row.toRowW d [] (fun f vs=>PySem.call f vs):=by
 intro w s₀ s₁ mg mb G Y fa o pm cd doc dV kV ho hd bM hD hmg hg args vals as nT hlay g9 sV hlo;obtain rfl:dV=.none:=Dflts.none hD wc;obtain rfl:kV=.none:=Dflts.noKw hD;let⟨a,vs,ns,rfl,rfl,v9,hints,hlen⟩:=Zd hn nT sV;show enter_call (codeAny_mono (call w s₀ s₁ mg mb fa o pm cd doc a vs ns G Y ho (fd_plain hd) bM hmg v9 hints hlen hg) fun r s' hq=>?_);let⟨rfl,h2,h3,h4⟩:=hq;show#[.inl #[.bool true,.bool true,[],rfl,fun _=>rfl,.bool true,ad8 l _,fun _=>#[List.Pairwise.nil,fun _ hm=>(nomatch hm)]],h2,h3,h4]
section
variable {prog:ύ}{w:World}{A:Around}{E:ϊ->ό->Prop}{s:ό}{K:Frag}
end
end Att
namespace L2
open PySem PySem.Spec PyProof.Rows
def Nn:∀ {vs:List ϊ}{ns:List Int},IntsAre vs ns->Vals (ns.map V.int) vs
 | _,_,.nil=>.nil
 | _,_,.cons n t h=>.cons #[t,rfl] (Nn h)
abbrev KOf{K:ν}{h:Heap}(_:K.In h):ν:=K
def  inClass(s:Stmt)(j:Nat):Stmt:=match s with
 | .ClassDef _ _ _ body _ _ _ _ _ _ _=>body.getD j (.Pass #[0,0,0,0])
 | _=>.Pass #[0,0,0,0]
def  eZ(s:Stmt):Arguments:=match s with
 | .FunctionDef _ a _ _ _ _ _ _ _ _=>a
 | _=>{ posonlyargs:=[],args:=[],vararg:=none,kwonlyargs:=[],kw_defaults:=[],kwarg:=none,defaults:=[] }
def  aO(s:Stmt):List Stmt:=match s with
 | .FunctionDef _ _ b _ _ _ _ _ _ _=>b
 | _=>[]
def  ax(s:Stmt):Scope:=match s with
 | .FunctionDef _ _ _ _ _ _ sc _ _ _=>sc
 | _=>{ kind:=.function,names:=[],isGenerator:=false,isCoroutine:=false }
abbrev aN:d8:=fun _ _ _ _ _ _=>False
abbrev E0:XK:=fun _ _ _=>False
def ay{X:Cx}:Passes aN X E0:=fun _ _ _ _ _ _ _ h=>h.elim
structure eW(K:ν)(x qual:Str)(st:Stmt)(f:ϋ)(fd:FuncData):Prop where
 ex:∃ (oc:ϊ) (od:Option ϋ) (kV doc pm:ϊ) (an:Option ϋ) (ah ct:ϊ) (dA:Array (Option ϊ)),
  fd=W.fnOf x qual (eZ st) (aO st) (ax st) .none kV doc pm an ah ct/\K.lookup f=!#[oc,od,.func fd,dA]/\W.codeIn K ah qual=true
 kp:W.keepIn K (-f)=true
section
variable {P:ύ}{w:World}{K:ν}{mg:Str->Option ϊ}{base:Heap}
def eW.ok{x qual:Str}{st:Stmt}{f:ϋ}{fd:FuncData}{N ps:List Str}{k:Nat}{sp:Sp}(F:eW K x qual st f fd)(S:aC N ps (ax st))(len:∀ vs H Q E,sp vs H Q E->vs.length=ps.length)(iw:∀ (ah:ϊ) (A:Around) (outer:List Env) (s:ό) (H:Hp) (vs:List V) (Q:VK) (E:XK),bh k (A.deeper (envOfC qual (ax st) s.heap.objs.size f ah))->sp vs H Q E ->
   ∃ t,dm (cj aN P w K mg base N qual (ax st) f ah A outer s H E).r9 (aO st) t/\t { nx:=fun _ H'=>Q .au H',rt:=Q } (start N vs) H):aB P w K mg base aN (k+1) f fd ps sp:=by
 let⟨oc,od,kV,doc,pm,an,ah,ct,dA,rfl,lk,bM⟩:=F.ex;show wZ lk bM S len fun A outer s H vs Q E hr dF=>?_;let⟨t,h,q⟩:=iw ah A outer s H vs Q E hr dF;show#[t,h.r9,q]
def eW.binds{x qual:Str}{st:Stmt}{f:ϋ}{fd:FuncData}{ps:List Str}(F:eW K x qual st f fd)(h:∀ (kV doc pm:ϊ) (an:Option ϋ) (ah ct:ϊ) (us:List ϊ),us.length=ps.length->bindArgs (W.fnOf x qual (eZ st) (aO st) (ax st) .none kV doc pm an ah ct) #[us,[]]=pure (ps.zip us)):Binds K fd ps []:=by
 let⟨oc,od,kV,doc,pm,an,ah,ct,dA,rfl,lk,bM⟩:=F.ex;show .all (h kV doc pm an ah ct)
def Bs{x qual:Str}{st:Stmt}{f:ϋ}{oc:ϊ}{od an:Option ϋ}{dA:Array (Option ϊ)}{kV doc pm ah ct:ϊ}(l:K.lookup f=!#[oc,od,.func (W.fnOf x qual (eZ st) (aO st) (ax st) .none kV doc pm an ah ct),dA])(c:W.codeIn K ah qual=true)(k:W.keepIn K (-f)=true):eW K x qual st f (W.fnOf x qual (eZ st) (aO st) (ax st) .none kV doc pm an ah ct):=#[#[oc,od,kV,doc,pm,an,ah,ct,dA,rfl,l,c],k]
end
def ei{A:Around}{k:Nat}(hr:bh k A):A.units+1 < cLine:=_c (Nat.add_le_add_left (by decide:1<=64) _) hr.units
def Nd{n:Nat}(h:n<=1000):n < sizeLine:=_c h ⋯
section
variable {X:Cx}
def pv(i:Nat){x:Str}{pos:Pos}(hN:‹X.N[i]?=!x›)(hv:nH X.env.scope x:=by first | show Or.inl rfl | show Or.inr (Or.inl rfl) | show Or.inr (Or.inr rfl))(hd:(x == ("__debug__":Str))=false:=by decide)(bM:(x == ("__classdict__":Str))=false:=by decide):PE X (.Name x pos) (Jt i):=Ca hN hv hd bM
end
def aW{A B:Prop}(h:B):if false=true then A else B:=by
 rw[wP wn];show h
def bE{A B:Prop}(h:A):if true=true then A else B:=by
 rw[xL rfl];show h
def gL{c A B:Prop}[Decidable c](h1:c->A)(h2:¬ c->B):if c then A else B:=by
 by_cases h:c
 ·rw[xL h];show h1 h
 ·rw[wP h];show h2 h
def  aj(H H':Hp):Prop:=∀ b o,H b=!o->H' b=!o
def aj.refl(H:Hp):aj H H:=fun _ _ h=>h
def aj.trans{H H1 H2:Hp}(a:aj H H1)(b:aj H1 H2):aj H H2:=fun c o h=>b c o (a c o h)
def aj.free{H H':Hp}(e:aj H H'){l:ϋ}(h:H' l=Option.none):H l=Option.none:=by
 cases q:H l with
 | none=>rfl
 | some o =>
  rw[e l o q]at h;cases h
def aj.seq{K:ν}{H H':Hp}{a:ϋ}{xs:List V}(e:aj H H')(h:aI K H a xs):aI K H' a xs:=by
 rcases h with (h | ⟨o,h⟩) | h
 ·show .inl (.inl (e _ _ h))
 ·show .inl (.inr #[o,e _ _ h])
 ·show .inr h
section
variable {X:Cx}
end
section
variable {κ:Type}[DecidableEq κ]
end
end L2
namespace Tx
open PySem PySem.Builtin PySem.Builtin.Str PySem.StrLaws
def  S(l:List Nat):Str:=#[l.toArray]
def nQ(l:List Nat):(S l).cps.toList=l:=by simp[S]
def Wi(s:Str):S s.cps.toList=s:=by cases s;simp[S]
def dE(l:List Nat):(S l).length=l.length:=by simp[S,Str.length]
def Ot{a b:List Nat}(h:S a=S b):a=b:=by
 have:=congrArg (fun s=>s.cps.toList) h
 simpa [nQ] using this
def lG(a b:List Nat):S a++S b=S (a++b):=by
 apply Str.ext';rw[Str.cps_append];simp[S]
def oE(c:Nat):(S [c]).length=1:=by rw[dE];rfl
def subAt_one(x:List Nat)(c i:Nat)(h:i < x.length):subAt (S x) (S [c]) i=decide (x[i]?=!c):=by
 rw[subAt_eq,nQ,nQ,oE];rw[List.drop_eq_getElem_cons h,List.take_succ_cons,List.take_zero,List.getElem?_eq_getElem h];by_cases e:x[i]=c
 ·simp[e]
 ·simp[e]
def Xj(x:List Nat)(c:Nat):(Bool.not (occurrences (S x) (S [c]) 0 (S x).length 1).isEmpty)=x.contains c:=by
 rw[Bool.eq_iff_iff,found_iff,oE,dE];constructor
 ·rintro⟨i,h1,h2⟩;rw[subAt_one x c i ∅]at h2;have h3:=of_decide_eq_true h2;show List.elem_iff.mpr (List.mem_of_getElem? h3)
 ·intro h;let⟨i,hi,e⟩:=List.getElem_of_mem (List.elem_iff.mp h);show#[i,∅,?_];rw[subAt_one x c i hi,List.getElem?_eq_getElem hi,e];simp
def  cut(c:Nat):List Nat->List (List Nat)
 | []=>[[]]
 | a::r=>if a=c then []::cut c r else match cut c r with
  | []=>[[a]]
  | h::t=>(a::h)::t
def acx(c:Nat):∀ l,cut c l≠[]
 | []=>by simp[cut]
 | a::r=>by
  unfold cut;split
  ·simp
  ·split <;> simp
def  dh(c:Nat):Nat->List Nat->List Nat
 | _,[]=>[]
 | k,a::r=>if a=c then k::dh c (k+1) r else dh c (k+1) r
def OO(c:Nat):∀ (l:List Nat) (k j:Nat),dh c (k+j) l=(dh c k l).map (· + j)
 | [],_,_=>rfl
 | a::r,k,j=>by
  unfold dh;have e:k+j+1=(k+1)+j:=∅
  rw[e,OO c r (k+1) j];split <;> simp
def CJ(x:List Nat)(c limit:Nat):∀ (l:List Nat) (k:Nat) (acc:Array Nat) (free:Nat),x.drop k=l->free<=k->acc.size+l.length < limit->k<=x.length ->
  (forIn (List.range' k (x.length+1 - k)) (acc,free) (occBody (S x) (S [c]) x.length limit)).run.fst.toList=acc.toList++dh c k l
 | [],k,acc,free,hd,hf,hl,hk=>by
  have hk2:k=x.length:=by
   have:=congrArg List.length hd;simp at this;omega
  have e:x.length+1 - k=1:=∅
  have e1:List.range' k 1=[k]:=rfl;rw[e,e1,List.forIn_cons];unfold occBody;have hc:¬ (((((acc,free):Array Nat×Nat).fst.size < limit/\((acc,free):Array Nat×Nat).snd<=k)/\k+(S [c]).length<=x.length)/\subAt (S x) (S [c]) k=true):=by
   rw[oE];rintro⟨⟨_,h⟩,_⟩;omega
  rw[if_neg hc];simp[dh]
 | a::r,k,acc,free,hd,hf,hl,hk=>by
  have bS:k < x.length:=by
   have:=congrArg List.length hd;simp at this;omega
  have e:x.length+1 - k=(x.length+1 - (k+1))+1:=∅
  have hx:x[k]?=!a:=by
   have h1:(x.drop k)[0]?=!a:=by rw[hd];rfl
   rw[List.getElem?_drop]at h1
   simpa using h1
  have hr:x.drop (k+1)=r:=by
   rw[<- List.drop_drop,hd];rfl
  rw[e,List.range'_succ,List.forIn_cons];unfold occBody;simp only[List.length_cons]at hl;by_cases dC:a=c
  ·have hc:(((((acc,free):Array Nat×Nat).fst.size < limit/\((acc,free):Array Nat×Nat).snd<=k)/\k+(S [c]).length<=x.length)/\subAt (S x) (S [c]) k=true):=by
    rw[oE,subAt_one x c k bS,hx,dC];show#[#[#[?_,hf],∅],()];change acc.size < limit;omega
   rw[if_pos hc];have ih:=CJ x c limit r (k+1) (acc.push k) (k+(S [c]).length) hr (by rw[oE];omega) (by simp;omega) ∅;show Eq.trans ih ?_;rw[show dh c k (a::r)=k::dh c (k+1) r from if_pos dC];simp
  ·have hc:¬ (((((acc,free):Array Nat×Nat).fst.size < limit/\((acc,free):Array Nat×Nat).snd<=k)/\k+(S [c]).length<=x.length)/\subAt (S x) (S [c]) k=true):=by
    rw[subAt_one x c k bS,hx];rintro⟨_,h⟩;show dC (Option.some.inj (of_decide_eq_true h))
   rw[if_neg hc];have ih:=CJ x c limit r (k+1) acc free hr ∅ ∅ ∅;show Eq.trans ih ?_
   conv=>rhs;unfold dh
   rw[if_neg dC]
def Ml(x:List Nat)(c:Nat):occurrences (S x) (S [c]) 0 (S x).length ((S x).length+1)=dh c 0 x:=by
 rw[occ_eq,dE];have h:=CJ x c (x.length+1) x 0 (List.toArray []) 0 rfl (Nat.le_refl _) () (Nat.zero_le _);rw[h];simp
def  pieces(l:List Nat)(ps:List Nat):List (List Nat):=((0::ps.map (· + 1)).zip (ps++[l.length])).map fun p=>(l.drop p.1).take (p.2 - p.1)
def xu(c:Nat):∀ l:List Nat,pieces l (dh c 0 l)=cut c l
 | []=>rfl
 | a::r=>by
  have ih:=xu c r;have sh:dh c (0+1) r=(dh c 0 r).map (· + 1):=OO c r 0 1;have tail:∀ (A B:List Nat),((A.map (· + 1)).zip (B.map (· + 1))).map (fun p:Nat×Nat=>((a::r).drop p.1).take (p.2 - p.1))=(A.zip B).map (fun p:Nat×Nat=>(r.drop p.1).take (p.2 - p.1)):=fun A B=>by
   rw[List.zip_map,List.map_map];show List.map_congr_left fun p _=>?_;change((a::r).drop (p.1+1)).take (p.2+1 - (p.1+1))=_;rw[List.drop_succ_cons]
   congr 1
   omega
  unfold pieces at ih ⊢;unfold dh cut;rw[sh];by_cases h:a=c
  ·rw[if_pos h,if_pos h];have e1:(0::(0::(dh c 0 r).map (· + 1)).map (· + 1))=0::((0::(dh c 0 r).map (· + 1)).map (· + 1)):=rfl;have e2:(0::(dh c 0 r).map (· + 1))++[(a::r).length]=0::((dh c 0 r++[r.length]).map (· + 1)):=()
   rw[e1,e2,List.zip_cons_cons,List.map_cons,tail,ih];simp
  ·rw[if_neg h,if_neg h];have e2:(dh c 0 r).map (· + 1)++[(a::r).length]=(dh c 0 r++[r.length]).map (· + 1):=()
   rw[e2];generalize hB:dh c 0 r++[r.length]=B at ih;cases B with
   | nil=>simp at hB
   | cons b B' =>
    rw[List.zip_cons_cons,List.map_cons]at ih;rw[<- ih];rw[List.map_cons (l:=B'),List.zip_cons_cons,List.map_cons,tail];simp
def RL(x:List Nat)(i j:Nat):strSub (S x) i j=S ((x.drop i).take (j - i)):=by
 rw[<- Wi (strSub (S x) i j),strSub_toList,nQ]
def Ly(x:List Nat)(ps:List Nat):partsBetween (S x) ps 1=(pieces x ps).map S:=by
 unfold partsBetween pieces;rw[List.map_map,dE];show List.map_congr_left fun p _=>?_;show RL x p.1 p.2
def Lu(c:Nat):∀ l:List Nat,dh c 0 l=[]->cut c l=[l]
 | l,h=>by
  have:=xu c l;rw[h]at this;rw[<- this];simp[pieces]
def acO(x:List Nat)(c:Nat)(hc:c < 256):Txt.split (S x) (S [c])=(cut c x).map S:=by
 unfold Txt.split;rw[Ml,oE,Ly,xu];have nop:∀ k,¬ c∈x->dh c k x=[]:=by
  intro k
  induction x generalizing k with
  | nil=>intro _;rfl
  | cons a r ih =>
   intro hm;unfold dh;rw[if_neg (fun e=>hm (by simp[e]))];show ih (k+1) fun m=>hm (List.mem_cons_of_mem _ m)
 by_cases h1:(decide ((S x).length < 1) || decide (PySem.Builtin.Str.strKind (S x) < PySem.Builtin.Str.strKind (S [c])))=true
 ·rw[if_pos h1];have hx:dh c 0 x=[]:=by
   show nop 0 fun m=>?_;rw[dE]at h1;have hk:PySem.Builtin.Str.strKind (S [c])=1:=by unfold PySem.Builtin.Str.strKind S;simp[hc]
   rw[hk]at h1;have hp:¬ x.length < 1:=by cases x with | nil=>simp at m | cons _ _=>simp
   have hq:¬ PySem.Builtin.Str.strKind (S x) < 1:=by unfold PySem.Builtin.Str.strKind;split <;> (try split) <;> omega
   simp[hp,hq]at h1
  rw[Lu c x hx];rfl
 ·rw[if_neg h1];by_cases h2:(dh c 0 x).isEmpty=true
  ·rw[if_pos h2];rw[Lu c x (List.isEmpty_iff.mp h2)];rfl
  ·rw[if_neg h2]
end Tx
namespace L2
open PySem PySem.Spec PyProof.Rows
def  noStar:Expr->Bool
 | .Starred _ _=>false
 | _=>true
def fL{e:Expr}{es:List Expr}{env:Env}(h:noStar e=true):starEach (e::es) env=(false,eval e env)::starEach es env:=by
 cases e <;> first | rfl | cases h
def iP{pos:Pos}{env:Env}:∀ {es:List Expr},es.all noStar=true->(backTo pos (starEach es env)).any (·.1)=false
 | [],_=>rfl
 | e::es,h=>by
  rw[KK,Cl]at h;rw[fL h.1];have ih:=iP (pos:=pos) (env:=env) h.2;change((false || (backTo pos (starEach es env)).any (·.1)))=false;rw[ih];rfl
def Cw{pos:Pos}{env:Env}:∀ {es:List Expr},es.all noStar=true->(backTo pos (starEach es env)).all (fun x=>Bool.not x.1)=true
 | [],_=>rfl
 | e::es,h=>by
  rw[KK,Cl]at h;rw[fL h.1];have ih:=Cw (pos:=pos) (env:=env) h.2;change((true && (backTo pos (starEach es env)).all (fun x=>Bool.not x.1)))=true;rw[ih];rfl
section
variable {X:Cx}
def aaC{e:Expr}{es:List Expr}{te:TE}{t:TA}(ha:PE X e te)(hr:PA X es t)(hs:‹noStar e=true›):PA X (e::es) (oF te t):=Y2 ha hr (fL hs)
def acp{CX:d8}{k:Nat}{f:ϋ}{fd:FuncData}{ps:List Str}{sp:Sp}{bF:List V}{ds:List ϊ}{E:XK}{x:Str}{p pos:Pos}{e:Expr}{es:List Expr}{t:TA}(F:aB X.prog X.w X.K X.mg X.base CX k f fd ps sp)(hr:bh k X.A)(hg:Gl X x)(hm:X.mg x=!-f)(hk:W.keepIn X.K (-f)=true)(hb:Binds X.K fd ps ds)(hd:Vals bF ds)(hx:Passes CX X E)(ha:PA X (e::es) t)(hs:‹(e::es).all noStar=true›)(b7:(x == ("__debug__":Str))=false:=by decide):PE X (.Call (.Name x p) (e::es) [] pos) (yp sp bF E t):=by
 have hs':=hs;rw[KK,Cl]at hs';show YO F hr hg hm hk hb hd hx ha b7 (fL hs'.1) (iP hs'.2)
def abU{x:Str}{p pos:Pos}{e:Expr}{es:List Expr}{t:TA}{id:String}{r:List V->Hp->VK->Prop}(hc:cM X (.builtin id) r)(hg:Gl X x)(hm:X.mg x=none)(hv:bootBuiltins x=!.builtin id)(ha:PA X (e::es) t)(hs:‹(e::es).all noStar=true›)(hn:x ≠ "__name__" := by decide)(b7:(x == ("__debug__":Str))=false:=by decide):PE X (.Call (.Name x p) (e::es) [] pos) (oh r t):=by
 have hs':=hs;rw[KK,Cl]at hs';show ada hc hg hm hv ha hn b7 (fL hs'.1) (iP hs'.2)
def Vk{x:Str}{p pos:Pos}{e:Expr}{es:List Expr}{t:TA}{T:String}{r:List V->Hp->VK->Prop}(hc:cM X (.type T) r)(hg:Gl X x)(hm:X.mg x=none)(hv:bootBuiltins x=!.type T)(ha:PA X (e::es) t)(hs:‹(e::es).all noStar=true›)(hn:x ≠ "__name__" := by decide)(b7:(x == ("__debug__":Str))=false:=by decide):PE X (.Call (.Name x p) (e::es) [] pos) (oh r t):=by
 have hs':=hs;rw[KK,Cl]at hs';show abF hc hg hm hv ha hn b7 (fL hs'.1) (iP hs'.2)
end
section
variable {X:Cx}
def PE.imp{e:Expr}{t t':TE}(h:PE X e t)(i:∀ σ H Q,t' σ H Q->t σ H Q):PE X e t':=fun π s σ H Q I hw=>h π s σ H Q I (i σ H Q hw)
def PS.imp{e:Stmt}{t t':TS}(h:PS X e t)(i:∀ D σ H,t' D σ H->t D σ H):PS X e t':=fun π s σ H D I hw=>h π s σ H D I (i D σ H hw)
def aZ.imp{f:ϊ->ϊ->Sem ϊ}{r r':R2}(h:aZ X f r)(i:∀ x y H Q,r' x y H Q->r x y H Q):aZ X f r':=fun π s σ H x y v u Q I rx ry q=>h π s σ H x y v u Q I rx ry (i x y H Q q)
def cM.imp{f:ϊ}{r r':List V->Hp->VK->Prop}(h:cM X f r)(i:∀ xs H Q,r' xs H Q->r xs H Q):cM X f r':=fun π s σ H xs us Q I rx q=>h π s σ H xs us Q I rx (i xs H Q q)
def  fX(i:Nat):TE:=fun σ H Q=>match σ[i]? with
 | some (!v)=>Q v H
 | _=>False
def qv(i:Nat){x:Str}{pos:Pos}(hN:‹X.N[i]?=!x›)(hv:nH X.env.scope x:=by first | show Or.inl rfl | show Or.inr (Or.inl rfl) | show Or.inr (Or.inr rfl))(hd:(x == ("__debug__":Str))=false:=by decide)(bM:(x == ("__classdict__":Str))=false:=by decide):PE X (.Name x pos) (fX i):=(Ca hN hv hd bM).imp fun σ H Q h=>by
 unfold fX at h;split at h
 ·rename_i v e;show#[v,e,h]
 ·show h.elim
def  DS:R2:=fun x y H Q=>match x,y with
 | .int i,.int j=>Q (.int (i+j)) H
 | .str a,.str b=>a.length+b.length<=sizeLine/\Q (.str (a++b)) H
 | .ref l,-b=>match H l,H b with
  | some (.lst xs),!.lst zs=>xs.length+zs.length<=sizeLine/\∀ p,H p=none->Q (-p) (upd H p (.lst (xs++zs)))
  | _,_=>False
 | _,_=>False
def gO:aZ X (binaryOp .Add) DS:=(Z7.or (Tu.or RD)).imp fun x y H Q h=>by
 unfold DS at h;split at h
 ·show .inl #[_,_,rfl,rfl,h]
 ·show .inr (.inl #[_,_,rfl,rfl,h.1,h.2])
 ·split at h
  ·rename_i xs zs h1 h2;show .inr (.inr #[_,_,xs,zs,rfl,rfl,h1,h2,h.1,h.2])
  ·show h.elim
 ·show h.elim
def  bO(K:ν)(H:Hp)(p:ϋ)(R:List V->Prop):Prop:=match H p with
 | some (.lst xs)=>R xs
 | some (.tup xs)=>R xs
 | _=>∃ xs,(aI K H p xs\/bH K H p xs)/\R xs
def zb{K:ν}{H:Hp}{p:ϋ}{R:List V->Prop}(h:bO K H p R):∃ xs,(aI K H p xs\/bH K H p xs)/\R xs:=by
 unfold bO at h;split at h
 ·rename_i xs e;show#[xs,.inl (aI.of e),h]
 ·rename_i xs e;show#[xs,.inr (bH.of e),h]
 ·show h
def  wI(K:ν)(H:Hp)(p:ϋ)(R:List V->Prop):Prop:=∃ xs,aI K H p xs/\R xs
def DN{K:ν}{H:Hp}{p:ϋ}{R:List V->Prop}(h:wI K H p R):∃ xs,aI K H p xs/\R xs:=h
def  DB(f:Int->Int->Int):R2:=fun x y H Q=>match x,y with
 | .int i,.int j=>Q (.int (f i j)) H
 | _,_=>False
def  rM(C:Int->Int->Prop)(f:Int->Int->Int):R2:=fun x y H Q=>match x,y with
 | .int i,.int j=>C i j/\Q (.int (f i j)) H
 | _,_=>False
def aad:aZ X (binaryOp .Sub) (DB fun i j=>i - j):=aaa.imp fun x y H Q h=>by
 unfold DB at h;split at h
 ·show#[_,_,rfl,rfl,h]
 ·show h.elim
def Bo{C:Int->Int->Prop}{f:Int->Int->Int}{x y:V}{H:Hp}{Q:VK}(h:rM C f x y H Q):rI C (fun i j=>.int (f i j)) x y H Q:=by
 unfold rM at h;split at h
 ·show#[_,_,rfl,rfl,h.1,h.2]
 ·show h.elim
def pf:aZ X (binaryOp .Mod) (rM (fun _ j=>0 < j) fun i j=>i % j):=YF.imp fun _ _ _ _ h=>Bo h
def Bp:aZ X (binaryOp .FloorDiv) (rM NA fun i j=>i / j):=WJ.imp fun _ _ _ _ h=>Bo h
def  qX(neg:Bool):R2:=fun x y H Q=>match x,y with
 | .int i,.int j=>Q (.bl (neg ^^ decide (i=j))) H
 | .str i,.str j=>Q (.bl (neg ^^ decide (i=j))) H
 | .bl i,.bl j=>Q (.bl (neg ^^ decide (i=j))) H
 | _,_=>y9 x y=true/\Q (.bl (neg ^^ decide (x=y))) H
def M8(i j:Int):decide (V.int i=V.int j)=decide (i=j):=by by_cases h:i=j <;> simp[h]
def Nl(i j:Str):decide (V.str i=V.str j)=decide (i=j):=by by_cases h:i=j <;> simp[h]
def JJ(i j:Bool):decide (V.bl i=V.bl j)=decide (i=j):=by by_cases h:i=j <;> simp[h]
def aep:aZ X (compareOp .Eq) (qX false):=Rr.imp fun x y H Q h=>by
 unfold qX at h;simp only[Bool.false_bne]at h;split at h
 ·show#[rfl,by rw[M8];show h]
 ·show#[rfl,by rw[Nl];show h]
 ·show#[rfl,by rw[JJ];show h]
 ·show h
def acS:aZ X (compareOp .NotEq) (qX true):=Xl.imp fun x y H Q h=>by
 unfold qX at h;simp only[Bool.true_bne]at h;split at h
 ·show#[rfl,by rw[M8];show h]
 ·show#[rfl,by rw[Nl];show h]
 ·show#[rfl,by rw[JJ];show h]
 ·show h
def  iW(f:Int->Int->Bool):R2:=fun x y H Q=>match x,y with
 | .int i,.int j=>Q (.bl (f i j)) H
 | _,_=>False
def CY{f:Int->Int->Bool}{x y:V}{H:Hp}{Q:VK}(h:iW f x y H Q):mR (fun i j=>.bl (f i j)) x y H Q:=by
 unfold iW at h;split at h
 ·show#[_,_,rfl,rfl,h]
 ·show h.elim
def oT:aZ X (compareOp .Lt) (iW fun i j=>decide (i < j)):=Va.imp fun _ _ _ _ h=>CY h
def qS:aZ X (compareOp .LtE) (iW fun i j=>decide (i<=j)):=UL.imp fun _ _ _ _ h=>CY h
def DM:aZ X (compareOp .Gt) (iW fun i j=>decide (j < i)):=VT.imp fun _ _ _ _ h=>CY h
def  xD(K:ν):R2:=fun x y H Q=>match x,y with
 | .str i,.str j=>Q (.bl (Bool.not (Builtin.Str.occurrences j i 0 j.length 1).isEmpty)) H
 | _,-p=>bO K H p fun xs=>cH x=true/\xs.all cH=true/\Q (.bl (gE x xs)) H
 | _,_=>False
def abd:aZ X (compareOp .In) (xD X.K):=(UW.or Jk).imp fun x y H Q h=>by
 unfold xD at h;split at h
 ·show .inl #[_,_,rfl,rfl,h]
 ·let⟨xs,h1,h2,h3,h4⟩:=zb h;show .inr #[_,xs,rfl,h1,h2,h3,h4]
 ·show h.elim
def  jx(t:TE):TT:=fun σ H Q=>t σ H fun x H'=>match x with
 | .bl k=>Q k H'
 | _=>False
def C6{x:V}{H:Hp}{Q:Bool->Hp->Prop}(h:(match x with | .bl k=>Q k H | _=>False)):∃ k,x=.bl k/\Q k H:=by
 split at h
 ·show#[_,rfl,h]
 ·show h.elim
def U1{op:CmpOp}{r:R2}{a b:Expr}{ta tb:TE}{pos:Pos}(ho:aZ X (compareOp op) r)(ha:PE X a ta)(hb:PE X b tb)(hm:behindInMarks op b=false:=by first | show uQ _ ⋯ ⋯ | rfl) :
  PT X (.Compare a [op] [b] pos) (jx (jg r ta tb)):=by
 intro π s σ H Q I h;show wpAny_isTrue_Compare1 ?_ hm;show aD (ha π s σ H _ I h) fun v s1 #[x,H1,I1,r1,q1]=>aD (hb π s1 σ H1 _ I1 q1) fun u s2 #[y,H2,I2,r2,q2]=>?_;show aD (ho π s2 σ H2 x y v u _ I2 r1 r2 q2) fun c s3 #[z,H3,I3,r3,q3]=>?_;let⟨k,rfl,q⟩:=C6 q3;cases r3;show PP #[H3,I3,q]
def XZ{e:Expr}{t:TE}(h:PE X e t)(he:∀ whole,isTrue e X.env whole=(do let v <- whole;standAt e.pos;holding [v] (truthy v)):=by intro _;rfl):PT X e (jx t):=by
 intro π s σ H Q I hw;show isTrue_plain (aD (h π s σ H _ I hw) fun v s1 #[x,H1,I1,r1,q1]=>?_) (he _);let⟨d,rfl,q⟩:=C6 q1;cases r1;show PP #[H1,I1,q]
def  AF(f g:Int->Int->Bool)(ta tb tc:TE):TT:=fun σ H Q=>ta σ H fun x H1=>tb σ H1 fun y H2=>match x,y with
 | .int i,.int j=>if f i j=true then tc σ H2 fun z H3=>(match z with | .int k=>Q (g j k) H3 | _=>False) else Q false H2
 | _,_=>False
def  EX(ta tb:TE):TE:=fun σ H Q=>ta σ H fun x H1=>match x with
 | .bl c=>if c=true then tb σ H1 Q else Q (.bl false) H1
 | _=>False
def  DL(ta tb:TE):TE:=fun σ H Q=>ta σ H fun x H1=>match x with
 | .bl c=>if c=true then Q (.bl true) H1 else tb σ H1 Q
 | _=>False
def  DF(ta:TE):TE:=fun σ H Q=>ta σ H fun x H1=>match x with
 | .bl c=>Q (.bl (Bool.not c)) H1
 | _=>False
variable {a b:Expr}{ta tb:TE}{pos:Pos}{rest:List Expr}
def adE(ha:PE X a ta)(hb:PE X (.BoolOp .And (b::rest) pos) tb):PE X (.BoolOp .And (a::b::rest) pos) (EX ta tb):=by
 intro π s σ H Q I h;show BoolOp_and (aD (ha π s σ H _ I h) fun v s1 #[x,H1,I1,r1,q1]=>?_);have q1':∃ c,x=.bl c/\if c=true then tb σ H1 Q else Q (.bl false) H1:=by
  dsimp only at q1;split at q1
  ·show#[_,rfl,q1]
  ·show q1.elim
 let⟨c,rfl,q1⟩:=q1';cases r1;show PP ?_;cases c with
 | true=>show hb π s1 σ H1 Q I1 q1
 | false=>show#[.bl false,H1,I1,rfl,q1]
def SO(ha:PE X a ta)(hb:PE X (.BoolOp .Or (b::rest) pos) tb):PE X (.BoolOp .Or (a::b::rest) pos) (DL ta tb):=by
 intro π s σ H Q I h;show BoolOp_or (aD (ha π s σ H _ I h) fun v s1 #[x,H1,I1,r1,q1]=>?_);have q1':∃ c,x=.bl c/\if c=true then Q (.bl true) H1 else tb σ H1 Q:=by
  dsimp only at q1;split at q1
  ·show#[_,rfl,q1]
  ·show q1.elim
 let⟨c,rfl,q1⟩:=q1';cases r1;show PP ?_;cases c with
 | false=>show hb π s1 σ H1 Q I1 q1
 | true=>show#[.bl true,H1,I1,rfl,q1]
def  xF:V->ϊ
 | .ty n=>.type n
 | .ref a=>-a
 | _=>.none
def aay:cM X (.builtin "isinstance") (fun xs H Q=>∃ x cV t b,xs=[x,cV]/\((∃ n,cV=.ty n)\/∃ a,cV=-a)/\fW X.K H x t/\W.kitOne X.K t (xF cV)=!b/\Q (.bl b) H):=by
 intro π s σ H xs us Q I r h;let⟨x,cV,t,b,rfl,hc,ty,e,q⟩:=h;let⟨u,c',rfl,ru,rc'⟩:=vals2 r;have ec:c'=xF cV:=by
  rcases hc with ⟨n,rfl⟩ | ⟨a,rfl⟩
  ·show rc'
  ·show rc'
 subst ec;show Ax I ru ty e fun tk=>#[.bl b,H,I.tok tk,rfl,q]
end
section
variable {X:Cx}
def  Ef:V->List V->Hp->VK->Prop:=fun x xs H Q=>match x,xs with
 | .str a,[.str b]=>Q (.bl (Txt.startswith a b)) H
 | _,_=>False
def adI:ef X "str.startswith" Ef:=by
 intro π s σ H x xs v us Q I rx r h;unfold Ef at h;split at h
 ·rename_i a b;let⟨t,rfl⟩:=rx;let⟨u,rfl,t',rfl⟩:=vals1 r;show Wp F.slot_str_startswith (_C s a t) F.entry_str_startswith (F.args_str_startswith_2 _ _) (gives_str_startswith a b t t').meets #[.bl _,H,I,rfl,h]
 ·show h.elim
def  BP:V->List V->Hp->VK->Prop:=fun x xs H Q=>match x,xs with
 | .str a,[.str b]=>Q (.bl (Txt.endswith a b)) H
 | _,_=>False
def aaf:ef X "str.endswith" BP:=by
 intro π s σ H x xs v us Q I rx r h;unfold BP at h;split at h
 ·rename_i a b;let⟨t,rfl⟩:=rx;let⟨u,rfl,t',rfl⟩:=vals1 r;show Wp F.slot_str_endswith (_C s a t) F.entry_str_endswith (F.args_str_endswith_2 _ _) (gives_str_endswith a b t t').meets #[.bl _,H,I,rfl,h]
 ·show h.elim
def Kh:∀ (l:List (Str×Tok)),Vals ((l.map (·.1)).map V.str) (strValues l)
 | []=>.nil
 | p::r=>.cons #[p.2,rfl] (Kh r)
def yU:∀ {ts:List Str}{us:List ϊ},Vals (ts.map V.str) us->∃ l:List (Str×Tok),us=strValues l/\l.map (·.1)=ts
 | [],_,.nil=>#[[],rfl,rfl]
 | t::r,_,.cons h h'=>by
  let⟨k,rfl⟩:=h;let⟨l,e1,e2⟩:=yU h';show#[(t,k)::l,by rw[e1];rfl,by rw[<- e2];rfl]
def  Au:V->List V->Hp->VK->Prop:=fun x xs H Q=>match x,xs with
 | .str a,[.str b]=>(b.length == 0)=false/\a.length<=sizeLine/\(Builtin.Str.partsBetween a (Builtin.Str.occurrences a b 0 a.length (a.length+1)) b.length).length<=sizeLine /\
   ∀ l,H l=none->Q (-l) (upd H l (.lst ((Txt.split a b).map V.str)))
 | _,_=>False
def ZO:ef X "str.split" Au:=by
 intro π s σ H x xs v us Q I rx r h;unfold Au at h;split at h
 ·rename_i a b;let⟨hy,hx,hn,q⟩:=h;let⟨t,rfl⟩:=rx;let⟨w',rfl,u,rfl⟩:=vals1 r;have fin:∀ (l:List (Str×Tok)) (tk:Nat),l.map (·.1)=Txt.split a b->l.length<=sizeLine ->
    EP X π σ Q (-s.heap.objs.size) { s with heap:=s.heap.push { cls:=.type "list",data:=.seq (strValues l).toArray },toks:=tk }:=fun l tk e hz =>
   #[-_,_,I.laid (t':=tk) (o:=.lst ((Txt.split a b).map V.str)) (fun b' o' q'=>li _ q') (pi _)
    #[by rw[lv,<- e,lv];show hz,strValues l,0,by rw[<- e];show Kh l,tz _ rfl],rfl,q _ (I.aA.fresh (pi _))]
  cases h1:(decide (a.length < b.length) || decide (Builtin.Str.strKind a < Builtin.Str.strKind b))
  ·cases hf:(Builtin.Str.occurrences a b 0 a.length (a.length+1)).isEmpty
   ·show Wp F.slot_str_split (_C s a t) F.entry_str_split (Jai _ _) (meets_str_split_sep a b t u h1 hy hf hx hn) ?_;have e:Txt.split a b=Builtin.Str.partsBetween a (Builtin.Str.occurrences a b 0 a.length (a.length+1)) b.length:=(wP (Ja9 h1)).trans (wP (Ja9 hf));have z:=fin (numbered s.toks (Builtin.Str.partsBetween a (Builtin.Str.occurrences a b 0 a.length (a.length+1)) b.length)) (s.toks+(Builtin.Str.partsBetween a (Builtin.Str.occurrences a b 0 a.length (a.length+1)) b.length).length)
     ((numbered_texts _ _).trans e.symm) (by
      have:=KM List.length (numbered_texts s.toks (Builtin.Str.partsBetween a (Builtin.Str.occurrences a b 0 a.length (a.length+1)) b.length));rw[lv]at this;rw[this];show hn)
    rw[<- strsFrom_eq]at z;show z
   ·show Wp F.slot_str_split (_C s a t) F.entry_str_split (Jai _ _) (meets_str_split_not_found a b t u h1 hy hf)
     (fin [(a,t)] s.toks ((wP (Ja9 h1)).trans (xL hf)).symm (by change 1<=sizeLine;decide))
  ·show Wp F.slot_str_split (_C s a t) F.entry_str_split (Jai _ _) (meets_str_split_cannot_occur a b t u h1)
    (fin [(a,t)] s.toks (xL h1).symm (by change 1<=sizeLine;decide))
 ·show h.elim
def  rJoin(K:ν):V->List V->Hp->VK->Prop:=fun x xs H Q=>match x,xs with
 | .str a,[-p]=>wI K H p fun xs=>∃ ts:List Str,xs=ts.map V.str/\ts.foldl (fun n z=>n+z.length+a.length) 0<=sizeLine/\Q (.str (Str.join a ts)) H
 | _,_=>False
def UY:ef X "str.join" (rJoin X.K):=by
 intro π s σ H x xs v us Q I rx r h;unfold rJoin at h;split at h
 ·rename_i a p;let⟨xs,hq,ts,rfl,hz,q⟩:=DN h;let⟨t,rfl⟩:=rx;let⟨w',rfl,e⟩:=vals1 r;cases e;let⟨aq,rv,pl,hl⟩:=I.list hq;let⟨l,rfl,e2⟩:=yU rv;have GB:Builtin.Str.tooLong ((l.map (·.1)).toArray.foldl (· + ·.length+a.length) 0)=false:=by
   unfold Builtin.Str.tooLong;show mo (Nat.not_lt.mpr ?_);rw[List.foldl_toArray,e2];show hz
  show Wp F.slot_str_join (_C s a t) F.entry_str_join (F.args_str_join_2 _ _) (meets_str_join_list a t p l GB) #[pl.isList,?_];have hlen:(Builtin.Str.glued a (l.map (·.1))).length<=sizeLine:=by
   rw[e2,StrLaws.glued_eq_join];show wE ?_ hz;have:∀ (us:List Str) (n:Nat),n+(Str.join a us).length<=us.foldl (fun n z=>n+z.length+a.length) n:=by
    intro us
    induction us with
    | nil=>intro n;show pi _
    | cons y r ih =>
     intro n;cases r with
     | nil=>change n+y.length<=n+y.length+a.length;omega
     | cons z r' =>
      have h1:(Str.join a (y::z::r')).length=y.length+a.length+(Str.join a (z::r')).length:=by
       change((y++a)++Str.join a (z::r')).length=_;rw[Str.length_append,Str.length_append]
      have h2:=ih (n+y.length+a.length);rw[h1];show wE ?_ h2;omega
   have h0:=this ts 0;omega
  have e3:Builtin.Str.glued a (l.map (·.1))=Str.join a ts:=by rw[e2,StrLaws.glued_eq_join]
  match l,e2,e3,hlen with
  | [],e2,e3,hlen=>show#[hlen,#[.str (Str.join a ts),H,I.tok _,#[_,by rw[e3]],q]]
  | [p],e2,e3,hlen =>
   have e4:Str.join a ts=p.1:=by rw[<- e2];rfl
   show#[.str (Str.join a ts),H,I.tok _,#[_,by rw[e4]],q]
  | p1::p2::r',e2,e3,hlen=>show#[hlen,#[.str (Str.join a ts),H,I.tok _,#[_,by rw[e3]],q]]
 ·show h.elim
def ID{v:ϊ}{o:Option Int}(p:IsPart v o):∃ l:Option (Int×Tok),v=partValue l/\l.map (·.1)=o:=by
 cases p with
 | none=>show#[none,rfl,rfl]
 | int i t=>show#[!(i,t),rfl,rfl]
def  NG:V->Option Int->Option Int->Hp->VK->Prop:=fun x lo hi H Q=>match x with
 | .str z=>z.length<=sizeLine/\Q (.str (Txt.slice z lo hi)) H
 | _=>False
def Yp:jV X NG:=by
 intro π s σ H x v vl vu lo hi sl Q I rx hs pl pu h;unfold NG at h;split at h
 ·rename_i z;let⟨hz,q⟩:=h;let⟨t,rfl⟩:=rx;let⟨l,rfl,rfl⟩:=ID pl;let⟨u,rfl,rfl⟩:=ID pu;show#["str",_,F.slot_str_getitem.lookup,_C _ _ _,wpAny_getItem_str_slice (l:=l) (u:=u) (st:=none) hs rfl
   (post_val_or_str #[wE (Txt.slice_le z _ _) hz,fun t' k=>?_])]
  show#[.str (Txt.slice z (l.map (·.1)) (u.map (·.1))),H,I.tok k,#[t',rfl],q]
 ·show h.elim
def  B5:R2:=fun x y H Q=>match x,y with
 | .int i,.int j=>zi i j/\Q (.int (i * j)) H
 | .str z,.int n=>MulOk z n/\Q (.str (Txt.mul z n)) H
 | .ref l,.int k=>match H l with
  | some (.lst xs)=>(unop% Neg.neg ((2 ^ 63)))<=k/\k < 2 ^ 63/\xs.length * k.toNat<=sizeLine/\∀ p,H p=none->Q (-p) (upd H p (.lst (List.replicate k.toNat xs).flatten))
  | _=>False
 | _,_=>False
def abb:aZ X (binaryOp .Mult) (fun x y H Q=>∃ z n,x=.str z/\y=.int n/\MulOk z n/\Q (.str (Txt.mul z n)) H):=by
 intro π s σ H x y v u Q I rx ry h;let⟨z,n,rfl,rfl,hm,q⟩:=h;let⟨t,rfl⟩:=rx;let⟨t',rfl⟩:=ry;show SB.mul hm fun t2 k=>#[.str _,H,I.tok _,#[_,rfl],q]
def yK:aZ X (binaryOp .Mult) B5:=(adX.or (abb.or S5)).imp fun x y H Q h=>by
 unfold B5 at h;split at h
 ·show .inl #[_,_,rfl,rfl,h.1,h.2]
 ·show .inr (.inl #[_,_,rfl,rfl,h.1,h.2])
 ·split at h
  ·rename_i xs h1;let⟨h2,h3,h4,h5⟩:=h;show .inr (.inr #[_,_,xs,rfl,rfl,h1,h2,h3,h4,h5])
  ·show h.elim
 ·show h.elim
def JV:∀ {bs:List Bool}{us:List ϊ},Vals (bs.map V.bl) us->us=bs.map ϊ.bool
 | [],_,.nil=>rfl
 | b::r,_,.cons h h'=>by
  have h:_=ϊ.bool b:=h;rw[h,JV h'];rfl
def all_range(bs:List Bool):(List.range bs.length).all (fun j=>bs.getD j true)=bs.all id:=by
 rw[_f,Da,Da];constructor
 ·intro h b hb;let⟨i,hi,e⟩:=_l hb;have:=h i (Jaf.mpr hi);rw[_D,sw hi,e]at this;show this
 ·intro h j hj;have hj:=Jaf.mp hj;rw[_D,sw hj];show h _ (_8 hj)
def acH(hc:X.calm=true):cM X (.builtin "all") (fun xs H Q=>∃ (p:ϋ) (bs:List Bool),xs=[-p]/\aI X.K H p (bs.map V.bl)/\Q (.bl (bs.all id)) H):=by
 intro π s σ H xs us Q I r h;let⟨p,bs,rfl,hq,q⟩:=h;let⟨u,rfl,e⟩:=vals1 r;cases e;let⟨aq,rv,pl,hz⟩:=I.list hq;have eb:=JV rv;subst eb;have bD:p < s.heap.objs.size:=pl.lt;show call_all_walk (wpAny_pyIter_list pl.isList ?_);show#[s.heap.objs.size,_,_,_,_,_,fun j=>bs.getD j true,rfl,Walks.list (A:=X.A.in1) (show X.A.in1.handled=none from I.ok.hd hc) _ p (wT bD) (bs.map ϊ.bool).toArray,#[#[_,tz _ rfl,rfl,rfl],pl.isList.push _],?_,?_]
 ·intro i v s' Q' E' hP hQ;have hi:bs[i]?=!bs.getD i true/\v=.bool (bs.getD i true):=by
   have hP:(bs.map ϊ.bool).toArray[i]?=!v:=hP;rw[List.getElem?_toArray,xz]at hP;cases e:bs[i]? with
   | none=>rw[e]at hP;cases hP
   | some b =>
    rw[e]at hP;have:bs.getD i true=b:=by rw[_D,e];rfl
    rw[this];show#[rfl,(Fk hP).symm]
  rw[hi.2];show PP hQ
 ·intro h' tk hk;have e:(List.range (bs.map ϊ.bool).toArray.size).all (fun j=>bs.getD j true)=bs.all id:=by
   rw[ss,lv];show all_range bs
  rw[e];show#[.bl (bs.all id),H,I.kept (t':=tk) (fun b o eo=>?_),rfl,q];show hk b o ?_ (li _ eo);intro hm;have e1:b=s.heap.objs.size:=by simpa using hm
  show absurd (sB eo) (by rw[e1];show Ix _)
def  yZ(x:Str):It:=#[fun i _=>i < x.length,fun i H y H'=>H'=H/\∃ c,x.cps[i]?=!c/\y=.str #[(List.toArray [c])],fun i _=>x.length<=i]
def LW{P:ύ}{w:World}{K:ν}{tg:Expr}{x:Str}{t:Tok}{ty:String}(it:ϋ)(cU:["enumerate","zip","dict_itemiterator","dict_reverseitemiterator","odict_iterator","itertools.zip_longest","itertools.pairwise"].contains ty=false)(W:∀ A:Around,A.handled=none->Walks P w A it [it] [it] x.cps.size (SignAt x) (fun i h=>h.IsStrIter it ty x t i))(W0:∀ (A:Around) (i:Nat) (s:ό) (Q:ϊ->ό->Prop) (E:ϊ->ό->Prop),s.heap.IsStrIter it ty x t i->Q (-it) s->wpAny (model P w) A (pyIter (-it)) Q E s) :
  Turn P w K tg (yZ x) [it] it (fun i h=>i<=x.length/\h.IsStrIter it ty x t i) where
 mem:=()
 obj:=fun i h st b hb=>by
  have e:b=it:=by simpa using hb
  subst e;let⟨_,o,e,c,d⟩:=st;show#[o,e,fun v z=>by rw[d]at z;cases z]
 keep:=fun i h h' st k=>#[st.1,let ⟨o,ho,r⟩:=st.2;#[o,k it () o ho,r]]
 item:=by
  intro X hP hw hK hc i π s σ H E I hf st hg;subst hP hw hK;let⟨f0,f1,f2,f3,f4,f5⟩:=hf it ();show(W X.A (I.ok.hd hc)).item i s _ E hg st.2 fun v h' tk hv st' hk=>?_;let⟨c,u,F8,rfl⟩:=hv;have I1:Inv X π σ H { s with heap:=h',toks:=tk }:=I.turned (t':=tk) (fun b o hb e=>hk b o (by simpa using hb) e) f0 f1 f3 f4 f5;let⟨o,e,cc,d⟩:=id st';show#[_,rfl,xo (s:={ s with heap:=h',toks:=tk }) e cc d cU #[.str #[(List.toArray [c])],H,I1,#[u,rfl],#[rfl,c,F8,rfl],#[hg,st'],fun b hb=>(hf b hb).1]]
 done:=by
  intro X hP hw hK hc i π s σ H E I hf st hg;subst hP hw hK;let⟨f0,f1,f2,f3,f4,f5⟩:=hf it ();have hi:i=x.cps.size:=Nat.le_antisymm st.1 hg;subst hi;show(W X.A (I.ok.hd hc)).done s _ E st.2 fun h' tk hk=>#[rfl,I.turned (t':=tk) (fun b o hb e=>hk b o (by simpa using hb) e) f0 f1 f3 f4 f5]
 self:=fun A i s Q E st h=>W0 A i s Q E st.2 h
def  Fj(tl:TE):TI:=fun σ H R=>tl σ H fun x H1=>match x with
 | .str z=>R (yZ z) H1
 | _=>False
def Sx{tg l:Expr}{tl:TE}(hl:PE X l tl):PI X tg l (Fj tl):=by
 intro π s σ H R I h;show aD (hl π s σ H _ I h) fun v s1 #[x,H1,I1,r1,q1]=>?_;have q1':∃ z,x=.str z/\R (yZ z) H1:=by
  dsimp only at q1;split at q1
  ·show#[_,rfl,q1]
  ·show q1.elim
 let⟨z,rfl,q⟩:=q1';let⟨t,rfl⟩:=r1;have fp:∀ b∈[s1.heap.objs.size],kb X π H1 b:=fun b hb=>by
  have e:b=s1.heap.objs.size:=by simpa using hb
  subst e;show I1.yg (pi _) (I1.aA.fresh (pi _))
 cases ha:z.cps.all (· < 128)
 ·show wpAny_pyIter_wide ha #[s1.heap.objs.size,[s1.heap.objs.size],_,_,H1,rfl,I1.kept (t':=s1.toks) fun b o e=>li _ e,
   LW (ty := "str_iterator") (t:=t) _ ⋯ (fun A hA=>Walks.strWide hA _ z t) (fun A i s Q E st h=>wpAny_pyIter_striter_wide st h),#[At _,_,tz _ rfl,rfl,rfl],fp,q]
 ·show wpAny_pyIter_ascii ha #[s1.heap.objs.size,[s1.heap.objs.size],_,_,H1,rfl,I1.kept (t':=s1.toks) fun b o e=>li _ e,
   LW (ty := "str_ascii_iterator") (t:=t) _ ⋯ (fun A hA=>Walks.strAscii hA _ z t) (fun A i s Q E st h=>wpAny_pyIter_striter_ascii st h),#[At _,_,tz _ rfl,rfl,rfl],fp,q]
end
section
variable {X:Cx}{a b c:Expr}{ta tb tc:TE}{pos:Pos}
def Yl(ha:PE X a ta):PE X (.UnaryOp .Not a pos) (DF ta):=by
 intro π s σ H Q I h;show UnaryOp_ (aD (ha π s σ H _ I h) fun v s1 #[x,H1,I1,r1,q1]=>?_);have q1':∃ k,x=.bl k/\Q (.bl (Bool.not k)) H1:=by
  dsimp only at q1;split at q1
  ·show#[_,rfl,q1]
  ·show q1.elim
 let⟨k,rfl,z1⟩:=q1';cases r1;show not_of (PP #[.bl (Bool.not k),H1,I1,rfl,z1])
def abo{op op':CmpOp}{f g:Int->Int->Bool}(ho:aZ X (compareOp op) (iW f))(ho':aZ X (compareOp op') (iW g))(ha:PE X a ta)(hb:PE X b tb)(hc:PE X c tc)(hm:lastMarks [op,op'] [b,c]=false:=by with_unfolding_all rfl):PT X (.Compare a [op,op'] [b,c] pos) (AF f g ta tb tc):=by
 intro π s σ H Q I h;show isTrue_chain (aD (ha π s σ H _ I h) fun v s1 ⟨x,H1,I1,r1,q1⟩=>test_link (aD (hb π s1 σ H1 _ I1 q1) fun u s2 ⟨y,H2,I2,r2,q2⟩=>?_)) hm;have q2':∃ i j,x=.int i/\y=.int j/\if f i j=true then tc σ H2 (fun z H3=>(match z with | .int k=>Q (g j k) H3 | _=>False)) else Q false H2:=by
  dsimp only at q2;split at q2
  ·show#[_,_,rfl,rfl,q2]
  ·show q2.elim
 let⟨i,j,rfl,rfl,z2⟩:=q2';show aD (ho π s2 σ H2 (.int i) (.int j) v u (fun z H3=>z=.bl (f i j)/\H3=H2) I2 r1 r2 #[rfl,rfl]) fun d s3 ⟨z,H3,I3,r3,e,e'⟩=>?_;subst e e';cases r3;show PP ?_;cases hf:f i j with
 | false =>
  rw[hf]at z2;show ite_ff #[H3,I3,z2]
 | true =>
  rw[hf,xL rfl]at z2;show ite_tt (test_last (aD (hc π s3 σ H3 _ I3 z2) fun w' s4 ⟨z',H4,I4,r4,q4⟩=>?_));have q4':∃ k,z'=.int k/\Q (g j k) H4:=by
   dsimp only at q4;split at q4
   ·show#[_,rfl,q4]
   ·show q4.elim
  let⟨k,rfl,z4⟩:=q4';show aD (ho' π s4 σ H4 (.int j) (.int k) u w' (fun z H5=>z=.bl (g j k)/\H5=H4) I4 r2 r4 #[rfl,rfl]) fun d' s5 ⟨z2,H5,I5,r5,e,e'⟩=>?_;subst e e';cases r5;show PP #[H5,I5,z4]
def  xI(K:ν):List V->Hp->VK->Prop:=fun xs H Q=>match xs with
 | [.str y]=>y.length<=sizeLine/\Q (.int y.length) H
 | [-p]=>bO K H p fun ys=>Q (.int ys.length) H
 | _=>False
def SU:cM X (.builtin "len") (xI X.K):=abL.imp fun xs H Q h=>by
 unfold xI at h;split at h
 ·show#[_,_,rfl,#[h.1,rfl],h.2]
 ·let⟨ys,h1,h2⟩:=zb h;rcases h1 with h1 | h1
  ·show#[_,_,rfl,.inl #[ys,h1,rfl],h2]
  ·show#[_,_,rfl,.inr #[ys,h1,rfl],h2]
 ·show h.elim
def  Mw(K:ν):List V->Hp->VK->Prop:=fun xs H Q=>match xs with
 | [x,cV]=>∃ t b,((∃ n,cV=.ty n)\/∃ a,cV=-a)/\fW K H x t/\W.kitOne K t (xF cV)=!b/\Q (.bl b) H
 | _=>False
def Wu:cM X (.builtin "isinstance") (Mw X.K):=aay.imp fun xs H Q h=>by
 unfold Mw at h;split at h
 ·let⟨t,b,h1,h2,h3,h4⟩:=h;show#[_,_,t,b,rfl,h1,h2,h3,h4]
 ·show h.elim
def  wB(K:ν):List V->Hp->VK->Prop:=fun xs H Q=>match xs with
 | [-p]=>wI K H p fun xs=>∃ bs:List Bool,xs=bs.map V.bl/\Q (.bl (bs.all id)) H
 | _=>False
def aah(hc:X.calm=true):cM X (.builtin "all") (wB X.K):=(acH hc).imp fun xs H Q h=>by
 unfold wB at h;split at h
 ·let⟨xs,h1,bs,rfl,h2⟩:=DN h;show#[_,bs,rfl,h1,h2]
 ·show h.elim
def  wF(K:ν):List V->Hp->VK->Prop:=fun xs H Q=>match xs with
 | [-p]=>bO K H p fun ys=>∀ l,H l=none->Q (-l) (upd H l (.lst ys))
 | _=>False
def VF:cM X (.type "list") (wF X.K):=ad6.imp fun xs H Q h=>by
 unfold wF at h;split at h
 ·let⟨ys,h1,h2⟩:=zb h;show#[_,ys,rfl,h1,h2]
 ·show h.elim
def  nG(K:ν):R2:=fun x y H Q=>match x,y with
 | .ref p,.int i=>bO K H p fun xs=>match cJ xs i with
  | some v=>Q v H
  | none=>False
 | .str z,.int i=>z.length<=sizeLine/\match cJ z.cps.toList i with
  | some c=>Q (.str #[(List.toArray [c])]) H
  | none=>False
 | _,_=>False
def gi.imp{r r':R2}(h:gi X r)(i:∀ x y H Q,r' x y H Q->r x y H Q):gi X r':=fun value slice π s σ H x y v u Q I rx ry q=>h value slice π s σ H x y v u Q I rx ry (i x y H Q q)
def qx:gi X (nG X.K):=S0.imp fun x y H Q h=>by
 unfold nG at h;split at h
 ·let⟨xs,h1,h2⟩:=zb h;split at h2
  ·rename_i v e;rcases h1 with h1 | h1
   ·show .inl #[_,xs,_,v,rfl,rfl,h1,e,h2]
   ·show .inr (.inl #[_,xs,_,v,rfl,rfl,h1,e,h2])
  ·show h2.elim
 ·let⟨h1,h2⟩:=h;split at h2
  ·rename_i d e;show .inr (.inr #[_,_,d,rfl,rfl,h1,e,h2])
  ·show h2.elim
 ·show h.elim
def  xY(K:ν):V->Option Int->Option Int->Hp->VK->Prop:=fun x lo hi H Q=>match x with
 | .str z=>z.length<=sizeLine/\Q (.str (Txt.slice z lo hi)) H
 | .ref a=>wI K H a fun xs=>∀ p,H p=none->Q (-p) (upd H p (.lst (fR xs lo hi)))
 | _=>False
def Sd:jV X (xY X.K):=by
 intro π s σ H x v vl vu lo hi sl Q I rx hs pl pu h;show(Yp.or acs) π s σ H x v vl vu lo hi sl Q I rx hs pl pu ?_;unfold xY at h;split at h
 ·show .inl h
 ·let⟨xs,h1,h2⟩:=DN h;show .inr #[_,xs,rfl,h1,h2]
 ·show h.elim
def  ES(t:TE):TO:=fun σ H Q=>t σ H fun x H1=>match x with
 | .int i=>Q (!i) H1
 | _=>False
def Vx{e:Expr}{te:TE}(h:PE X e te):PO X (!e) (ES te):=by
 intro π s σ H Q I q;show evalPart_some_step (aD (h π s σ H _ I q) fun v s1 #[x,H1,I1,r1,q1]=>?_);have q1':∃ i,x=.int i/\Q (!i) H1:=by
  dsimp only at q1;split at q1
  ·show#[_,rfl,q1]
  ·show q1.elim
 let⟨i,rfl,z1⟩:=q1';let⟨t,rfl⟩:=r1;show#[!i,H1,I1,.int i t,z1]
def  Bw:vb:=fun o i v H Q=>match o,i with
 | .ref p,.int k=>match H p with
  | some (.lst xs)=>(match fD xs.length k with
   | some j=>Q (upd H p (.lst (xs.set j v)))
   | none=>False)
  | _=>False
 | _,_=>False
def uS:yP X Bw:=by
 intro π s σ H o i v ov iv u Q I ro ri rv h;show set_list π s σ H o i v ov iv u Q I ro ri rv ?_;unfold Bw at h;split at h
 ·split at h
  ·rename_i xs h1;split at h
   ·rename_i j h2;show#[_,xs,_,j,rfl,rfl,h1,h2,h]
   ·show h.elim
  ·show h.elim
 ·show h.elim
def ef.imp{id:String}{r r':V->List V->Hp->VK->Prop}(h:ef X id r)(i:∀ x xs H Q,r' x xs H Q->r x xs H Q):ef X id r':=fun π s σ H x xs v us Q I rx rv q=>h π s σ H x xs v us Q I rx rv (i x xs H Q q)
def  DD:V->List V->Hp->VK->Prop:=fun x vs H Q=>match x,vs with
 | .ref l,[y]=>match H l with
  | some (.lst xs)=>xs.length < sizeLine/\Q .au (upd H l (.lst (xs++[y])))
  | _=>False
 | _,_=>False
def m7:ef X "list.append" DD:=ef.imp abr fun x xs H Q h=>by
 unfold DD at h;split at h
 ·split at h
  ·rename_i zs h1;show#[_,zs,_,rfl,rfl,h1,h.1,h.2]
  ·show h.elim
 ·show h.elim
def  EE:V->List V->Hp->VK->Prop:=fun x vs H Q=>match x,vs with
 | .ref l,[-b]=>match H l,H b with
  | some (.lst xs),!.lst zs=>xs.length+zs.length<=sizeLine/\Q .au (upd H l (.lst (xs++zs)))
  | _,_=>False
 | _,_=>False
def Xq:ef X "list.extend" EE:=ef.imp ael fun x xs H Q h=>by
 unfold EE at h;split at h
 ·split at h
  ·rename_i zs ws h1 h2;show#[_,_,zs,ws,rfl,rfl,h1,h2,h.1,h.2]
  ·show h.elim
 ·show h.elim
def  clsName(H:Hp):V->Option String
 | .au=>!"NoneType"
 | .bl _=>!"bool"
 | .int _=>!"int"
 | .str _=>!"str"
 | .ref p=>match H p with
  | some (.lst _)=>!"list"
  | some (.tup _)=>!"tuple"
  | some (.dK _)=>!"dict"
  | _=>none
 | _=>none
def  xp(T n:String):Bool:=T == n || (T == "bool" && n == "int")
def RG{K:ν}{H:Hp}{x:V}{T:String}(h:clsName H x=!T):fW K H x (.type T)/\T∈["NoneType","bool","int","str","list","tuple","dict"]:=by
 unfold clsName at h;split at h
 ·cases h;show#[.au,()]
 ·cases h;show#[.bl _,()]
 ·cases h;show#[.int _,()]
 ·cases h;show#[.str _,()]
 ·split at h
  ·rename_i e;cases h;show#[.lst e,()]
  ·rename_i e;cases h;show#[.tup e,()]
  ·rename_i e;cases h;show#[.dK e,()]
  ·cases h
 ·cases h
def abC(K:ν):∀ T,T∈["NoneType","bool","int","str","list","tuple","dict"]->∀ n,n∈["bool","int","str","list","tuple","dict"]->W.kitOne K (.type T) (.type n)=!xp T n:=by
 intro T hT n hn;simp only[jp,List.mem_nil_iff,ww]at hT hn;rcases hT with rfl | rfl | rfl | rfl | rfl | rfl | rfl <;> rcases hn with rfl | rfl | rfl | rfl | rfl | rfl <;> kernel_rfl
def  Bb:List V->Hp->VK->Prop:=fun xs H Q=>match xs with
 | [x,.ty n]=>n∈["bool","int","str","list","tuple","dict"]/\match clsName H x with
  | some T=>Q (.bl (xp T n)) H
  | none=>False
 | _=>False
def mQ:cM X (.builtin "isinstance") Bb:=Wu.imp fun xs H Q h=>by
 unfold Bb at h;split at h
 ·rename_i x n;let⟨hn,h⟩:=h;split at h
  ·rename_i T e;let⟨h1,h2⟩:=RG (K:=X.K) e;show#[_,_,.inl #[_,rfl],h1,abC _ T h2 n hn,h]
  ·show h.elim
 ·show h.elim
def  Ex(r:V->List V->Hp->VK->Prop)(to:TE)(t:TA):TE:=fun σ H Q=>to σ H fun x H1=>match x with
 | .str z=>t σ H1 fun xs H2=>r (.str z) xs H2 Q
 | _=>False
def  Ba(r:V->List V->Hp->VK->Prop)(to:TE)(t:TA):TE:=fun σ H Q=>to σ H fun x H1=>match x with
 | .ref l=>(match H1 l with
  | some (.lst _)=>t σ H1 fun xs H2=>r (-l) xs H2 Q
  | _=>False)
 | _=>False
section
variable {T:String}{name:Str}{id:String}{r:V->List V->Hp->VK->Prop}{o e:Expr}{es:List Expr}{to:TE}{t:TA}{apos bf:Pos}
def Zu(slot:Slot "str" name id)(cU:typeOf (.builtin id)=pure (.type "method_descriptor"))(hm:ef X id r)(ho:PE X o to)(ha:PA X (e::es) t)(hs:‹(e::es).all noStar=true›)(aU:‹decide ((e::es).length+([]:List Keyword).length+(if ([]:List Keyword).isEmpty then 0 else 1) < 30)=true›)(gK:‹attributeBase o name X.env (eval o X.env)=eval o X.env›)(gG:‹(apos.endLine == bf.line)=true›) :
  PE X (.Call (.Attribute o name apos) (e::es) [] bf) (Ex r to t):=by
 have hs':=hs;rw[KK,Cl]at hs';have aX:starEach (e::es) X.env=(false,eval e X.env)::starEach es X.env:=fL hs'.1;have F5:(backTo bf (starEach es X.env)).any (·.1)=false:=iP hs'.2;have Hi:((backTo bf (starEach (e::es) X.env)).all (fun x=>Bool.not x.1) && (backToKw bf (keywordEach [] X.env)).all (fun x=>x.1.isSome)
   && decide ((e::es).length+([]:List Keyword).length+(if ([]:List Keyword).isEmpty then 0 else 1) < 30))=true:=by
  rw[Cw hs,aU];rfl
 intro π s σ H Q I h;show wpAny_Call_method_late gK Hi gG rfl (aD (ho π s σ H _ I h) fun v s1 ⟨x,H1,I1,r1,q1⟩=>?_);dsimp only at q1;split at q1
 ·rename_i z;let⟨h1,h2⟩:=Bi (T := "str") I1 r1 rfl;show#["str",id,PySem.F.plainAttrs_str,slot,cU,h1,h2,?_];have hA:=ha bf π s1 σ H1 _ I1 q1;rw[aX]at hA ⊢;show Op (by change(false || (backTo bf (starEach es X.env)).any (·.1))=false;rw[F5] <;> rfl) (TW ?_);show aD hA fun us s2 ⟨vs,H2,I2,r2,q2⟩=>hm π s2 σ H2 (.str z) vs v us Q I2 r1 r2 q2
 ·show q1.elim
def Ue(slot:Slot "list" name id)(cU:typeOf (.builtin id)=pure (.type "method_descriptor"))(hm:ef X id r)(ho:PE X o to)(ha:PA X (e::es) t)(hs:‹(e::es).all noStar=true›)(aU:‹decide ((e::es).length+([]:List Keyword).length+(if ([]:List Keyword).isEmpty then 0 else 1) < 30)=true›)(gK:‹attributeBase o name X.env (eval o X.env)=eval o X.env›)(gG:‹(apos.endLine == bf.line)=true›) :
  PE X (.Call (.Attribute o name apos) (e::es) [] bf) (Ba r to t):=by
 have hs':=hs;rw[KK,Cl]at hs';have aX:starEach (e::es) X.env=(false,eval e X.env)::starEach es X.env:=fL hs'.1;have F5:(backTo bf (starEach es X.env)).any (·.1)=false:=iP hs'.2;have Hi:((backTo bf (starEach (e::es) X.env)).all (fun x=>Bool.not x.1) && (backToKw bf (keywordEach [] X.env)).all (fun x=>x.1.isSome)
   && decide ((e::es).length+([]:List Keyword).length+(if ([]:List Keyword).isEmpty then 0 else 1) < 30))=true:=by
  rw[Cw hs,aU];rfl
 intro π s σ H Q I h;show wpAny_Call_method_late gK Hi gG rfl (aD (ho π s σ H _ I h) fun v s1 ⟨x,H1,I1,r1,q1⟩=>?_);dsimp only at q1;split at q1
 ·rename_i l;split at q1
  ·rename_i zs el;let⟨h1,h2⟩:=Bi (T := "list") I1 r1 (.inl #[rfl,zs,aI.of el]);show#["list",id,PySem.F.plainAttrs_list,slot,cU,h1,h2,?_];have hA:=ha bf π s1 σ H1 _ I1 q1;rw[aX]at hA ⊢;show Op (by change(false || (backTo bf (starEach es X.env)).any (·.1))=false;rw[F5] <;> rfl) (TW ?_);show aD hA fun us s2 ⟨vs,H2,I2,r2,q2⟩=>hm π s2 σ H2 (-l) vs v us Q I2 r1 r2 q2
  ·show q1.elim
 ·show q1.elim
end
def VH{CX:d8}{P:ύ}{w:World}{K:ν}{mg:Str->Option ϊ}{base:Heap}{N:List Str}{qual:Str}{scope:Scope}{f:ϋ}{cd:ϊ}{A:Around}{outer:List Env}{s:ό}{H:Hp}{E:XK} :
  (cj CX P w K mg base N qual scope f cd A outer s H E).K=K:=rfl
def gy{α:Type}(a:α)(l:List α):cJ (a::l) 0=!a:=gv (j:=0) rfl
def xc{α:Type}(a b:α)(l:List α):cJ (a::b::l) 1=!b:=gv (j:=1) rfl
def Oi{α:Type}(a b c:α)(l:List α):cJ (a::b::c::l) 2=!c:=gv (j:=2) rfl
def aaW(n:Nat):fD (n+1) 0=!0:=by
 unfold fD;rw[xL ⋯,xL ∅];rfl
def aa5(n:Nat):fD (n+3) 2=!2:=by
 unfold fD;rw[xL ⋯,xL ∅];rfl
def Vo{H:Hp}{p b:ϋ}{o u:HO}(h:H b=!u)(hp:H p=Option.none):upd H p o b=!u:=by rw[ag (gx h hp)];show h
def iX:bootBuiltins "isinstance" = !.builtin "isinstance":=by decide +kernel
def OK:bootBuiltins "all" = !.builtin "all":=by decide +kernel
def pC:bootBuiltins "str" = !.type "str":=by decide +kernel
def T4:bootBuiltins "bool" = !.type "bool":=by decide +kernel
def wO:bootBuiltins "int" = !.type "int":=by decide +kernel
def KQ:bootBuiltins "list" = !.type "list":=by decide +kernel
end
abbrev JH(ifs:List Expr)(env:Env):Sem Bool:=forIn ifs true fun c r=>if r=true then do let ok <- isTrue c env (eval c env);pure (ForInStep.yield ok) else pure (ForInStep.yield r)
section
variable {prog:ύ}{w:World}{A:Around}{R:Result->ό->Prop}{s:ό}
def YV{elt tg iter:Expr}{ifs:List Expr}{scope:Scope}{pos:Pos}{it acc:ϊ}{env:Env}(J:Nat->ό->Prop)(hN:∀ e s',notedBy (model prog w) A env (fun e s'=>R (.error e) s') e s'->True)(turn:∀ n s,J n s->wpAny (model prog w) A (pyNext it) (fun r s1=>match r with
   | none=>R (.ok .next) s1
   | some v=>wpAny (model prog w) A (letOwnedTupleGo tg it v) (fun _ s2=>wpAny (model prog w) A (assign tg env v) (fun _ s3=>wpAny (model prog w) A (JH ifs env)
     (fun ok s4=>if ok=true then wpAny (model prog w) A (eval elt env) (fun x s5=>wpAny (model prog w) A (call (.builtin "list.append") [acc,x]) (fun _ s6=>∃ m,m < n/\J m s6) (fun _ _=>False) s5) (fun _ _=>False) s4
      else ∃ m,m < n/\J m s4) (fun _ _=>False) s3) (fun _ _=>False) s2) (fun _ _=>False) s1) (fun _ _=>False) s)(n:Nat)(h:J n s):codeAny (model prog w) A (.compLoop (.ListComp elt [#[tg,iter,ifs,0]] scope pos) 0 it acc env) R s:=by
 have no:∀ {E:ϊ->ό->Prop} (e:ϊ) (s':ό),False->E e s':=fun _ _ z=>z.elim;show codeAny_loop rfl J (fun n s hI=>?_) n h;show(show wpAny _ A (Sem.onRaise (compTurn (.ListComp elt [#[tg,iter,ifs,0]] scope pos) 0 it acc env) (fun x=>do noteFrame x env;theTreesLotGoes x)) _ _ s from ?_);show wpAny_noted ?_;rw[compTurn_list];show ii (Ja0 (ii (KB (turn n s hI) (fun r s1 q1=>?_) no)));cases r with
 | none=>show pc q1
 | some v =>
  show ii (KB q1 (fun _ s2 q2=>ii (KB q2 (fun _ s3 q3=>ii (KB q3 (fun ok s4 q4=>?_) no)) no)) no);cases ok with
  | false=>show pc #[rfl,q4]
  | true=>show ii (ii (KB q4 (fun x s5 q5=>ii (KB q5 (fun _ s6 q6=>pc (pc #[rfl,q6])) no)) no))
end
def  rW(X:Cx)(ifs:List Expr)(t:TT):Prop :=
 ∀ (π:List (ϋ×Obj)) (s:ό) (σ:St) (H:Hp) (Q:Bool->Hp->Prop),Inv X π σ H s->t σ H Q->wpAny (model X.prog X.w) X.A (JH ifs X.env) (TP X π σ Q) X.xe s
def  nE:TT:=fun _ H Q=>Q true H
def acM{X:Cx}:rW X [] nE:=fun _ _ _ H _ I h=>wpAny_tests_nil #[H,I,h]
def WE{X:Cx}{c:Expr}{t:TT}(h:PT X c t):rW X [c] t:=fun π s σ H Q I q=>wpAny_tests_one (h π s σ H Q I q)
def  zc(wi:TI)(tt:TT)(te:TE):TE:=fun σ H Q=>wi σ H fun J H1=>∃ W:Nat->List V->Nat->Hp->Prop,(∃ m,W 0 [] m H1)/\∀ i ys m H,W i ys m H ->
 ys.length<=sizeLine/\((J.stop i H/\∀ l,H l=none->Q (-l) (upd H l (.lst ys))) \/
  (J.go i H/\ys.length < sizeLine/\∀ y H',J.mU i H y H'->tt [!y] H' fun c H2=>if c=true then te [!y] H2 fun z H3=>∃ m',m' < m/\W (i+1) (ys++[z]) m' H3 else ∃ m',m' < m/\W (i+1) ys m' H2))
section
variable {X:Cx}
structure Bf(X:Cx)(π:List (ϋ×Obj))(H:Hp)(C:ϋ):Prop where
 fr:H C=none
 nl:C≠X.env.locals
 ab:X.s₀.heap.objs.size<=C
 nc:∀ x c,X.env.cells.lookup x=!c->c≠C
 np:∀ p∈X.pn++π,p.1≠C
def Bf.go{π:List (ϋ×Obj)}{σ:St}{H:Hp}{s:ό}{C:ϋ}{h':Heap}(o:Bf X π H C)(I:Inv X π σ H s)(hs:Heap.SameBut C s.heap h'):Inv X π σ H { s with heap:=h' } :=
 I.turned (t':=s.toks) (fun b ob hb e=>(hs.2 b hb).trans e) o.fr o.nl (.inr o.ab) o.nc o.np
end
def  dq(st:ϋ)(H H':Hp):Prop:=∀ c o,c≠st->H c=!o->H' c=!o
def dq.trans{st:ϋ}{H H1 H2:Hp}(a:dq st H H1)(b:dq st H1 H2):dq st H H2:=fun c o n e=>b c o n (a c o n e)
def aj.upd{H:Hp}{p:ϋ}{o:HO}(h:H p=Option.none):aj H (upd H p o):=fun b u e=>by rw[ag (gx e h)];show e
def aj.keep{H H':Hp}(h:aj H H')(st:ϋ):dq st H H':=fun c o _ e=>h c o e
def dq.upd{H:Hp}{p:ϋ}{o:HO}:dq p H (upd H p o):=fun c u n e=>by rw[ag n];show e
def dq.same{H H1 H':Hp}{st:ϋ}(a:aj H H1)(h:H st=Option.none)(k:dq st H1 H'):aj H H':=fun c o e=>k c o (gx e h) (a c o e)
def  xM:V->Bool
 | .str _=>true
 | _=>false
def  mE(t:TE):TE:=fun σ H Q=>∃ M:VK,t σ H M/\∀ v H1,M v H1->Q v H1
def  mA(t:TA):TA:=fun σ H Q=>∃ M:List V->Hp->Prop,t σ H M/\∀ v H1,M v H1->Q v H1
def PE.m{X:Cx}{e:Expr}{t:TE}(h:PE X e t):PE X e (mE t):=fun π s σ H Q I #[M,h1,h2]=>aD (h π s σ H M I h1) fun _ _ #[v,H1,I1,r,q]=>#[v,H1,I1,r,h2 v H1 q]
def PA.m{X:Cx}{e:List Expr}{t:TA}(h:PA X e t):PA X e (mA t):=fun pos π s σ H Q I #[M,h1,h2]=>aD (h pos π s σ H M I h1) fun _ _ #[v,H1,I1,r,q]=>#[v,H1,I1,r,h2 v H1 q]
def PI.imp{X:Cx}{tg it:Expr}{t t':TI}(h:PI X tg it t)(i:∀ σ H R,t' σ H R->t σ H R):PI X tg it t':=fun π s σ H R I hw=>h π s σ H R I (i σ H R hw)
def  Es(ta:TA):TI:=fun σ H R=>ta σ H fun vs H1=>match vs with
 | [.int j]=>((unop% Neg.neg ((2 ^ 62)))<=j/\j < 2 ^ 62)/\R (oQ 0 j.toNat) H1
 | _=>False
def abQ{X:Cx}{tg a:Expr}{ta:TA}{p pos:Pos}(hg:Gl X "range")(hm:X.mg "range" = none)(ha:PA X [a] ta)(hs:‹starEach [a] X.env=[(false,eval a X.env)]›):PI X tg (.Call (.Name "range" p) [a] [] pos) (Es ta) :=
 (Xo hg hm ha.m hs).imp fun σ H R h=>#[_,h,fun vs H1 z=>by
  split at z
  ·show#[_,rfl,z.1.1,z.1.2,z.2]
  ·show z.elim]
def  Ce(K:ν)(tl:TE):TI:=fun σ H R=>tl σ H fun x H1=>match x with
 | .ref a=>(∃ xs,aI K H1 a xs)/\R (mS K a) H1
 | _=>False
def UO{X:Cx}{tg l:Expr}{tl:TE}(hl:PE X l tl):PI X tg l (Ce X.K tl):=(Zt hl.m).imp fun σ H R h=>#[_,h,fun x H1 z=>by
  split at z
  ·show#[_,rfl,z.1,z.2]
  ·show z.elim]
def  JA(J:It)(g:TG)(tb:TS)(D:Ends)(σ:St)(H1:Hp):Prop:=∃ W:Nat->Nat->St->Hp->Prop,(∃ m,W 0 m σ H1)/\∀ i m σ H,W i m σ H ->
 (J.stop i H/\D.nx σ H)\/(J.go i H/\∃ N:St->Hp->Prop,(∀ σ' H',N σ' H'->∃ m',m' < m/\W (i+1) m' σ' H')/\∀ x H',J.mU i H x H'->g x σ H' fun σ2 H2=>tb { D with nx:=N,ct:=N,bk:=D.nx } σ2 H2)
def SE{wi:TI}{g:TG}{tb:TS}{D:Ends}{σ:St}{H:Hp}:D9 wi g tb D σ H=wi σ H fun J H1=>JA J g tb D σ H1:=rfl
def Eb{K:ν}{a:ϋ}{xs:List V}{g:TG}{tb:TS}{D:Ends}{σ:St}{H:Hp}(Pv:Nat->St->Hp->Prop)(h0:Pv 0 σ H)(hl:∀ i σ H,i<=xs.length->Pv i σ H->aI K H a xs)(hs:∀ i x σ H,xs[i]?=!x->Pv i σ H->g x σ H fun σ2 H2=>tb { D with nx:=Pv (i+1),ct:=Pv (i+1),bk:=D.nx } σ2 H2)(hd:∀ σ H,Pv xs.length σ H->D.nx σ H):JA (mS K a) g tb D σ H:=ac4 Pv h0 hl hs hd
def fits{n:Nat}(h:n<=1000):n<=sizeLine:=Jac (Nd h)
def ju{n:Nat}(h:n<=1000):n < sizeLine:=Nd h
def  pE(t u:TS):TS:=fun D σ H=>∃ P:St->Hp->Prop,t { D with nx:=P } σ H/\∀ σ' H',P σ' H'->u D σ' H'
def aaw{X:Cx}{st:Stmt}{rest:List Stmt}{t u:TS}(h1:PS X st t)(h2:dm X rest u):dm X (st::rest) (pE t u):=by
 intro π s σ H D I h;let⟨P,ht,hu⟩:=h;have h1':PS X st (fun D' σ' H'=>D'={ D with nx:=P }/\t D' σ' H'):=h1.imp fun _ _ _ z=>z.2;have h2':dm X rest (fun D' σ' H'=>P σ' H'/\D'=D):=fun π s σ H D' I z=>by
  let⟨z1,rfl⟩:=z;show h2 π s σ H D' I (hu σ H z1)
 show Yc (t:=fun D' σ' H'=>t { D with nx:=P } σ' H'/\D'.rt=D.rt/\D'.bk=D.bk/\D'.ct=D.ct/\∀ σ'' H'',P σ'' H''->D'.nx σ'' H'') (u:=fun D' σ' H'=>P σ' H'/\D'=D) ?_ h2' π s σ H D I #[ht,rfl,rfl,rfl,fun σ'' H'' z=>#[z,rfl]];intro π s σ H D' I z;let⟨z1,z2,z3,z4,z5⟩:=z;show aD (h1 π s σ H { D with nx:=P } I z1) fun f s' hq=>?_;cases f with
 | next=>let⟨σ',H',I',q⟩:=hq;show#[σ',H',I',z5 _ _ q]
 | brk=>let⟨σ',H',I',q⟩:=hq;show#[σ',H',I',by rw[z3];show q]
 | cont=>let⟨σ',H',I',q⟩:=hq;show#[σ',H',I',by rw[z4];show q]
 | ret u=>let⟨v,σ',H',I',r,q⟩:=hq;show#[v,σ',H',I',r,by rw[z2];show q]
def ai{t u:TS}{D:Ends}{σ:St}{H:Hp}(h:t { D with nx:=u D } σ H):pE t u D σ H:=#[u D,h,fun _ _ z=>z]
def iS{t u:TS}{D:Ends}{σ:St}{H:Hp}(P:St->Hp->Prop)(h1:t { D with nx:=P } σ H)(h2:∀ σ' H',P σ' H'->u D σ' H'):pE t u D σ H:=#[P,h1,h2]
def DA{H:Hp}{x:V}{T:String}(h:clsName H x=!T):xp T "str" = xM x:=by
 unfold clsName at h;split at h
 ·cases h;rfl
 ·cases h;rfl
 ·cases h;rfl
 ·cases h;rfl
 ·split at h
  ·cases h;rfl
  ·cases h;rfl
  ·cases h;rfl
  ·cases h
 ·cases h
def RY(H:Hp)(z:Str):clsName H (.str z)=!"str" := rfl
def YW(H:Hp)(z:Bool):clsName H (.bl z)=!"bool" := rfl
def Zn(H:Hp)(z:Int):clsName H (.int z)=!"int" := rfl
def Zh(H:Hp):clsName H .au=!"NoneType" := rfl
def zp(n:String)(h:["bool","int","str","list","tuple","dict"].contains n=true):n∈["bool","int","str","list","tuple","dict"]:=by simpa using h
def  xU(K:ν):R2:=fun x y H Q=>match y with
 | .ref p=>∃ xs,(aI K H p xs\/bH K H p xs)/\cH x=true/\xs.all cH=true/\Q (.bl (gE x xs)) H
 | _=>False
def acC{X:Cx}:aZ X (compareOp .In) (xU X.K):=Jk.imp fun x y H Q h=>by
 unfold xU at h;split at h
 ·let⟨xs,h1,h2,h3,h4⟩:=h;show#[_,xs,rfl,h1,h2,h3,h4]
 ·show h.elim
section
variable {X:Cx}{K:ν}
def jU(h:X.K=K):aZ X (compareOp .In) (xD K):=h ▸ abd
def yX(h:X.K=K):aZ X (compareOp .In) (xU K):=h ▸ acC
def nR(h:X.K=K):cM X (.builtin "len") (xI K):=h ▸ SU
def OP(h:X.K=K)(hc:X.calm=true):cM X (.builtin "all") (wB K):=h ▸ aah hc
def Vp(h:X.K=K):cM X (.type "list") (wF K):=h ▸ VF
def bP(h:X.K=K):gi X (nG K):=h ▸ qx
def rK(h:X.K=K):jV X (xY K):=h ▸ Sd
def IQ(h:X.K=K):ef X "str.join" (rJoin K):=h ▸ UY
end
def  tW(J:It)(tt:TT)(te:TE)(Q:VK)(H0:Hp):Prop:=∃ W:Nat->List V->Nat->Hp->Prop,(∃ m,W 0 [] m H0)/\∀ i ys m H,W i ys m H ->
 ys.length<=sizeLine/\((J.stop i H/\∀ l,H l=none->Q (-l) (upd H l (.lst ys))) \/
  (J.go i H/\ys.length < sizeLine/\∀ y H',J.mU i H y H'->tt [!y] H' fun c H2=>if c=true then te [!y] H2 fun z H3=>∃ m',m' < m/\W (i+1) (ys++[z]) m' H3 else ∃ m',m' < m/\W (i+1) ys m' H2))
def OT{wi:TI}{tt:TT}{te:TE}{σ:St}{H:Hp}{Q:VK}:zc wi tt te σ H Q=wi σ H fun J H1=>tW J tt te Q H1:=rfl
def Tp{z:Str}{te:TE}{H:Hp}{Q:VK}(f:Nat->V)(hz:z.length<=sizeLine)(he:∀ c,c∈z.cps.toList->∀ H1,aj H H1->∀ R:VK,(∀ H2,aj H1 H2->R (f c) H2)->te [!.str #[(List.toArray [c])]] H1 R)(q:∀ H1,aj H H1->∀ l,H1 l=none->Q (-l) (upd H1 l (.lst (z.cps.toList.map f)))):tW (yZ z) nE te Q H:=by
 have hl:z.cps.toList.length=z.length:=by simp[Str.length]
 show#[fun i ys m H1=>aj H H1/\ys=(z.cps.toList.take i).map f/\i<=z.length/\m=z.length - i,#[_,aj.refl H,rfl,At _,rfl],?_];rintro i ys m H1 ⟨s1,rfl,hi,rfl⟩;have hlen:((z.cps.toList.take i).map f).length=i:=by rw[lv,W1,hl];omega
 show#[by rw[hlen];omega,?_];by_cases h:i < z.length
 ·show .inr #[h,by rw[hlen];omega,?_];rintro y H' ⟨rfl,c,hc,rfl⟩;have sQ:z.cps.toList[i]?=!c:=by simpa using hc
  simp only[nE,if_true];show he c (GM sQ) H' s1 _ fun H2 s2=>#[_,?_,s1.trans s2,?_,h,rfl]
  ·omega
  ·rw[List.take_add_one,sQ,Go];rfl
 ·have P4:i=z.length:=∅
  show .inl #[Nat.le_of_eq P4.symm,fun l hl'=>?_];have:=q H1 s1 l hl';rw[WP (by rw[hl];omega)];show this
def IZ{K:ν}{a:ϋ}{xs:List V}{tt:TT}{te:TE}{H:Hp}{Q:VK}(p:V->Bool)(f:V->V)(Gy:aI K H a xs)(hz:xs.length<=sizeLine)(ht:∀ x,x∈xs->∀ H1,aj H H1->∀ R:Bool->Hp->Prop,(∀ H2,aj H1 H2->R (p x) H2)->tt [!x] H1 R)(he:∀ x,x∈xs->p x=true->∀ H1,aj H H1->∀ R:VK,(∀ H2,aj H1 H2->R (f x) H2)->te [!x] H1 R)(q:∀ H1,aj H H1->∀ l,H1 l=none->Q (-l) (upd H1 l (.lst ((xs.filter p).map f)))):tW (mS K a) tt te Q H:=by
 show#[fun i ys m H1=>aj H H1/\ys=((xs.take i).filter p).map f/\i<=xs.length/\m=xs.length - i,#[_,aj.refl H,rfl,At _,rfl],?_];rintro i ys m H1 ⟨s1,rfl,hi,rfl⟩;have hlen:(((xs.take i).filter p).map f).length<=i:=by
  rw[lv];show wE (ST _ _) ?_;rw[W1];omega
 show#[∅,?_];by_cases h:i < xs.length
 ·have hx:xs[i]?=!xs[i]:=sw h;show .inr #[#[xs,xs[i],s1.seq Gy,hx],∅,?_];rintro y H' ⟨rfl,hy⟩;have wj:xs[i]?=!y:=hy xs (s1.seq Gy);have hm:y∈xs:=GM wj;have e1:(xs.take (i+1)).filter p=(xs.take i).filter p++(if p y=true then [y] else []):=by
   rw[List.take_add_one,wj,List.filter_append];by_cases hp:p y=true
   ·simp[hp]
   ·simp[hp]
  show ht y hm H' s1 _ fun H2 s2=>?_;by_cases hp:p y=true
  ·rw[xL hp];show he y hm hp H2 (s1.trans s2) _ fun H3 s3=>#[_,?_,(s1.trans s2).trans s3,?_,h,rfl]
   ·omega
   ·rw[e1,xL hp,Go];rfl
  ·rw[wP hp];show#[_,?_,s1.trans s2,?_,h,rfl]
   ·omega
   ·rw[e1,wP hp,_u]
 ·have P4:i=xs.length:=∅
  show .inl #[#[xs,s1.seq Gy,∅],fun l hl'=>?_];have:=q H1 s1 l hl';rw[WP ∅];show this
structure QE(X:Cx)(e:Expr)(t:TE):Prop where
 h:PE X e t
structure QA(X:Cx)(e:List Expr)(t:TA):Prop where
 h:PA X e t
structure QT(X:Cx)(e:Expr)(t:TT):Prop where
 h:PT X e t
structure QW(X:Cx)(e:Expr)(t:TT):Prop where
 h:PW X e t
structure QS(X:Cx)(e:Stmt)(t:TS):Prop where
 h:PS X e t
structure QB(X:Cx)(e:List Stmt)(t:TS):Prop where
 h:dm X e t
structure QI(X:Cx)(tg it:Expr)(t:TI):Prop where
 h:PI X tg it t
structure QG(X:Cx)(e:Expr)(t:TG):Prop where
 h:PG X e t
structure ym(X:Cx)(e:List Expr)(t:kW):Prop where
 h:vy X e t
structure ql(X:Cx)(e:List Expr)(t:TT):Prop where
 h:rW X e t
structure QO(X:Cx)(e:Option Expr)(t:TO):Prop where
 h:PO X e t
structure QP(X:Cx)(pos:Pos)(ks:List (Option Expr))(vs:List Expr)(t:List (TE×TE)):Prop where
 h:Sa X pos ks vs t
namespace Dv
section
variable {X:Cx}{a b c:Expr}{ta tb tc:TE}{pos:Pos}{rest:List Expr}{tA tB':TT}
def v(i:Nat){x:Str}{pos:Pos}(hN:‹X.N[i]?=!x›)(hv:nH X.env.scope x:=by first | show Or.inl rfl | show Or.inr (Or.inl rfl) | show Or.inr (Or.inr rfl))(hd:(x == ("__debug__":Str))=false:=by decide)(bM:(x == ("__classdict__":Str))=false:=by decide):QE X (.Name x pos) (fX i):=#[qv i hN hv hd bM]
def int{i j pos}:QE X (.Constant (.int i) j pos) (tC (.int i)):=#[RK]
def bl{b j pos}:QE X (.Constant (.bool b) j pos) (tC (.bl b)):=#[XD]
def au{j pos}:QE X (.Constant .none j pos) (tC .au):=#[Ui]
def str{x j pos}:QE X (.Constant (.str x) j pos) (tC (.str x)):=#[abi]
def glob{x:Str}(v:V){u:ϊ}{pos:Pos}(hm:X.mg x=!u)(r:RelV v u)(hg:‹Gl X x›)(hd:(x == ("__debug__":Str))=false:=by decide):QE X (.Name x pos) (tC v):=#[WT hg hm r hd]
def ny{x:Str}(v:V){u:ϊ}{pos:Pos}(hm:X.mg x=none)(hv:bootBuiltins x=!u)(r:RelV v u)(hg:‹Gl X x›)(hn:x ≠ "__name__" := by decide)(hd:(x == ("__debug__":Str))=false:=by decide):QE X (.Name x pos) (tC v):=#[Uv hg hm hv r hn hd]
def op{o:Operator}{r:R2}(ho:aZ X (binaryOp o) r)(ha:QE X a ta)(hb:QE X b tb):QE X (.BinOp a o b pos) (jg r ta tb):=#[WK ho ha.h hb.h]
def un{o:UnaryOp}{r:V->Hp->VK->Prop}(ho:tI X (unaryOp o) r)(ha:QE X a ta):QE X (.UnaryOp o a pos) (DH r ta):=#[aaI ho ha.h]
def cmp{o:CmpOp}{r:R2}(ho:aZ X (compareOp o) r)(ha:QE X a ta)(hb:QE X b tb)(hm:behindInMarks o b=false:=by first | show uQ _ ⋯ ⋯ | rfl):QE X (.Compare a [o] [b] pos) (jg r ta tb):=#[adC ho ha.h hb.h hm]
def xk(ha:QE X a ta)(hb:QE X (.BoolOp .And (b::rest) pos) tb):QE X (.BoolOp .And (a::b::rest) pos) (EX ta tb):=#[adE ha.h hb.h]
def Vu(ha:QE X a ta)(hb:QE X (.BoolOp .Or (b::rest) pos) tb):QE X (.BoolOp .Or (a::b::rest) pos) (DL ta tb):=#[SO ha.h hb.h]
def one{o}{t:TE}(h:QE X a t):QE X (.BoolOp o [a] pos) t:=#[Wg h.h]
def R4(ha:QE X a ta):QE X (.UnaryOp .Not a pos) (DF ta):=#[Yl ha.h]
def ae:QA X [] lA:=#[aaV]
def aa{e:Expr}{es:List Expr}{te:TE}{t:TA}(ha:QE X e te)(hr:QA X es t)(hs:‹noStar e=true›):QA X (e::es) (oF te t):=#[aaC ha.h hr.h hs]
def call{CX:d8}{k:Nat}{f:ϋ}{fd:FuncData}{ps:List Str}{sp:Sp}{bF:List V}{ds:List ϊ}{E:XK}{x:Str}{p pos:Pos}{e:Expr}{es:List Expr}{t:TA}(F:aB X.prog X.w X.K X.mg X.base CX k f fd ps sp)(hr:bh k X.A)(hm:X.mg x=!-f)(hk:W.keepIn X.K (-f)=true)(hb:Binds X.K fd ps ds)(hd:Vals bF ds)(hx:Passes CX X E)(ha:QA X (e::es) t)(hg:‹Gl X x›)(hs:‹(e::es).all noStar=true›)(b7:(x == ("__debug__":Str))=false:=by decide):QE X (.Call (.Name x p) (e::es) [] pos) (yp sp bF E t):=#[acp F hr hg hm hk hb hd hx ha.h hs b7]
def df{x:Str}{p pos:Pos}{e:Expr}{es:List Expr}{t:TA}{id:String}{r:List V->Hp->VK->Prop}(hc:cM X (.builtin id) r)(hm:X.mg x=none)(hv:bootBuiltins x=!.builtin id)(ha:QA X (e::es) t)(hg:‹Gl X x›)(hs:‹(e::es).all noStar=true›)(hn:x ≠ "__name__" := by decide)(b7:(x == ("__debug__":Str))=false:=by decide):QE X (.Call (.Name x p) (e::es) [] pos) (oh r t):=#[abU hc hg hm hv ha.h hs hn b7]
def qw{x:Str}{p pos:Pos}{e:Expr}{es:List Expr}{t:TA}{T:String}{r:List V->Hp->VK->Prop}(hc:cM X (.type T) r)(hm:X.mg x=none)(hv:bootBuiltins x=!.type T)(ha:QA X (e::es) t)(hg:‹Gl X x›)(hs:‹(e::es).all noStar=true›)(hn:x ≠ "__name__" := by decide)(b7:(x == ("__debug__":Str))=false:=by decide):QE X (.Call (.Name x p) (e::es) [] pos) (oh r t):=#[Vk hc hg hm hv ha.h hs hn b7]
section
variable {name:Str}{id:String}{r:V->List V->Hp->VK->Prop}{o e:Expr}{es:List Expr}{to:TE}{t:TA}{apos bf:Pos}
def uZ(slot:Slot "str" name id)(cU:typeOf (.builtin id)=pure (.type "method_descriptor"))(hm:ef X id r)(ho:QE X o to)(ha:QA X (e::es) t)(hs:‹(e::es).all noStar=true›)(aU:‹decide ((e::es).length+([]:List Keyword).length+(if ([]:List Keyword).isEmpty then 0 else 1) < 30)=true›)(gK:‹attributeBase o name X.env (eval o X.env)=eval o X.env›)(gG:‹(apos.endLine == bf.line)=true›):QE X (.Call (.Attribute o name apos) (e::es) [] bf) (Ex r to t):=#[Zu slot cU hm ho.h ha.h hs aU gK gG]
def jB(slot:Slot "list" name id)(cU:typeOf (.builtin id)=pure (.type "method_descriptor"))(hm:ef X id r)(ho:QE X o to)(ha:QA X (e::es) t)(hs:‹(e::es).all noStar=true›)(aU:‹decide ((e::es).length+([]:List Keyword).length+(if ([]:List Keyword).isEmpty then 0 else 1) < 30)=true›)(gK:‹attributeBase o name X.env (eval o X.env)=eval o X.env›)(gG:‹(apos.endLine == bf.line)=true›):QE X (.Call (.Attribute o name apos) (e::es) [] bf) (Ba r to t):=#[Ue slot cU hm ho.h ha.h hs aU gK gG]
end
def vt:QO X none FE:=#[aem]
def pA(h:QE X a ta):QO X (!a) (ES ta):=#[Vx h.h]
def slice{r:V->Option Int->Option Int->Hp->VK->Prop}{lo hi:Option Expr}{tl th:TO}{p2:Pos}(hr:jV X r)(he:QE X a ta)(hl:QO X lo tl)(hu:QO X hi th):QE X (.Subscript a (.Slice lo hi none p2) pos) (BA r ta tl th):=#[VM hr he.h hl.h hu.h]
def ix{r:R2}(hr:gi X r)(ha:QE X a ta)(hb:QE X b tb)(hs:MG b:=by intro _ _;rfl):QE X (.Subscript a b pos) (jg r ta tb):=#[WD hr ha.h hb.h hs]
def lst{es:List Expr}{t:TA}(h:QA X es t):QE X (.List es pos) (E9 t):=#[Tq h.h]
def tup{es:List Expr}{x1}{t:TA}(h:QA X es t):QE X (.Tuple es x1 pos) (xt t):=#[Zz h.h]
def mh:QE X (.Dict [] [] pos) vF:=#[V1]
def bw{o:CmpOp}{r:R2}(ho:aZ X (compareOp o) r)(ha:QE X a ta)(hb:QE X b tb)(hm:behindInMarks o b=false:=by first | show uQ _ ⋯ ⋯ | rfl):QT X (.Compare a [o] [b] pos) (jx (jg r ta tb)):=#[U1 ho ha.h hb.h hm]
def AR{o o':CmpOp}{f g:Int->Int->Bool}(ho:aZ X (compareOp o) (iW f))(ho':aZ X (compareOp o') (iW g))(ha:QE X a ta)(hb:QE X b tb)(hc:QE X c tc)(hm:lastMarks [o,o'] [b,c]=false:=by with_unfolding_all rfl):QT X (.Compare a [o,o'] [b,c] pos) (AF f g ta tb tc):=#[abo ho ho' ha.h hb.h hc.h hm]
def cN{t:TE}(h:QE X a t)(he:∀ whole,isTrue a X.env whole=(do let v <- whole;standAt a.pos;holding [v] (truthy v)):=by intro _;rfl):QT X a (jx t):=#[XZ h.h he]
def dS(ha:QT X a tA):QT X (.UnaryOp .Not a pos) (B2 tA):=#[UE ha.h]
def fM(h:QW X a tA):QT X a tA:=#[h.h.pt]
def qF(ha:QT X a tA):QW X (.BoolOp .And [a] pos) tA:=#[aab ha.h]
def km(ha:QT X a tA):QW X (.BoolOp .Or [a] pos) tA:=#[V8 ha.h]
def w_and(ha:QT X a tA)(hb:QW X (.BoolOp .And (b::rest) pos) tB'):QW X (.BoolOp .And (a::b::rest) pos) (yE tA tB'):=#[Zj ha.h hb.h]
def w_or(ha:QT X a tA)(hb:QW X (.BoolOp .Or (b::rest) pos) tB'):QW X (.BoolOp .Or (a::b::rest) pos) (zh tA tB'):=#[UT ha.h hb.h]
variable {st:Stmt}{Pr:List Stmt}{t u:TS}{tg:Expr}{g:TG}
def il(i:Nat){x:Str}(hN:X.N.Nodup)(hi:‹X.N[i]?=!x›)(hx:Loc X.env.scope x:=by first | show Or.inl rfl | show Or.inr rfl)(hf:X.fn x=true\/X.env.scope.names.lookup x=!.local:=by first | show .inl rfl | show .inr rfl):QG X (.Name x pos) (fC i):=#[Ve hN hi hx hf]
def tZ{o i:Expr}{to ti:TE}{s:vb}(ho:QE X o to)(hi:QE X i ti)(hs:yP X s)(ha:∀ v,assign (.Subscript o i pos) X.env v=(do
   let ov <- holding [v] (eval o X.env)
   let iv <- holding [v,ov] (eval i X.env)
   standAt pos
   holding [v,ov,iv] (setItem ov iv v)
   release [v,ov,iv] []):=by intro _;rfl):QG X (.Subscript o i pos) (DP to ti s):=#[Wk ho.h hi.h hs ha]
def MW:ym X [] Cj:=#[adz]
def w9{e:Expr}{es:List Expr}{t:TG}{u:kW}(h1:QG X e t)(h2:ym X es u)(hs:‹(assignEach (e::es) X.env).map (·.2)=assign e X.env::(assignEach es X.env).map (·.2)›):ym X (e::es) (Cf t u):=#[R1 h1.h h2.h hs]
def Je{K:ν}{es:List Expr}{k:Nat}{t:kW}{n:Nat}(hK:X.K=K)(hc:X.calm=true)(h:ym X es t)(hn:‹(assignEach es X.env).length=n›)(aX:‹(assignEach es X.env).findIdx? (·.1)=none›):QG X (.Tuple es k pos) (CU K n t):=hK ▸ #[Sb hc h.h hn aX]
def aQ(i:Nat){x:Str}{e:Expr}{te:TE}{pos':Pos}(hN:X.N.Nodup)(he:QE X e te)(hi:‹X.N[i]?=!x›)(hx:Loc X.env.scope x:=by first | show Or.inl rfl | show Or.inr rfl)(hs:‹swapsWith e (!.Name x pos') pos.line X.env=pure false›)(hf:X.fn x=true\/X.env.scope.names.lookup x=!.local:=by first | show .inl rfl | show .inr rfl):QS X (.Assign [.Name x pos'] e pos) (mM te (fC i)):=#[WH hN hi hx he.h hs hf]
def rj{e:Expr}{te:TE}(he:QE X e te)(hg:QG X tg g)(hs:‹swapsWithSole [tg] e pos.line X.env=pure false›)(hw:‹swappedStores [tg] e X.env=pure none›)(h1:‹(assignEach [tg] X.env).map (·.2)=[assign tg X.env]›) :
  QS X (.Assign [tg] e pos) (mM te g):=#[RV he.h hg.h hs hw h1]
def aM(he:QE X a ta):QS X (.Return (!a) pos) (Dc ta):=#[Vi he.h]
def OR:QS X (.Return none pos) BX:=#[WI]
def aP(he:QE X a ta)(hs:‹swapsWith a none pos.line X.env=pure false›):QS X (.Expr a pos) (EK ta):=#[aaP he.h hs]
def aY{A B:List Stmt}(hc:QT X a tA)(ha:QB X A t)(hb:QB X B u):QS X (.If a A B pos) (wD tA t u):=#[acn hc.h ha.h hb.h]
def Cr{iter:Expr}{body:List Stmt}{wi:TI}{tb:TS}(hp:PassesOwn (model X.prog X.w) X.A X.env X.xe)(hc:X.calm=true)(hi:QI X tg iter wi)(hg:QG X tg g)(hb:QB X body tb)(hs:∀ x,foldedSetIterable iter X.env x=pure x:=by intro _;rfl) :
  QS X (.For tg iter body [] pos) (D9 wi g tb):=#[UR hp hc hi.h hg.h hb.h hs]
def nil:QB X [] Cp:=#[ack]
def ao(h1:QS X st t):QB X [st] t:=#[acv h1.h]
def  cut(h1:QS X st t)(h2:QB X Pr u):QB X (st::Pr) (pE t u):=#[aaw h1.h h2.h]
def vG{K:ν}{l:Expr}{tl:TE}(h:X.K=K)(hl:QE X l tl):QI X tg l (Ce K tl):=h ▸ #[UO hl.h]
def aci{l:Expr}{tl:TE}(hl:QE X l tl):QI X tg l (Fj tl):=#[Sx hl.h]
def EZ{ta:TA}{p:Pos}(hm:X.mg "range" = none)(ha:QA X [a] ta)(hg:Gl X "range" := by rfl)(hs:‹noStar a=true›):QI X tg (.Call (.Name "range" p) [a] [] pos) (Es ta):=#[abQ hg hm ha.h (fL hs)]
def xh:ql X [] nE:=#[acM]
def E3(h:QT X c tA):ql X [c] tA:=#[WE h.h]
end
end Dv
end L2
namespace Tx
open PySem PySem.Builtin PySem.StrLaws
def Dz{c a:Nat}(h:a=c)(r:List Nat):cut c (a::r)=[]::cut c r:=if_pos h
def K1{c a:Nat}{r:List Nat}{x:List Nat}{y:List (List Nat)}(h:¬ a=c)(e:cut c r=x::y):cut c (a::r)=(a::x)::y:=by
 change(if a=c then _ else _)=_;rw[if_neg h,e]
def Kj(c:Nat):∀ (t r:List Nat),cut c (t++c::r)=cut c t++cut c r
 | [],r=>Dz rfl r
 | a::t,r=>by
  have ih:=Kj c t r;change cut c (a::(t++c::r))=_;by_cases h:a=c
  ·rw[Dz h,Dz h,ih];rfl
  ·cases e:cut c t with
   | nil=>show absurd e (acx c t)
   | cons x y =>
    rw[e]at ih;rw[K1 h ih,K1 h e];rfl
def  words(c:Nat)(t:List Nat):List (List Nat):=(cut c t).filter fun w=>decide (w≠[])
def B8(c:Nat)(t r:List Nat):words c (t++c::r)=words c t++words c r:=by
 unfold words;rw[Kj,List.filter_append]
def Ks(c:Nat)(r:List Nat):words c (c::r)=words c r:=B8 c [] r
def Mb(c:Nat)(r:List Nat):∀ n:Nat,words c (List.replicate n c++r)=words c r
 | 0=>rfl
 | n+1=>by
  change words c (c::(List.replicate n c++r))=_;rw[Ks,Mb c r n]
def N0(c:Nat):∀ w:List Nat,c ∉ w->cut c w=[w]
 | [],_=>rfl
 | a::r,h=>by
  unfold cut;rw[if_neg (fun e=>h (by rw[e];show List.mem_cons_self)),N0 c r (fun m=>h (List.mem_cons_of_mem _ m))]
def JO(c:Nat)(w:List Nat)(h:c ∉ w)(hn:w≠[]):words c w=[w]:=by
 unfold words;rw[N0 c w h];simp[hn]
def Fn(c:Nat):∀ t:List Nat,(cut c t).length<=t.length+1
 | []=>Nat.le_refl _
 | a::r=>by
  have ih:=Fn c r;unfold cut;split
  ·simp only[List.length_cons];omega
  ·split
   ·simp
   ·rename_i h t' e;rw[e]at ih;simp only[List.length_cons]at ih ⊢;omega
def ach(t:List Nat)(c:Nat):((cut c t).map S).filter (fun z=>decide (z≠S []))=(words c t).map S:=by
 unfold words;rw[List.filter_map]
 congr 1
 show List.filter_congr fun w _=>?_;change decide (S w≠S [])=decide (w≠[]);by_cases h:w=[]
 ·simp[h]
 ·have:S w≠S []:=fun e=>h (Ot e);simp[h,this]
def aan(x:List Nat)(c:Nat):Txt.startswith (S x) (S [c])=decide (x.head?=!c):=by
 unfold Txt.startswith;rw[dE,dE];cases x with
 | nil=>simp
 | cons a r =>
  rw[subAt_one (a::r) c 0 ()];simp
def Ry(x:List Nat)(c:Nat):Txt.endswith (S x) (S [c])=decide (x.getLast?=!c):=by
 unfold Txt.endswith;rw[dE,dE];cases hx:x with
 | nil=>simp
 | cons a r =>
  have hl:(a::r).length - [c].length < (a::r).length:=()
  rw[subAt_one (a::r) c _ hl];have e:(a::r)[(a::r).length - [c].length]?=(a::r).getLast?:=by
   rw[List.getLast?_eq_getElem?];rfl
  rw[e];have:decide (0+[c].length<=(a::r).length)=true:=decide_eq_true ();rw[this,Bool.true_and]
end Tx
namespace L2
open PySem PySem.Spec PyProof.Rows
def M6{A:Around}{s:ό}{l1 l2:List (Str×Tok)}(j:Nat)(h1:j < (strValues l1).toArray.size)(h2:j < (strValues l2).toArray.size) :
  SeqAt.EqAt A s (strValues l1).toArray[j] (strValues l2).toArray[j] (decide ((l1.map (·.1))[j]?=(l2.map (·.1))[j]?)):=by
 have g1:j < l1.length:=by simpa [strValues] using h1
 have g2:j < l2.length:=by simpa [strValues] using h2
 have e1:(strValues l1).toArray[j]=ϊ.str l1[j].1 l1[j].2:=by simp[strValues]
 have e2:(strValues l2).toArray[j]=ϊ.str l2[j].1 l2[j].2:=by simp[strValues]
 rw[e1,e2];have e:decide ((l1.map (·.1))[j]?=(l2.map (·.1))[j]?)=(l1[j].1 == l2[j].1):=by
  rw[xz,xz,sw g1,sw g2];by_cases q:l1[j].1=l2[j].1
  ·simp[q]
  ·simp[q]
 rw[e];show SeqAt.EqAt.str_str _ _ _ _
def all_eq{α:Type}[DecidableEq α]{xs ys:List α}(h:xs.length=ys.length):(List.range xs.length).all (fun j=>decide (xs[j]?=ys[j]?))=decide (xs=ys):=by
 rw[_f,Da,_y];constructor
 ·intro q;apply _Y;intro i;by_cases hi:i < xs.length
  ·show of_decide_eq_true (q i (Jaf.mpr hi))
  ·rw[_4 ∅,_4 ∅]
 ·rintro rfl j _;simp
section
variable {X:Cx}
def NB{π:List (ϋ×Obj)}{σ:St}{H:Hp}{s:ό}{A:Around}{a b:ϋ}{ts us:List Str}(I:Inv X π σ H s)(ha:H a=!.lst (ts.map V.str))(hb:H b=!.lst (us.map V.str))(hu:A.units < cLine) :
  SeqAt.RcAt A s (-a) (-b) (decide (ts=us))/\SeqAt.RcNeAt A s (-a) (-b) (Bool.not (decide (ts=us))):=by
 let⟨i1,r1,p1,_⟩:=I.list (aI.of ha);let⟨i2,r2,p2,_⟩:=I.list (aI.of hb);let⟨l1,rfl,e1⟩:=yU r1;let⟨l2,rfl,e2⟩:=yU r2;have n1:(strValues l1).toArray.size=ts.length:=by rw[<- e1];simp[strValues]
 have n2:(strValues l2).toArray.size=us.length:=by rw[<- e2];simp[strValues]
 by_cases h:ts.length=us.length
 ·have hsz:(strValues l1).toArray.size=(strValues l2).toArray.size:=by rw[n1,n2,h]
  have k1:=SeqAt.RcAt.lists (A:=A) p1.isList p2.isList hsz hu (fun j g1 g2=>M6 j g1 g2);have k2:=Jaj (A:=A) p1.isList p2.isList hsz hu (fun j g1 g2=>M6 j g1 g2);rw[n1,e1,e2,all_eq h]at k1 k2;show#[k1,k2]
 ·have hsz:((strValues l1).toArray.size != (strValues l2).toArray.size)=true:=by rw[n1,n2];simpa using h
  have e:decide (ts=us)=false:=mo fun z=>h (by rw[z]);rw[e];show#[SeqAt.RcAt.lists_lengths p1.isList p2.isList hsz hu,SeqAt.RcNeAt.lists_lengths p1.isList p2.isList hsz hu]
def  rZ(neg:Bool):R2:=fun x y H Q=>match x,y with
 | .ref a,-b=>∃ ts us:List Str,H a=!.lst (ts.map V.str)/\H b=!.lst (us.map V.str)/\Q (.bl (neg ^^ decide (ts=us))) H
 | _,_=>False
def abS(hu:X.A.units < cLine):aZ X (compareOp .Eq) (rZ false):=by
 intro π s σ H x y v u Q I rx ry h;unfold rZ at h;split at h
 ·let⟨ts,us,ha,hb,q⟩:=h;cases rx;cases ry;simp only[Bool.false_bne]at q;show(NB I ha hb hu).1 _ _ _ _ #[.bl _,H,I,rfl,q]
 ·show h.elim
def VW(hu:X.A.units < cLine):aZ X (compareOp .NotEq) (rZ true):=by
 intro π s σ H x y v u Q I rx ry h;unfold rZ at h;split at h
 ·let⟨ts,us,ha,hb,q⟩:=h;cases rx;cases ry;simp only[Bool.true_bne]at q;show(NB I ha hb hu).2 _ _ _ _ #[.bl _,H,I,rfl,q]
 ·show h.elim
def Dv.nK{st:Stmt}:QS X st FC:=#[Yq]
end
def  Cv:V->Hp->VK->Prop:=fun x H Q=>match x with
 | .int i=>Q (.int ((unop% Neg.neg (i)))) H
 | _=>False
def oS{X:Cx}:tI X (unaryOp .USub) Cv:=fun π s σ H x v Q I rx h=>abj π s σ H x v Q I rx (by
 unfold Cv at h;split at h
 ·show#[_,rfl,h]
 ·show h.elim)
def TH(r:List V)(x:V):fR (r++[x]) Option.none (!((unop% Neg.neg (1))))=r:=by
 unfold fR;have e1:HT.cX (r++[x]).length (r++[x]).length (!((unop% Neg.neg (1))))=r.length:=by
  unfold HT.cX;simp;omega
 rw[HT.Ck,e1];simp
section
variable {X:Cx}{K:ν}
def  adh(K:ν):List V->Hp->VK->Prop:=fun xs H Q=>match xs with
 | [-p]=>∃ ys,aI K H p ys/\Q (.int ys.length) H
 | _=>False
def  Z6(K:ν):R2:=fun x y H Q=>match x,y with
 | .ref p,.int i=>∃ xs v,aI K H p xs/\cJ xs i=!v/\Q v H
 | _,_=>False
end
end L2
namespace L2
open PySem
open Sem (wp)
def  dj(e:ϋ)(c:ϊ)(od:Option ϋ)(h:Heap):Prop:=∃ o,h.get? e=!o/\o.cls=c/\o.dict=od/\∃ vs,o.data=.fields vs
structure Kp(e:ϋ)(c:ϊ)(od:Option ϋ){α:Type}(t:Sem α):Prop where
 out:∀ (M:Model) (Γ:Ctx) (P:α->Pos->ό->Prop) (Ee:ϊ->Pos->ό->Prop) (p:Pos) (s:ό),dj e c od s.heap->wp M Γ t P Ee p s->wp M Γ t (fun a p' s'=>P a p' s'/\dj e c od s'.heap) Ee p s
section
variable {e:ϋ}{c:ϊ}{od:Option ϋ}{α β:Type}
def Kp.pure(a:α):Kp e c od (Pure.pure a:Sem α):=#[fun _ _ _ _ _ _ hd h=>#[h,hd]]
def Kp.unsupported(w:String):Kp e c od (PySem.unsupported w:Sem α):=#[fun _ _ _ _ _ _ _ h=>h]
def Kp.bind{m:Sem α}{f:α->Sem β}(hm:Kp e c od m)(hf:∀ a,Kp e c od (f a)):Kp e c od (m >>= f):=#[fun M Γ P Ee p s hd h=>by
 rw[Sem.wp_bind']at h ⊢;show Sem.wp_mono M Γ m (fun a p' s' h'=>(hf a).out M Γ P Ee p' s' h'.2 h'.1) (fun _ _ _ x=>x) p s (hm.out M Γ _ Ee p s hd h)]
def Kp.ite{q:Prop}[Decidable q]{t u:Sem α}(ht:Kp e c od t)(hu:Kp e c od u):Kp e c od (if q then t else u):=by split <;> assumption
def Kp.load(a:ϋ):Kp e c od (PySem.load a):=#[fun _ _ _ _ _ _ hd h=>let ⟨o,ho,z⟩:=h;#[o,ho,z,hd]]
def Kp.stack:Kp e c od PySem.stack:=#[fun M Γ P Ee p s hd h=>by
 unfold PySem.stack at h ⊢;rw[Sem.wp_stack]at h ⊢;show#[h,hd]]
def dj.push{h:Heap}(x:dj e c od h)(o:Obj):dj e c od (h.push o):=let ⟨u,hu,r⟩:=x;#[u,li _ hu,r]
def dj.update{h:Heap}(x:dj e c od h)(a:ϋ)(f:Obj->Obj)(hf:∀ o,(f o).cls=o.cls/\(f o).dict=o.dict/\∀ vs,o.data=.fields vs->∃ ws,(f o).data=.fields ws):dj e c od (h.update a f):=by
 let⟨u,hu,h1,h2,vs,h3⟩:=x;by_cases q:a=e
 ·subst q;let⟨ws,h4⟩:=(hf u).2.2 vs h3;show#[f u,P3 f hu (Obj.isFreed_of_fields h4),(hf u).1.trans h1,(hf u).2.1.trans h2,ws,h4]
 ·show#[u,(GT _ _ q).trans hu,h1,h2,vs,h3]
def Kp.update(a:ϋ)(f:Obj->Obj)(hf:∀ o,(f o).cls=o.cls/\(f o).dict=o.dict/\∀ vs,o.data=.fields vs->∃ ws,(f o).data=.fields ws):Kp e c od (PySem.update a f) :=
 #[fun _ _ _ _ _ _ hd h=>#[h.1,h.2,hd.update a f hf]]
def acz(g:Array ϊ->Array ϊ)(o:Obj):(Obj.mapFields g o).cls=o.cls/\(Obj.mapFields g o).dict=o.dict/\∀ vs,o.data=.fields vs->∃ ws,(Obj.mapFields g o).data=.fields ws:=by
 let⟨c1,d1,dt,sl⟩:=o;show#[Obj.cls_mapFields _ _,?_,fun vs h=>#[_,Jak h g]];cases dt <;> rfl
def Kp.alloc(o:Obj):Kp e c od (PySem.alloc o):=#[fun _ _ _ _ _ _ hd h=>#[h,hd.push o]]
def Kp.field(v:ϊ)(i:Nat):Kp e c od (PySem.field v i):=#[fun _ Γ _ _ _ _ hd h=>by
 rw[wp_field_iff]at h ⊢;let⟨a,o,vs,x,h1,h2,h3,h4,h5⟩:=h;show#[a,o,vs,x,h1,h2,h3,h4,h5,hd]]
def Kp.setField(v:ϊ)(i:Nat)(x:ϊ):Kp e c od (PySem.setField v i x):=#[fun _ Γ _ _ _ _ hd h=>by
 rw[wp_setField_iff]at h ⊢;let⟨a,o,vs,h1,h2,h3,h4,h5⟩:=h;show#[a,o,vs,h1,h2,h3,h4,h5,hd.update a _ (acz _)]]
local macro_rules | `(tactic| walk_at "kps")=>`(tactic| repeat' with_reducible first | assumption | exact Kp.pure _ | exact Kp.unsupported _ | exact Kp.field _ _ | exact Kp.setField _ _ _ | exact Kp.load _ | exact Kp.stack | exact Kp.alloc _ | apply Kp.ite | apply Kp.bind | intro _ | split)
def Kp.newFields(ty:String)(vs:List ϊ):Kp e c od (PySem.newFields ty vs):=by
 unfold PySem.newFields newObj newObjAsIs;walk_at "kps"
def Kp.frameEnvs:Kp e c od PySem.frameEnvs:=by
 unfold PySem.frameEnvs;walk_at "kps"
def Kp.isImport(env:Env)(outer:List Env):Kp e c od (behindIsImport env outer):=by
 unfold behindIsImport;walk_at "kps"
def Kp.caller:Kp e c od underTheClaimsCaller:=by
 unfold underTheClaimsCaller;walk_at "kps"
def Kp.keptBack(env:Env)(i:Bool)(l:List Env):Kp e c od (PySem.keptBack env i l):=by
 have:=Kp.caller (e:=e) (c:=c) (od:=od);cases l <;> unfold PySem.keptBack <;> walk_at "kps"
def Kp.ready:∀ l:List Env,Kp e c od (readyFrames l)
 | []=>Kp.pure _
 | env::outer=>by
  have ih:=Kp.ready outer;have h1:=Kp.isImport (e:=e) (c:=c) (od:=od) env outer;have h2:=fun i=>Kp.keptBack (e:=e) (c:=c) (od:=od) env i outer;unfold readyFrames;walk_at "kps"
  all_goals first | show h2 _ | show Kp.update _ _ (fun o=>#[rfl,rfl,fun vs h=>#[vs,h]]) | skip
def Kp.frameObject(l:List Env):Kp e c od (PySem.frameObject l):=by
 cases l with
 | nil=>show Kp.pure _
 | cons env outer =>
  have:=Kp.ready (e:=e) (c:=c) (od:=od) (env::outer);unfold PySem.frameObject;walk_at "kps"
def Kp.frameOf(env:Env):Kp e c od (PySem.frameOf env):=by
 have h1:=Kp.frameEnvs (e:=e) (c:=c) (od:=od);have h2:=Kp.frameObject (e:=e) (c:=c) (od:=od);unfold PySem.frameOf;walk_at "kps"
 all_goals first | show h2 _ | skip
def Kp.place(f:ϋ)(b:Bool):Kp e c od (entryPlaceOf f b):=by
 unfold entryPlaceOf;walk_at "kps"
def Kp.setFlight(v:ϊ)(fr:Option ϋ):Kp e c od (PySem.setFlight v fr):=by
 unfold PySem.setFlight;walk_at "kps"
def Kp.noteFrame(v:ϊ)(env:Env):Kp e c od (PySem.noteFrame v env):=by
 have h1:=Kp.frameOf (e:=e) (c:=c) (od:=od) env;have h2:=fun f b=>Kp.place (e:=e) (c:=c) (od:=od) f b;unfold PySem.noteFrame EntryCells.newEntry;walk_at "kps"
 all_goals first | show h2 _ _ | show Kp.newFields _ _ | skip
def Kp.leaving(env:Env)(v:ϊ):Kp e c od (PySem.leaving env v):=by
 have h1:=Kp.noteFrame (e:=e) (c:=c) (od:=od) v env;have h2:=Kp.setFlight (e:=e) (c:=c) (od:=od) v none;unfold PySem.leaving;walk_at "kps"
def Kp.any{t:Sem α}(k:Kp e c od t){M:Model}{A:Around}{Q:α->ό->Prop}{E:ϊ->ό->Prop}{s:ό}(hd:dj e c od s.heap)(h:wpAny M A t Q E s):wpAny M A t (fun a s'=>Q a s'/\dj e c od s'.heap) E s :=
 fun Γ p hΓ=>k.out M Γ _ _ p s hd (h Γ p hΓ)
end
end L2
namespace L2
def RI(xs:List V)(k:Nat):fR xs none (!(k:Int))=xs.take k:=by
 unfold fR;rw[HT.Ck,HT.uy,List.drop_zero,Nat.sub_zero];by_cases h:k<=xs.length
 ·rw[Nat.min_eq_left h]
 ·rw[Nat.min_eq_right ∅,WP (pi _),WP ∅]
def LN(xs:List V)(k:Nat):fR xs (!(k:Int)) none=xs.drop k:=by
 unfold fR;rw[HT.Ck,HT.uy];by_cases h:k<=xs.length
 ·rw[Nat.min_eq_left h,WP (by rw[List.length_drop];show pi _)]
 ·rw[Nat.min_eq_right ∅,List.drop_eq_nil_of_le (pi _),List.drop_eq_nil_of_le ∅];simp
end L2
namespace L2
open PySem PySem.Spec PyProof.Rows
def bU.there{P:ύ}{w:World}{H:Hp}{h:Heap}{a:ϋ}{o:HO}(x:bU P w H h a o):∃ u,h.get? a=!u:=by
 cases o with
 | lst xs=>let⟨_,_,_,_,e⟩:=x;show#[_,e]
 | tup xs=>let⟨_,_,_,u,e,_⟩:=x;show#[_,e]
 | dK kvs=>let⟨_,_,_,_,o,_,_,e,_⟩:=x;show#[_,e]
 | dT kvs=>let⟨_,_,_,_,o,_,_,e,_⟩:=x;show#[_,e]
 | set S n=>let⟨o,_,_,_,e,_⟩:=x;show#[_,e]
 | ins C dx fs=>let⟨_,_,_,e,_⟩:=x;show#[_,e]
 | own y=>show x
 | xd fs=>let⟨_,⟨_,_,_,e,_⟩,_⟩:=x;show#[_,e]
 | yW lo hi=>let⟨_,_,_,e⟩:=x;show#[_,e]
 | cD ob u=>let⟨e,_⟩:=x;show#[_,e]
 | nu ps=>show#[_,(show h.get? a=some _ from x)]
 | met f y=>show#[_,(show h.get? a=some _ from x)]
 | ext φ=>let⟨_,e,_⟩:=x;show e
def  ux(B:Heap)(fs:List ϋ)(h:Heap)(H':Hp)(h':Heap):Prop :=
 ∀ b o,h'.get? b=!o->b ∉ fs->((∃ u,h.get? b=!u)\/∃ u,H' b=!u)->B.get? b=!o
def IB{P:ύ}{w:World}{fs:List ϋ}{H H':Hp}{h h1 h2 B:Heap}(u:Un fs [] H H' h h1)(aA:cw P w H' h1)(hf:∀ b∈fs,H b=none/\∃ o,h.get? b=!o/\∀ vs,o.data≠.fields vs)(gp:ux B fs h H' h1)(st:B.StaysIn h2)(up:h1.UpToSlots h2):Un fs [] H H' h h2/\cw P w H' h2:=by
 have kB:∀ b o,h1.get? b=!o->b ∉ fs->((∃ u,h.get? b=!u)\/∃ u,H' b=!u)->h2.get? b=!o:=fun b o e hb z=>st b o (gp b o e hb z);have fr:∀ b∈fs,∀ o,h.get? b=!o->∃ sl,h2.get? b=!{ o with slots:=sl }:=fun b hb o e=>by
  let⟨n,o',e',nf⟩:=hf b hb;rw[e]at e';cases e';let⟨sl,e1⟩:=u.slot b o e n hb ();let⟨sl',e2⟩:=up b _ e1 nf;show#[sl',e2]
 show#[#[fun b o q n hb hx=>kB b o (u.keep b o q n hb hx) hb (.inl #[o,q]),fun b o q n hb hx=>fr b hb o q,u.free,fun b o q hx=>?_,u.fS,u.fc,u.fK],fun a v e=>?_]
 ·by_cases hb:b∈fs
  ·let⟨sl,e⟩:=fr b hb o q;show#[_,e]
  ·let⟨o',e1⟩:=u.there b o q hx;show#[o',kB b o' e1 hb (.inl #[o,q])]
 ·have tr:∀ b,(∃ u,H' b=!u)->b ∉ fs:=fun b #[v',e'] hb=>by
   let⟨n,o,ho,_⟩:=hf b hb;have:=u.free b o ho n ();rw[e']at this;cases this
  show(aA a v e).gk (fun b x hb q=>?_) (fun _ q=>q) fun _ _ q=>q;have hs:∃ u,H' b=!u:=by
   rcases hb with rfl | hb
   ·show#[v,e]
   ·show#[_,hb]
  show kB b x q (tr b hs) (.inr hs)
structure pe(P:ύ)(w:World)(outer:List Env)(H:Hp)(s:ό)(ea C:ϋ)(od:Option ϋ)(H':Hp)(s':ό):Prop where
 os:s'.os=s.os
 bare:AllBare s'.gens
 un:Un (bZ outer) [] H H' s.heap s'.heap
 aA:cw P w H' s'.heap
 free:H' ea=none
 new:s.heap.get? ea=none
 hd:dj ea (-C) od s'.heap
 Jc:∃ B a0,Heap.FlyingW B outer ea (-C) a0 s'.heap/\ux B (bZ outer) s.heap H' s'.heap
def  bc(P:ύ)(w:World):d8:=fun outer H s E e s'=>∃ ea C od H',e=-ea/\pe P w outer H s ea C od H' s'/\E (-C) od H'
section
variable {X:Cx}{π:List (ϋ×Obj)}{σ:St}{H H':Hp}{s s':ό}{ea C:ϋ}{od:Option ϋ}
def Inv.Jl(I:Inv X π σ H s):∀ b∈bZ X.stack,H b=none/\∃ o,s.heap.get? b=!o/\∀ vs,o.data≠.fields vs:=fun b hb=>#[I.xn b hb,(I.stack.mem hb).2]
structure Own(X:Cx):Prop where
 dM:X.stack=X.env::X.outer
 frame:X.env.frame=!X.env.locals
 ex:X.ex=[]
def Inv.CQ{h1 B:Heap}{a0:ϊ}(I:Inv X π σ H s)(O:Own X)(os:s'.os=s.os)(bare:AllBare s'.gens)(un:Un (bZ X.stack) [] H H' s.heap h1)(aA:cw X.prog X.w H' h1)(free:H' ea=none)(new:s.heap.get? ea=none)(gp:ux B (bZ X.stack) s.heap H' h1)(fl:Heap.FlyingW B X.outer ea (-C) a0 s'.heap)(up:h1.UpToSlots s'.heap)(hd:dj ea (-C) od s'.heap):pe X.prog X.w X.outer X.H₀ X.s₀ ea C od H' s':=by
 let⟨u2,hok2⟩:=IB un aA I.Jl gp fl.1 up;have Hb:bZ X.stack=X.env.locals::X.fs:=by
  rw[O.dM];unfold bZ;rw[_k,O.frame];rfl
 have vZ:∀ b o,X.s₀.heap.get? b=!o->b≠X.env.locals:=fun b o e=>wT (wf (sB e) I.ok.above);have nx:∀ b:ϋ,b ∉ X.ex:=fun b=>by rw[O.ex];simp
 have fm:∀ b o,X.s₀.heap.get? b=!o->b ∉ X.fs->b ∉ bZ X.stack:=fun b o e hb z=>by
  rw[Hb]at z;rcases jp.mp z with q | q
  ·show vZ b o e q
  ·show hb q
 have Lfree:H' X.env.locals=none:=by
  let⟨m,⟨o,_,_,ho,_⟩,_⟩:=I.loc;show un.free _ o ho I.free ()
 show#[os.trans I.os,bare,#[fun b o q n hb _=>?_,fun b o q n hb _=>?_,fun b o q n _=>?_,fun b o q _=>?_,fun b xs q=>?_,fun b o v q=>?_,fun b ps q=>?_],hok2,free,?_,hd,B,a0,fl,fun b o e hb z=>?_]
 ·show u2.keep b o (I.base.keep b o q n hb (nx b)) (I.base.free b o q n (nx b)) (fm b o q hb) ()
 ·let⟨sl,e1⟩:=I.base.slot b o q n hb (nx b);let⟨sl',e2⟩:=u2.slot b _ e1 (I.base.free b o q n (nx b)) (by rw[Hb];show AC _ hb) ();show#[sl',e2]
 ·let⟨o',e1⟩:=I.base.there b o q (nx b);show u2.free b o' e1 (I.base.free b o q n (nx b)) ()
 ·let⟨o',e1⟩:=I.base.there b o q (nx b);show u2.there b o' e1 ()
 ·show u2.fS b xs (I.base.fS b xs q)
 ·show u2.fc b o v (I.base.fc b o v q)
 ·let⟨m1,e1⟩:=I.base.fK b ps q;let⟨m2,e2⟩:=u2.fK b _ e1;show#[m1++m2,by rw[e2,Array.append_assoc]]
 ·cases q:X.s₀.heap.get? ea with
  | none=>rfl
  | some u =>
   let⟨u',e'⟩:=I.base.there ea u q (nx ea);rw[new]at e';cases e'
 ·have hn:b ∉ bZ X.stack:=fun z'=>by
   rw[Hb]at z';rcases jp.mp z' with q | q
   ·rcases z with ⟨o',e'⟩ | ⟨v,e'⟩
    ·show vZ b o' e' q
    ·rw[q,Lfree]at e';cases e'
   ·show hb q
  have hs:∃ o',h1.get? b=!o'/\((∃ u,s.heap.get? b=!u)\/∃ u,H' b=!u):=by
   rcases z with ⟨o',e'⟩ | ⟨v,e'⟩
   ·let⟨o2,e2⟩:=I.base.there b o' e' (nx b);let⟨o3,e3⟩:=un.there b o2 e2 ();show#[o3,e3,.inl #[o2,e2]]
   ·let⟨o3,e3⟩:=(aA b v e').there;show#[o3,e3,.inr #[v,e']]
  let⟨o3,e3,z3⟩:=hs;have e4:=gp b o3 e3 hn z3;have e5:=fl.1 b o3 e4;rw[e]at e5;cases e5;show e4
def Inv.Ij{M:Model}{A:Around}{E:ϊ->ό->Prop}(I:Inv X π σ H s)(O:Own X)(hA:A.frames=!X.stack)(F:pe X.prog X.w X.stack H s ea C od H' s') :
  wpAny M A (leaving X.env (-ea)) (fun _ s''=>pe X.prog X.w X.outer X.H₀ X.s₀ ea C od H' s'') E s':=by
 let⟨B,a0,fl,gp⟩:=F.Jc;have fl':=fl;rw[O.dM]at fl' hA;show aD ((Kp.leaving X.env (-ea)).any F.hd (wpAny_leaves_onW (Q:=fun _ s''=>∃ h',s''={ s' with heap:=h' }/\Heap.FlyingW B X.outer ea (-C) a0 h'/\s'.heap.UpToSlots h') hA O.frame fl' fun h' x1 x2=>#[h',rfl,x1,x2])) fun _ s'' #[#[h',e,x1,x2],hd]=>?_;subst e;show I.CQ (s':={ s' with heap:=h' }) O F.os F.bare F.un F.aA F.free F.new gp x1 x2 hd
def Ob{h h':Heap}{e:ϋ}{cls:ϊ}{args:List ϊ}(hx:Heap.MadeExcOf h h' e cls args):dj e cls none h':=by
 let⟨t,he,_⟩:=hx.there;show#[_,he,rfl,rfl,_,rfl]
def Inv.Tn{M:Model}{A:Around}{E:ϊ->ό->Prop}{h':Heap}{vs:List ϊ}(I:Inv X π σ H s)(O:Own X)(hA:A.frames=!X.stack)(hx:Heap.MadeExcOf s.heap h' ea (-C) vs) :
  wpAny M A (leaving X.env (-ea)) (fun _ s''=>pe X.prog X.w X.outer X.H₀ X.s₀ ea C none H s'') E { s with heap:=h' }:=by
 have aX:(W.hideAll s.heap (bZ X.stack)).StaysIn s.heap:=fun b o q=>Jae _ q;have iJ:s.heap.FunFrames (W.hideAll s.heap (bZ X.stack)) X.stack:=W.funFrames_hide I.stack fun env he a ha=>_Q.mpr #[env,he,ha];have nU:H ea=none:=by
  cases q:H ea with
  | none=>rfl
  | some u =>
   let⟨o,e⟩:=(I.aA ea u q).there;have:=hx.new;rw[e]at this;cases this
 have gp:ux (W.hideAll s.heap (bZ X.stack)) (bZ X.stack) s.heap H h':=fun b o e hb z=>by
  have hs:∃ u,s.heap.get? b=!u:=by
   rcases z with z | ⟨v,z⟩
   ·show z
   ·show(I.aA b v z).there
  let⟨u,eu⟩:=hs;have:=hx.keeps b u eu;rw[e]at this;cases this;show Ja7 _ eu hb
 generalize W.hideAll s.heap (bZ X.stack)=B at aX iJ gp;have hfr':=iJ;rw[O.dM]at hfr' hA;show aD ((Kp.leaving X.env (-ea)).any (s:={ s with heap:=h' }) (Ob hx) (wpAny_leaves_madeW (s:={ s with heap:=h' }) (Q:=fun _ s''=>∃ h2 t,s''={ s with heap:=h2 }/\Heap.FlyingW B X.outer ea (-C) (-t) h2/\h'.UpToSlots h2) hA O.frame aX hfr' hx
  fun h2 t x1 _ _ x4=>#[h2,t,rfl,x1,x4])) fun _ s'' #[#[h2,t,e,x1,x4],hd]=>?_
 subst e;show I.CQ (s':={ s with heap:=h2 }) O rfl I.bare (Un.kept hx.keeps) (I.aA.kept hx.keeps) nU hx.new gp x1 x4 hd
structure ik(X:Cx)(R:St->XK):Prop where
 pass:∀ (π:List (ϋ×Obj)) (σ:St) (H:Hp) (s:ό) (e:ϊ) (s':ό),Inv X π σ H s->bc X.prog X.w X.stack H s (R σ) e s'->X.xe e s'
structure Raises(X:Cx)(R:St->XK):Prop where
 made:∀ (π:List (ϋ×Obj)) (σ:St) (H:Hp) (s:ό) (h':Heap) (ea C:ϋ) (vs:List ϊ),Inv X π σ H s->Heap.MadeExcOf s.heap h' ea (-C) vs->R σ (-C) none H->X.xe (-ea) { s with heap:=h' }
def cg{P:ύ}{w:World}{K:ν}{mg:Str->Option ϊ}{base:Heap}{N:List Str}{qual:Str}{scope:Scope}{f:ϋ}{cd:ϊ}{A:Around}{outer:List Env}{s₀:ό}{H₀:Hp}{E:XK} :
  ik (cj (bc P w) P w K mg base N qual scope f cd A outer s₀ H₀ E) (fun _=>E) where
 pass:=fun π σ H s e s' I hc=>by
  let⟨ea,C,od,H',rfl,F,hE⟩:=hc;show aD (I.Ij #[rfl,rfl,rfl] I.ok.frames F) fun _ s'' z=>#[ea,C,od,H',rfl,z,hE]
def zk{P:ύ}{w:World}{K:ν}{mg:Str->Option ϊ}{base:Heap}{N:List Str}{qual:Str}{scope:Scope}{f:ϋ}{cd:ϊ}{A:Around}{outer:List Env}{s₀:ό}{H₀:Hp}{E:XK} :
  Raises (cj (bc P w) P w K mg base N qual scope f cd A outer s₀ H₀ E) (fun _=>E) where
 made:=fun π σ H s h' ea C vs I hx hE=>aD (I.Tn #[rfl,rfl,rfl] I.ok.frames hx) fun _ s'' z=>#[ea,C,none,H,rfl,z,hE]
def  Dw(sp:Sp)(bF:List V)(R:St->XK)(t:TA):TE:=fun σ H Q=>t σ H fun vs H1=>sp (vs++bF) H1 Q (R σ)
section
variable {k:Nat}{f:ϋ}{fd:FuncData}{ps:List Str}{sp:Sp}{bF:List V}{ds:List ϊ}{R:St->XK}{x:Str}{p pos:Pos}{e:Expr}{es:List Expr}{t:TA}
def N4{Q:VK}{us:List ϊ}{vs:List V}(F:aB X.prog X.w X.K X.mg X.base (bc X.prog X.w) k f fd ps sp)(hr:bh k X.A)(hb:Binds X.K fd ps ds)(hd:Vals bF ds)(hx:ik X R)(I:Inv X π σ H s)(r:Vals vs us)(h:sp (vs++bF) H Q (R σ)):wpAny (model X.prog X.w) X.A (call (-f) us) (EP X π σ Q) X.xe s:=by
 have r2:Vals (vs++bF) (us++ds):=r.append hd;have hl:(us++ds).length=ps.length:=by rw[<- r2.length];show F.len _ _ _ _ h
 show _a (_t (F.run X.A X.stack s H #[us,[]] (us++ds) (vs++bF) Q (R σ) hr I.rS (hb s us I.cq hl) r2 h) fun r s' hq=>?_);cases r with
 | error e=>show hx.pass π σ H s e s' I hq
 | ok fl =>
  cases fl with
  | ret u=>show I.after hq
  | next=>show False.elim hq
  | brk=>show False.elim hq
  | cont=>show False.elim hq
def Uo(F:aB X.prog X.w X.K X.mg X.base (bc X.prog X.w) k f fd ps sp)(hr:bh k X.A)(hg:Gl X x)(hm:X.mg x=!-f)(hk:W.keepIn X.K (-f)=true)(hb:Binds X.K fd ps ds)(hd:Vals bF ds)(hx:ik X R)(ha:PA X (e::es) t)(hs:‹(e::es).all noStar=true›)(b7:(x == ("__debug__":Str))=false:=by decide):PE X (.Call (.Name x p) (e::es) [] pos) (Dw sp bF R t):=by
 have hs':=hs;rw[KK,Cl]at hs';intro π s σ H Q I h;show FB (lM I hg hm ?_ b7);show Tk (h₀:=X.base) I.ok.mod.iN hk (aD (ha pos π s σ H _ I h) fun us s1 #[vs,H1,I1,r,q]=>#[I1.cq,?_]) (fL hs'.1) (iP hs'.2);show N4 F hr hb hd hx I1 r q
end
end
abbrev uW:List ϊ:=[.type "ValueError",.type "Exception",.type "BaseException",.type "object"]
def Tc{K:ν}{h:Heap}{C:ϋ}{QD:List ϊ}{newId:String}(X:K.In h)(q:W.excIn K C QD newId=true) :
  ∃ bm N nm q bs hdct sn sub ab col dd k0 k1 k2 k3 k5 mN,h.get? C=!excClassObj nm q C N bs bm hdct sn sub ab col dd k0 k1 k2 k3 k5 newId/\h.Ns N mN/\mN "__init__" = none/\OwnTail h QD bm:=by
 unfold W.excIn at q;split at q
 ·rename_i dd cd sl ho;split at q
  ·rename_i C' bm k0 k1 k2 k3 n k5 hm hs;simp only[Cl,ZB,Bool.not_eq_true']at q;let⟨⟨⟨⟨⟨q1,q2⟩,q3⟩,q4⟩,q5⟩,q6⟩:=q;subst q1 q2;let⟨nm,bs,mro,ns,qn,hd,sn,sub,ab,col,del⟩:=cd;dsimp only at hm q3 q5 q6;subst hm q3;have e1:sl=(List.toArray [k0,k1,k2,k3,!.builtin n,k5]):=by
    let⟨l⟩:=sl;simp only at hs;rw[hs]
   subst e1;show#[bm,ns,nm,qn,bs,hd,sn,sub,ab,col,dd,k0,k1,k2,k3,k5,_,X _ _ ho,.of_isNs (W.isNs_of_in X q5),W.nsMap_none_of_in X q5 q6,W.tail_of_in X q4]
  ·cases q
 ·cases q
def  Ec(C:ϋ)(R:St->XK)(t:TA):TS:=fun _ σ H=>t σ H fun vs H1=>vs.length<=sizeLine/\R σ (-C) none H1
def ZU{X:Cx}{R:St->XK}{x:Str}{C:ϋ}{e:Expr}{es:List Expr}{t:TA}{np bf pos:Pos}(hx:Raises X R)(hc:X.calm=true)(hm:X.mg x=!-C)(q:W.excIn X.K C uW "ValueError.__new__" = true)(ha:PA X (e::es) t)(hg:‹Gl X x›)(hs:‹(e::es).all noStar=true›)(b7:(x == ("__debug__":Str))=false:=by decide):PS X (.Raise (!.Call (.Name x np) (e::es) [] bf) none pos) (Ec C R t):=by
 have hs':=hs;rw[KK,Cl]at hs';intro π s σ H D I h;let⟨bm,N,nm,qn,bs,hdct,sn,sub,ab,col,dd,k0,k1,k2,k3,k5,mN,hC,hN,hni,T⟩:=Tc I.ok.mod.iN q;show wpAny_Raise_call_subT (C:=C) (nm:=nm) (q:=qn) (N:=N) (bs:=bs) (bm:=bm) (hdct:=hdct) (sn:=sn) (sub:=sub) (ab:=ab) (col:=col) (dd:=dd) (k0:=k0) (k1:=k1) (k2:=k2) (k3:=k3) (k5:=k5)
  _E (mN:=mN) (T.hasType _E.hasBase) (I.ok.hd hc) (by rw[fL hs'.1];show iP hs'.2) hni (lM I hg hm #[rfl,?_] b7)
 have ha':=ha bf π s σ H _ I h;rw[fL hs'.1]at ha' ⊢;show TW (aD ha' fun us s2 #[vs,H2,I2,r,z,hR]=>?_);show#[rfl,by rw[<- r.length];show z,I2.bk _ _ hC,hN.keeps I2.bk,T.keeps I2.bk,fun h' ea hm'=>hx.made π σ H2 s2 h' ea C us I2 hm' hR]
def  lW(ea C:ϋ)(od:Option ϋ):HO:=.ext (dj ea (-C) od)
def T6{P:ύ}{w:World}{H:Hp}{h:Heap}{ea C:ϋ}{od:Option ϋ}(x:dj ea (-C) od h):bU P w H h ea (lW ea C od) :=
 #[x,let ⟨o,e,_⟩:=x;#[o,e],fun _ _ #[o,e,r] k=>#[o,k o e,r]]
abbrev Cx.lL(X:Cx)(v:ϊ):Cx:={ X with A:=X.A.mark (!v),calm:=false,xe:=fun _ _=>False }
abbrev Cx.oq(X:Cx)(π:List (ϋ×Obj))(R:St->XK):Cx:={ X with pn:=X.pn++π,xe:=fun e s'=>∃ (σ':St) (H H':Hp) (s:ό) (ea C:ϋ) (od:Option ϋ),Inv X π σ' H s/\e=-ea/\pe X.prog X.w X.stack H s ea C od H' s'/\R σ' (-C) od H' }
section
variable {X:Cx}{π π':List (ϋ×Obj)}{σ:St}{H H':Hp}{s s':ό}{R:St->XK}{v:ϊ}
def Inv.lL(I:Inv X π σ H s)(v:ϊ):Inv (X.lL v) π σ H s :=
 #[#[I.ok.mod,I.ok.kind,I.ok.glob,I.ok.blt,I.ok.above,I.ok.inj,I.ok.has,I.ok.lQ,(fun z=>Bool.noConfusion z),I.ok.frames,I.ok.dM,I.ok.uL,I.ok.bs,I.ok.ia,I.ok.nM,I.ok.nj,I.ok.fB,I.ok.jG],
  I.os,I.bare,I.base,I.loc,I.cell,I.free,I.eN,I.pin,I.aA,I.len]
def Inv.acT(I:Inv (X.lL v) π σ H s)(ok:X.Ok):Inv X π σ H s:=#[ok,I.os,I.bare,I.base,I.loc,I.cell,I.free,I.eN,I.pin,I.aA,I.len]
def Inv.oq(I:Inv X π σ H s)(R:St->XK):Inv (X.oq π R) [] σ H s :=
 #[#[I.ok.mod,I.ok.kind,I.ok.glob,I.ok.blt,I.ok.above,I.ok.inj,I.ok.has,I.ok.lQ,I.ok.hd,I.ok.frames,I.ok.dM,I.ok.uL,I.ok.bs,I.ok.ia,I.ok.nM,I.ok.nj,I.ok.fB,I.ok.jG],
  I.os,I.bare,I.base,I.loc,I.cell,I.free,I.eN,fun p hp=>I.pin p (by simpa using hp),I.aA,I.len]
def Inv.uA(I:Inv (X.oq π R) π' σ H s):Inv X π σ H s :=
 #[#[I.ok.mod,I.ok.kind,I.ok.glob,I.ok.blt,I.ok.above,I.ok.inj,I.ok.has,I.ok.lQ,I.ok.hd,I.ok.frames,I.ok.dM,I.ok.uL,I.ok.bs,I.ok.ia,I.ok.nM,I.ok.nj,I.ok.fB,I.ok.jG],
  I.os,I.bare,I.base,I.loc,I.cell,I.free,I.eN,fun p hp=>I.pin p (Tm _ hp),I.aA,I.len]
def TX:ik (X.oq π R) R:=#[fun π' σ H s e s' I hc=>by
 let⟨ea,C,od,H',rfl,F,hE⟩:=hc;show#[σ,H,H',s,ea,C,od,I.uA,rfl,F,hE]]
def Inv.wN{a:ϋ}{o:HO}(I:Inv X π σ H s)(hn:H a=none)(n0:X.s₀.heap.get? a=none)(nL:a≠X.env.locals)(nC:∀ x c,X.env.cells.lookup x=!c->c≠a)(nP:∀ p∈X.pn++π,p.1≠a)(new:bU X.prog X.w (upd H a o) s.heap a o):Inv X π σ (upd H a o) s:=by
 have ne:∀ b u,H b=!u->b≠a:=fun b u e=>gx e hn;have n0':∀ b u,X.s₀.heap.get? b=!u->b≠a:=fun b u e z=>by rw[z,n0]at e;cases e
 show#[I.ok,I.os,I.bare,#[I.base.keep,I.base.slot,fun b u e n hx=>by rw[ag (n0' b u e)];show I.base.free b u e n hx,I.base.there,fun b xs e=>by have:=I.base.fS b xs e;rw[ag (ne b _ this)];show this,
  fun b u v e=>by have:=I.base.fc b u v e;rw[ag (ne b _ this)];show this,fun b ps e=>?_],I.loc,I.cell,by rw[ag (pp nL)];show I.free,fun x c e=>by rw[ag (nC x c e)];show I.eN x c e,fun p hp=>?_,fun b u e=>?_,I.len]
 ·let⟨m,e1⟩:=I.base.fK b ps e;show#[m,by rw[ag (ne b _ e1)];show e1]
 ·let⟨e1,e2,r⟩:=I.pin p hp;show#[e1,by rw[ag (nP p hp)];show e2,r]
 ·by_cases hb:b=a
  ·subst hb;rw[aw]at e;cases e;show new
  ·rw[ag hb]at e;show(I.aA b u e).gk (fun _ _ _ q=>q) (fun c q=>by rw[ag (ne c _ q)];show q) fun c xs q=>by rw[ag (ne c _ q)];show q
def Inv.ab5{i:Nat}{n:Str}{m:Str->Option ϊ}{h8:Heap}{v:Option ϊ}{t8:Nat}(I:Inv X π σ H s)(hN:X.N.Nodup)(hi:X.N[i]?=!n)(hl:∀ (i:Nat) (x:Str) (v:V),X.N[i]?=!x->σ[i]?=!(!v)->nH X.env.scope x->∃ u,RelV v u/\Look X.env s.heap m x u)(GQ:h8.Ns X.env.locals (fun x=>if x=n then v else m x))(sb:Heap.SameBut X.env.locals s.heap h8):Inv X π (σ.set i none) H { s with heap:=h8,toks:=t8 }:=by
 have old:∀ b o,X.s₀.heap.get? b=!o->h8.get? b=s.heap.get? b:=fun b o e=>sb.2 b (wT (wf (sB e) I.ok.above));show#[I.ok,I.os,I.bare,#[fun b o e n' hb hx=>(old b o e).trans (I.base.keep b o e n' hb hx),fun b o e n' hb hx=>?_,I.base.free,fun b o e hx=>?_,I.base.fS,I.base.fc,I.base.fK],#[_,GQ,fun j y v' e1 e2 e3=>?_],fun y c e=>?_,I.free,I.eN,fun p hp=>?_,fun b u e=>?_,by simpa using I.len]
 ·let⟨sl,e1⟩:=I.base.slot b o e n' hb hx;show#[sl,(old b o e).trans e1]
 ·let⟨o',e1⟩:=I.base.there b o e hx;show#[o',(old b o e).trans e1]
 ·by_cases hj:j=i
  ·subst hj;have bS:j < σ.length:=by rw[I.len];show(lm.mp hi).1
   rw[Db bS]at e2;cases e2
  ·rw[AT (pp hj)]at e2;let⟨u',r',q⟩:=hl j y v' e1 e2 e3;show#[u',r',?_];rcases q with ⟨k,e⟩ | ⟨k,c,e,z⟩
   ·show .inl #[k,?_];have:y≠n:=fun e=>hj (Dm hN e1 (e ▸ hi));simp[this,e]
   ·show .inr #[k,c,e,z.sameBut sb (I.jX y c e)]
 ·let⟨w',z⟩:=I.cell y c e;show#[w',z.sameBut sb (I.jX y c e)]
 ·let⟨e,n',ne,nf,d⟩:=I.pin p hp;show#[(sb.2 p.1 ne).trans e,n',ne,nf,d]
 ·show(I.aA b u e).gk (fun c w' hc q=>(sb.2 c ?_).trans q) (fun _ q=>q) fun _ _ q=>q;rintro rfl;have hf:=I.free;rcases hc with z | z
  ·rw[z]at hf;rw[hf]at e;cases e
  ·rw[hf]at z;cases z
end
def  Ends.Ft(D:Ends)(i:Nat):Ends:=#[fun σ H=>D.nx (σ.set i none) H,D.rt,fun σ H=>D.bk (σ.set i none) H,fun σ H=>D.ct (σ.set i none) H]
structure kf(K:ν)(C:ϋ):Prop where
 ha:W.findIn K (-C) "__class__" = !(!.builtin "object.__class__")
 hn:W.specialIn K (.builtin "object.__class__") "__get__" = !(!.builtin "getset_descriptor.__get__")
 fq:W.takesIn K (.builtin "object.__class__")=!true
 hm:W.mroIn K C (.type "object")=!true
 xW:W.findIn K (-C) "__getattribute__" = !(!.builtin "BaseException.__getattribute__")
 pz:W.findIn K (-C) "__getattr__" = !none
 hb:W.mroIn K C (.type "BaseException")=!true
def pB{M:Model}{h:Heap}{x C:ϋ}{od:Option ϋ}(I:dj x (-C) od h):W.Looks M h (typeOf (-x)) (-C):=by
 let⟨o,e,c,_⟩:=I;show c ▸ (_p e).andThen .now
def Fz{K:ν}{C:ϋ}{b:ϊ}{r:Bool}(h:W.mroIn K C b=!r):∃ c d cd sl,K.lookup C=!#[c,d,.cls cd,sl]:=by
 let⟨cd,bM,_⟩:=Option.bind_eq_some_iff.mp h;unfold W.clsIn at bM;split at bM
 ·rename_i c' d' cd' sl' ho;show#[_,_,_,_,ho]
 ·cases bM
section
variable {prog:ύ}{w:World}{A:Around}{E:ϊ->ό->Prop}{s:ό}{K:ν}{x C:ϋ}{od:Option ϋ}
def SS{M:Model}{h:Heap}{name:Str}{a g:ϊ}(X:K.In h)(ha:W.findIn K (-C) name=!(!a))(hn:W.specialIn K a "__get__" = !(!g))(fq:W.takesIn K a=!true) :
  W.Looks M h (Builtin.ObjectAttr.find (-x) (-C) name) (.bind g a):=by
 have L1:=GE (M:=M) X ha;have L2:W.Looks M h (Builtin.ObjectAttr.getOf (!a)) (!g):=W.looks_specialIn X hn;have L3:=W.looks_takesIn (M:=M) X fq;unfold Builtin.ObjectAttr.find;show L1.andThen (L2.andThen ?_);have L4:W.Looks M h (Builtin.ObjectAttr.dataDescriptor? (!a) (!g)) (!(g,a)):=by
  unfold Builtin.ObjectAttr.dataDescriptor?;show L3.andThen .now
 show L4.andThen (W.Looks.tag .now)
open PySem.W in
open Builtin Builtin.ObjectAttr Builtin.Getset_descriptor in
def aaD{R:Result->ό->Prop}{tp:ϊ}(Z:kf K C)(X:K.In s.heap)(I:dj x (-C) od s.heap)(h:R (.ok (.ret (-C))) s) :
  codeAny (model prog w) A (.call (.builtin "getset_descriptor.__get__") #[[.builtin "object.__class__",-x,tp],[]]) R s:=by
 let⟨hh,g,dr,t,os⟩:=s;have L0:=pB (M:=model prog w) I;have L1:=looks_mroIn (M:=model prog w) X Z.hm;show _h KF.slot_gs.plain KF.entry_gs (KF.slot_gs.check _ _ _ _ _ _ _ _ KF.type_class (KF.args_gs _ _ _) ?_);unfold Builtin.«getset_descriptor.__get__» descrGet;rw[dga_obj];show ii (pc ?_);unfold descrGetter descrCheckInstance descrNameAndClass isInstance;simp only[KF.owner_class]
 repeat lk
 show#[Jal _ (by decide +kernel),Ja5 KF.entry_class ?_];unfold Builtin.«object.__class__» shownTypeOf
 repeat lk
 show h
def KC{M:Model}{Qd:ϊ}{Q:Unit->ό->Prop}(Z:kf K C)(X:K.In s.heap)(I:dj x (-C) od s.heap)(h:Q .unit s):wpAny M A (checkBuiltinCall "BaseException.__getattribute__" #[[-x,Qd],[]]) Q E s:=by
 have k1:builtinKind "BaseException.__getattribute__" = !.slot:=by decide +kernel
 have k2:splitId "BaseException.__getattribute__" = !("BaseException","__getattribute__"):=by decide +kernel
 have k3:=PySem.F.args_bexc_ga (-x) Qd;have L0:=pB (M:=M) I;have L1:=_m (M:=M) X Z.hb;let⟨hh,g,d,t,os⟩:=s;have L2:W.Looks M hh (isInstance (-x) (.type "BaseException")) true:=L0.andThen L1;simp only[checkBuiltinCall,k1,k2];show ii (L2.at ?_)
 repeat (any_goals (first | assumption | wp_step))
def Ut{Q:Option ϊ->ό->Prop}(Z:kf K C)(X:K.In s.heap)(I:dj x (-C) od s.heap)(h:Q (!-C) { s with toks:=s.toks+1 }):wpAny (model prog w) A (getAttr? (-x) "__class__") Q E s:=by
 let⟨hh,g,d,t,os⟩:=s;have L0:=pB (M:=model prog w) I;have L1:=GE (M:=model prog w) X Z.xW;have L2:=GE (M:=model prog w) X Z.pz;have L3:=SS (M:=model prog w) (x:=x) X Z.ha Z.hn Z.fq;unfold getAttr? getAttrBy? getAttrBy;show ii (wpAny_mkText (ii (Jar (FM (ii (L0.at (ii (L1.at ?_))))))));change wpAny _ _ (getAttrByItsOwn (-x) (.str "__class__" t) (-C) (.builtin "BaseException.__getattribute__") false false) _ _ _;unfold getAttrByItsOwn;show ii (L2.at ?_);show ii (Jar (FM ?_));change wpAny _ _ (boundAndCalled (.builtin "BaseException.__getattribute__") (-x) (.str "__class__" t)) _ _ _;unfold boundAndCalled;show ii (wpAny_of_eq (_q.ga.bind (-x)) ?_);show _a (_h _q.ga.plain PySem.F.entry_bexc_ga (KC Z X I ?_));change wpAny _ _ (Builtin.«object.__getattribute__» #[[-x,.str "__class__" t],[]]) _ _ _;unfold Builtin.«object.__getattribute__»;show ii (pc ?_);show ii (pc ?_);show ii (L0.at (ii (L3.at ?_)));change wpAny _ _ (Builtin.ObjectAttr.bindTo (.builtin "getset_descriptor.__get__") (.builtin "object.__class__") (-x) (-C)) _ _ _;change wpAny _ _ (holding [.builtin "object.__class__"] (call (.builtin "getset_descriptor.__get__") [.builtin "object.__class__",-x,-C]) >>= fun v=>ret v) _ _ _;show ii (FM (_a (aaD Z X I (pc ?_))));show pc (pc h)
def BS(Z:kf K C):W.KitX K (-x) (-C) (dj x (-C) od) where
 ty:=fun _ _ _ I=>pB I
 it:=fun _ _ X _=>by
  let⟨c',d',cd',sl',ho⟩:=Fz Z.hm;intro A' Q' E' s' k q;unfold isType loadHead;show ii (_n (k _ _ (X _ _ ho)) (pc q))
 ne:=fun h tp dd aq n sl X htp=>by
  let⟨c',d',cd',sl',ho⟩:=Fz Z.hm;show Bool.eq_false_iff.mpr fun q=>?_;have e:C=tp:=ϊ.ref.inj (ZB.mp q);subst e;have z:=(X _ _ ho).symm.trans htp;cases z
 ca:=fun X I k=>Ut Z X I k
end
inductive tN(K:ν)(H:Hp):V->ϊ->Bool->Prop where
 | of {x:V}{t:ϊ} (h:fW K H x t):tN K H x t false
 | exc {ea C:ϋ}{od:Option ϋ} (e:H ea=!lW ea C od) (Z:kf K C):tN K H (-ea) (-C) true
inductive qQ(K:ν)(H:Hp)(t:ϊ):Bool->V->Bool->Prop where
 | ty {f:Bool}{n:String}{b:Bool} (e:W.kitOne K t (.type n)=!b):qQ K H t f (.ty n) b
 | cls {f:Bool}{a:ϋ}{b:Bool} (e:W.kitOne K t (-a)=!b):qQ K H t f (-a) b
 | tup {p:ϋ}{cs:List V}{us:List ϊ}{b:Bool} (h:H p=!.tup cs) (hu:∀ ws,Vals cs ws->ws=us) (e:W.kitAny K t us=!b):qQ K H t true (-p) b
section
variable {X:Cx}{K:ν}
def  E1(K:ν):List V->Hp->VK->Prop:=fun xs H Q=>match xs with
 | [x,c]=>∃ (t:ϊ) (f b:Bool),tN K H x t f/\qQ K H t f c b/\Q (.bl b) H
 | _=>False
def Ux{x c:V}{u v t:ϊ}{π:List (ϋ×Obj)}{σ:St}{H:Hp}{s:ό}{A:Around}{E:ϊ->ό->Prop}{Q:ϊ->ό->Prop}{f b:Bool}(I:Inv X π σ H s)(rx:RelV x u)(rc:RelV c v)(ty:tN X.K H x t f)(a:qQ X.K H t f c b)(h:∀ tk,Q (.bool b) { s with toks:=tk }):wpAny (model X.prog X.w) A (call (.builtin "isinstance") [u,v]) Q E s:=by
 cases ty with
 | of ty =>
  cases a with
  | ty e=>cases (show v=ϊ.type _ from rc);show Ax I rx ty e h
  | cls e=>cases (show v=ϊ.ref _ from rc);show Ax I rx ty e h
 | @exc ea C od e Z =>
  cases (show u=ϊ.ref ea from rx);let⟨p,_,_⟩:=(show bU X.prog X.w H s.heap ea (lW ea C od) from I.aA ea _ e);cases a with
  | ty e'=>cases (show v=ϊ.type _ from rc);show IR (BS Z) I.cq p e' (fun z=>nomatch z) h
  | cls e'=>cases (show v=ϊ.ref _ from rc);show IR (BS Z) I.cq p e' (fun z=>nomatch z) h
  | @tup tp cs us b hp hu e' =>
   cases (show v=ϊ.ref tp from rc);let⟨_,aq,rv,o,ho,hc,n,hd,_⟩:=(show bU X.prog X.w H s.heap tp (.tup cs) from I.aA tp _ hp);obtain rfl:=hu aq rv;let⟨oc,odd,Gg,dA⟩:=o;dsimp only at hc hd;subst hc hd;show W.kia_tup (BS Z) I.cq p ho e' (fun z=>nomatch z) h
def wQ(h:X.K=K):cM X (.builtin "isinstance") (E1 K):=h ▸ fun π s σ H xs us Q I r q=>by
 unfold E1 at q;split at q
 ·rename_i x c;let⟨t,f,b,ty,a,q⟩:=q;let⟨u,v,rfl,ru,rv⟩:=vals2 r;show Ux I ru rv ty a fun tk=>#[.bl b,H,I.tok tk,rfl,q]
 ·show q.elim
end
namespace Dv
section
variable {X:Cx}{st:Stmt}{t:TS}
def bY{k:Nat}{f:ϋ}{fd:FuncData}{ps:List Str}{sp:Sp}{bF:List V}{ds:List ϊ}{R:St->XK}{x:Str}{p pos:Pos}{e:Expr}{es:List Expr}{t:TA}(F:aB X.prog X.w X.K X.mg X.base (bc X.prog X.w) k f fd ps sp)(hr:bh k X.A)(hm:X.mg x=!-f)(hk:W.keepIn X.K (-f)=true)(hb:Binds X.K fd ps ds)(hd:Vals bF ds)(hx:ik X R)(ha:QA X (e::es) t)(hg:‹Gl X x›)(hs:‹(e::es).all noStar=true›)(b7:(x == ("__debug__":Str))=false:=by decide):QE X (.Call (.Name x p) (e::es) [] pos) (Dw sp bF R t):=#[Uo F hr hg hm hk hb hd hx ha.h hs b7]
def xN{R:St->XK}{x:Str}{C:ϋ}{e:Expr}{es:List Expr}{t:TA}{np bf pos:Pos}(hx:Raises X R)(hc:X.calm=true)(hm:X.mg x=!-C)(q:W.excIn X.K C uW "ValueError.__new__" = true)(ha:QA X (e::es) t)(hg:‹Gl X x›)(hs:‹(e::es).all noStar=true›)(b7:(x == ("__debug__":Str))=false:=by decide):QS X (.Raise (!.Call (.Name x np) (e::es) [] bf) none pos) (Ec C R t):=#[ZU hx hc hm q ha.h hg hs b7]
end
end Dv
def eW.cS{P:ύ}{w:World}{K:ν}{mg:Str->Option ϊ}{base:Heap}{CX:d8}{x qual:Str}{st:Stmt}{f:ϋ}{fd:FuncData}{N ps:List Str}{k:Nat}{sp:Sp}(F:eW K x qual st f fd)(S:aC N ps (ax st))(len:∀ vs H Q E,sp vs H Q E->vs.length=ps.length)(hb:∀ (ah:ϊ) (A:Around) (outer:List Env) (s:ό) (H:Hp) (vs:List V) (Q:VK) (E:XK),bh k (A.deeper (envOfC qual (ax st) s.heap.objs.size f ah))->sp vs H Q E ->
   ∃ t,dm (cj CX P w K mg base N qual (ax st) f ah A outer s H E) (aO st) t/\t { nx:=fun _ H'=>Q .au H',rt:=Q } (start N vs) H):aB P w K mg base CX (k+1) f fd ps sp:=by
 let⟨oc,od,kV,doc,pm,an,ah,ct,dA,rfl,lk,bM⟩:=F.ex;show wZ lk bM S len fun A outer s H vs Q E hr dF=>hb ah A outer s H vs Q E hr dF
def  uT:List ϊ->Bool
 | []=>false
 | v::r=>(v::r) == uW || match v with
  | .ref _=>uT r
  | _=>false
def NS(self:ϊ):∀ {l:List ϊ},uT l=true->refuseLoop self "__setattr__" l=pure .unit
 | [],e=>nomatch e
 | v::r,e=>by
  unfold uT at e;rcases Bool.or_eq_true_iff.mp e with q | q
  ·rw[ZB.mp q];show PySem.F.store_ValueError.passes self
  ·split at q
   ·rw[refuseLoop_ref];show NS self q
   ·cases q
def  xx(K:ν)(C:ϋ):Bool:=match K.lookup C with
 | some ⟨.type "type",_,.cls cd,sl⟩=>(match cd.mro,sl.toList with
  | .ref C'::bm,[_,_,_,_,!.builtin n,_]=>C' == C && n == "ValueError.__new__" && Bool.not cd.hasDel && W.tailIn K uW bm && uT cd.mro && cd.hasDict
  | _,_=>false)
 | _=>false
structure gN(K:ν)(C f:ϋ)(fld:Str):Prop where
 q:xx K C=true
 hi:W.findIn K (-C) "__init__" = !(!-f)
 hf:W.typeIn K (-f)=!.type "function"
 sa:W.findIn K (-C) "__setattr__" = !(!.builtin "object.__setattr__")
 na:W.findIn K (-C) fld=!none
 ob:W.mroIn K C (.type "object")=!true
 be:W.mroIn K C (.type "BaseException")=!true
 self:W.mroIn K C (-C)=!true
 kp:W.keepIn K (-C)=true
def wC{K:ν}{h:Heap}{C:ϋ}(X:K.In h)(q:xx K C=true) :
  ∃ bm N nm q bs sn sub ab col dd k0 k1 k2 k3 k5,h.get? C=!excClassObj nm q C N bs bm true sn sub ab col dd k0 k1 k2 k3 k5 "ValueError.__new__"/\OwnTail h uW bm/\uT (-C::bm)=true:=by
 unfold xx at q;split at q
 ·rename_i dd cd sl ho;split at q
  ·rename_i C' bm k0 k1 k2 k3 n k5 hm hs;simp only[Cl,ZB,Bool.not_eq_true']at q;let⟨⟨⟨⟨⟨q1,q2⟩,q3⟩,q4⟩,q5⟩,q6⟩:=q;subst q1 q2;let⟨nm,bs,mro,ns,qn,hd,sn,sub,ab,col,del⟩:=cd;dsimp only at hm q3 q5 q6;subst hm q3 q6;have e1:sl=(List.toArray [k0,k1,k2,k3,!.builtin "ValueError.__new__",k5]):=by
    let⟨l⟩:=sl;simp only at hs;rw[hs]
   subst e1;show#[bm,ns,nm,qn,bs,sn,sub,ab,col,dd,k0,k1,k2,k3,k5,X _ _ ho,W.tail_of_in X q4,q5]
  ·cases q
 ·cases q
section
variable {prog:ύ}{w:World}{A:Around}{E:ϊ->ό->Prop}{s:ό}{K:ν}{x C f:ϋ}{fld:Str}{v:ϊ}
open Builtin Builtin.ObjectAttr in
def W8{Q:Unit->ό->Prop}(Z:gN K C f fld)(X:K.In s.heap)(I:dj x (-C) none s.heap)(h:∀ h' d tk,s.heap.objs.size<=d->d≠x->(∃ o,s.heap.get? x=!o/\h'.get? x=!{ o with dict:=some d })->h'.Ns1 d (fun y=>if y=fld then !v else none)->(∀ b o,b≠x->s.heap.get? b=!o->h'.get? b=!o)->Q .unit { s with heap:=h',toks:=tk }) :
  wpAny (model prog w) A (setAttr (-x) fld v) Q E s:=by
 let⟨hh,g,dr,t,os⟩:=s;have L0:=pB (M:=model prog w) I;have L1:=GE (M:=model prog w) X Z.sa;have L2:=GE (M:=model prog w) X Z.na;let⟨bm,N,nm,qn,bs,sn,sub,ab,col,dd,k0,k1,k2,k3,k5,hC,T,O9⟩:=wC X Z.q;have Lo:=_m (M:=model prog w) X Z.ob;have Li:W.Looks (model prog w) hh (isInstance (-x) (.type "object")) true:=L0.andThen Lo;have SF:=PySem.F.store_object;show ii (wpAny_mkText (ii (ii (ii (L0.at (L1.at (FM ?_)))))));rw[SF.slot.bind];show ii (pc (ii (_a ?_)));show _h SF.slot.plain SF.entry ?_;show @W.check_slot (model prog w) _ _ #[hh,g,dr,t+1,os] "object.__setattr__" "object" "__setattr__" (-x) [.str fld t,v] [] _ SF.kind SF.split Li (SF.args (-x) (.str fld t) v) ?_;change wpAny _ _ (Builtin.«object.__setattr__» #[[-x,.str fld t,v],[]]) _ _ _;rw[W.osa_eq,refuse_eq];show ii (ii (L0.at (ii (wpAny_mroOf_exc hC ?_))));rw[NS _ O9];show pc (ii (L0.at (ii (L2.at (ii (pc ?_))))));let⟨o,hx,hc,jL,vs,dY⟩:=I;change wpAny _ _ (storeInOwnDict (-x) (-C) (.str fld t) fld v false) _ _ _;have Lc:W.Looks (model prog w) hh (classData C) _:=(_p (part:=none) hC).andThen .now;let⟨oc,od,Gg,dA⟩:=o;dsimp only at hc jL dY;subst hc jL dY;have bJ:(hh.push { cls:=.type "dict",data:=.dict (List.toArray []) }).get? x=!#[-C,none,.fields vs,dA]:=li _ hx;have GL:x≠hh.objs.size:=wT (sB hx);unfold storeInOwnDict ownDictForStores instanceDict;show ii (pc ?_);show ii (ii (_n hx (ii (Lc.at ?_))));show ii (wpAny_alloc' ?_);show ii (wpAny_update' bJ (pc ?_));change wpAny _ _ (storeInDict hh.objs.size (.str fld t) fld v) _ _ _;have hself:((hh.push { cls:=.type "dict",data:=.dict (List.toArray []) }).update x fun o=>{ o with dict:=some hh.objs.size }).get? x=!#[-C,!hh.objs.size,.fields vs,dA]:=P3 _ bJ rfl;have hdict:((hh.push { cls:=.type "dict",data:=.dict (List.toArray []) }).update x fun o=>{ o with dict:=some hh.objs.size }).get? hh.objs.size=!{ cls:=.type "dict",data:=.dict (List.toArray []) } :=
  (Heap.get?_update_ne _ _ _ _ GL.symm).trans (Heap.get?_push_at rfl rfl)
 have hoth:∀ b o,b≠x->hh.get? b=!o->((hh.push { cls:=.type "dict",data:=.dict (List.toArray []) }).update x fun o=>{ o with dict:=some hh.objs.size }).get? b=!o:=fun b o hb e =>
  (Heap.get?_update_ne _ _ _ _ hb).trans (li _ e)
 have eR:((hh.push { cls:=.type "dict",data:=.dict (List.toArray []) }).update x fun o=>{ o with dict:=some hh.objs.size }).Ns hh.objs.size (fun _=>none):=#[_,(List.toArray []),_,hdict,rfl,fun e he=>absurd he (),fun _=>rfl];unfold storeInDict newKeyGuard;show ii (pc (ii (wpAny_nsSet1 (Heap.Ns1.of_empty eR) fun h' hn' hs=>?_)));let⟨oD,JR,epD,GU,HG,Hk⟩:=hn'.count (Within.cons fld v Within.nil);show ii (wpAny_lookBehind GU (by rw[HG];show pastItsLine_dict (wE Hk (by rw[Fa,_N,Jao];omega))) ?_);show pc (pc (pc ?_));show h h' hh.objs.size _ (pi _) (pp GL) #[_,hx,(hs.2 x GL).trans hself] hn' fun b o hb e=>(hs.2 b (wT (sB e))).trans (hoth b o hb e)
end
def  nO(e:ϋ)(c:ϊ)(od:Option ϋ)(h:Heap):Prop:=∃ o,h.get? e=!o/\o.cls=c/\o.dict=od/\∃ vs a0,o.data=.fields vs/\vs[1]?=!.none/\vs[0]?=!a0
def nO.hd{e:ϋ}{c:ϊ}{od:Option ϋ}{h:Heap}(x:nO e c od h):dj e c od h:=let ⟨o,a,b,c,vs,_,d,_⟩:=x;#[o,a,b,c,vs,d]
def  dI(ea C:ϋ)(od:Option ϋ):HO:=.ext (nO ea (-C) od)
def OE{P:ύ}{w:World}{H:Hp}{h:Heap}{ea C:ϋ}{od:Option ϋ}(x:nO ea (-C) od h):bU P w H h ea (dI ea C od) :=
 #[x,let ⟨o,e,_⟩:=x;#[o,e],fun _ _ #[o,e,r] k=>#[o,k o e,r]]
def Yy{h h':Heap}{e:ϋ}{cls:ϊ}{args:List ϊ}(hx:Heap.MadeExcOf h h' e cls args):nO e cls none h':=by
 let⟨t,he,_⟩:=hx.there;show#[_,he,rfl,rfl,_,_,rfl,rfl,rfl]
def  D1(C:ϋ)(fld:Str)(ta tv:TE):TS:=fun D σ H=>tv σ H fun y H1=>ta σ H1 fun x H2=>∃ ea,x=-ea/\H2 ea=!dI ea C none/\∀ d,H2 d=none->D.nx σ (upd (upd H2 ea (dI ea C (!d))) d (.xd [(fld,y)]))
def Wl{fld g:Str}{y:V}{u:ϊ}(r:RelV y u):eA (([(fld,y)]:List (Str×V)).lookup g) (if g=fld then !u else none):=by
 by_cases h:g=fld
 ·have hb:(g == fld)=true:=ZB.mpr h;simp only[List.lookup,hb,xL h];show r
 ·have hb:(g == fld)=false:=Do.mpr h;simp only[List.lookup,hb,wP h];show True.intro
section
variable {X:Cx}{C f:ϋ}{fld:Str}{o value:Expr}{ta tv:TE}{pos pos':Pos}
def ab1(Z:gN X.K C f fld)(ha:PE X o ta)(hv:PE X value tv)(hs:swapsWith value (!.Attribute o fld pos') pos.line X.env=pure false):PS X (.Assign [.Attribute o fld pos'] value pos) (D1 C fld ta tv):=by
 intro π s σ H D I h;show plainObj_wpAny_Assign_Attribute (aD (hv π s σ H _ I h) fun u s1 #[y,H1,I1,ry,q]=>aD (ha π s1 σ H1 _ I1 q) fun ov s2 #[x,H2,I2,rx,ea,ex,he,q2]=>?_) hs;subst ex;obtain rfl:ov=ϊ.ref ea:=rx;let⟨p,_,_⟩:=(show bU X.prog X.w H2 s2.heap ea (dI ea C none) from I2.aA ea _ he);show W8 Z I2.cq p.hd fun h' d tk hsz mz v9 eR hkeep=>?_;let⟨o0,e0,e1⟩:=v9;let⟨o0',e0',c0,d0,vs,a0,v0⟩:=p;rw[e0]at e0';cases e0';have hd':nO ea (-C) (!d) h':=#[_,e1,c0,rfl,vs,a0,v0];have aS:H2 d=none:=I2.aA.fresh hsz;have J:Inv X π σ (upd H2 ea (dI ea C (!d))) { s2 with heap:=h',toks:=tk } :=
  I2.write (x:=ea) (e:=ea) (o:=dI ea C (!d)) (t':=tk) (by rw[he];show True.intro) (.inl rfl) hkeep #[_,e1] (OE hd')
 have big:∀ b,(∃ u,s2.heap.get? b=!u)->b≠d:=fun b #[u,e] z=>absurd (sB e) (by rw[z];show Nat.not_lt.mpr hsz);show#[σ,_,J.wN (a:=d) (o:=.xd [(fld,y)]) (by rw[ag mz];show aS) (_g (wE I2.sz hsz)) ?_ ?_ ?_ #[_,eR,fun g=>Wl ry],q2 d aS]
 ·let⟨m,⟨o,_,_,ho,_⟩,_⟩:=I2.loc;show pp (big _ #[o,ho])
 ·intro z c e;let⟨w',o,ho,_⟩:=I2.cell z c e;show big _ #[o,ho]
 ·intro p hp;show big _ #[_,(I2.pin p hp).1]
end
def  nJ(C:ϋ)(fld:Str):Sp:=fun vs H Q _=>match vs with
 | [-ea,y]=>H ea=!dI ea C none/\∀ d,H d=none->Q .au (upd (upd H ea (dI ea C (!d))) d (.xd [(fld,y)]))
 | _=>False
section
variable {prog:ύ}{w:World}{A:Around}{E:ϊ->ό->Prop}{h:Heap}{g:Array GenState}{d:Drawn}{t:Nat}{os:OsState}{K:ν}{C f:ϋ}{fld:Str}
def RQ{rest:List ϊ}{Q:Fin->ό->Prop}(Z:gN K C f fld)(X:K.In h)(dW:rest.length<=sizeLine)(hq:∀ h' e,Heap.MadeExcOf h h' e (-C) rest->wpAny (model prog w) A (call (-f) (-e::rest)) (fun r s'=>r=.none/\Q (.done (.ret (-e))) s') E #[h',g,d,t,os]) :
  wpAny (model prog w) A (Builtin.«type.__call__» #[-C::rest,[]]) Q E #[h,g,d,t,os]:=by
 have F:=_E;let⟨bm,N,nm,qn,bs,sn,sub,ab,col,dd,k0,k1,k2,k3,k5,hC,T,_⟩:=wC X Z.q
 repeat (first | with_reducible show wpAny_loadPart_at hC ?_ | with_reducible show wpAny_madeBy_exc hC ?_ | wp_step)
 show codeAny_call_builtin_code (Jal _ F.quiet) (wpAny_check_new_subT F T hC (codeAny_exc_new_subT F T hC ?_ dW));change wpAny _ _ _ _ _ _;have kk:∀ b o,h.get? b=!o->((h.push { cls:=.type "tuple",data:=.seq rest.toArray }).push { cls:=-C,data:=.fields (List.toArray [-h.objs.size,.none,.none,.none,.bool false,.none]) }).get? b=!o:=fun b o e=>li _ (li _ e);have QN:((h.push { cls:=.type "tuple",data:=.seq rest.toArray }).push { cls:=-C,data:=.fields (List.toArray [-h.objs.size,.none,.none,.none,.bool false,.none]) }).get? (h.objs.size+1)=!{ cls:=-C,data:=.fields (List.toArray [-h.objs.size,.none,.none,.none,.bool false,.none]) }:=by heap_get
 have Qa:((h.push { cls:=.type "tuple",data:=.seq rest.toArray }).push { cls:=-C,data:=.fields (List.toArray [-h.objs.size,.none,.none,.none,.bool false,.none]) }).get? h.objs.size=!{ cls:=.type "tuple",data:=.seq rest.toArray }:=li _ (Heap.get?_push_at rfl rfl);generalize Qk:(h.push { cls:=.type "tuple",data:=.seq rest.toArray }).push { cls:=-C,data:=.fields (List.toArray [-h.objs.size,.none,.none,.none,.bool false,.none]) }=h2 at kk QN Qa ⊢;have made:Heap.MadeExcOf h h2 (h.objs.size+1) (-C) rest:=#[kk,_g (_T _),h.objs.size,QN,_g (pi _),Qa];have X2:K.In h2:=fun b o e=>kk b o (X b o e);have L0:=pB (M:=model prog w) (Ob made);have L1:=GE (M:=model prog w) X2 Z.hi;have Lb:=W.bind_fn (M:=model prog w) X2 (-(h.objs.size+1)) Z.hf;have Ls:W.Looks (model prog w) h2 (isSubtype (-C) (-C)) true:=_m X2 Z.self;have Li:W.Looks (model prog w) h2 (isInstance (-(h.objs.size+1)) (-C)) true:=L0.andThen Ls;show ii (Li.at ?_);simp only[_L,Ev,TD];show ii (FM ?_);unfold callSpecial? specialOf;show ii (ii (L0.at (L1.at ?_)));show FM (ii (Lb.at (ii (KB (hq h2 _ made) (fun r s' z=>?_) fun _ _ z=>z))));let⟨rfl,z⟩:=z;show pc (pc z)
def W7{rest:List ϊ}{Q:ϊ->ό->Prop}(Z:gN K C f fld)(X:K.In h)(dW:rest.length<=sizeLine)(hq:∀ h' e,Heap.MadeExcOf h h' e (-C) rest->wpAny (model prog w) (A.under (.builtin "type.__call__" #[-C::rest,[]])) (call (-f) (-e::rest)) (fun r s'=>r=.none/\Q (-e) s') E #[h',g,d,t,os]) :
  wpAny (model prog w) A (call (-C) rest) Q E #[h,g,d,t,os]:=by
 let⟨bm,N,nm,qn,bs,sn,sub,ab,col,dd,k0,k1,k2,k3,k5,hC,T,_⟩:=wC X Z.q;have f1:=tc_lookup;have f2:=tc_bind (-C);have hT:(#[h,g,d,t,os]:ό).TypeIs (-C) "type" := #[_,hC,rfl];show _a (codeAny_of_tree ?_);change wpAny _ _ (callAny (-C) _) _ _ _
 repeat (any_goals (first | assumption | with_reducible show wpAny_loadPart_at hC ?_ | wp_step))
 show#[rfl,codeAny_call_builtin_at (Jal _ (by decide +kernel)) entry_typeCall (wpAny_check_type_call_sub hC (RQ Z X dW fun h' e hm=>hq h' e hm))]
end
def ac0{M:Model}{A:Around}{E:ϊ->ό->Prop}{s:ό}{env:Env}{K:ν}{C:ϋ}{x:Sem ϊ}{Q:Flow->ό->Prop}(hb:W.mroIn K C (.type "BaseException")=!true)(cU:W.typeIn K (-C)=!.type "type")(hh:A.handled=none)(h:wpAny M A x (fun v s₁=>∃ e o vs,v=-e/\s₁.heap.get? e=!o/\o.cls=-C/\o.data=.fields vs/\vs[1]?=!.none/\K.In s₁.heap/\E (-e) s₁) E s) :
  wpAny M A (raiseStmt env (!x) none) Q E s:=by
 unfold raiseStmt;show ii (KB h (fun v s₁ h₁=>?_) fun _ _ x=>x);let⟨e,o,vs,rfl,he,hc,hd,h1,X,hE⟩:=h₁;let⟨hp,g,d,tk,os⟩:=s₁;have L0:W.Looks M hp (typeOf (-e)) (-C):=hc ▸ (_p he).andThen .now;have L1:=_m (M:=M) X hb;have L2:W.Looks M hp (isType (-e)) false:=by
  let⟨oc,od,Gg,dA⟩:=o;dsimp only at hd;subst hd;intro A' Q' E' s' k q;unfold isType loadHead;show ii (_n (k _ _ he) (pc q))
 have L3:W.Looks M hp (isExcClass (-e)) false:=L2.andThen .now;have L4:W.Looks M hp (isInstance (-e) (.type "BaseException")) true:=L0.andThen L1;have L5:=W.looks_typeIn (M:=M) X cU;show ii (pc (ii (FM ?_)));unfold excFromValue;show ii (L3.at ?_);simp only[Ev,TD];show ii (L4.at ?_);simp only[if_true];show pc ?_;show ii (L2.at ?_);simp only[Ev,TD];unfold raisedInstance;show ii (ii (L0.at (ii (L5.at ?_))));show pc ?_;unfold setFlight;show ii (ii (wpAny_field he hd h1 ?_));show pc ?_;show wpAny_raiseNew_none hh hE
def J9{fs:List ϋ}{H H':Hp}{h h1 base:Heap}(u:Un fs [] H H' h h1):∀ l:List Env,(∀ b∈bZ l,b∈fs/\H b=none)->h.FunFrames base l->h1.FunFrames base l
 | [],_,_=>trivial
 | env::r,hs,⟨hk,⟨L,o,hf,hn,ho,hd⟩,hr⟩=>by
  have e:bZ (env::r)=L::bZ r:=by
   unfold bZ;rw[_k,hf]
  let⟨h1',h2'⟩:=hs L (by rw[e];show SZ);let⟨sl,e1⟩:=u.slot L o ho h2' h1' ();show#[hk,#[L,_,hf,hn,e1,hd],J9 u r (fun b hb=>hs b (by rw[e];show AC _ hb)) hr]
section
variable {X:Cx}{π:List (ϋ×Obj)}{σ:St}{H H':Hp}{s s1:ό}{ea C:ϋ}{od:Option ϋ}
def Inv.ZT{M:Model}{A:Around}{E:ϊ->ό->Prop}(I:Inv X π σ H s)(O:Own X)(hA:A.frames=!X.stack)(os:s1.os=s.os)(bare:AllBare s1.gens)(un:Un (bZ X.stack) [] H H' s.heap s1.heap)(aA:cw X.prog X.w H' s1.heap)(free:H' ea=none)(new:s.heap.get? ea=none)(hn:nO ea (-C) od s1.heap):wpAny M A (leaving X.env (-ea)) (fun _ s''=>pe X.prog X.w X.outer X.H₀ X.s₀ ea C od H' s'') E s1:=by
 have aX:(W.hideAll s1.heap (ea::bZ X.stack)).StaysIn s1.heap:=fun b o q=>Jae _ q;have iJ:s1.heap.FunFrames (W.hideAll s1.heap (ea::bZ X.stack)) X.stack:=W.funFrames_hide (J9 un X.stack (fun b hb=>#[hb,I.xn b hb]) I.stack) fun env he a ha=>AC _ (_Q.mpr #[env,he,ha]);have Ht:(W.hideAll s1.heap (ea::bZ X.stack)).get? ea=none:=W.hideAll_none _ SZ;have gp:ux (W.hideAll s1.heap (ea::bZ X.stack)) (bZ X.stack) s.heap H' s1.heap:=fun b o e hb z=>by
  show Ja7 _ e fun hm=>?_;rcases jp.mp hm with q | q
  ·rcases z with ⟨u,z⟩ | ⟨u,z⟩
   ·rw[q,new]at z;cases z
   ·rw[q,free]at z;cases z
  ·show hb q
 generalize W.hideAll s1.heap (ea::bZ X.stack)=B at aX iJ Ht gp;rw[O.dM]at iJ hA;let⟨oe,he,hc,z7,vs,a0,hd,h1,h0⟩:=id hn;show aD ((Kp.leaving X.env (-ea)).any hn.hd (wpAny_leaving_firstW (Q:=fun _ s''=>∃ h2,s''={ s1 with heap:=h2 }/\Heap.LeftW B (X.env::X.outer) ea oe.cls a0 s1.heap h2) hA iJ O.frame he aX Ht hd h1 h0 fun h2 x=>#[h2,rfl,x])) fun _ s'' #[#[h2,e,k1,#[_,_,k2],k3,k4],hd2]=>?_;subst e;rw[hc]at k3;show I.CQ (s':={ s1 with heap:=h2 }) O os bare un aA free new gp #[k1,Ht,k2,k3] k4 hd2
structure De(X:Cx)(R:St->XK):Prop where
 made:∀ (π:List (ϋ×Obj)) (σ:St) (H H':Hp) (s s1:ό) (ea C:ϋ) (od:Option ϋ),Inv X π σ H s->s1.os=s.os->AllBare s1.gens->Un (bZ X.stack) [] H H' s.heap s1.heap->cw X.prog X.w H' s1.heap->H' ea=none->s.heap.get? ea=none ->
  nO ea (-C) od s1.heap->R σ (-C) od H'->X.xe (-ea) s1
end
def iQ{P:ύ}{w:World}{K:ν}{mg:Str->Option ϊ}{base:Heap}{N:List Str}{qual:Str}{scope:Scope}{f:ϋ}{cd:ϊ}{A:Around}{outer:List Env}{s₀:ό}{H₀:Hp}{E:XK} :
  De (cj (bc P w) P w K mg base N qual scope f cd A outer s₀ H₀ E) (fun _=>E) where
 made:=fun π σ H H' s s1 ea C od I os bare un aA free new hn hE=>aD (I.ZT #[rfl,rfl,rfl] I.ok.frames os bare un aA free new hn) fun _ s'' z=>#[ea,C,od,H',rfl,z,hE]
def  Ej(C:ϋ)(fld:Str)(R:St->XK)(t:TA):TS:=fun _ σ H=>t σ H fun vs H1=>∃ v,vs=[v]/\∀ d,H1 d=none->R σ (-C) (!d) (upd H1 d (.xd [(fld,v)]))
def WG{X:Cx}{R:St->XK}{x fld:Str}{C f:ϋ}{fd:FuncData}{k:Nat}{ps:List Str}{e:Expr}{es:List Expr}{t:TA}{np bf pos:Pos}(hx:De X R)(hex:X.ex=[])(hc:X.calm=true)(hm:X.mg x=!-C)(Z:gN X.K C f fld)(cU:W.typeIn X.K (-C)=!.type "type")(F:aB X.prog X.w X.K X.mg X.base aN k f fd ps (nJ C fld))(hr:bh (k+1) X.A)(hb:Binds X.K fd ps [])(ha:PA X (e::es) t)(hg:‹Gl X x›)(hs:‹(e::es).all noStar=true›)(b7:(x == ("__debug__":Str))=false:=by decide):PS X (.Raise (!.Call (.Name x np) (e::es) [] bf) none pos) (Ej C fld R t):=by
 have hs':=hs;rw[KK,Cl]at hs';intro π s σ H D I h;rw[arm_exec_Raise];show ii (Ja0 ?_);change wpAny _ _ (raiseStmt X.env (!(do let v <- eval (.Call (.Name x np) (e::es) [] bf) X.env;standAt pos;pure v)) none) _ _ s;show ac0 Z.be cU (I.ok.hd hc) (ii (KB (FB (lM I hg hm ?_ b7)) (fun v s3 h3=>ii (Ja0 (pc h3))) fun _ _ z=>z));show Tk (h₀:=X.base) I.ok.mod.iN Z.kp (aD (ha bf π s σ H _ I h) fun us s2 #[vs,H2,I2,r,v,ev,hR]=>#[I2.cq,?_]) (fL hs'.1) (iP hs'.2);subst ev;let⟨u,rfl,ru⟩:=vals1 r;let⟨h2,g2,d2,t2,zA⟩:=s2;show W7 Z I2.cq (by change 1<=sizeLine;decide) fun h3 ex nY=>?_;have fm:∀ b,(∃ o,h2.get? b=!o)->b≠ex:=fun b #[o,e'] z=>by
  have:=nY.new;rw[z,this]at e';cases e'
 have nU:H2 ex=none:=by
  cases q:H2 ex with
  | none=>rfl
  | some o=>show absurd rfl (fm ex (I2.aA ex o q).there)
 have I3:Inv X π σ H2 #[h3,g2,d2,t2,zA]:=I2.kept (t':=t2) nY.keeps;have I4:Inv X π σ (upd H2 ex (dI ex C none)) #[h3,g2,d2,t2,zA]:=by
  show I3.wN nU ?_ ?_ ?_ ?_ (OE (Yy nY))
  ·cases q:X.s₀.heap.get? ex with
   | none=>rfl
   | some o =>
    show absurd rfl (fm ex (I2.base.there ex o q (by rw[hex];simp)))
  ·let⟨m,⟨o,_,_,ho,_⟩,_⟩:=I2.loc;show pp (fm _ #[o,ho])
  ·intro y c e';let⟨w',o,ho,_⟩:=I2.cell y c e';show fm _ #[o,ho]
  ·intro p hp;show fm _ #[_,(I2.pin p hp).1]
 have hl:([ϊ.ref ex,u]++([]:List ϊ)).length=ps.length:=by
  have:=F.len [-ex,v] (upd H2 ex (dI ex C none)) (fun _ _=>True) E0 #[aw,fun _ _=>True.intro];show this
 show _a (_t (F.run (X.A.under (.builtin "type.__call__" #[[-C,u],[]])) X.stack #[h3,g2,d2,t2,zA] (upd H2 ex (dI ex C none)) #[[-ex,u],[]] [-ex,u] [-ex,v]
  (fun r H5=>r=.au/\∃ d,upd H2 ex (dI ex C none) d=none/\H5=upd (upd (upd H2 ex (dI ex C none)) ex (dI ex C (!d))) d (.xd [(fld,v)])) E0 (hr.make C [u] []) (I4.rS.make C [u] []) (hb _ [-ex,u] I4.cq hl) (.cons rfl (.cons ru .nil))
  #[aw,fun d hd=>#[rfl,d,hd,rfl]]) fun r s5 hq=>?_)
 cases r with
 | error e'=>show False.elim hq
 | ok fl =>
  cases fl with
  | next=>show False.elim hq
  | brk=>show False.elim hq
  | cont=>show False.elim hq
  | ret u5 =>
   let⟨v5,H5,os5,bare5,nS,GJ,rv5,rfl,d,sO,rfl⟩:=hq;have mz:d≠ex:=fun z=>by rw[z,aw]at sO;cases sO
   have hd2:H2 d=none:=by rw[ag mz]at sO;show sO
   have e5:upd (upd (upd H2 ex (dI ex C none)) ex (dI ex C (!d))) d (.xd [(fld,v)]) ex=!dI ex C (!d):=by rw[ag (pp mz),aw]
   have e6:∀ b,b≠ex->upd (upd (upd H2 ex (dI ex C none)) ex (dI ex C (!d))) d (.xd [(fld,v)]) b=upd H2 d (.xd [(fld,v)]) b:=fun b hb=>by
    by_cases q:b=d
    ·rw[q,aw,aw]
    ·rw[ag q,ag hb,ag hb,ag q]
   have e7:upd H2 d (.xd [(fld,v)]) ex=none:=by rw[ag (pp mz)];show nU
   have e4:∀ b,b≠ex->upd H2 ex (dI ex C none) b=H2 b:=fun b hb=>ag hb;generalize upd (upd (upd H2 ex (dI ex C none)) ex (dI ex C (!d))) d (.xd [(fld,v)])=H5 at nS GJ e5 e6;let⟨hN,_,_⟩:=(show bU X.prog X.w H5 s5.heap ex (dI ex C (!d)) from GJ ex _ e5);have sP:∀ b o,H2 b=!o->b≠ex:=fun b o q=>gx q nU;have PY:Un (bZ X.stack) [] H2 (upd H2 d (.xd [(fld,v)])) h2 s5.heap:=by
    show#[fun b o q n hb hx=>?_,fun b o q n hb hx=>?_,fun b o q n hx=>?_,fun b o q hx=>?_,fun b xs q=>?_,fun b o v' q=>?_,fun b ps' q=>?_]
    ·show nS.keep b o (nY.keeps b o q) (by rw[e4 b (fm b #[o,q])];show n) hb hx
    ·show nS.slot b o (nY.keeps b o q) (by rw[e4 b (fm b #[o,q])];show n) hb hx
    ·rw[<- e6 b (fm b #[o,q])];show nS.free b o (nY.keeps b o q) (by rw[e4 b (fm b #[o,q])];show n) hx
    ·show nS.there b o (nY.keeps b o q) hx
    ·rw[<- e6 b (sP b _ q)];show nS.fS b xs (by rw[e4 b (sP b _ q)];show q)
    ·rw[<- e6 b (sP b _ q)];show nS.fc b o v' (by rw[e4 b (sP b _ q)];show q)
    ·rw[<- e6 b (sP b _ q)];show nS.fK b ps' (by rw[e4 b (sP b _ q)];show q)
   have hokF:cw X.prog X.w (upd H2 d (.xd [(fld,v)])) s5.heap:=fun b o q=>by
    have hb:b≠ex:=fun z=>by rw[z,e7]at q;cases q
    have q5:H5 b=!o:=by rw[e6 b hb];show q
    have ne5:∀ c o',H5 c=!o'->o'≠dI ex C (!d)->c≠ex:=fun c o' z1 z2 z=>by rw[z,e5]at z1;show z2 (Fk z1).symm
    show(GJ b o q5).gk (fun _ _ _ z=>z) (fun c z=>?_) fun c xs z=>?_
    ·rw[<- e6 c (ne5 c _ z (fun z'=>by cases z'))];show z
    ·rw[<- e6 c (ne5 c _ z (fun z'=>by cases z'))];show z
   let⟨oe,he,zw,z7,vs',a0,Aj,h1,h0⟩:=id hN;show#[rv5,ex,oe,vs',rfl,he,zw,Aj,h1,?_,hx.made π σ H2 _ #[h2,g2,d2,t2,zA] s5 ex C (!d) I2 os5 bare5 PY hokF e7 nY.new hN (hR d hd2)];show I2.ok.mod.iN.keeps fun b o z=>PY.keep b o (I2.bs b o z).1 (I2.bs b o z).2 (fun hb=>by have:=(I2.stack.mem hb).1;rw[z]at this;cases this) ()
section
variable {prog:ύ}{w:World}{A:Around}{E:ϊ->ό->Prop}{s:ό}{K:ν}{x C f d:ϋ}{fld:Str}
open Builtin Builtin.ObjectAttr in
def Sv{M:Model}{h:Heap}{mA:Str->Option ϊ}{u:ϊ}(Z:gN K C f fld)(X:K.In h)(I:dj x (-C) (!d) h)(hn:h.Ns1 d mA)(hu:mA fld=!u):W.Looks M h (find (-x) (-C) fld) (.value u):=by
 have L1:=GE (M:=M) X Z.na;let⟨bm,N,nm,qn,bs,sn,sub,ab,col,dd,k0,k1,k2,k3,k5,hC,T,O9⟩:=wC X Z.q;have Lc:W.Looks M h (classData C) _:=(_p (part:=none) hC).andThen .now;let⟨o,hx,hc,jL,vs,dY⟩:=I;let⟨oc,od,Gg,dA⟩:=o;dsimp only at hc jL dY;subst hc jL dY;intro A' Q' E' s' k q;unfold find;show ii (L1 _ _ _ _ k ?_);show ii (pc (ii (pc ?_)));change wpAny M A' (ownThenClass (-x) fld none none) Q' E' s';unfold ownThenClass inOwnDict ownDict;show ii (ii (ii (_n (k _ _ hx) ?_)));change wpAny M A' (instanceDict x false) _ E' s';unfold instanceDict;show ii (_n (k _ _ hx) (ii (Lc _ _ _ _ k ?_)));show pc (a:=!d) ?_;change wpAny M A' (nsGet d fld) _ E' s';show wpAny_nsGet (hn.ns.keeps k) ?_;rw[hu];show ii (wpAny_rule (pc q))
def acK{v:V}{u:ϊ}(r:RelV v u):handedOut u=pure u:=by
 cases v <;> first
  | (cases r;rfl)
  | (let⟨t,rfl⟩:=r;rfl)
def aba{b:Bool}{Q:ϊ->ό->Prop}{mA:Str->Option ϊ}{u:ϊ}(Z:gN K C f fld)(ZK:kf K C)(X:K.In s.heap)(I:dj x (-C) (!d) s.heap)(hn:s.heap.Ns1 d mA)(hu:mA fld=!u)(hh:handedOut u=pure u)(h:Q u { s with toks:=s.toks+1 }):wpAny (model prog w) A (getAttr (-x) fld b) Q E s:=by
 let⟨hp,g,dr,t,os⟩:=s;have L0:=pB (M:=model prog w) I;have L1:=GE (M:=model prog w) X ZK.xW;have L2:=GE (M:=model prog w) X ZK.pz;have L3:=Sv (M:=model prog w) Z X I hn hu;unfold getAttr getAttrBy;show ii (wpAny_mkText (FM (ii (L0.at (ii (L1.at ?_))))));change wpAny _ _ (getAttrByItsOwn (-x) (.str fld t) (-C) (.builtin "BaseException.__getattribute__") true b) _ _ _;unfold getAttrByItsOwn;show ii (L2.at ?_);show ii (Jar (FM ?_));have ec:callGetattribute (-x) (.str fld t) (.builtin "BaseException.__getattribute__") b=boundAndCalled (.builtin "BaseException.__getattribute__") (-x) (.str fld t):=by
  unfold callGetattribute;cases b <;> rfl
 rw[ec];unfold boundAndCalled;show ii (wpAny_of_eq (_q.ga.bind (-x)) ?_);show _a (_h _q.ga.plain PySem.F.entry_bexc_ga (KC ZK X I ?_));change wpAny _ _ (Builtin.«object.__getattribute__» #[[-x,.str fld t],[]]) _ _ _;unfold Builtin.«object.__getattribute__»;show ii (pc (ii (pc (ii (L0.at (ii (L3.at ?_)))))));show pc ?_;change wpAny _ _ (handedOut u) _ _ _;rw[hh];show pc h
end
def  E5(C:ϋ)(fld:Str)(ta:TE):TE:=fun σ H Q=>ta σ H fun x H1=>∃ ea d fs v,x=-ea/\H1 ea=!lW ea C (!d)/\H1 d=!.xd fs/\fs.lookup fld=!v/\Q v H1
def abz{X:Cx}{C f:ϋ}{fld:Str}{e:Expr}{ta:TE}{pos:Pos}(Z:gN X.K C f fld)(ZK:kf X.K C)(he:PE X e ta)(hb:attributeBase e fld X.env (eval e X.env)=eval e X.env):PE X (.Attribute e fld pos) (E5 C fld ta):=by
 intro π s σ H Q I h;show Km hb (aD (he π s σ H _ I h) fun u s1 #[x,H1,I1,rx,ea,d,fs,v,ex,h1,h2,hl,q]=>?_);subst ex;obtain rfl:u=ϊ.ref ea:=rx;let⟨p,_,_⟩:=(show bU X.prog X.w H1 s1.heap ea (lW ea C (!d)) from I1.aA ea _ h1);let⟨mA,eR,hrel⟩:=(show bU X.prog X.w H1 s1.heap d (.xd fs) from I1.aA d _ h2);have hr:=hrel fld;rw[hl]at hr;cases hm:mA fld with
 | none=>rw[hm]at hr;show hr.elim
 | some u' =>
  rw[hm]at hr;show aba Z ZK I1.cq p eR hm (acK hr) #[v,H1,I1.tok _,hr,q]
inductive FI(C:ϋ)(f:Str)(x:V)(H:Hp)(Q:V->Prop):Prop
 | mk:∀ a dx fs v,x=-a->H a=!.ins C dx fs->fs.lookup f=!v->Q v->FI C f x H Q
inductive SI(C:ϋ)(f:Str)(x y:V)(H:Hp)(R:Hp->Prop):Prop
 | mk:∀ a dx fs,x=-a->H a=!.ins C dx fs->fs.length < 1000->R (upd H a (.ins C dx (az f y fs)))->SI C f x y H R
inductive AI(C:ϋ)(f:Str)(x:V)(H:Hp)(Q:ϋ->V->Prop):Prop
 | mk:∀ a dx fs v,x=-a->H a=!.ins C dx fs->fs.lookup f=!v->Q a v->AI C f x H Q
inductive BI(C:ϋ)(f:Str)(a:ϋ)(z:V)(H:Hp)(R:Hp->Prop):Prop
 | mk:∀ dx fs,H a=!.ins C dx fs->fs.length < 1000->R (upd H a (.ins C dx (az f z fs)))->BI C f a z H R
def  yw(C:ϋ)(f:Str)(ta:TE):TE:=fun σ H Q=>ta σ H fun x H1=>FI C f x H1 fun v=>Q v H1
def  oY(C:ϋ)(f:Str)(ta tv:TE):TS:=fun D σ H=>tv σ H fun y H1=>ta σ H1 fun x H2=>SI C f x y H2 fun H3=>D.nx σ H3
def  DI(C:ϋ)(f:Str)(ta tv:TE)(rd:R2):TS:=fun D σ H=>ta σ H fun x H1=>AI C f x H1 fun a v=>tv σ H1 fun y H2=>rd v y H2 fun z H3=>BI C f a z H3 fun H4=>D.nx σ H4
def  Fd(C:ϋ)(m:Str)(sp:Sp)(bF:List V)(R:St->XK)(ta:TE)(t:TA):TE:=fun σ H Q=>ta σ H fun x H1=>MI C m x H1 (t σ H1 fun vs H2=>sp (x::(vs++bF)) H2 Q (R σ))
section
variable {X:Cx}{k:Nat}{f C:ϋ}{fd:FuncData}{ps:List Str}{sp:Sp}{bF:List V}{ds:List ϊ}{R:St->XK}{x m:Str}{p pos apos:Pos}{e o:Expr}{es:List Expr}{ta:TE}{t:TA}
def adB{pl:Sem Bool}(he:PE X o ta)(c:c9 X.K C)(hm:Meth X.K C m f)(F:aB X.prog X.w X.K X.mg X.base (bc X.prog X.w) k f fd ps sp)(hr:bh k X.A)(hb:Binds X.K fd ps ds)(hd:Vals bF ds)(hx:ik X R)(ha:PA X (e::es) t)(hs:‹(e::es).all noStar=true›)(ht:‹eval (.Call (.Attribute o m apos) (e::es) [] pos) X.env=(do
   let ov <- eval o X.env
   standAt apos.atName
   let (f,first) <- holding [ov] (getMethod ov m pl)
   callWith pos f first (backTo pos (starEach (e::es) X.env)) (backToKw pos (keywordEach [] X.env)))›):PE X (.Call (.Attribute o m apos) (e::es) [] pos) (Fd C m sp bF R ta t):=by
 have hs':=hs;rw[KK,Cl]at hs';intro π s σ H Q I h;show _1 (pl:=pl) (aD (he π s σ H _ I h) fun u s1 ⟨x,H1,I1,rx,a,dx,fs,ex,ea,l,q⟩=>?_) ht;subst ex;obtain rfl:u=ϊ.ref a:=rx;show Dj I1 ea c hm l (Tk (first:=[-a]) (h₀:=X.base) I.ok.mod.iN hm.kp (aD (ha pos π s1 σ H1 _ I1 q) fun us s2 ⟨vs,H2,I2,r,q2⟩=>#[I2.cq,?_]) (fL hs'.1) (iP hs'.2));show N4 (us:=-a::us) (vs:=-a::vs) F hr hb hd hx I2 (.cons rfl r) q2
end
section
variable {X:Cx}{C:ϋ}{f:Str}{e o value:Expr}{ta tv:TE}{pos pos' sG:Pos}
def Zk(c:c9 X.K C)(n:bL X.K C f)(he:PE X e ta)(hb:attributeBase e f X.env (eval e X.env)=eval e X.env):PE X (.Attribute e f pos) (yw C f ta):=by
 intro π s σ H Q I h;show Km hb (aD (he π s σ H _ I h) fun u s1 ⟨x,H1,I1,rx,a,dx,fs,v,ex,ea,l,q⟩=>?_);subst ex;obtain rfl:u=ϊ.ref a:=rx;show Ii I1 ea c n l fun u' s2 I2 ru=>#[v,H1,I2,ru,q]
def VL(c:c9 X.K C)(n:bL X.K C f)(ha:PE X o ta)(hv:PE X value tv)(hs:swapsWith value (!.Attribute o f pos') pos.line X.env=pure false):PS X (.Assign [.Attribute o f pos'] value pos) (oY C f ta tv):=by
 intro π s σ H D I h;show plainObj_wpAny_Assign_Attribute (aD (hv π s σ H _ I h) fun u s1 ⟨y,H1,I1,ry,q⟩=>aD (ha π s1 σ H1 _ I1 q) fun ov s2 ⟨x,H2,I2,rx,a,dx,fs,ex,ea,l,q2⟩=>?_) hs;subst ex;obtain rfl:ov=ϊ.ref a:=rx;show NF I2 ea c n l ry fun s3 I3=>#[σ,_,I3,q2]
def YY{op:Operator}{rd:R2}(c:c9 X.K C)(n:bL X.K C f)(ha:PE X o ta)(hv:PE X value tv)(Gv:BW X op rd):PS X (.AugAssign (.Attribute o f sG) op value pos) (DI C f ta tv rd):=by
 intro π s σ H D I h;show wpAny_AugAssign_AttributeAny (aD (ha π s σ H _ I h) fun ov s1 ⟨x,H1,I1,rx,a,dx,fs,v,ex,ea,l,q⟩=>?_);subst ex;obtain rfl:ov=ϊ.ref a:=rx;show Ii I1 ea c n l fun u s2 I2 ru=>aD (hv π s2 σ H1 _ I2 q) fun w3 s3 ⟨y,H2,I3,ry,q3⟩=>aD (Gv π s3 σ H2 v y u w3 _ I3 ru ry q3) fun w4 s4 ⟨z,H3,I4,rz,dx',fs',ea',l',q4⟩=>?_;show NF I4 ea' c n l' rz fun s5 I5=>#[σ,_,I5,q4]
end
def Oy{X:Cx}{op:CmpOp}{a b:Expr}{t:TE}{pos:Pos}(h:PC X op a b t)(hm:behindInMarks op b=false:=by first | show uQ _ ⋯ ⋯ | rfl):PT X (.Compare a [op] [b] pos) (jx t):=by
 intro π s σ H Q I hw;show wpAny_isTrue_Compare1 (aD (h π s σ H _ I hw) fun v s1 h1=>aD h1 fun u s2 h2=>aD h2 fun c s3 #[x,H1,I1,r1,q1]=>?_) hm;let⟨k,rfl,q⟩:=C6 q1;cases r1;show PP #[H1,I1,q]
namespace Dv
section
variable {X:Cx}{a b o e i value:Expr}{ta tb td ty tv:TE}{es:List Expr}{t:TA}{pos pos' apos bf p sG:Pos}{f C:ϋ}{fn m x:Str}{k:Nat}{fd:FuncData}{ps:List Str}{sp:Sp}{bF:List V}{ds:List ϊ}{R:St->XK}{CX:d8}{E:XK}{tA:TT}{body:List Stmt}{tB:TS}
def fld(c:c9 X.K C)(n:bL X.K C fn)(he:QE X e ta)(hb:‹attributeBase e fn X.env (eval e X.env)=eval e X.env›):QE X (.Attribute e fn pos) (yw C fn ta):=#[Zk c n he.h hb]
def bG(c:c9 X.K C)(n:bL X.K C fn)(ha:QE X o ta)(hv:QE X value tv)(hs:‹swapsWith value (!.Attribute o fn pos') pos.line X.env=pure false›):QS X (.Assign [.Attribute o fn pos'] value pos) (oY C fn ta tv):=#[VL c n ha.h hv.h hs]
def iT{op:Operator}{rd:R2}(c:c9 X.K C)(n:bL X.K C fn)(Gv:BW X op rd)(ha:QE X o ta)(hv:QE X value tv):QS X (.AugAssign (.Attribute o fn sG) op value pos) (DI C fn ta tv rd):=#[YY c n ha.h hv.h Gv]
def OC(Z:gN X.K C f fn)(ZK:kf X.K C)(he:QE X e ta)(hb:‹attributeBase e fn X.env (eval e X.env)=eval e X.env›):QE X (.Attribute e fn pos) (E5 C fn ta):=#[abz Z ZK he.h hb]
def Nz(Z:gN X.K C f fn)(ha:QE X o ta)(hv:QE X value tv)(hs:‹swapsWith value (!.Attribute o fn pos') pos.line X.env=pure false›):QS X (.Assign [.Attribute o fn pos'] value pos) (D1 C fn ta tv):=#[ab1 Z ha.h hv.h hs]
def bx{pl:Sem Bool}(c:c9 X.K C)(hm:Meth X.K C m f)(F:aB X.prog X.w X.K X.mg X.base CX k f fd ps sp)(hr:bh k X.A)(hb:Binds X.K fd ps ds)(hd:Vals bF ds)(hx:Passes CX X E)(ho:QE X o ta)(ha:QA X (e::es) t)(hs:‹(e::es).all noStar=true›)(ht:‹eval (.Call (.Attribute o m apos) (e::es) [] pos) X.env=(do
   let ov <- eval o X.env
   standAt apos.atName
   let (f,first) <- holding [ov] (getMethod ov m pl)
   callWith pos f first (backTo pos (starEach (e::es) X.env)) (backToKw pos (keywordEach [] X.env)))›):QE X (.Call (.Attribute o m apos) (e::es) [] pos) (rb C m sp bF E ta t):=by
 have hs':=hs;rw[KK,Cl]at hs';show#[aaA ho.h c hm F hr hb hd hx ha.h (fL hs'.1) (iP hs'.2) ht]
def tQ{pl:Sem Bool}(c:c9 X.K C)(hm:Meth X.K C m f)(F:aB X.prog X.w X.K X.mg X.base CX k f fd ps sp)(hr:bh k X.A)(hb:Binds X.K fd ps ds)(hd:Vals bF ds)(hx:Passes CX X E)(ho:QE X o ta)(ht:‹eval (.Call (.Attribute o m apos) [] [] pos) X.env=(do
   let ov <- eval o X.env
   standAt apos.atName
   let (f,first) <- holding [ov] (getMethod ov m pl)
   callWith pos f first (backTo pos (starEach [] X.env)) (backToKw pos (keywordEach [] X.env)))›):QE X (.Call (.Attribute o m apos) [] [] pos) (rb C m sp bF E ta lA):=#[RC ho.h c hm F hr hb hd hx ht]
def cW{pl:Sem Bool}(c:c9 X.K C)(hm:Meth X.K C m f)(F:aB X.prog X.w X.K X.mg X.base (bc X.prog X.w) k f fd ps sp)(hr:bh k X.A)(hb:Binds X.K fd ps ds)(hd:Vals bF ds)(hx:ik X R)(ho:QE X o ta)(ha:QA X (e::es) t)(hs:‹(e::es).all noStar=true›)(ht:‹eval (.Call (.Attribute o m apos) (e::es) [] pos) X.env=(do
   let ov <- eval o X.env
   standAt apos.atName
   let (f,first) <- holding [ov] (getMethod ov m pl)
   callWith pos f first (backTo pos (starEach (e::es) X.env)) (backToKw pos (keywordEach [] X.env)))›):QE X (.Call (.Attribute o m apos) (e::es) [] pos) (Fd C m sp bF R ta t):=#[adB ho.h c hm F hr hb hd hx ha.h hs ht]
def make(M:Mk X.K C f)(F:aB X.prog X.w X.K X.mg X.base CX k f fd ps sp)(hr:bh (k+1) X.A)(hm:X.mg x=!-C)(hb:Binds X.K fd ps ds)(hd:Vals bF ds)(hx:Passes CX X E)(ha:QA X (e::es) t)(hg:‹Gl X x›)(hs:‹(e::es).all noStar=true›)(b7:(x == ("__debug__":Str))=false:=by decide) :
  QE X (.Call (.Name x p) (e::es) [] pos) (va C sp bF E t):=by
 have hs':=hs;rw[KK,Cl]at hs';show#[U4 M F hr hg hm hb hd hx ha.h b7 (fL hs'.1) (iP hs'.2)]
def ad9(M:Mk X.K C f)(F:aB X.prog X.w X.K X.mg X.base CX k f fd ps sp)(hr:bh (k+1) X.A)(hm:X.mg x=!-C)(hb:Binds X.K fd ps ds)(hd:Vals bF ds)(hx:Passes CX X E)(hg:‹Gl X x›)(b7:(x == ("__debug__":Str))=false:=by decide) :
  QE X (.Call (.Name x p) [] [] pos) (va C sp bF E lA):=#[acL M F hr hg hm hb hd hx b7]
def iY(hx:De X R)(hex:X.ex=[])(hc:X.calm=true)(hm:X.mg x=!-C)(Z:gN X.K C f fn)(cU:W.typeIn X.K (-C)=!.type "type")(F:aB X.prog X.w X.K X.mg X.base aN k f fd ps (nJ C fn))(hr:bh (k+1) X.A)(hb:Binds X.K fd ps [])(ha:QA X (e::es) t)(hg:‹Gl X x›)(hs:‹(e::es).all noStar=true›)(b7:(x == ("__debug__":Str))=false:=by decide):QS X (.Raise (!.Call (.Name x p) (e::es) [] bf) none pos) (Ej C fn R t):=#[WG hx hex hc hm Z cU F hr hb ha.h hg hs b7]
def oA(hu:X.A.units+1 < cLine)(ho:QE X o td)(hi:QE X i ty)(hs:By i:=by intro _ _;rfl):QE X (.Subscript o i pos) (D3 td ty):=#[Yw hu ho.h hi.h hs]
def Cs(hu:X.A.units+1 < cLine)(hi:QE X i ty)(ho:QE X o td)(hm:‹behindInMarks .In o=false›):QT X (.Compare i [.In] [o] pos) (jx (wM ty td)):=#[Oy (Js hu hi.h ho.h) hm]
def Lh(hu:X.A.units+1 < cLine)(hi:QE X i ty)(ho:QE X o td)(hm:‹behindInMarks .NotIn o=false›):QT X (.Compare i [.NotIn] [o] pos) (jx (EO ty td)):=#[Oy (abO hu hi.h ho.h) hm]
def XS(hu:X.A.units+1 < cLine)(hi:QE X i ty)(ho:QE X o td)(hm:‹behindInMarks .In o=false›):QE X (.Compare i [.In] [o] pos) (wM ty td):=#[acA (Js hu hi.h ho.h) hm]
def oM(hu:X.A.units+1 < cLine)(ho:QE X o td)(hi:QE X i ty)(hv:QE X value tv)(hs:‹swapsWith value (!.Subscript o i pos') pos.line X.env=pure false›):QS X (.Assign [.Subscript o i pos'] value pos) (Dy td ty tv):=#[Sk hu ho.h hi.h hv.h hs]
def adF:QE X (.Dict [] [] pos) AQ:=#[ad1]
def Wz(hu:X.A.units+1 < cLine)(ho:QE X o td)(he:QE X e ty)(m1:M1 X o "get" apos e bf:=by show#[rfl,rfl,rfl,rfl]):QE X (.Call (.Attribute o "get" apos) [e] [] bf) (D5 td ty):=#[U5 hu ho.h he.h m1]
def C0(ho:QE X o td)(he:QE X e ty)(m1:M1 X o "pop" apos e bf:=by show#[rfl,rfl,rfl,rfl]):QE X (.Call (.Attribute o "pop" apos) [e] [] bf) (E6 td ty):=#[Zb ho.h he.h m1]
def u9(hp:PassesOwn (model X.prog X.w) X.A X.env X.xe)(hc:QT X a tA)(hb:QB X body tB):QS X (.While a body [] pos) (LV tA tB):=#[Uj hp hc.h hb.h]
def Jq(hc:QT X o tA)(ha:QE X a ta)(hb:QE X b tb):QE X (.IfExp o a b pos) (Ar tA ta tb):=#[abp hc.h ha.h hb.h]
end
end Dv
def KP{P:ύ}{w:World}{K:ν}{mg:Str->Option ϊ}{base:Heap}{N:List Str}{qual:Str}{scope:Scope}{f:ϋ}{cd:ϊ}{A:Around}{outer:List Env}{s₀:ό}{H₀:Hp}{E:XK}{CX:d8} :
  PassesOwn (model P w) (cj CX P w K mg base N qual scope f cd A outer s₀ H₀ E).A (cj CX P w K mg base N qual scope f cd A outer s₀ H₀ E).env (cj CX P w K mg base N qual scope f cd A outer s₀ H₀ E).xe:=PassesOwn.leaving
def V6{K:ν}{M:Model}{A:Around}{E:ϊ->ό->Prop}{s:ό}{e C Cc:ϋ}{od:Option ϋ}{Q:Bool->ό->Prop}{b:Bool}(X:K.In s.heap)(hd:dj e (-C) od s.heap)(h1:W.instIn K (-Cc) (.type "tuple")=!false)(h2:W.mroIn K Cc (.type "BaseException")=!true)(h3:W.subIn K (-C) (-Cc)=!b)(hq:Q b s):wpAny M A (excMatches (-e) (-Cc)) Q E s:=by
 let⟨o,he,hc,_⟩:=hd;have L1:=W.looks_instIn (M:=M) X h1;have L2:=_m (M:=M) X h2;have L3:=W.looks_subIn (M:=M) X h3;have L4:W.Looks M s.heap (isType (-Cc)) true:=by
  let⟨c',d',cd',sl',ho⟩:=Fz h2;intro A' Q' E' s' k q;unfold isType loadHead;show ii (_n (k _ _ (X _ _ ho)) (pc q))
 have L5:W.Looks M s.heap (typeOf (-e)) (-C):=hc ▸ (_p he).andThen .now;have L6:W.Looks M s.heap (isExcClass (-Cc)) true:=L4.andThen L2;let⟨hh,g,d,t,os⟩:=s;unfold excMatches;show ii (L1.at ?_);simp only[Ev,TD,pure_bind];simp only[List.forIn_cons,List.forIn_nil,bind_assoc,pure_bind];show ii (L6.at ?_);simp only[_L,Ev,TD,bind_assoc,pure_bind];show ii (L5.at (ii (L3.at ?_)));cases b with
 | true =>
  simp only[if_true,pure_bind];show pc hq
 | false =>
  simp only[Ev,TD,pure_bind];show pc hq
structure Dp(X:Cx)(π:List (ϋ×Obj))(σ:St)(H:Hp)(ea C:ϋ)(od:Option ϋ)(s:ό):Prop where
 fl:∃ B a0,Heap.FlyingW B (X.env::X.outer) ea (-C) a0 s.heap/\∀ h4:Heap,B.StaysIn h4->s.heap.UpToSlots h4->Inv X π σ H { s with heap:=h4 }
 hd:dj ea (-C) od s.heap
 free:H ea=none
 n0:X.s₀.heap.get? ea=none
 nL:ea≠X.env.locals
 nC:∀ x c,X.env.cells.lookup x=!c->c≠ea
 nP:∀ p∈X.pn++π,p.1≠ea
def Dp.inv{X:Cx}{π:List (ϋ×Obj)}{σ:St}{H:Hp}{ea C:ϋ}{od:Option ϋ}{s:ό}(L:Dp X π σ H ea C od s):Inv X π σ H s:=by
 let⟨B,a0,fl,k⟩:=L.fl;show k s.heap fl.1 (Heap.UpToSlots.refl _)
abbrev kz:=Ends->St->ϋ->Option ϋ->Hp->Prop
def  PH(X:Cx)(hs:List ExceptHandler)(t:kz):Prop:=∀ (π:List (ϋ×Obj)) (s:ό) (σ:St) (H:Hp) (D:Ends) (ea C:ϋ) (od:Option ϋ),Dp X π σ H ea C od s->t D σ C od H->wpAny (model X.prog X.w) X.A (handleBy (-ea) X.env hs) (SP X π D) X.xe s
def  Il(K:ν)(Cc:ϋ)(i:Nat)(th:TS)(tr:kz):kz:=fun D σ C od H=>∃ b,W.subIn K (-C) (-Cc)=!b/\if b=true then ∀ ea,H ea=none->th (D.Ft i) (σ.set i (!-ea)) (upd H ea (lW ea C od)) else tr D σ C od H
def  Ng:kz:=fun _ _ _ _ _=>False
def aav{X:Cx}:PH X [] Ng:=fun _ _ _ _ _ _ _ _ _ h=>h.elim
section
variable {X:Cx}{K:ν}{Cc:ϋ}{n x:Str}{vQ:List Stmt}{b₀:Stmt}{np hpos pos:Pos}{th:TS}{tr:kz}{rest:List ExceptHandler}
def Tg(i:Nat)(hK:X.K=K)(hN:X.N.Nodup)(hm:X.mg x=!-Cc)(c1:W.instIn X.K (-Cc) (.type "tuple")=!false)(c2:W.mroIn X.K Cc (.type "BaseException")=!true)(hs:∀ v,dm (X.lL v) (b₀::vQ) th)(hr:PH X rest tr)(hg:‹Gl X x›)(hi:‹X.N[i]?=!n›)(hn:‹X.env.scope.names.lookup n=!.local›)(b7:(x == ("__debug__":Str))=false:=by decide):PH X (.ExceptHandler (!.Name x np) (!n) (b₀::vQ) hpos::rest) (Il K Cc i th tr):=by
 subst hK;intro π s σ H D ea C od L h;let⟨b,hsub,h⟩:=h;have I:=L.inv;show wpAny_handleBy_cons (codeAny_handlers_test (lM (I.lL (-ea)) hg hm (V6 I.cq L.hd c1 c2 hsub ?_) b7)) (by intro q;cases q);cases b with
 | false=>show hr π s σ H D ea C od L h
 | true =>
  have aE:=h;rw[xL rfl]at aE;let⟨B,a0,fl,step⟩:=L.fl;show codeAny_handlers_suite_as (aD ((Kp.setFlight (-ea) none).any L.hd (lands_againW (Q:=fun _ s4=>∃ h4,s4={ s with heap:=h4 }/\Heap.FlyingW B (X.env::X.outer) ea (-C) a0 h4/\s.heap.UpToSlots h4) fl fun h4 x1 x2=>#[h4,rfl,x1,x2])) fun _ s4 #[#[h4,e4,fl4,up4],sO]=>?_);subst e4;have I5:Inv X π σ (upd H ea (lW ea C od)) { s with heap:=h4 }:=(step h4 fl4.1 up4).wN L.free L.n0 L.nL L.nC L.nP (T6 sO);show Fv (X:=X.lL (-ea)) (v:=-ea) (I5.lL (-ea)) hN hi (Or.inl hn) rfl (fun s6 I6=>?_) (Or.inr hn);show KB (hs (-ea) π s6 _ _ (D.Ft i) I6 (aE ea L.free)) (fun f s7 z=>?_) fun _ _ z=>False.elim z;have GX:(X.env.scope.kind == .class || (X.env.scope.kind == .module && X.env.locals != X.env.globals))=false:=by rw[I.ok.kind];rfl
  have fin:∀ {σ7:St}{H7:Hp} (I7:Inv (X.lL (-ea)) π σ7 H7 s7) (Q:Unit->ό->Prop),(∀ s8,Inv X π (σ7.set i none) H7 s8->Q .unit s8)->∀ E:ϊ->ό->Prop,wpAny (model X.prog X.w) X.A (do bindName X.env n .none;unbindBehindTheSuite X.env n hpos) Q E s7:=fun {σ7 H7} I7 Q k E=>by
   have J:=I7.acT I.ok;let⟨m,hn7,hl7⟩:=id J.loc;show wpAny_nameGoes_keeps hn hn7 GX fun h8 v GQ sb8=>k _ (J.ab5 hN hi hl7 GQ sb8)
  cases f with
  | next=>let⟨σ7,H7,I7,q⟩:=z;show fin I7 _ (fun s8 I8=>#[_,H7,I8,q]) _
  | ret u=>let⟨v,σ7,H7,I7,r,q⟩:=z;show fin I7 _ (fun s8 I8=>#[v,_,H7,I8,r,q]) _
  | brk=>let⟨σ7,H7,I7,q⟩:=z;show fin I7 _ (fun s8 I8=>#[_,H7,I8,q]) _
  | cont=>let⟨σ7,H7,I7,q⟩:=z;show fin I7 _ (fun s8 I8=>#[_,H7,I8,q]) _
def  JG(tb:(St->XK)->TS)(t:kz):TS:=fun D σ H=>∃ R:St->XK,tb R D σ H/\∀ σ' C od H',R σ' (-C) od H'->t D σ' C od H'
def aet{body:List Stmt}{h₀:ExceptHandler}{tb:(St->XK)->TS}{t:kz}(O:Own X)(hb:∀ π R,dm (X.oq π R) body (tb R))(hh:PH X (h₀::rest) t):PS X (.Try body (h₀::rest) [] [] pos) (JG tb t):=by
 intro π s σ H D I h;let⟨R,hb',hR⟩:=h;show wpAny_Try_except (KB (hb π R [] s σ H D (I.oq R) hb') (fun f s1 z=>?_) fun e s1 z=>?_)
 ·cases f with
  | next=>let⟨σ',H',I',q⟩:=z;show _M #[σ',H',I'.uA,q]
  | ret u=>let⟨v,σ',H',I',r,q⟩:=z;show#[v,σ',H',I'.uA,r,q]
  | brk=>let⟨σ',H',I',q⟩:=z;show#[σ',H',I'.uA,q]
  | cont=>let⟨σ',H',I',q⟩:=z;show#[σ',H',I'.uA,q]
 ·let⟨σ',H0,H',s0,ea,C,od,I0,rfl,F,Hd⟩:=z;let⟨B,a0,fl,gp⟩:=F.Jc;have hA:X.A.frames=!(X.env::X.outer):=by rw[<- O.dM];show I.ok.frames
  rw[O.dM]at fl;show aD ((Kp.noteFrame (-ea) X.env).any F.hd (wpAny_looks_onW (Q:=fun _ s2=>∃ h2,s2={ s1 with heap:=h2 }/\Heap.HeldW B (X.env::X.outer) ea (-C) a0 X.env.locals h2/\s1.heap.UpToSlots h2) hA O.frame fl fun h2 x1 x2=>#[h2,rfl,x1,x2])) fun _ s2 #[#[h2,e2,held,up2],hd2]=>?_;subst e2;show aD ((Kp.setFlight (-ea) none).any (s:={ s1 with heap:=h2 }) hd2 (wpAny_landsW (s:={ s1 with heap:=h2 }) (Q:=fun _ s3=>∃ h3,s3={ s1 with heap:=h3 }/\Heap.FlyingW B (X.env::X.outer) ea (-C) a0 h3/\h2.UpToSlots h3) held fun h3 x1 x2=>#[h3,rfl,x1,x2])) fun _ s3 #[#[h3,e3,fl3,up3],wa]=>?_;subst e3;have fm:∀ b,(∃ o,s0.heap.get? b=!o)->b≠ea:=fun b #[o,e] z=>by rw[z,F.new]at e;cases e
  show hh π { s1 with heap:=h3 } σ' H' D ea C od #[#[B,a0,fl3,fun h4 st up=>?_],wa,F.free,?_,?_,fun y c e=>?_,fun p hp=>?_] (hR σ' C od H' Hd)
  ·let⟨u,aA⟩:=IB F.un F.aA I0.Jl gp st ((up2.trans up3).trans up);show I0.LQ (s':={ s1 with heap:=h4 }) (ch:=[]) F.os u aA F.bare (fun b z=>absurd z ())
  ·cases q:X.s₀.heap.get? ea with
   | none=>rfl
   | some u=>show absurd rfl (fm ea (I0.base.there ea u q (by rw[O.ex];simp)))
  ·let⟨m,⟨o,_,_,ho,_⟩,_⟩:=I0.loc;show pp (fm _ #[o,ho])
  ·let⟨w',o,ho,_⟩:=I0.cell y c e;show fm _ #[o,ho]
  ·show fm _ #[_,(I0.pin p hp).1]
end
structure QH(X:Cx)(hs:List ExceptHandler)(t:kz):Prop where
 h:PH X hs t
namespace Dv
section
variable {X:Cx}{K:ν}{Cc:ϋ}{n x:Str}{vQ:List Stmt}{b₀:Stmt}{np hpos pos:Pos}{th:TS}{tr:kz}{rest:List ExceptHandler}
def aeg:QH X [] Ng:=#[aav]
def EL(i:Nat)(hK:X.K=K)(hN:X.N.Nodup)(hm:X.mg x=!-Cc)(c1:W.instIn X.K (-Cc) (.type "tuple")=!false)(c2:W.mroIn X.K Cc (.type "BaseException")=!true)(hs:∀ v,QB (X.lL v) (b₀::vQ) th)(hr:QH X rest tr)(hg:‹Gl X x›)(hi:‹X.N[i]?=!n›)(hn:‹X.env.scope.names.lookup n=!.local›)(b7:(x == ("__debug__":Str))=false:=by decide):QH X (.ExceptHandler (!.Name x np) (!n) (b₀::vQ) hpos::rest) (Il K Cc i th tr) :=
 #[Tg i hK hN hm c1 c2 (fun v=>(hs v).h) hr.h hg hi hn b7]
def S3{body:List Stmt}{h₀:ExceptHandler}{tb:(St->XK)->TS}{t:kz}(O:Own X)(hb:∀ π R,QB (X.oq π R) body (tb R))(hh:QH X (h₀::rest) t):QS X (.Try body (h₀::rest) [] [] pos) (JG tb t):=#[aet O (fun π R=>(hb π R).h) hh.h]
end
end Dv
def  eL(a b:Str):Bool:=Bool.not (ltCps b.cps.toList a.cps.toList)
def  gP(ts:List Str):List Str:=ts.mergeSort eL
def yR{a b:Str}:eL a b=true ↔ ¬ b.cps.toList < a.cps.toList:=by
 unfold eL;rw[ltCps_eq];simp
def JL(a b c:Str)(h1:eL a b=true)(h2:eL b c=true):eL a c=true:=by
 rw[yR] at *;show Ja1.mpr (List.le_trans (Ja1.mp h1) (Ja1.mp h2))
def abq(a b:Str):(eL a b || eL b a)=true:=by
 cases h:eL a b with
 | true=>rfl
 | false =>
  have:¬ eL a b=true:=by rw[h];simp
  rw[yR,Classical.not_not]at this;simp only[Bool.false_or,yR];show Ja1.mpr (List.le_of_lt this)
def YC{a b:Str}(h1:eL a b=true)(h2:eL b a=true):a=b:=by
 rw[yR] at *;have:=List.le_antisymm (Ja1.mp h1) (Ja1.mp h2);let⟨x⟩:=a;let⟨y⟩:=b;show KM Str.mk (Array.ext' this)
def Lw(ts:List Str):(gP ts).Perm ts:=List.mergeSort_perm ts eL
def Wv(ts:List Str):(gP ts).Pairwise (fun a b=>eL a b=true):=List.pairwise_mergeSort JL abq ts
def DT(ts:List Str):(gP ts).length=ts.length:=(Lw ts).length_eq
def Md:∀ (p:Str) (l:List Str),risingS p l=true->(p::l).Pairwise (fun a b=>eL a b=true)
 | p,[],_=>List.pairwise_singleton _ _
 | p,x::r,h=>by
  have h':eL p x=true/\risingS x r=true:=by simpa [risingS,eL] using h
  have ih:=Md x r h'.2;show _R.mpr #[fun y hy=>?_,ih];rcases jp.mp hy with e | hy
  ·show e ▸ h'.1
  ·show JL p x y h'.1 (List.rel_of_pairwise_cons ih hy)
def IC:∀ (l:List Str),sortedS l=true->l.Pairwise (fun a b=>eL a b=true)
 | [],_=>.nil
 | x::r,h=>Md x r h
def BG{us ts:List Str}(hp:us.Perm ts)(hs:us.Pairwise (fun a b=>eL a b=true)):us=gP ts :=
 List.Perm.eq_of_pairwise (fun a b _ _ h1 h2=>YC h1 h2) hs (Wv ts) (hp.trans (Lw ts).symm)
def YQ:gP []=[]:=(BG (.refl _) .nil).symm
def Ja:∀ {ts:List Str}{us:List ϊ},Vals (ts.map V.str) us->StrsAre us ts
 | [],_,.nil=>.nil
 | x::r,_,.cons h t=>by let⟨t',rfl⟩:=h;show .cons x t' (Ja t)
def Cm:∀ {us:List ϊ}{ts:List Str},StrsAre us ts->Vals (ts.map V.str) us
 | _,_,.nil=>.nil
 | _,_,.cons y t h=>.cons #[t,rfl] (Cm h)
section
variable {X:Cx}
def  N9(K:ν):List V->Hp->VK->Prop:=fun xs H Q=>∃ p ts,xs=[-p]/\aI K H p (ts.map V.str)/\ts.length < 64/\∀ l,H l=none->Q (-l) (upd H l (.lst ((gP ts).map V.str)))
def Sh:cM X (.builtin "sorted") (N9 X.K):=by
 intro π s σ H xs us Q I r h;let⟨p,ts,rfl,hq,iG,q⟩:=h;let⟨u,rfl,rx⟩:=vals1 r;cases rx;let⟨aq,r',pl,hz⟩:=I.list hq;have hlen:=r'.length;show sorted_strs pl.isList (Ja r') (by rw[<- hlen];simpa using iG) fun out ss' a1 a2 a3=>?_;let⟨e,he⟩:=sortedAll_at s.heap aq out;have e1:ss'=gP ts:=BG a2 (IC _ a3);subst e1;show#[-(s.heap.objs.size+1),_,I.laid (t':=s.toks) (fun _ _=>sortedAll_old) (_T _) (show bU X.prog X.w _ _ _ (.lst ((gP ts).map V.str)) from#[?_,out.toList,e,Cm a1,?_]),rfl,q _ (I.aA.fresh (_T _))]
 ·rw[lv,DT];simpa using hz
 ·simpa [seqObj] using he
def  NQ:List V->Hp->VK->Prop:=fun xs H Q=>∃ p kvs,∃ ts:List Str,xs=[-p]/\H p=!.dK kvs/\kvs.map (·.1)=ts.map Sum.inr/\ts.length < 64/\∀ l,H l=none->Q (-l) (upd H l (.lst ((gP ts).map V.str)))
def TV{x:Str}{v:ϊ}(h:md (.inr x) v=true):∃ t,v=ϊ.str x t:=ϊ.isStrOf_shape h
def aaj(hc:X.calm=true):cM X (.builtin "sorted") NQ:=by
 intro π s σ H xs us Q I r h;let⟨p,kvs,ts,rfl,hq,hk,iG,q⟩:=h;let⟨u,rfl,rx⟩:=vals1 r;cases rx;let⟨hz,hS,vs,rv,m⟩:kvs.length<=sizeLine/\(p == sysModules)=false/\∃ vs,KV kvs vs/\s.heap.DictOf (cY X.prog X.w) p vs:=I.aA p _ hq;let⟨ep,pN⟩:=m.dictAt;have eQ:kvs.length=ts.length:=by simpa using KM List.length hk
 have wk:vs.length=ts.length:=by rw[<- eQ];simpa using (KM List.length rv.keys).symm
 show _G kind_sorted plain_sorted entry_sorted (args_sorted1 _) ?_;unfold Builtin.«sorted»;show ii (m:=checkCount "sorted" 1 1 _) (pc ?_);show ii (Jaa (A:=X.A.in1) (W.kdl_dict (knd:=cY X.prog X.w) (kvs:=vs) (ep:=ep) hS) (I.ok.hd hc) pN (by rw[wk,<- eQ];show hz) fun h' tk acc hk' eK=>?_);have hl:acc.toList.length=ts.length:=by rw[LT,<- wk];show eK.1
 have hS':StrsAre acc.toList ts:=by
  have key:∀ (l:List ϊ) (us:List Str),l.length=us.length->(∀ (j:Nat) (v:ϊ) (x:Str),l[j]?=!v->us[j]?=!x->∃ t,v=ϊ.str x t)->StrsAre l us:=by
   intro l
   induction l with
   | nil=>intro us e _;cases us with | nil=>show .nil | cons=>cases e
   | cons v l ih =>
    intro us e hh;cases us with
    | nil=>cases e
    | cons x us =>
     let⟨t,rfl⟩:=hh 0 v x rfl rfl;show .cons x t (ih us (by simpa using e) fun j v x h1 h2=>hh (j+1) v x h1 h2)
  show key _ _ hl fun j v x h1 h2=>?_;let⟨k,y,hx,HD⟩:=eK.2 j v (by rw[<- No];show h1);have e1:(vs.map (·.1))[j]?=!k:=by rw[xz,hx];rfl
  rw[<- rv.keys,hk,xz,h2]at e1;cases e1;show TV HD
 show ii (wpAny_newList ?_ (by rw[hl,<- eQ];show hz));have ir:(h'.push (seqObj "list" acc.toList.toArray 0)).get? h'.objs.size=!seqObj "list" acc.toList.toArray 0:=tz _ rfl;show ii (FM (_r slot_list_sort #[_,ir,rfl] entry_list_sort (list_sort_treeK strKind_oneLt ir hS'.keysOf (fun v₁ v₂ rest e=>keyKind_strs (by rw[<- e];show hS')) (by rw[hl];show iG) fun st' a1 a2=>#[_,rfl,?_]) (args_list_sort _)));show pc #[_,rfl,?_];let⟨ss',b1,b2,b3⟩:=sorted_out_str hS' a1 a2;have e1:ss'=gP ts:=BG b2 (IC _ b3);subst e1;let⟨e,he⟩:=sortedHeap_at (out:=(arrOf st').map (·.2)) ir;have I1:Inv X π σ H { s with heap:=h',toks:=tk }:=I.kept (t':=tk) hk';show#[-h'.objs.size,_,I1.laid (t':=tk) (fun b o z=>?_) (pi _) (show bU X.prog X.w _ _ _ (.lst ((gP ts).map V.str)) from#[?_,_,e,Cm b1,?_]),rfl,q _ (I1.aA.fresh (pi _))]
 ·have hb:b < h'.objs.size:=sB z;rw[sortedHeap_old (wT hb) (by have:=Ty h' (seqObj "list" acc.toList.toArray 0);rw[this];show _z hb)];show li _ z
 ·rw[lv,DT,<- eQ];show hz
 ·rw[_i];show he
end
def  jA(P:ύ)(w:World)(K:ν)(mg:Str->Option ϊ)(base:Heap)(N:List Str)(qual:Str)(scope:Scope)(f:ϋ)(cd:ϊ)(cl:List (Str×ϋ))(A:Around)(outer:List Env)(s:ό)(H:Hp)(E:XK):Cx where
 prog:=P
 w:=w
 K:=K
 mg:=mg
 base:=base
 A:=A.deeper (W.envX qual scope s.heap.objs.size f cd cl)
 N:=N
 s₀:=s
 H₀:=H
 env:=W.envX qual scope s.heap.objs.size f cd cl
 outer:=outer
 stack:=W.envX qual scope s.heap.objs.size f cd cl::outer
 ex:=[]
 calm:=true
 fn:=fun _=>false
 pn:=[]
 xe:=fun e s'=>wpAny (model P w) (A.deeper (W.envX qual scope s.heap.objs.size f cd cl)) (leaving (W.envX qual scope s.heap.objs.size f cd cl) e) (fun _ s''=>bc P w outer H s E e s'') (fun e' s''=>bc P w outer H s E e' s'') s'
def  lZ(c:ϋ)(q:Str):HO:=.ext fun h=>h.CodeRec (-c) q
structure eU(N:List Str)(scope:Scope)(cl:List (Str×ϋ)):Prop where
 kind:scope.kind=.function
 co:scope.isCoroutine=false
 gen:scope.isGenerator=false
 u4:∀ x∈scope.names,x.2≠.cell
 free:∀ x∈N,scope.names.lookup x=!.free
 has:∀ x,scope.names.lookup x=!.free->∃ c,cl.lookup x=!c
 inj:∀ x y c,cl.lookup x=!c->cl.lookup y=!c->x=y
def  me(P:ύ)(w:World)(K:ν)(mg:Str->Option ϊ)(base:Heap)(k:Nat)(s1:ό)(B:ϋ->Prop)(f:ϋ)(bW:Hp->VK->XK->Prop):Prop :=
 ∀ (A:Around) (outer:List Env) (s:ό) (H:Hp) (Q:VK) (E:XK),bh k A->lT P w K mg base A outer s H ->
  (∀ b o,B b->s1.heap.get? b=!o->s.heap.get? b=!o/\H b=none)->bW H Q E ->
  codeAny (model P w) A (.call (-f) #[[],[]]) (CR (bc P w) outer P w H s Q E) s
def adb{P:ύ}{w:World}{K:ν}{mg:Str->Option ϊ}{base:Heap}{k:Nat}{s1:ό}{B:ϋ->Prop}{f:ϋ}{bW:Hp->VK->XK->Prop}{N:List Str}{vs:List V}{name qual:Str}{params:Arguments}{body:Expr}{scope:Scope}{cl:List (Str×ϋ)}{ah:ϊ}(S:eU N scope cl)(ho:∀ (s:ό) (H:Hp) (Q:VK) (E:XK),cw P w H s.heap->(∀ b o,B b->s1.heap.get? b=!o->s.heap.get? b=!o/\H b=none)->bW H Q E->∃ o pm ct,s.heap.get? f=!o/\o.data=.func (W.kla_fn name qual params body scope cl pm ah ct))(bM:∀ H Q E,bW H Q E->∃ c,ah=-c/\H c=!lZ c qual)(hB:∀ x c,cl.lookup x=!c->B c)(hlen:vs.length=N.length)(f7:∀ x c,cl.lookup x=!c->∃ v,s1.heap.IsCell c v)(GC:∀ (i:Nat) (x:Str) (v:V),N[i]?=!x->vs[i]?=!v->∃ c u,cl.lookup x=!c/\RelV v u/\s1.heap.IsCell c (!u))(mG:∀ pm ct,bindArgs (W.kla_fn name qual params body scope cl pm ah ct) #[[],[]]=pure [])(iw:∀ (A:Around) (outer:List Env) (s:ό) (H:Hp) (Q:VK) (E:XK),bh k (A.deeper (W.envX qual scope s.heap.objs.size f ah cl))->bW H Q E ->
   ∃ t,PE (jA P w K mg base N qual scope f ah cl A outer s H E) body t/\t (vs.map some) H Q) :
  me P w K mg base (k+1) s1 B f bW:=by
 intro A outer s H Q E hr e0 hk hw;let⟨o,pm,ct,pZ,sH⟩:=ho s H Q E e0.aA hk hw;let⟨c,rfl,F8⟩:=bM H Q E hw;have zN:s.heap.CodeRec (-c) qual:=(e0.aA c _ F8).1;have lim:s.heap.NoLimit:=e0.mod.nolimit.keeps fun b o e=>(e0.bs b o e).1;show W.kla_callFunE (fd:=W.kla_fn name qual params body scope cl pm (-c) ct) hr.depth pZ sH S.co S.gen rfl zN ?_;rw[mG pm ct];show pc (wpAny_newFunctionEnv S.u4 (fun _ z=>nomatch z) (fun h₁ eR nZ=>#[lim.fresh _ nZ,?_]) S.kind);change codeAny _ _ (.expr body (W.envX qual scope s.heap.objs.size f (-c) cl)) _ _;have HS:∀ b o,s.heap.get? b=!o->h₁.get? b=!o:=fun b o e=>nZ.extBut b o (wT (sB e)) (li _ e);let⟨t,ht,hq2⟩:=iw A outer s H Q E (hr.deeper _) hw;have mw:∀ b:ϋ,b ∉ (jA P w K mg base N qual scope f (-c) cl A outer s H E).ex:=fun b z=>absurd (show b∈([]:List ϋ) from z) ();have cellK:∀ x c',cl.lookup x=!c'->∀ v,s1.heap.IsCell c' v->h₁.IsCell c' v/\H c'=none:=fun x c' e v ⟨o',e1,e2⟩ =>
  #[#[o',HS _ _ (hk c' o' (hB x c' e) e1).1,e2],(hk c' o' (hB x c' e) e1).2]
 have I:Inv (jA P w K mg base N qual scope f (-c) cl A outer s H E) [] (vs.map some) H { s with heap:=h₁,toks:=s.toks+([]:List (Str×ϊ)).length }:=by
  show#[#[e0.mod,S.kind,rfl,rfl,pi _,S.inj,fun y hy=>?_,fun y c' hf=>absurd hf (by simp[jA]),fun _=>hr.hd,Around.frames_deeper e0.frames,.inr #[rfl,rfl],fun b z=>absurd z (mw b),e0.bs,e0.ia,fun b _ _=>mw b,fun b z=>absurd z (mw b),e0.fB,e0.jG],
   rfl,e0.bare,Un.kept HS,#[_,eR,fun i y v h1 h2 h3=>?_],fun y c' h=>?_,e0.aA.fresh (pi _),fun y c' h=>?_,fun p hp=>absurd (show p∈([]:List (ϋ×Obj)) from hp) (),e0.aA.kept HS,?_]
  ·have hy:scope.names.lookup y=!.cell\/scope.names.lookup y=!.free:=hy;rcases hy with hy | hy
   ·show absurd rfl (S.u4 _ (EQ hy))
   ·show S.has y hy
  ·have h1':N[i]?=!y:=h1;have ha:vs[i]?=!v:=by
    rw[xz]at h2;cases e:vs[i]? with
    | none=>rw[e]at h2;cases h2
    | some a=>rw[e]at h2;cases h2;rfl
   let⟨c',u,e1,rv,e2⟩:=GC i y v h1' ha;show#[u,rv,.inr #[.inr (S.free y (GM h1')),c',e1,(cellK y c' e1 _ e2).1]]
  ·let⟨v,e⟩:=f7 y c' h;show#[v,(cellK y c' h v e).1]
  ·let⟨v,e⟩:=f7 y c' h;show(cellK y c' h v e).2
  ·change(vs.map some).length=N.length;rw[lv,hlen]
 show W.kla_codeExpr (KB (ht [] _ (vs.map some) H _ I hq2) (fun u s' hs=>?_) fun e s' hs=>hs);let⟨v,H',J,rv,q⟩:=hs;show#[v,H',J.os,J.bare,J.base,J.aA,rv,q]
def V0{P:ύ}{w:World}{K:ν}{mg:Str->Option ϊ}{base:Heap}{k:Nat}{s1:ό}{B:ϋ->Prop}{f:ϋ}{bW:Hp->VK->XK->Prop}{N:List Str}{vs:List V}{name qual:Str}{params:Arguments}{body:Expr}{scope:Scope}{cl:List (Str×ϋ)}{pm ah ct:ϊ}{o:Obj}(S:eU N scope cl)(ho:s1.heap.get? f=!o)(sH:o.data=.func (W.kla_fn name qual params body scope cl pm ah ct))(bM:∀ H Q E,bW H Q E->∃ c,ah=-c/\H c=!lZ c qual)(gI:B f)(hB:∀ x c,cl.lookup x=!c->B c)(hlen:vs.length=N.length)(f7:∀ x c,cl.lookup x=!c->∃ v,s1.heap.IsCell c v)(GC:∀ (i:Nat) (x:Str) (v:V),N[i]?=!x->vs[i]?=!v->∃ c u,cl.lookup x=!c/\RelV v u/\s1.heap.IsCell c (!u))(mG:∀ pm ct,bindArgs (W.kla_fn name qual params body scope cl pm ah ct) #[[],[]]=pure [])(iw:∀ (A:Around) (outer:List Env) (s:ό) (H:Hp) (Q:VK) (E:XK),bh k (A.deeper (W.envX qual scope s.heap.objs.size f ah cl))->bW H Q E ->
   ∃ t,PE (jA P w K mg base N qual scope f ah cl A outer s H E) body t/\t (vs.map some) H Q) :
  me P w K mg base (k+1) s1 B f bW :=
 adb S (fun _ _ _ _ _ hk _=>#[o,pm,ct,(hk f o gI ho).1,sH]) bM hB hlen f7 GC mG iw
def kF{P:ύ}{w:World}{K:ν}{mg:Str->Option ϊ}{base:Heap}{N:List Str}{qual:Str}{scope:Scope}{f:ϋ}{cd:ϊ}{cl:List (Str×ϋ)}{A:Around}{outer:List Env}{s₀:ό}{H₀:Hp}{E:XK} :
  ik (jA P w K mg base N qual scope f cd cl A outer s₀ H₀ E) (fun _=>E) where
 pass:=fun π σ H s e s' I hc=>by
  let⟨ea,C,od,H',rfl,F,hE⟩:=hc;show aD (I.Ij #[rfl,rfl,rfl] I.ok.frames F) fun _ s'' z=>#[ea,C,od,H',rfl,z,hE]
def  yo(outer:List Env)(H:Hp)(s:ό)(B:ϋ->Prop):Prop:=∀ b,B b->(∃ o,s.heap.get? b=!o)/\H b=none/\b ∉ bZ outer
def  B9(s:ό)(f:ϋ):Prop:=∃ cls dict fd sl,s.heap.get? f=!#[cls,dict,.func fd,sl]
def  EJ(i:Nat)(f:ϋ)(bW:Hp->VK->XK->Prop)(R:St->XK):TE:=fun σ H Q=>σ[i]?=!(!-f)/\bW H Q (R σ)
def aam{X:Cx}{i k:Nat}{x:Str}{p pos:Pos}{B:ϋ->Prop}{f:ϋ}{bW:Hp->VK->XK->Prop}{R:St->XK}(hN:X.N[i]?=!x)(hv:nH X.env.scope x)(D:me X.prog X.w X.K X.mg X.base k X.s₀ B f bW)(hB:yo X.outer X.H₀ X.s₀ B)(hf:B9 X.s₀ f)(gI:B f)(hex:X.ex=[])(hr:bh k X.A)(hx:ik X R)(hd:(x == ("__debug__":Str))=false:=by decide)(bM:(x == ("__classdict__":Str))=false:=by decide):PE X (.Call (.Name x p) [] [] pos) (EJ i f bW R):=by
 intro π s σ H Q I h;let⟨hσ,hw⟩:=h;show FB (aD (Ca hN hv hd bM π s σ H (fun v H1=>v=-f/\bW H1 Q (R σ)) I #[_,hσ,rfl,hw]) fun u s1 #[v,H1,I1,r,e,zC]=>?_);subst e;cases (show u=ϊ.ref f from r);have kp:∀ b o,B b->X.s₀.heap.get? b=!o->s1.heap.get? b=!o/\H1 b=none:=fun b o hb e =>
  #[I1.base.keep b o e (hB b hb).2.1 (hB b hb).2.2 (by rw[hex];simp),I1.base.free b o e (hB b hb).2.1 (by rw[hex];simp)]
 let⟨cls,dict,fd,sl,pZ⟩:=hf;show W.callWith_of (P:=fun h=>h.get? f=!#[cls,dict,.func fd,sl]) rfl (fun h e=>#[.frame,.inl rfl,(_p (part:=none) e).andThen .now]) (PyProof.Rows.evalArgs_nil3 #[(kp f _ gI pZ).1,?_]);show _a (_t (D X.A X.stack s1 H1 Q (R σ) hr I1.rS kp zC) fun r s' hq=>?_);cases r with
 | error e=>show hx.pass π σ H1 s1 e s' I1 hq
 | ok fl =>
  cases fl with
  | ret u=>show I1.after hq
  | next=>show False.elim hq
  | brk=>show False.elim hq
  | cont=>show False.elim hq
abbrev yQ:=List Env->ό->Sp
structure ve(P:ύ)(w:World)(K:ν)(mg:Str->Option ϊ)(base:Heap)(CX:d8)(k:Nat)(f:ϋ)(fd:FuncData)(ps:List Str)(sp:yQ):Prop where
 len:∀ outer s vs H Q E,sp outer s vs H Q E->vs.length=ps.length
 run:∀ (A:Around) (outer:List Env) (s:ό) (H:Hp) (args:Args) (us:List ϊ) (vs:List V) (Q:VK) (E:XK),bh k A->lT P w K mg base A outer s H->BindsTo s fd args (ps.zip us)->Vals vs us->sp outer s vs H Q E ->
  codeAny (model P w) A (.call (-f) args) (CR CX outer P w H s Q E) s
def aa1{CX:d8}{P:ύ}{w:World}{K:ν}{mg:Str->Option ϊ}{base:Heap}{k:Nat}{f:ϋ}{name qual:Str}{params:Arguments}{body:List Stmt}{scope:Scope}{dV kV doc pm ah ct oc:ϊ}{an od:Option ϋ}{dA:Array (Option ϊ)}{N ps:List Str}{sp:yQ}(lk:K.lookup f=!#[oc,od,.func (W.fnOf name qual params body scope dV kV doc pm an ah ct),dA])(bM:W.codeIn K ah qual=true)(S:aC N ps scope)(len:∀ outer s vs H Q E,sp outer s vs H Q E->vs.length=ps.length)(iw:∀ (A:Around) (outer:List Env) (s:ό) (H:Hp) (vs:List V) (Q:VK) (E:XK),bh k (A.deeper (envOfC qual scope s.heap.objs.size f ah))->sp outer s vs H Q E ->
   ∃ t,dm (cj CX P w K mg base N qual scope f ah A outer s H E) body t/\t { nx:=fun _ H'=>Q .au H',rt:=Q } (start N vs) H) :
  ve P w K mg base CX (k+1) f (W.fnOf name qual params body scope dV kV doc pm an ah ct) ps sp:=by
 show#[len,fun A outer s H args us vs Q E hr e0 hb r dF=>?_];have hl:=len _ _ _ _ _ _ dF;have KX:K.In s.heap:=e0.mod.iN.keeps fun b o e=>(e0.bs b o e).1;have lim:s.heap.NoLimit:=e0.mod.nolimit.keeps fun b o e=>(e0.bs b o e).1;have GO:∀ y∈ps.zip us,scope.names.lookup y.1=!.local\/(scope.names.lookup y.1=!.cell/\((cellsFrom (s.heap.objs.size+1) scope.names []).lookup y.1).isSome=true):=fun ⟨n,v⟩ hy=>by
  rcases S.par n (Ja3 hy).1 with q | q
  ·show .inl q
  ·show .inr #[q,_V _ _ _ (.inl q)]
 show codeAny_call_function hr.depth (KX _ _ lk) rfl S.co S.gen rfl (W.codeRec_of KX bM) (hb _ _ _ _ ?_);show wpAny_newFunctionEnv_cells S.kind GO fun env he s1 x=>?_;subst he;show#[lim.keeps x.toInCall.keep,codeAny_func ?_];let⟨t,ht,hq⟩:=iw A outer s H vs Q E (hr.deeper _) dF;have I:Inv (cj CX P w K mg base N qual scope f ah A outer s H E) [] (start N vs) H s1:=OX S hr.hd e0 hl r x;show KB (ht [] s1 (start N vs) H _ I hq) (fun fl s' hs=>?_) fun e s' hs=>hs;have fin:∀ {σ':St}{H':Hp}{v:V}{u:ϊ},Inv (cj CX P w K mg base N qual scope f ah A outer s H E) [] σ' H' s'->RelV v u->Q v H'->CE outer P w H s Q u s' :=
  fun {σ' H' v u} J rv q=>#[v,H',J.os,J.bare,J.base,J.aA,rv,q]
 cases fl with
 | ret u =>
  let⟨v,σ',H',J,rv,q⟩:=hs;show fin J rv q
 | next =>
  let⟨σ',H',J,q⟩:=hs;show fin (v:=V.au) (u:=ϊ.none) J rfl q
 | brk =>
  let⟨_,_,_,q⟩:=hs;show False.elim q
 | cont =>
  let⟨_,_,_,q⟩:=hs;show False.elim q
abbrev Ent:=Int×Int×ϋ
def  dP:List Ent->List ϊ
 | []=>[]
 | e::r=>rawInt e.1::rawInt e.2.1::.ref e.2.2::dP r
def Od:∀ (a b:List Ent),dP (a++b)=dP a++dP b
 | [],b=>rfl
 | e::r,b=>by change _::_::_::dP (r++b)=_;rw[Od r b];rfl
def Dq:∀ es:List Ent,TriplesOk (dP es)
 | []=>trivial
 | e::r=>Dq r
def IW(pos:Pos):∀ es:List Ent,codeAmong pos (dP es)=(es.find? fun e=>e.1 == (pos.line:Int) && e.2.1 == (pos.col:Int)).map fun e=>ϊ.ref e.2.2
 | []=>rfl
 | e::r=>by
  change(if e.1 == (pos.line:Int) && e.2.1 == (pos.col:Int) then !ϊ.ref e.2.2 else codeAmong pos (dP r))=_;rw[SL];cases h:(e.1 == (pos.line:Int) && e.2.1 == (pos.col:Int)) with
  | true=>rfl
  | false=>show IW pos r
def  kU(P:ϋ)(es:List Ent):HO:=.ext fun h=>h.get? P=!W.tabObj (dP es).toArray
structure dv(H:Hp)(P:ϋ)(q:Str)(es:List Ent):Prop where
 tab:H P=!kU P es
 code:∀ e∈es,H e.2.2=!lZ e.2.2 q
structure hX(X:Cx)(P:ϋ)(params:Arguments)(scope:Scope)(bV:List (Str×ϋ))(q:Str):Prop where
 dflt:defaultsOf params X.env=([],[])
 jb:closureFor scope X.env=pure bV
 code:∃ c,X.env.code=-c/\W.CodeHd X.base c P
 blt:X.base.BuiltinsAt X.mg P
 qual:X.env.qual ++ "<lambda>" = q
structure kR(P:ϋ)(q:Str)(c:ϋ)(H H1:Hp):Prop where
 rest:∀ b,b≠P->b≠c->H1 b=H b
 code:H1 c=!lZ c q
 old:H c=none\/H1=H
 tab:∃ es,dv H1 P q es
def rh{a b n:Nat}(h:a < n)(h':n<=b):b≠a:=∅
def aa0{X:Cx}{π:List (ϋ×Obj)}{σ:St}{H:Hp}{s:ό}{P:ϋ}{params:Arguments}{body:Expr}{scope:Scope}{bV:List (Str×ϋ)}{q:Str}{fJ:Pos}{es:List Ent}{Q:ϊ->ό->Prop}(I:Inv X π σ H s)(L:hX X P params scope bV q)(T:dv H P q es)(h:∀ f c ct pm s1 H1,Inv X π σ H1 s1->kR P q c H H1->H1 f=none->s.heap.objs.size<=f->f≠X.env.locals->s1.heap.get? f=!W.kla_obj "<lambda>" q params body scope bV pm c ct ->
   (∀ b o,H b=none->s.heap.get? b=!o->s1.heap.get? b=!o)->Q (-f) s1) :
  wpAny (model X.prog X.w) X.A (eval (.Lambda params body scope fJ) X.env) Q X.xe s:=by
 let⟨hdef,f7,⟨c,Q3,C⟩,hb,hq⟩:=L;subst hq;show W.kla_eval hdef ?_;have hP:s.heap.get? P=!W.tabObj (dP es).toArray:=(I.aA P _ T.tab).1;have hgP:mainGlobals≠P:=fun e=>by
  let⟨o,_,_,g,_⟩:=I.mod.glob;have:=(I.bs _ _ g).2;rw[e,T.tab]at this;cases this
 have Qw:s.heap.BuiltinsAt X.mg P:=by
  let⟨bm,o,b1,b2,b3,b4,b5,b6⟩:=hb;show#[bm,o,b1,b2,b3,b4,I.bk _ _ b5,b6]
 have HK:=I.lt;have cL:∀ {b:ϋ},H b=none->b≠P:=fun {b} n e=>by rw[e,T.tab]at n;cases n
 cases hf:codeAmong fJ (dP es).toArray.toList with
 | none =>
  show W.kla_makeFunction (mg:=X.mg) f7 I.ok.glob (I.mod.glob.keeps I.bk) Q3 (C.keeps I.bk) hP (Dq es) hf hgP Qw fun c' ct h' tk hx gX bS zN mL=>?_;have htb':h'.get? P=!W.tabObj (dP (es++[((fJ.line:Int),(fJ.col:Int),c')])).toArray:=by
   rw[mL,Od];simp[dP]
  have hPs:P < s.heap.objs.size:=sB hP;have Ri:c'≠P:=rh hPs gX;have I1:Inv X π σ (upd H P (kU P (es++[((fJ.line:Int),(fJ.col:Int),c')]))) { s with heap:=h',toks:=tk } :=
   I.write (x:=P) (e:=P) (t':=tk) (by rw[T.tab];trivial) (.inl rfl) (fun b u hb e=>hx b u hb e) #[_,htb'] #[htb',#[_,htb'],fun h1 h2 z k=>k _ z]
  have jQ:H c'=none:=I.aA.fresh gX;have hcn1:(upd H P (kU P (es++[((fJ.line:Int),(fJ.col:Int),c')]))) c'=none:=by rw[ag Ri];show jQ
  have I2:=I1.wN (a:=c') (o:=lZ c' (X.env.qual ++ "<lambda>")) hcn1 (_g (wE I.sz gX)) (rh HK gX) (fun x c₁ e z=>by
    let⟨v,o,ho,_⟩:=I.cell x c₁ e;show rh (sB ho) gX z.symm) (fun p hp z=>by
    show rh (sB (I.pin p hp).1) gX z.symm) #[zN,(by let⟨c₂,o,_,_,e,g,_⟩:=zN;cases e;show#[o,g]),fun h1 h2 z k=>by
     let⟨c₂,o,vs,t,e,g,r⟩:=z;cases e;show#[c',o,vs,t,rfl,k o g,r]]
  have I3:=I2.kept (t':=tk) (h':=h'.push (W.kla_obj "<lambda>" (X.env.qual ++ "<lambda>") params body scope bV ((X.mg "__name__").getD .none) c' ct)) (fun b u e=>li _ e);have qc:(upd (upd H P (kU P (es++[((fJ.line:Int),(fJ.col:Int),c')]))) c' (lZ c' (X.env.qual ++ "<lambda>"))) h'.objs.size=none:=I2.aA.fresh (pi _);have hsz:s.heap.objs.size<=h'.objs.size:=wE gX (Jac bS);show h h'.objs.size c' ct _ _ _ I3 #[fun b n1 n2=>by rw[ag n2,ag n1],aw,.inl jQ,es++[((fJ.line:Int),(fJ.col:Int),c')],#[by rw[ag (pp Ri),aw],fun e he=>?_]] qc hsz (rh HK hsz) (tz _ rfl) fun b o n e=>li _ (hx b o (cL n) e);rcases Fr.mp he with he | he
  ·have:=T.code e he;by_cases hc:e.2.2=c'
   ·rw[hc,aw]
   ·have hp:e.2.2≠P:=fun z=>by
     have hr:s.heap.CodeRec (-P) (X.env.qual ++ "<lambda>"):=by
      have hh:=(I.aA _ _ this).1;rw[z]at hh;show hh
     let⟨c₂,o,vs,t,e1,g,d,r⟩:=hr;cases e1;rw[hP]at g;cases g;have d':(dP es).toArray=vs:=by injection d
     subst d';cases es with
     | nil=>cases he
     | cons e₁ r₁=>simp[dP,rawInt]at r
    rw[ag hc,ag hp];show this
  ·rw[ut.mp he];show aw
 | some cv =>
  have hf':=hf;rw[show(dP es).toArray.toList=dP es from rfl,IW]at hf';let⟨e,he,hev⟩:=SC.mp hf';subst hev;show W.kla_makeFunctionHit (mg:=X.mg) f7 I.ok.glob (I.mod.glob.keeps I.bk) Q3 (C.keeps I.bk) hP (Dq es) hf Qw fun ct h' tk hk hsz=>?_;have I1:=I.kept (t':=tk) hk;have I2:=I1.kept (t':=tk) (h':=h'.push (W.kla_obj "<lambda>" (X.env.qual ++ "<lambda>") params body scope bV ((X.mg "__name__").getD .none) e.2.2 ct)) (fun b u e=>li _ e);show h h'.objs.size e.2.2 ct _ _ _ I2 #[fun _ _ _=>rfl,T.code e (_H he),.inr rfl,es,T] (I1.aA.fresh (pi _)) hsz (rh HK hsz) (tz _ rfl) fun b o n e=>li _ (hk b o e)
abbrev dU:=Hp->VK->XK->Prop
def  Cz(P:ύ)(w:World)(K:ν)(mg:Str->Option ϊ)(base:Heap)(k:Nat)(jO:dU->dU):yQ:=fun outer s vs H Q E =>
 ∃ f B bW,vs=[-f]/\me P w K mg base k s B f bW/\yo outer H s B/\B9 s f/\B f/\jO bW H Q E
def  Nu(c:ϋ)(q:Str)(W:dU):dU:=fun H Q E=>H c=!lZ c q/\W H Q E
def  pb(ix:List Nat)(σ:St)(vs:List V):Prop:=vs.length=ix.length/\∀ (i j:Nat) (v:V),ix[i]?=!j->vs[i]?=!v->σ[j]?=!(!v)
def  Dl(P:ϋ)(q:Str)(ix:List Nat)(W:List V->dU)(jO:dU->dU)(R:St->XK):TE:=fun σ H Q =>
 ∃ es vs,dv H P q es/\pb ix σ vs/\∀ c H1,kR P q c H H1->jO (Nu c q (W vs)) H1 Q (R σ)
structure gB(X:Cx)(N':List Str)(ix:List Nat)(bV:List (Str×ϋ)):Prop where
 len:ix.length=N'.length
 at':∀ (i j:Nat),ix[i]?=!j->∃ x,N'[i]?=!x/\X.N[j]?=!x/\X.env.scope.names.lookup x=!.cell
 jb:∀ x c,bV.lookup x=!c->X.env.cells.lookup x=!c
 Kv:∀ x∈N',bV.lookup x=X.env.cells.lookup x
 own:∀ x c,bV.lookup x=!c->X.fn x=true
def aa9{X:Cx}{P:ϋ}{q:Str}{ix:List Nat}{W:List V->dU}{jO:dU->dU}{R:St->XK}{params:Arguments}{body:Expr}{scope:Scope}{bV:List (Str×ϋ)}{N':List Str}{fJ p pos:Pos}{x y:Str}{g:ϋ}{fd:FuncData}{k k':Nat}(L:hX X P params scope bV q)(S:eU N' scope bV)(C:gB X N' ix bV)(F:ve X.prog X.w X.K X.mg X.base (bc X.prog X.w) k' g fd [y] (Cz X.prog X.w X.K X.mg X.base (k+1) jO))(hr:bh k' X.A)(hg:Gl X x)(hm:X.mg x=!-g)(hk:PySem.W.keepIn X.K (-g)=true)(hb:Binds X.K fd [y] [])(hx:ik X R)(mG:∀ pm cd ct,bindArgs (PySem.W.kla_fn "<lambda>" q params body scope bV pm cd ct) #[[],[]]=pure [])(iw:∀ (f:ϋ) (ah:ϊ) (vs:List V) (A:Around) (outer:List Env) (s:ό) (H:Hp) (Q:VK) (E:XK),bh k (A.deeper (PySem.W.envX q scope s.heap.objs.size f ah bV))->W vs H Q E ->
   ∃ t,PE (jA X.prog X.w X.K X.mg X.base N' q scope f ah bV A outer s H E) body t/\t (vs.map some) H Q)(b7:(x == ("__debug__":Str))=false:=by decide):PE X (.Call (.Name x p) [.Lambda params body scope fJ] [] pos) (Dl P q ix W jO R):=by
 intro π s σ H Q I h;let⟨es,vs,T,hc,dF⟩:=h;show FB (lM I hg hm ?_ b7);show Tk (h₀:=X.base) I.ok.mod.iN hk ?_;change wpAny _ _ (spliced ((false,eval (.Lambda params body scope fJ) X.env)::backTo pos (starEach [] X.env))) _ _ s;show On (aa0 I L T fun f c ct pm s1 H1 I1 St qc kZ aU pZ kp=>?_);show Pi #[I1.cq,?_];have Q8:∀ b,X.s₀.heap.objs.size<=b->b≠X.env.locals->b ∉ bZ X.stack:=fun b hb hl z=>by
  rcases jp.mp (I1.vj b z) with e | z
  ·show hl e
  ·let⟨_,o,ho,_⟩:=I1.ok.fB.mem z;show absurd (wf (sB ho) hb) (Ix _)
 have D:me X.prog X.w X.K X.mg X.base (k+1) s1 (fun b=>b=f\/∃ z,bV.lookup z=!b) f (Nu c q (W vs)):=by
  show V0 (N:=N') (vs:=vs) S pZ rfl (fun H Q E z=>#[c,rfl,z.1]) (.inl rfl) (fun z c' e=>.inr #[z,e]) (by rw[hc.1,C.len]) (fun z c' e=>I1.cell z c' (C.jb z c' e)) (fun i z v h1 h2=>?_) (fun _ _=>mG _ _ _) (fun A outer s' H' Q' E' r z=>iw f (-c) vs A outer s' H' Q' E' r z.2);have hi:i < ix.length:=by
   have:=(lm.mp h1).1;rw[C.len];show this
  let⟨z',e1,e2,e3⟩:=C.at' i _ (sw hi);rw[h1]at e1;cases e1;have e4:=hc.2 i _ v (sw hi) h2;let⟨m,hn,hl⟩:=I1.loc;let⟨u,r,l⟩:=hl _ z v e2 e4 (.inr (.inl e3));rcases l with ⟨hk',_⟩ | ⟨_,c',e5,e6⟩
  ·have:X.env.scope.names.lookup z=!.local:=hk';rw[e3]at this;cases this
  ·show#[c',u,by rw[C.Kv z (GM h1)];show e5,r,e6]
 have hH:yo X.stack H1 s1 (fun b=>b=f\/∃ z,bV.lookup z=!b):=fun b hb=>by
  rcases hb with rfl | ⟨z,e⟩
  ·show#[#[_,pZ],qc,Q8 _ (wE I.sz kZ) aU]
  ·have e':=C.jb z b e;let⟨v,o,ho,_⟩:=I1.cell z b e';show#[#[o,ho],I1.eN z b e',Q8 b (I1.ok.lQ z b (C.own z b e) e') (I1.jX z b e')]
 have hl:([-f]:List ϊ).length=[y].length:=rfl;show _a (_t (F.run X.A X.stack s1 H1 #[[-f],[]] [-f] [-f] Q (R σ) hr I1.rS (hb s1 [-f] I1.cq hl) (.cons rfl .nil) #[f,_,_,rfl,D,hH,#[_,_,_,_,pZ],.inl rfl,dF c H1 St]) fun r s' hq=>?_);cases r with
 | error e=>show hx.pass π σ H1 s1 e s' I1 hq
 | ok fl =>
  cases fl with
  | ret u=>show I1.after hq
  | next=>show False.elim hq
  | brk=>show False.elim hq
  | cont=>show False.elim hq
abbrev oG:=List (ϋ×ϋ)
def  wG(tabs:oG)(H:Hp):Prop:=∀ q∈tabs,∃ es,H q.2=!kU q.2 es
structure om(tabs:oG)(H:Hp):Prop where
 all:∀ b,H b=none\/(∃ o xs,H b=!.cD o (.lst xs))\/∃ q∈tabs,b=q.2
 tab:∀ q∈tabs,H q.2=!kU q.2 []
def om.ok{tabs:oG}{H:Hp}(h:om tabs H){c P:ϋ}(q:Str)(hm:(c,P)∈tabs):dv H P q []:=#[h.tab _ hm,fun _ z=>nomatch z]
def abu{P:ύ}{w:World}{K:ν}{mg mb:Str->Option ϊ}{CX:d8}{k:Nat}{fa a:ϋ}{fd:FuncData}{x:Str}{sp:Sp}{s₁:ό}{vs:List ϊ}{ns:List Int}{tabs:oG}(KX:K.In s₁.heap)(eR:s₁.heap.Ns mainGlobals mg)(hb:s₁.heap.Ns builtinsNs mb)(hbb:∀ x:Str,x ≠ "__name__" -> mb x=bootBuiltins x)(hlim:s₁.heap.NoLimit)(hg:s₁.gens=(List.toArray []))(hT:W.TabsAt tabs s₁.heap)(pY:W.noTabs K=true)(hbm:∃ bm ob,mg "__builtins__" = !-bm/\bm≠builtinsNs/\s₁.heap.get? bm=!ob/\ob.cls=.type "module" /\ ob.dict=!builtinsNs/\ob.data=.plain)(ha:s₁.heap.get? a=!{ cls:=.type "list",data:=.seq vs.toArray })(hi:IntsAre vs ns)(hl:ns.length<=sizeLine)(hr:bh k callerA)(F:∀ base:Heap,K.In base->base.Ns mainGlobals mg->(∀ q∈tabs,W.CodeHd base q.1 q.2/\base.BuiltinsAt mg q.2)->aB P w K mg base CX k fa fd [x] sp)(mG:∀ (s:ό) (u:ϊ),BindsTo s fd #[[u],[]] [(x,u)])(dF:∀ H:Hp,om tabs H->aI K H a (ns.map V.int)->sp [-a] H (fun v H'=>v=.bl true/\wG tabs H') fun _ _ _=>False)(HI:∀ H e s',CX [] H s₁ (fun _ _ _=>False) e s'->False) :
  codeAny (model P w) callerA (.call (-fa) #[[-a],[]]) (fun r s'=>r=.ok (.ret (.bool true))/\OldK s₁.heap s'.heap/\s'.os=s₁.os/\AllBare s'.gens) s₁:=by
 have rv:=Nn hi;have lenV:=hi.length;have tabAt:∀ b,(∃ q∈tabs,b=q.2)->s₁.heap.get? b=!W.tabObj (List.toArray []):=fun b ⟨q,hq,e⟩=>e ▸ (hT q hq).2;have P0:¬ ∃ q∈tabs,a=q.2:=fun z=>by
  have:=tabAt a z;rw[ha]at this;cases this
 have core:∀ H:Hp,om tabs H->aI K H a (ns.map V.int)->cw P w H s₁.heap->(∀ b,H b≠none->b=a\/∃ q∈tabs,b=q.2)->(H a≠none->K.lookup a=none) ->
   codeAny (model P w) callerA (.call (-fa) #[[-a],[]]) (fun r s'=>r=.ok (.ret (.bool true))/\OldK s₁.heap s'.heap/\s'.os=s₁.os/\AllBare s'.gens) s₁:=by
  intro H hO hS aA hA hK;have zL:∀ {b:ϋ}{o:Obj},s₁.heap.get? b=!o->H b=none->(jC s₁.heap H).get? b=!o:=fun e n=>aez e n;have Hm:∀ {b:ϋ}{o:Obj},s₁.heap.get? b=!o->b≠a->(∀ ps,o.data≠.fields ps\/o.cls≠.none)->H b=none:=fun {b o} e na d=>by
   cases q:H b with
   | none=>rfl
   | some u =>
    rcases hA b (by rw[q];simp) with e' | e'
    ·show absurd e' na
    ·have e2:=tabAt b e';rw[e]at e2;cases e2;rcases d (List.toArray []) with d | d
     ·show absurd rfl d
     ·show absurd rfl d
  have mw:∀ {b:ϋ}{o:Obj}{es:Array DictEntry}{ep:Nat},s₁.heap.get? b=!o->o.data=.dict es ep->H b=none:=fun {b o es ep} e d=>by
   show Hm e (fun z=>?_) fun ps=>.inl (by rw[d];simp);subst z;rw[ha]at e;cases e;have d':Data.seq vs.toArray _=Data.dict es ep:=d;cases d'
  have zU:∀ {b:ϋ}{m:Str->Option ϊ},s₁.heap.Ns b m->(jC s₁.heap H).Ns b m:=fun {b m} ⟨o,es,ep,e,d,r⟩=>#[o,es,ep,zL e (mw e d),d,r];have Ql:K.In (jC s₁.heap H):=fun b o e=>zL (KX b o e) (by
   cases q:H b with
   | none=>rfl
   | some u =>
    rcases hA b (by rw[q];simp) with e' | e'
    ·subst e';rw[hK (by rw[q];simp)]at e;cases e
    ·have e2:=tabAt b e';rw[KX b o e]at e2;cases e2;have h2:=Da.mp pY (b,_) (W.mem_of_lookupK e);show absurd (show false=true from h2) wn)
  have hM:Mod K mg (jC s₁.heap H):=#[Ql,zU eR,#[mb,zU hb,hbb],let ⟨mc,h1,h2⟩:=hlim;#[mc,zU h1,h2]];have e0:lT P w K mg (jC s₁.heap H) callerA [] s₁ H:=#[rfl,hM,fun b o e=>RO e,Nat.le_of_eq (acJ _ _),trivial,fun b hb=>absurd (show b∈([]:List ϋ) from hb) (),aA,.of_eq hg];have hcodes:∀ q∈tabs,W.CodeHd (jC s₁.heap H) q.1 q.2/\(jC s₁.heap H).BuiltinsAt mg q.2:=fun q hq=>by
   let⟨o,vs',file,tf,flags,tg,inF,text,tt,e1,r1,r⟩:=(hT q hq).1;let⟨bm,ob,b1,b2,b3,b4,b5,b6⟩:=hbm;show#[#[o,vs',file,tf,flags,tg,inF,text,tt,zL e1 (Hm e1 (fun z=>?_) fun ps=>.inr (by rw[r1];simp)),r1,r],bm,ob,b1,b2,fun z=>?_,fun z=>?_,zL b3 (Hm b3 (fun z=>?_) fun ps=>.inr (by rw[b4];simp)),b4,b5,b6]
   ·subst z;rw[ha]at e1;cases e1;simp at r1
   ·let⟨o',es,ep,e,d,_⟩:=eR;rw[z,e]at b3;cases b3;rw[d]at b6;cases b6
   ·rw[z,(hT q hq).2]at b3;cases b3;cases b6
   ·subst z;rw[ha]at b3;cases b3;cases b6
  show _t ((F _ Ql (zU eR) hcodes).run callerA [] s₁ H #[[-a],[]] [-a] [-a] _ _ hr e0 (mG s₁ (-a)) (.cons rfl .nil) (dF H hO hS)) fun r s' h=>?_;cases r with
  | error e=>show(HI H e s' h).elim
  | ok fl =>
   cases fl with
   | next=>show False.elim h
   | brk=>show False.elim h
   | cont=>show False.elim h
   | ret u =>
    let⟨v,H',os,bare,un,hok',r',q',qt⟩:=h;subst q';obtain rfl:u=ϊ.bool true:=r';show#[rfl,#[fun b o e=>?_,fun b o e=>un.there b o e ()],os,bare];cases q:H b with
    | none=>show .inl (un.keep b o e q (by intro z;show absurd (show b∈([]:List ϋ) from z) ()) ())
    | some u =>
     rcases hO.all b with z | ⟨ob,xs,z⟩ | ⟨qq,Ac,z⟩
     ·rw[q]at z;cases z
     ·have z2:=un.fc b ob _ z;let⟨e1,_⟩:=aA b _ z;let⟨e2,_⟩:=hok' b _ z2;rw[e]at e1;cases e1;show .inl e2
     ·subst z;let⟨es,he⟩:=qt qq Ac;have e3:s'.heap.get? qq.2=!W.tabObj (dP es).toArray:=(hok' _ _ he).1;have e4:=(hT qq Ac).2;rw[e]at e4;cases e4;show .inr (.inl #[((hT qq Ac).1.tab (hT qq Ac).2).isCodeTable,rfl,(List.toArray []),(dP es).toArray,rfl,by rw[e3];simp])
 have Q1:∀ b,(∃ q∈tabs,b=q.2)->∀ H:Hp,bU P w H s₁.heap b (kU b []):=fun b z H=>#[tabAt b z,#[_,tabAt b z],fun h1 h2 y k=>k _ y]
 classical
 cases hk:K.lookup a with
 | some o =>
  have e:=KX a o hk;rw[ha]at e;cases e;show core (fun b=>if (∃ q∈tabs,b=q.2) then !kU b [] else none) #[fun b=>?_,fun q hq=>xL #[q,hq,rfl]] (.inr #[_,vs.toArray,_,hk,rfl,rfl,rfl,by rw[ss,lenV];show hl,by simpa using rv]) (fun b u z=>?_) (fun b z=>?_) fun z=>absurd (wP P0) z
  ·by_cases h:∃ q∈tabs,b=q.2
   ·show .inr (.inr h)
   ·show .inl (wP h)
  ·by_cases h:∃ q∈tabs,b=q.2
   ·have z':=(xL h).symm.trans z;cases z';show Q1 b h _
   ·have z':=(wP h).symm.trans z;cases z'
  ·by_cases h:∃ q∈tabs,b=q.2
   ·show .inr h
   ·show absurd (wP h) z
 | none =>
  show core (fun b=>if b=a then !.cD { cls:=.type "list",data:=.seq vs.toArray } (.lst (ns.map V.int)) else if (∃ q∈tabs,b=q.2) then !kU b [] else none) #[fun b=>?_,fun q hq=>?_] (.inl (.inr #[{ cls:=.type "list",data:=.seq vs.toArray },xL rfl])) (fun b u z=>?_) (fun b z=>?_) fun _=>hk
  ·by_cases hb:b=a
   ·show .inr (.inl #[_,_,xL hb])
   ·by_cases h:∃ q∈tabs,b=q.2
    ·show .inr (.inr h)
    ·show .inl ((wP hb).trans (wP h))
  ·have cL:q.2≠a:=fun z=>P0 #[q,hq,z.symm];show(wP cL).trans (xL #[q,hq,rfl])
  ·by_cases hb:b=a
   ·have z':=(xL hb).symm.trans z;cases z';subst hb;show#[ha,by rw[lv];show hl,vs,_,rv,ha]
   ·have z':=(wP hb).symm.trans z;by_cases h:∃ q∈tabs,b=q.2
    ·have z2:=(xL h).symm.trans z';cases z2;show Q1 b h _
    ·have z2:=(wP h).symm.trans z';cases z2
  ·by_cases hb:b=a
   ·show .inl hb
   ·by_cases h:∃ q∈tabs,b=q.2
    ·show .inr h
    ·show absurd ((wP hb).trans (wP h)) z
def WW{l:W.OpenLaw}{n k:Nat}{q:ύ}{loose:List Str}{XP:(Str->Option ϊ)->Heap->Prop}{YP:World->Heap->Prop}{d:DefRec}{K:Params->ν}{CX:World->d8}{sp:World->Sp}{x:Str}{tabs:oG}(hn:l.most=!n)(gJ:n<=sizeLine)(wc:d.params.defaults=[])(hr:bh k callerA)(hY:∀ (w:World) (h:Heap),YP w h->(K w.params).In h)(pY:∀ w:World,W.noTabs (K w.params)=true)(mL:∀ (w:World),∀ t∈tabs,∃ y e,(recsOf q).find? (fun e=>e.name == y)=!e/\W.tabIn (K w.params) y=!t)(F:∀ (w:World) (mg:Str->Option ϊ) (fa:ϋ) (h:Heap),(K w.params).In h->h.Ns mainGlobals mg->mg d.name=!-fa ->
   ∃ fd:FuncData,(∀ (s:ό) (u:ϊ),BindsTo s fd #[[u],[]] [(x,u)]) /\
    ∀ base:Heap,(K w.params).In base->base.Ns mainGlobals mg->(∀ t∈tabs,W.CodeHd base t.1 t.2/\base.BuiltinsAt mg t.2)->aB l.prog w (K w.params) mg base (CX w) k fa fd [x] (sp w))(dF:∀ (w:World) (H:Hp) (a:ϋ) (ns:List Int),ns.length<=n->om tabs H->aI (K w.params) H a (ns.map V.int)->sp w [-a] H (fun v H'=>v=.bl true/\wG tabs H') fun _ _ _=>False)(HI:∀ (w:World) (H:Hp) (s:ό) (e:ϊ) (s':ό),CX w [] H s (fun _ _ _=>False) e s'->False) :
  W.WalkO q loose XP YP l.row.toRowW d [] (fun f vs=>PySem.call f vs):=by
 show Att.Sm hn wc fun w s₀ s₁ mg mb fa o pm cd doc a vs ns G Y ho hd bM hmg v9 hints hlen hg=>?_;have KX:=hY w _ Y;let⟨fd,hb,hF⟩:=F w mg fa _ KX G.T.g hmg;show abu KX G.T.g G.T.b G.T.builtins G.T.nolimit hg (fun t ht=>by
  let⟨y,e,h1,h2⟩:=mL w t ht;show W.tab_of G.T KX h1 h2) (pY w) G.T.bmain v9 hints (wE hlen gJ) hr hF hb (fun H hO hS=>dF w H a ns hlen hO hS) fun H e s'=>HI w H s₁ e s'
section
variable {prog:ύ}{w:World}{A:Around}{R:Result->ό->Prop}{I:ϋ}{fp wr:List ϋ}{P:Nat->ϊ->Prop}{St:Nat->Heap->Prop}
def aeq(a d:ϊ):argsOk "min" #[[a],[("default",d)]]:=by unfold argsOk;kernel_rfl
def Ub(W:Walks prog w A.in1 I fp wr 0 P St){S:ϋ}{s:ό}{c:Nat}{d:ϊ}(aX:St 0 s.heap)(hS:s.heap.get? S=!{ cls:=.type "list",dict:=none,data:=.seq (List.toArray []) c,slots:=(List.toArray []) })(hR:∀ h' tk,(∀ b o,b ∉ wr->s.heap.get? b=!o->h'.get? b=!o)->R (.ok (.ret d)) { s with heap:=h',toks:=tk }) :
  codeAny (model prog w) A (.builtin "min.loop" #[[-I,.none,-S],[("default",d)]]) R s:=by
 show Ja5 F.entry_min_loop ?_;rw[Ja2 _F _];change wpAny _ A.in1 (seqItems? (-S) >>= _) _ _ s;show ii (Jam hS rfl ?_);change wpAny _ A.in1 (tryCatch (pyNext (-I)) _ >>= _) _ _ s;show ii (wpAny_tryCatch (W.done s _ _ aX fun h' tk hk'=>?_));show ii (wpAny_rule (pc (hR h' tk hk')))
def Wr(W:Walks prog w A.in1 I fp wr 1 P St){S:ϋ}{s:ό}{c:Nat}{d:ϊ}(sA:S ∉ fp)(aX:St 0 s.heap)(hS:s.heap.get? S=!{ cls:=.type "list",dict:=none,data:=.seq (List.toArray []) c,slots:=(List.toArray []) })(hR:∀ v h' tk,P 0 v->(∀ b o,b ∉ wr->b≠S->s.heap.get? b=!o->h'.get? b=!o)->R (.ok (.ret v)) { s with heap:=h',toks:=tk }) :
  codeAny (model prog w) A (.builtin "min.loop" #[[-I,.none,-S],[("default",d)]]) R s:=by
 have Qb:S ∉ wr:=fun h=>sA (W.sub _ h);have Hh:(toString "min" ++ toString ".loop" : String) = "min.loop" := by decide
 show Ja5 F.entry_min_loop ?_;rw[Ja2 _F _];change wpAny _ A.in1 (seqItems? (-S) >>= _) _ _ s;show ii (Jam hS rfl ?_);change wpAny _ A.in1 (tryCatch (pyNext (-I)) _ >>= _) _ _ s;show ii (wpAny_tryCatch (W.item 0 s _ _ ⋯ aX fun v h' tk hP hst' hk'=>?_));have hS':=hk' S _ Qb hS;change wpAny _ A.in1 (updateSeq S (fun _=>(List.toArray [v,v])) >>= _) _ _ _;show ii ?_;show wpAny_updateSeq hS' rfl ?_;rw[Hh];show pc #[plainId_quiet _F _,?_];have key:∀ (s2:ό) (c2:Nat),St 1 s2.heap->s2.heap.get? S=!{ cls:=.type "list",dict:=none,data:=.seq (List.toArray [v,v]) c2,slots:=(List.toArray []) }->(∀ h'' tk'',(∀ b o,b ∉ wr->b≠S->s2.heap.get? b=!o->h''.get? b=!o)->R (.ok (.ret v)) { s2 with heap:=h'',toks:=tk'' }) ->
   codeAny (model prog w) A (.builtin "min.loop" #[[-I,.none,-S],[("default",d)]]) R s2:=fun s2 c2 lz hS2 hR2=>by
  show Ja5 F.entry_min_loop ?_;rw[Ja2 _F _];change wpAny _ A.in1 (seqItems? (-S) >>= _) _ _ s2;show ii (Jam hS2 rfl ?_);change wpAny _ A.in1 (tryCatch (pyNext (-I)) _ >>= _) _ _ s2;show ii (wpAny_tryCatch (W.done s2 _ _ lz fun h3 tk3 Q4=>?_));have hS3:=Q4 S _ Qb hS2;change wpAny _ A.in1 (updateSeq S (fun _=>(List.toArray [])) >>= _) _ _ _;show ii ?_;show wpAny_updateSeq hS3 rfl (ii (wpAny_letGo (pc ?_)));show hR2 _ tk3 fun b o hbw hbS e=>(GT _ _ (pp hbS)).trans (Q4 b o hbw e)
 show key _ _ (W.frame _ _ _ hst' fun b gI o e=>(GT _ _ (fun h:S=b=>sA (by rw[h];show gI))).trans e) (P3 _ hS' rfl) fun h'' tk'' hk''=>?_;show hR v h'' tk'' hP fun b o hbw hbS e=>hk'' b o hbw hbS ((GT _ _ (pp hbS)).trans (hk' b o hbw e))
def Xg{E:ϊ->ό->Prop}{s:ό}{x d:ϊ}{Q:ϊ->ό->Prop}(h:wpAny (model prog w) A.in1 (pyIter x) (fun it s₂=>∃ I fp wr n P St,it=-I/\Walks prog w A.in1 I fp wr n P St/\St 0 s₂.heap/\(∀ b∈fp,b < s₂.heap.objs.size)/\n<=1 /\
   ∀ v h' tk,(n=0/\v=d\/n=1/\P 0 v)->(∀ b o,b ∉ wr->s₂.heap.get? b=!o->h'.get? b=!o)->Q v { s₂ with heap:=h',toks:=tk }) E s) :
  wpAny (model prog w) A (call (.builtin "min") [x] [("default",d)]) Q E s:=by
 have Hh:(toString "min" ++ toString ".loop" : String) = "min.loop" := by decide
 show _a (_h F.plain_min F.entry_min ?_);have PX:wpAny (model prog w) A.in1 (Builtin.«min» #[[x],[("default",d)]]) (fun fin s'=>match fin with
   | .done f=>(match (Except.ok f:Result) with | .ok (.ret v)=>Q v s' | .ok _=>False | .error e=>E e s')
   | .again c'=>c'.quiet=true/\codeAny (model prog w) A c' (fun r s'=>match r with | .ok (.ret v)=>Q v s' | .ok _=>False | .error e=>E e s') s') E s:=by
  change wpAny _ A.in1 (Builtin.Builtins.bindParams "min" ["key","default"] 0 #[[],[("default",d)]] >>= _) _ _ s;show ii (wpAny_of_eq (show Builtin.Builtins.bindParams "min" ["key","default"] 0 #[[],[("default",d)]]=pure [none,!d] from rfl) ?_);show ii (pc ?_);show ii (KB h (fun it s₂ h₂=>?_) fun _ _ e=>e);let⟨I,fp,wr,n,P,St,rfl,W,aX,FX,hn,hQ⟩:=h₂;show ii (_A ?_);have sA:s₂.heap.objs.size ∉ fp:=fun hm=>Ix _ (FX _ hm);rw[Hh];show pc #[plainId_quiet _F _,?_];have lz:=W.frame _ _ _ aX (fun b _ o e=>li { cls:=.type "list",data:=.seq ([]:List ϊ).toArray } e)
  match n,hn,W,hQ with
  | 0,_,W,hQ =>
   show Ub W lz (tz _ rfl) fun h' tk hk=>?_;show hQ d h' tk (.inl #[rfl,rfl]) fun b o hbw e=>hk b o hbw (li _ e)
  | 1,_,W,hQ =>
   show Wr W sA lz (tz _ rfl) fun v h' tk hP hk=>?_;show hQ v h' tk (.inr #[rfl,hP]) fun b o hbw e=>hk b o hbw (wT (sB e)) (li _ e)
 have ha:=aeq x d;simp only[checkBuiltinCall,F.kind_min];cases hsig:Manifest.signature? "min" with
 | none=>show pc PX
 | some sig =>
  have ha':Bind.checkArgs "min" sig #[[x],[("default",d)]]=pure .unit:=by simpa only [argsOk,hsig] using ha
  simp only[ha'];show pc PX
end
def  j8(h:Heap)(d:ϋ)(es:Array DictEntry)(ep:Nat):Prop:=∃ o,h.get? d=!o/\o.ExactDict/\o.data=.dict es ep
def j8.at'{h h':Heap}{d:ϋ}{es:Array DictEntry}{ep:Nat}(x:j8 h d es ep)(k:∀ o,h.get? d=!o->h'.get? d=!o):j8 h' d es ep:=let ⟨o,e,r⟩:=x;#[o,k o e,r]
section
variable {prog:ύ}{w:World}{A:Around}{E:ϊ->ό->Prop}{s:ό}{es:Array DictEntry}
def j8.typeIs{d:ϋ}{ep:Nat}(x:j8 s.heap d es ep):s.TypeIs (-d) "dict" := let ⟨o,e,c,_⟩:=x;#[o,e,c.1]
def EI{d:ϋ}{ep:Nat}{Q:ϊ->ό->Prop}(hd:(d == sysModules)=false)(hm:j8 s.heap d es ep)(hQ:Q (-s.heap.objs.size) { s with heap:=s.heap.push { cls:=.type "dict_keyiterator",data:=.fields (List.toArray [-d,.int 0 0,.int es.size 0,.int ep 0]) } }) :
  wpAny (model prog w) A (pyIter (-d)) Q E s:=by
 let⟨o,ho,hc,dY⟩:=id hm;have hT:=hm.typeIs;show wpAny_pyIter_slot hT F.slot_dict_iter (_r F.slot_dict_iter hT F.entry_dict_iter ?_ (F.args_dict_iter_1 _));unfold Builtin.«dict.__iter__» Builtin.Dict.dictSlotNone;show ii (ii (wpAny_notOrdered_dict hT ?_));change wpAny _ _ (pure (ϊ.ref d)) _ _ s;show pc ?_;change wpAny _ _ (Builtin.Dict.showsAll d >>= _) _ _ s;unfold Builtin.Dict.showsAll;rw[wP (by rw[hd];show wn)];show ii (pc (ii (_Z ho dY (ii (wpAny_dictEpoch ho dY ?_)))));show ii (_A (pc #[_,rfl,"dict_keyiterator",_,#[_,tz _ rfl,rfl],_v.lookup,?_]))
 simpa [rawInt] using hQ
def wJ{it d:ϋ}{i ep:Nat}{Q:Option ϊ->ό->Prop}(hit:s.heap.IsKeyIter it d i es.size ep)(hm:j8 s.heap d es ep)(h1:∀ bS:i < es.size,∀ h',h'.IsKeyIter it d (i+1) es.size ep->Heap.SameBut it s.heap h'->Q (!es[i].key) { s with heap:=h' })(h2:es.size<=i->A.handled=none/\∀ h',Heap.ExtBut it s.heap h'->Q none { s with heap:=h' }) :
  wpAny (model prog w) A (pyNext (-it)) Q E s:=by
 let⟨o,ho,hc,hd⟩:=id hit;let⟨od,sH,bM,z7⟩:=id hm;unfold pyNext;show ii (Jar (wpAny_callSpecial?_slot (name:=ώ "__next__") hit.typeIs _v
  (_r _v hit.typeIs F.entry_dict_keyiterator_next ?_ (F.args_dict_keyiterator_next_1 _))))
 show ii (pc (ii (ii ?_)));show ii (_s hit.typeIs (pc ?_));show ii (wpAny_fieldsOf ho hd ?_);simp only[show Builtin.Dict_items.ownsTuple "dict_keyiterator" = false by decide,Ev,TD];change wpAny _ _ (if (ϊ.ref d == ϊ.none)=true then _ else _) _ _ s;rw[wP (show ¬ ((ϊ.ref d == ϊ.none)=true) from wn)];show ii (pc (ii (_Z sH z7 ?_)));rw[wP ()];show ii (pc (ii (wpAny_dictEpoch sH z7 ?_)));rw[wP ()];show pc ?_;rcases Nat.lt_or_ge i es.size with bS | gX
 ·simp only[show ¬ ((i:Int) < 0) from by omega,TD,Int.toNat_natCast,Array.getElem?_eq_getElem bS];show ii (ii (_s hit.typeIs (pc ?_)));show ii (wpAny_isOneOf_keyiter hit.typeIs ?_);change wpAny _ _ (setField (-it) 1 (rawInt ((i:Int)+1)) >>= _) _ _ s;show ii (wpAny_setField ho hd () ?_);have hit':(s.heap.update it (Obj.mapFields (·.setIfInBounds 1 (rawInt ((i:Int)+1))))).IsKeyIter it d (i+1) es.size ep :=
   #[_,P3 _ ho (Obj.isFreed_of_fields (Jak hd _)),(Obj.cls_mapFields ..).trans hc,by rw[Jak hd];simp[rawInt]]
  show ii (FM (ii (wpAny_isOneOf_keyiter (s:={ s with heap:=s.heap.update it (Obj.mapFields (·.setIfInBounds 1 (rawInt ((i:Int)+1)))) }) hit'.typeIs ?_)));change wpAny _ _ (pure es[i].key) _ _ _;show pc (pc #[_,rfl,pc (h1 bS _ hit' (_J ..))])
 ·let⟨hh,hQ⟩:=h2 gX;simp only[show ¬ ((i:Int) < 0) from by omega,TD,Int.toNat_natCast,Array.getElem?_eq_none gX];show ii (ii (_s hit.typeIs (pc ?_)));change wpAny _ _ (setField (-it) 0 .none >>= _) _ _ s;show ii (wpAny_setField ho hd () ?_);change wpAny _ _ (newExc (.type "StopIteration") [] >>= _) _ _ _;show ii ?_;simp only[newExc,newTuple];show ii (_A ?_ (by size_fits));show ii (m:=firstArgMember _ _) (wpAny_of_eq (a:=ϊ.none) (by first | rfl | (simp only[firstArgMember];rfl)) ?_);show _A ?_ (by size_fits);simp only[raiseNew];show ii (wpAny_handled ?_);rw[show A.in1.handled=none from hh];show ii (pc (wpAny_throw ?_));show ii (wpAny_isInstance (T := "StopIteration") (b:=true) #[_,tz _ rfl,rfl] isSubtype_stop ?_);show pc (hQ _ (((_J ..).extBut.push _).push _))
def NI(hh:A.handled=none)(I d:ϋ)(cL:d≠I)(es:Array DictEntry)(ep:Nat) :
  Walks prog w A I [I,d] [I] es.size (fun i v=>∃ e,es[i]?=!e/\v=e.key) (fun i h=>h.IsKeyIter I d i es.size ep/\j8 h d es ep) where
 sub:=fun b hb=>by simp at hb;simp[hb]
 frame:=fun _ _ _ st hk=>#[st.1.at fun o e=>hk I () o e,st.2.at' fun o e=>hk d () o e]
 item:=fun i s Q E hi st hQ=>wJ st.1 st.2 (fun bS h' hit' hs'=>hQ _ h' s.toks #[es[i],by simp[bS],rfl] #[hit',st.2.at' fun o e=>hs'.extBut d o cL e] fun b o hb e=>hs'.extBut b o (fun h=>hb (by simp[h])) e) fun gX=>absurd hi (Nat.not_lt.mpr gX)
 done:=fun s Q E st hQ=>wJ st.1 st.2 (fun bS=>absurd bS (Ix _)) fun _=>#[hh,fun h' he'=>hQ h' s.toks fun b o hb e=>he' b o (fun h=>hb (by simp[h])) e]
 self:=fun _ _ _ _ st hQ=>wpAny_pyIter_keyiter st.1 hQ
end
section
variable {X:Cx}
def  BB(te:TE):TE:=fun σ H Q=>te σ H fun x H1=>∃ a kvs,x=-a/\H1 a=!.dT kvs/\((kvs=[]/\Q .au H1)\/∃ k v,kvs=[(k,v)]/\∀ p,H1 p=!.tup (k.map kV)->Q (-p) H1)
def Ss{e:Expr}{te:TE}{p p2 p3 pos:Pos}{j:Nat}(hc:X.calm=true)(hg:Gl X "min")(hm:X.mg "min" = none)(he:PE X e te)(hs:‹starEach [e] X.env=[(false,eval e X.env)]›) :
  PE X (.Call (.Name "min" p) [e] [#[!"default",.Constant .none j p2,p3]] pos) (BB te):=by
 intro π s σ H Q I h;show FB (nI (u:=.builtin "min") I hg hm (by kernel_rfl) ?_);show callWith_kw ?_ (by rw[hs];rfl) (by rw[hs];rfl);rw[hs];change wpAny _ _ (spliced ((false,eval e X.env)::backTo pos [])) _ _ s;show On (aD (he π s σ H _ I h) fun u s1 #[x,H1,I1,rx,a,kvs,ex,hd,q]=>Pi ?_);subst ex;cases (show u=ϊ.ref a from rx);show kws_cons (Constant_none (kws_nil ?_));change wpAny _ _ (call (.builtin "min") [-a] [("default",.none)]) _ _ s1;let⟨hz,hS,xs,hp,o,es,ep,ho,hex,dY,mv,vL⟩:=id (I1.aA a _ hd);show Xg (EI hS #[o,ho,hex,dY] ?_);have bS:a < s1.heap.objs.size:=sB ho;have hW:=NI (prog:=X.prog) (w:=X.w) (A:=X.A.in1) (I1.ok.hd hc) s1.heap.objs.size a (wT bS) es ep;have Aa:(s1.heap.push { cls:=.type "dict_keyiterator",data:=.fields (List.toArray [-a,.int 0 0,.int es.size 0,.int ep 0]) }).IsKeyIter s1.heap.objs.size a 0 es.size ep/\j8 (s1.heap.push { cls:=.type "dict_keyiterator",data:=.fields (List.toArray [-a,.int 0 0,.int es.size 0,.int ep 0]) }) a es ep :=
  #[#[_,tz _ rfl,rfl,rfl],#[o,li _ ho,hex,dY]]
 have FX:∀ b∈[s1.heap.objs.size,a],b < (s1.heap.push { cls:=.type "dict_keyiterator",data:=.fields (List.toArray [-a,.int 0 0,.int es.size 0,.int ep 0]) }).objs.size:=fun b hb=>by
  rw[Ty];rcases jp.mp hb with e | hb
  ·rw[e];show LE _
  ·rw[ut.mp hb];show _z bS
 have kp:∀ h':Heap,(∀ b o,b ∉ [s1.heap.objs.size]->(s1.heap.push { cls:=.type "dict_keyiterator",data:=.fields (List.toArray [-a,.int 0 0,.int es.size 0,.int ep 0]) }).get? b=!o->h'.get? b=!o)->∀ b o,s1.heap.get? b=!o->h'.get? b=!o:=fun h' k b o e =>
  k b o (fun z=>by have z':=ut.mp z;have:=sB e;rw[z']at this;show Ix _ this) (li _ e)
 have hsz:es.size=xs.length:=by rw[<- LT,mv,lv]
 show#[_,_,_,_,_,_,rfl,hW,Aa,FX,?_,fun v h' tk hv hk=>?_]
 ·rcases q with ⟨rfl,_⟩ | ⟨k,v,rfl,_⟩
  ·cases hp;rw[hsz];show At _
  ·cases hp with | cons _ t=>cases t;rw[hsz];show pi _
 ·have I2:Inv X π σ H1 { s1 with heap:=h',toks:=tk }:=I1.kept (t':=tk) (kp h' hk);rcases q with ⟨rfl,q⟩ | ⟨k,v',rfl,q⟩
  ·cases hp;rcases hv with ⟨_,rfl⟩ | ⟨h1,_⟩
   ·show#[.au,H1,I2,rfl,q]
   ·rw[hsz]at h1;cases h1
  ·cases hp with
   | @cons _ y _ _ hh t =>
    cases t;rcases hv with ⟨h1,_⟩ | ⟨_,e,he,rfl⟩
    ·rw[hsz]at h1;cases h1
    ·rw[<- No,mv]at he;cases he;show#[-y.2.1,H1,I2,rfl,q _ hh.2.1]
end
def cP{f:Str}{v:V}{fs:List (Str×V)}{m:Nat}(h:fs.length<=m):(az f v fs).length<=m+1:=wE (BJ f v fs) (Nat.succ_le_succ h)
def  dg(fs gs:List (Str×V)):Prop:=∀ f,fs.lookup f=gs.lookup f
def dg.refl(fs:List (Str×V)):dg fs fs:=fun _=>rfl
def dg.put{fs gs:List (Str×V)}(h:dg fs gs)(f:Str)(v:V):dg (az f v fs) (az f v gs):=fun g=>by rw[eB,eB,h g]
section
variable {X:Cx}
def VU{π:List (ϋ×Obj)}{σ:St}{H:Hp}{s:ό}{Q:VK}{p:ϋ}(hc:X.calm=true)(I:Inv X π σ H s)(hd:H p=!.dT [])(q:∀ l,H l=none->Q (-l) (upd H l (.lst []))) :
  wpAny (model X.prog X.w) X.A (call (.builtin "sorted") [-p]) (EP X π σ Q) X.xe s:=by
 let⟨hz,hS,xs,hp,o,es,ep,ho,hex,dY,mv,vL⟩:=id (I.aA p _ hd);cases hp;have he:es=(List.toArray []):=by
  have:es.toList=[]:=mv;show Array.toList_eq_nil_iff.mp this
 subst he;have pN:s.heap.DictAt (cY X.prog X.w) p [] ep:=#[o,(List.toArray []),ho,hex,dY,fun e z=>absurd z (),.nil,.nil];show _G kind_sorted plain_sorted entry_sorted (args_sorted1 _) ?_;unfold Builtin.«sorted»;show ii (m:=checkCount "sorted" 1 1 _) (pc ?_);show ii (Jaa (A:=X.A.in1) (W.kdl_dict (knd:=cY X.prog X.w) (kvs:=[]) (ep:=ep) hS) (I.ok.hd hc) pN (At _) fun h' tk acc hk' eK=>?_);have ha:acc=(List.toArray []):=Array.eq_empty_of_size_eq_zero eK.1;subst ha;show ii (wpAny_newList ?_ (At _));have ir:(h'.push (seqObj "list" ([]:List ϊ).toArray 0)).get? h'.objs.size=!seqObj "list" ([]:List ϊ).toArray 0:=tz _ rfl;show ii (FM (_r slot_list_sort #[_,ir,rfl] entry_list_sort (list_sort_treeK strKind_oneLt (vs:=[]) ir (StrsAre.nil).keysOf (fun v₁ v₂ rest e=>nomatch e) ⋯ fun st' a1 a2=>#[_,rfl,?_]) (args_list_sort _)));show pc #[_,rfl,?_];let⟨e,he⟩:=sortedHeap_at (out:=(arrOf st').map (·.2)) ir;have aX:arrOf st'=(List.toArray []):=Array.eq_empty_of_size_eq_zero (a1.size_eq.trans (pairsOf_size []));rw[aX,Array.map_empty]at he;have I1:Inv X π σ H { s with heap:=h',toks:=tk }:=I.kept (t':=tk) hk';rw[aX,Array.map_empty];show#[-h'.objs.size,_,I1.laid (t':=tk) (fun b o z=>?_) (pi _) (show bU X.prog X.w _ _ _ (.lst []) from#[At _,[],e,.nil,he]),rfl,q _ (I1.aA.fresh (pi _))];have hb:b < h'.objs.size:=sB z;rw[sortedHeap_old (wT hb) (by have:=Ty h' (seqObj "list" ([]:List ϊ).toArray 0);rw[this];show _z hb)];show li _ z
def  Sz(K:ν):List V->Hp->VK->Prop:=fun xs H Q=>N9 K xs H Q\/NQ xs H Q\/∃ p,xs=[-p]/\H p=!.dT []/\∀ l,H l=none->Q (-l) (upd H l (.lst []))
def adn{K:ν}(h:X.K=K)(hc:X.calm=true):cM X (.builtin "sorted") (Sz K):=by
 subst h;intro π s σ H xs us Q I r h;rcases h with h | h | ⟨p,rfl,hd,q⟩
 ·show Sh π s σ H xs us Q I r h
 ·show aaj hc π s σ H xs us Q I r h
 ·let⟨u,rfl,rx⟩:=vals1 r;cases rx;show VU hc I hd q
def xq:bootBuiltins "sorted" = !.builtin "sorted":=by kernel_rfl
def Dv.minD{e:Expr}{te:TE}{p p2 p3 pos:Pos}{j:Nat}(hc:X.calm=true)(hm:X.mg "min" = none)(he:QE X e te)(hg:Gl X "min" := by rfl)(hs:‹starEach [e] X.env=[(false,eval e X.env)]›) :
  QE X (.Call (.Name "min" p) [e] [#[!"default",.Constant .none j p2,p3]] pos) (BB te):=#[Ss hc hg hm he.h hs]
end
structure m6(K:ν)(x qual:Str)(st:Stmt)(f:ϋ)(fd:FuncData)(ds:List ϊ):Prop where
 ex:∃ (oc:ϊ) (od:Option ϋ) (dt:ϋ) (kV doc pm:ϊ) (an:Option ϋ) (ah ct:ϊ) (dA:Array (Option ϊ)) (o:Obj) (n:Nat),
  fd=W.fnOf x qual (eZ st) (aO st) (ax st) (-dt) kV doc pm an ah ct/\K.lookup f=!#[oc,od,.func fd,dA]/\W.codeIn K ah qual=true/\K.lookup dt=!o/\o.data=.seq ds.toArray n
 kp:W.keepIn K (-f)=true
section
variable {P:ύ}{w:World}{K:ν}{mg:Str->Option ϊ}{base:Heap}{CX:d8}{x qual:Str}{st:Stmt}{f:ϋ}{fd:FuncData}{N ps:List Str}{k:Nat}{ds:List ϊ}
def m6.cS{sp:Sp}(F:m6 K x qual st f fd ds)(S:aC N ps (ax st))(len:∀ vs H Q E,sp vs H Q E->vs.length=ps.length)(hb:∀ (ah:ϊ) (A:Around) (outer:List Env) (s:ό) (H:Hp) (vs:List V) (Q:VK) (E:XK),bh k (A.deeper (envOfC qual (ax st) s.heap.objs.size f ah))->sp vs H Q E ->
   ∃ t,dm (cj CX P w K mg base N qual (ax st) f ah A outer s H E) (aO st) t/\t { nx:=fun _ H'=>Q .au H',rt:=Q } (start N vs) H):aB P w K mg base CX (k+1) f fd ps sp:=by
 let⟨oc,od,dt,kV,doc,pm,an,ah,ct,dA,o,n,rfl,lk,bM,_⟩:=F.ex;show wZ lk bM S len fun A outer s H vs Q E hr dF=>hb ah A outer s H vs Q E hr dF
def m6.ok{sp:Sp}(F:m6 K x qual st f fd ds)(S:aC N ps (ax st))(len:∀ vs H Q E,sp vs H Q E->vs.length=ps.length)(hb:∀ (ah:ϊ) (A:Around) (outer:List Env) (s:ό) (H:Hp) (vs:List V) (Q:VK) (E:XK),bh k (A.deeper (envOfC qual (ax st) s.heap.objs.size f ah))->sp vs H Q E ->
   ∃ t,dm (cj aN P w K mg base N qual (ax st) f ah A outer s H E).r9 (aO st) t/\t { nx:=fun _ H'=>Q .au H',rt:=Q } (start N vs) H):aB P w K mg base aN (k+1) f fd ps sp :=
 F.cS S len fun ah A outer s H vs Q E hr dF=>by
  let⟨t,h,q⟩:=hb ah A outer s H vs Q E hr dF;show#[t,h.r9,q]
def TQ{oc:ϊ}{od an:Option ϋ}{dA:Array (Option ϊ)}{kV doc pm ah ct:ϊ}{dt:ϋ}{o:Obj}{n:Nat}(l:K.lookup f=!#[oc,od,.func (W.fnOf x qual (eZ st) (aO st) (ax st) (-dt) kV doc pm an ah ct),dA])(c:W.codeIn K ah qual=true)(k:W.keepIn K (-f)=true)(ld:K.lookup dt=!o)(hd:o.data=.seq ds.toArray n):m6 K x qual st f (W.fnOf x qual (eZ st) (aO st) (ax st) (-dt) kV doc pm an ah ct) ds :=
 #[#[oc,od,dt,kV,doc,pm,an,ah,ct,dA,o,n,rfl,l,c,ld,hd],k]
def eW.Zs{sp:yQ}(F:eW K x qual st f fd)(S:aC N ps (ax st))(len:∀ outer s vs H Q E,sp outer s vs H Q E->vs.length=ps.length)(hb:∀ (ah:ϊ) (A:Around) (outer:List Env) (s:ό) (H:Hp) (vs:List V) (Q:VK) (E:XK),bh k (A.deeper (envOfC qual (ax st) s.heap.objs.size f ah))->sp outer s vs H Q E ->
   ∃ t,dm (cj CX P w K mg base N qual (ax st) f ah A outer s H E) (aO st) t/\t { nx:=fun _ H'=>Q .au H',rt:=Q } (start N vs) H):ve P w K mg base CX (k+1) f fd ps sp:=by
 let⟨oc,od,kV,doc,pm,an,ah,ct,dA,rfl,lk,bM⟩:=F.ex;show aa1 lk bM S len fun A outer s H vs Q E hr dF=>hb ah A outer s H vs Q E hr dF
end
section
variable {X:Cx}
def Dv.bR(i:Nat){k:Nat}{x:Str}{p pos:Pos}{B:ϋ->Prop}{f:ϋ}{bW:Hp->VK->XK->Prop}{R:St->XK}(D:me X.prog X.w X.K X.mg X.base k X.s₀ B f bW)(hB:yo X.outer X.H₀ X.s₀ B)(hf:B9 X.s₀ f)(gI:B f)(hr:bh k X.A)(hx:ik X R)(hex:‹X.ex=[]›)(hN:‹X.N[i]?=!x›)(hv:nH X.env.scope x:=by first | show Or.inl rfl | show Or.inr (Or.inl rfl) | show Or.inr (Or.inr rfl))(hd:(x == ("__debug__":Str))=false:=by decide)(bM:(x == ("__classdict__":Str))=false:=by decide):QE X (.Call (.Name x p) [] [] pos) (EJ i f bW R):=#[aam hN hv D hB hf gI hex hr hx hd bM]
end
def cO{X:Cx}:ik X (fun _=>E0) where
 pass:=fun π σ H s e s' I hc=>by
  let⟨ea,C,od,H',rfl,F,hE⟩:=hc;show hE.elim
section
variable {X:Cx}
def Dv.kO{P:ϋ}{q:Str}{ix:List Nat}{W:List V->dU}{jO:dU->dU}{R:St->XK}{params:Arguments}{body:Expr}{scope:Scope}{bV:List (Str×ϋ)}{N':List Str}{fJ p pos:Pos}{x y:Str}{g:ϋ}{fd:FuncData}{k k':Nat}(F:ve X.prog X.w X.K X.mg X.base (bc X.prog X.w) k' g fd [y] (Cz X.prog X.w X.K X.mg X.base (k+1) jO))(hr:bh k' X.A)(hm:X.mg x=!-g)(hk:PySem.W.keepIn X.K (-g)=true)(hb:Binds X.K fd [y] [])(hx:ik X R)(iw:∀ (f:ϋ) (ah:ϊ) (vs:List V) (A:Around) (outer:List Env) (s:ό) (H:Hp) (Q:VK) (E:XK),bh k (A.deeper (PySem.W.envX q scope s.heap.objs.size f ah bV))->W vs H Q E ->
   ∃ t,PE (jA X.prog X.w X.K X.mg X.base N' q scope f ah bV A outer s H E) body t/\t (vs.map some) H Q)(L:hX X P params scope bV q)(S:eU N' scope bV)(C:gB X N' ix bV)(mG:∀ pm cd ct,bindArgs (PySem.W.kla_fn "<lambda>" q params body scope bV pm cd ct) #[[],[]]=pure []:=by show fun _ _ _=>rfl)(hg:‹Gl X x›)(b7:(x == ("__debug__":Str))=false:=by decide):QE X (.Call (.Name x p) [.Lambda params body scope fJ] [] pos) (Dl P q ix W jO R):=#[aa9 L S C F hr hg hm hk hb hx mG iw b7]
end
def  fe{α:Type}(p:α->Prop):List α->Prop
 | []=>True
 | a::r=>p a/\fe p r
def fe.mem{α:Type}{p:α->Prop}:∀ {l:List α},fe p l->∀ a∈l,p a
 | _::_,h,a,ha=>by
  rcases jp.mp ha with rfl | ha
  ·show h.1
  ·show fe.mem h.2 a ha
def acP:∀ {cl:List (Str×ϋ)},(cl.map (·.2)).Nodup->∀ x y c,cl.lookup x=!c->cl.lookup y=!c->x=y:=by
 intro cl nd x y c h1 h2;have m1:=EQ h1;have m2:=EQ h2
 induction cl with
 | nil=>cases m1
 | cons e r ih =>
  have nd':=Ch.mp (show(e.2::r.map (·.2)).Nodup from nd);rcases jp.mp m1 with e1 | e1 <;> rcases jp.mp m2 with e2 | e2
  ·rw[<- e1]at e2;show(KM Prod.fst e2).symm
  ·show absurd (zn.mpr #[_,e2,by rw[<- e1]]) nd'.1
  ·show absurd (zn.mpr #[_,e1,by rw[<- e2]]) nd'.1
  ·have go:∀ {l:List (Str×ϋ)},(l.map (·.2)).Nodup->(x,c)∈l->(y,c)∈l->x=y:=by
    intro l
    induction l with
    | nil=>intro _ a;cases a
    | cons e r ih =>
     intro nd a b;have nd':=Ch.mp (show(e.2::r.map (·.2)).Nodup from nd);rcases jp.mp a with e1 | e1 <;> rcases jp.mp b with e2 | e2
     ·rw[<- e1]at e2;show(KM Prod.fst e2).symm
     ·show absurd (zn.mpr #[_,e2,by rw[<- e1]]) nd'.1
     ·show absurd (zn.mpr #[_,e1,by rw[<- e2]]) nd'.1
     ·show ih nd'.2 e1 e2
   show go nd'.2 e1 e2
def eU.of{N:List Str}{scope:Scope}{cl:List (Str×ϋ)}(kind:scope.kind=.function)(co:scope.isCoroutine=false)(gen:scope.isGenerator=false)(u4:scope.names.all (fun x=>x.2 != .cell)=true)(free:N.all (fun x=>scope.names.lookup x == !.free)=true)(has:fe (fun e:Str×NameKind=>e.2=.free->∃ c,cl.lookup e.1=!c) scope.names)(nd:(cl.map (·.2)).Nodup):eU N scope cl where
 kind:=kind
 co:=co
 gen:=gen
 u4:=fun x hx=>by simpa using Da.mp u4 x hx
 free:=fun x hx=>by simpa using Da.mp free x hx
 has:=fun x hx=>fe.mem has _ (EQ hx) rfl
 inj:=acP nd
def gB.of{X:Cx}{N':List Str}{ix:List Nat}{bV:List (Str×ϋ)}(len:ix.length=N'.length)(own:X.fn=fun _=>true)(at':fe (fun e:Nat×Str=>X.N[e.1]?=!e.2/\X.env.scope.names.lookup e.2=!.cell/\bV.lookup e.2=X.env.cells.lookup e.2) (ix.zip N'))(jb:fe (fun e:Str×ϋ=>X.env.cells.lookup e.1=!e.2) bV):gB X N' ix bV where
 len:=len
 at':=fun i j h=>by
  have hi:=(lm.mp h).1;have hi':i < N'.length:=len ▸ hi;have hm:(j,N'[i])∈ix.zip N':=by
   show _5.mpr #[i,?_];rw[_I];show#[h,sw hi']
  have z:=fe.mem at' _ hm;show#[N'[i],sw hi',z.1,z.2.1]
 jb:=fun x c h=>fe.mem jb _ (EQ h)
 Kv:=fun x hx=>by
  let⟨i,hi,rfl⟩:=_l hx;have hi':i < ix.length:=len ▸ hi;have hm:(ix[i],N'[i])∈ix.zip N':=by
   show _5.mpr #[i,?_];rw[_I];show#[sw hi',sw hi]
  show(fe.mem at' _ hm).2.2
 own:=fun _ _ _=>by rw[own]
def eW.yq{P:ύ}{w:World}{K:ν}{mg:Str->Option ϊ}{base:Heap}{CX:d8}{x qual:Str}{st:Stmt}{f:ϋ}{fd:FuncData}{N ps:List Str}{k:Nat}{sp:Sp}(F:eW K x qual st f fd)(S:aC N ps (ax st))(len:∀ vs H Q E,sp vs H Q E->vs.length=ps.length)(hb:∀ (ah:ϊ) (A:Around) (outer:List Env) (s:ό) (H:Hp) (vs:List V) (Q:VK) (E:XK),fd.code=ah->bh k (A.deeper (envOfC qual (ax st) s.heap.objs.size f ah))->sp vs H Q E ->
   ∃ t,dm (cj CX P w K mg base N qual (ax st) f ah A outer s H E) (aO st) t/\t { nx:=fun _ H'=>Q .au H',rt:=Q } (start N vs) H):aB P w K mg base CX (k+1) f fd ps sp:=by
 let⟨oc,od,kV,doc,pm,an,ah,ct,dA,rfl,lk,bM⟩:=F.ex;show wZ lk bM S len fun A outer s H vs Q E hr dF=>hb ah A outer s H vs Q E rfl hr dF
section
variable {X:Cx}
def yM{π:List (ϋ×Obj)}{σ:St}{H:Hp}{s:ό}{A:Around}{a b:ϋ}{xs ys:List V}(I:Inv X π σ H s)(ha:aI X.K H a xs)(hb:aI X.K H b ys)(h0:xs=[]\/ys=[])(hu:A.units < cLine) :
  SeqAt.RcAt A s (-a) (-b) (decide (xs=ys))/\SeqAt.RcNeAt A s (-a) (-b) (Bool.not (decide (xs=ys))):=by
 let⟨i1,r1,p1,_⟩:=I.list ha;let⟨i2,r2,p2,_⟩:=I.list hb;have n1:i1.toArray.size=xs.length:=by rw[ss,<- r1.length]
 have n2:i2.toArray.size=ys.length:=by rw[ss,<- r2.length]
 by_cases h:xs.length=ys.length
 ·have e1:xs=[]:=by
   rcases h0 with e | e
   ·show e
   ·rw[e]at h;show Rs.mp h
  have e2:ys=[]:=by rw[e1]at h;show Rs.mp h.symm
  subst e1 e2;have hsz:i1.toArray.size=i2.toArray.size:=by rw[n1,n2]
  have hz:i1.toArray.size=0:=n1;have k1:=SeqAt.RcAt.lists (A:=A) (s:=s) (e:=fun _=>true) p1.isList p2.isList hsz hu (fun j g1 g2=>absurd g1 (by rw[hz];show Nat.not_lt_zero _));have k2:=Jaj (A:=A) (s:=s) (e:=fun _=>true) p1.isList p2.isList hsz hu (fun j g1 g2=>absurd g1 (by rw[hz];show Nat.not_lt_zero _));rw[hz]at k1 k2;show#[k1,k2]
 ·have hsz:(i1.toArray.size != i2.toArray.size)=true:=by rw[n1,n2];simpa using h
  have e:decide (xs=ys)=false:=mo fun z=>h (by rw[z]);rw[e];show#[SeqAt.RcAt.lists_lengths p1.isList p2.isList hsz hu,SeqAt.RcNeAt.lists_lengths p1.isList p2.isList hsz hu]
def  qR(K:ν)(neg:Bool):R2:=fun x y H Q=>match x,y with
 | .ref a,-b=>∃ xs ys:List V,aI K H a xs/\aI K H b ys/\((ys=[]/\Q (.bl (neg ^^ xs.isEmpty)) H)\/(xs=[]/\Q (.bl (neg ^^ ys.isEmpty)) H))
 | _,_=>False
def JQ{xs ys:List V}(h:ys=[]):decide (xs=ys)=xs.isEmpty:=by subst h;cases xs <;> simp
def Jf{xs ys:List V}(h:xs=[]):decide (xs=ys)=ys.isEmpty:=by subst h;cases ys <;> simp
def aaY{K:ν}(hK:X.K=K)(hu:X.A.units < cLine):aZ X (compareOp .Eq) (qR K false):=by
 subst hK;intro π s σ H x y v u Q I rx ry h;unfold qR at h;split at h
 ·let⟨xs,ys,ha,hb,q⟩:=h;cases rx;cases ry;simp only[Bool.false_bne]at q;rcases q with ⟨e,q⟩ | ⟨e,q⟩
  ·show(yM I ha hb (.inr e) hu).1 _ _ _ _ #[.bl _,H,I,rfl,by rw[JQ e];show q]
  ·show(yM I ha hb (.inl e) hu).1 _ _ _ _ #[.bl _,H,I,rfl,by rw[Jf e];show q]
 ·show h.elim
def UM{K:ν}(hK:X.K=K)(hu:X.A.units < cLine):aZ X (compareOp .NotEq) (qR K true):=by
 subst hK;intro π s σ H x y v u Q I rx ry h;unfold qR at h;split at h
 ·let⟨xs,ys,ha,hb,q⟩:=h;cases rx;cases ry;simp only[Bool.true_bne]at q;rcases q with ⟨e,q⟩ | ⟨e,q⟩
  ·show(yM I ha hb (.inr e) hu).2 _ _ _ _ #[.bl _,H,I,rfl,by rw[JQ e];show q]
  ·show(yM I ha hb (.inl e) hu).2 _ _ _ _ #[.bl _,H,I,rfl,by rw[Jf e];show q]
 ·show h.elim
def  Bj:V->List V->Hp->VK->Prop:=fun x vs H Q=>match x,vs with
 | .ref l,[]=>∃ xs y,H l=!.lst (xs++[y])/\Q y (upd H l (.lst xs))
 | _,_=>False
def Kq:ef X "list.pop" Bj:=ef.imp (r:=JT) Ym fun x vs H Q h=>by
 unfold Bj at h;split at h
 ·let⟨xs,y,hl,q⟩:=h;show#[_,xs++[y],y,rfl,rfl,hl,?_,?_]
  ·simp
  ·rw[List.dropLast_concat];show q
 ·show h.elim
def  W4:V->List V->Hp->VK->Prop:=fun x vs H Q=>match x,vs with
 | .ref l,[]=>∃ xs,H l=!.lst xs/\Q .au (upd H l (.lst []))
 | _,_=>False
def  acb:List V->Hp->VK->Prop:=fun xs H Q=>∃ p kvs,xs=[-p]/\H p=!.dT kvs/\∀ l (ks:List ϋ),ks.length=kvs.length->(∀ (i:Nat) (a:ϋ) (k:List Key) (v:V),ks[i]?=!a->kvs[i]?=!(k,v)->H a=!.tup (k.map kV))->H l=none ->
 Q (-l) (upd H l (.lst (ks.map V.ref)))
end
def RW{prog:ύ}{w:World}{d:ϋ}{es:Array DictEntry}{ep:Nat}(lo:(d == sysModules)=false):W.KdlSrc prog w "dict" d d es.size (fun i v=>∃ e,es[i]?=!e/\v=e.key) (fun h=>j8 h d es ep) where
 type:=fun _ hm=>hm.typeIs
 there:=fun _ hm=>let ⟨_,e,_⟩:=hm;#[sB e,sB e]
 keep:=fun _ _ hm hk=>hm.at' fun o e=>hk d (.inl rfl) o e
 notList:=⋯
 notTuple:=⋯
 hint:=fun _ _ _ _ hm hq=>W.kdl_hint_dict hm.typeIs hq
 iter:=fun _ _ hh hm=>#[_,_,(fun _ _ hq=>EI lo hm hq),NI hh _ d (let ⟨_,e,_⟩:=hm;wT (sB e)) es ep,#[#[_,tz _ rfl,rfl,rfl],hm.at' fun o e=>li _ e]]
def Ff{α β:Type}{F:α->β->Prop}:∀ {l₁:List α}{l₂:List β},Paired F l₁ l₂->∀ {i:Nat}{a:α}{b:β},l₁[i]?=!a->l₂[i]?=!b->F a b
 | _,_,.cons h _,0,_,_,e1,e2=>by cases e1;cases e2;show h
 | _,_,.cons _ t,i+1,_,_,e1,e2=>Ff t e1 e2
section
variable {X:Cx}
def wR:∀ {vs:List V}{us:List ϊ},vs.length=us.length->(∀ (i:Nat) (v:V) (u:ϊ),vs[i]?=!v->us[i]?=!u->RelV v u)->Vals vs us
 | [],[],_,_=>.nil
 | v::vs,u::us,e,h=>.cons (h 0 v u rfl rfl) (wR (by simpa using e) fun i v u h1 h2=>h (i+1) v u h1 h2)
def aaJ(hc:X.calm=true):cM X (.type "list") acb:=by
 intro π s σ H xs us Q I r h;let⟨p,kvs,rfl,hd,q⟩:=h;let⟨u,rfl,rx⟩:=vals1 r;cases rx;let⟨hz,hS,ys,hp,o,es,ep,ho,hex,dY,mv,vL⟩:=id (I.aA p _ hd);have hsz:es.size=ys.length:=by rw[<- LT,mv,lv]
 have mH:kvs.length=ys.length:=hp.length;show W.kdl_call (RW (prog:=X.prog) (w:=X.w) (ep:=ep) (es:=es) hS) (I.ok.hd hc) #[o,ho,hex,dY] (by rw[hsz,<- mH];show hz) fun h' tk acc c hk hD eK=>?_;have hal:acc.toList.length=ys.length:=by rw[LT,eK.1,hsz]
 have hv:Vals ((ys.map (·.2.1)).map V.ref) acc.toList:=by
  show wR (by simp[hal]) fun i v u h1 h2=>?_;let⟨e,he,rfl⟩:=eK.2 i u (by rw[<- No];show h2);rw[<- No,mv,xz]at he;rw[Os,xz]at h1;cases hy:ys[i]? with
  | none=>rw[hy]at h1;cases h1
  | some y =>
   rw[hy]at h1 he;cases h1;cases he;show rfl
 show#[-s.heap.objs.size,_,I.laid (t':=tk) hk (pi _) (show bU X.prog X.w _ _ _ (.lst ((ys.map (·.2.1)).map V.ref)) from#[?_,_,c,hv,?_]),rfl,q _ (ys.map (·.2.1)) ?_ (fun i a k v h1 h2=>?_) (I.aA.fresh (pi _))]
 ·simp only[lv];rw[<- mH];show hz
 ·rw[_i];show hD
 ·rw[lv,mH]
 ·rw[xz]at h1;cases hy:ys[i]? with
  | none=>rw[hy]at h1;cases h1
  | some y =>
   rw[hy]at h1;cases h1;have z:=Ff hp h2 hy;show z.2.1
end
def acD:typeLookup (.type "list_reverseiterator") "__len__" = pure none:=by rw[typeLookup_type,builtinLookup_eq_fast];kernel_rfl
def acF:typeLookup (.type "list_reverseiterator") "__length_hint__" = pure (!.builtin "list_reverseiterator.__length_hint__"):=by rw[typeLookup_type,builtinLookup_eq_fast];kernel_rfl
section
variable {prog:ύ}{w:World}{A:Around}{E:ϊ->ό->Prop}{s:ό}{I:ϋ}
def XR{Q:Bool->ό->Prop}(hT:s.TypeIs (-I) "list_reverseiterator")(h:Q false s):wpAny (model prog w) A (Builtin.List.listLengthHint (-I)) Q E s:=by
 unfold Builtin.List.listLengthHint;show ii (wpAny_specialOf hT acD ?_);change wpAny _ A (specialOf (ϊ.ref I) (ώ "__length_hint__") >>= _) _ _ _;show ii (wpAny_specialOf hT acF ?_);generalize hid:("list_reverseiterator.__length_hint__" : String)=id0
 wp_delta
 rw[show splitId id0=some ("list_reverseiterator","__length_hint__") from by subst hid;decide +kernel];subst hid;show ii (wpAny_isInstance (T := "list_reverseiterator") (b:=true) hT (by rw[isSubtype_type];kernel_rfl) ?_);show Ja6 (fun eS=>absurd eS ⋯) (fun _=>?_);show Ja6 (fun _=>?_) (fun eS=>absurd (by decide +kernel) eS);show Ja6 (fun eS=>absurd eS (by decide +kernel)) (fun _=>?_);show pc h
def aaq{R:Result->ό->Prop}{l S:ϋ}{items:Array ϊ}{res:ϊ}{c₀:Nat}(hh:A.handled=none)(hit:s.heap.IsRevIter I l ((items.size:Int) - 1))(hl:s.heap.IsList l items)(cL:l≠I)(Pj:S≠I)(hSl:S≠l)(hn:items.size<=sizeLine)(hS:s.heap.get? S=!{ cls:=.type "list",data:=.seq (List.toArray []) c₀ })(hR:∀ h' tk acc' c',(∀ b o,b≠S->b≠I->s.heap.get? b=!o->h'.get? b=!o)->h'.get? S=!{ cls:=.type "list",dict:=none,data:=.seq acc' c',slots:=(List.toArray []) }->ItemsOf (fun i v=>items[items.size - 1 - i]?=!v) acc' items.size->R (.ok (.ret res)) { s with heap:=h',toks:=tk }) :
  wpAny (model prog w) A.in1 (Builtin.List.listExtendWith (-S) (-I) res)
   (fun fin s'=>match fin with | .done f=>R (.ok f) s' | .again c'=>c'.quiet=true/\codeAny (model prog w) A c' R s') (fun e s'=>R (.error e) s') s:=by
 have W:=Walks.listRev (prog:=prog) (w:=w) (A:=A.in1) hh I l cL items;have sA:S ∉ [I,l]:=by simp only[jp,kt,ww,Re];show#[Pj,hSl]
 have Aa:0<=items.size/\s.heap.IsRevIter I l ((items.size:Int) - 1 - ((0:Nat):Int))/\s.heap.IsList l items:=#[At _,by simpa using hit,hl];unfold Builtin.List.listExtendWith;show ii (wpAny_typeOf hit.typeIs ?_);have h1:Builtin.List.listSameRef (-S) (-I)=false:=by simp[Builtin.List.listSameRef,Pj]
 simp only[h1,show(ϊ.type "list_reverseiterator" == ϊ.type "list")=false by decide,show(ϊ.type "list_reverseiterator" == ϊ.type "tuple")=false by decide,Jaq,Ev,TD];show ii (W.self 0 _ _ _ Aa ?_);show ii (FM (XR hit.typeIs ?_));show Ja6 (fun h=>absurd h ⋯) (fun _=>pc #[plainId_quiet PySem.F.plain_extend_loop _,?_]);show codeAny_extend_loopS W.toS hn S sA res items.size 0 _ (List.toArray []) c₀ rfl (At _) Aa hS (ItemsOf.nil _) fun s' acc' c' hm hS' eK=>?_;rw[Moved.eq_with hm];show hR s'.heap s'.toks acc' c' (fun b o hb hb' e=>hm.heap b o (fun hmem=>?_) e) hS' eK;rcases jp.mp hmem with e' | hmem
 ·show hb e'
 ·show hb' (ut.mp hmem)
def XG{Q:ϊ->ό->Prop}{l:ϋ}{items:Array ϊ}(hh:A.handled=none)(hit:s.heap.IsRevIter I l ((items.size:Int) - 1))(hl:s.heap.IsList l items)(cL:l≠I)(hn:items.size<=sizeLine)(hQ:∀ h' tk acc' c',(∀ b o,b≠I->s.heap.get? b=!o->h'.get? b=!o)->h'.get? s.heap.objs.size=!{ cls:=.type "list",dict:=none,data:=.seq acc' c',slots:=(List.toArray []) }->ItemsOf (fun i v=>items[items.size - 1 - i]?=!v) acc' items.size ->
   Q (-s.heap.objs.size) { s with heap:=h',toks:=tk }):wpAny (model prog w) A (call (.type "list") [-I]) Q E s:=by
 have hIlt:I < s.heap.objs.size:=let ⟨_,e,_⟩:=hit;sB e
 have hllt:l < s.heap.objs.size:=let ⟨_,e,_⟩:=hl;sB e
 show callType_codes (Q₁:=fun obj s₁=>obj=-s.heap.objs.size/\s₁={ s with heap:=s.heap.push { cls:=.type "list",data:=.seq (List.toArray []) } }) PySem.F.called_list (PySem.F.typeCall_list_1 _) PySem.F.entry_list_init
  (code_list_new _ #[rfl,rfl]) fun obj s₁ h₁=>?_
 let⟨rfl,rfl⟩:=h₁;have hS:(s.heap.push { cls:=.type "list",data:=.seq (List.toArray []) }).get? s.heap.objs.size=!{ cls:=.type "list",data:=.seq (List.toArray []) }:=tz _ rfl;show#[#[_,hS,rfl],PySem.F.args_list_init_2 _ _,?_];change wpAny _ _ (do let old <- Builtin.List.listItems (-s.heap.objs.size);Builtin.List.listUpdate (-s.heap.objs.size) (fun _=>(List.toArray []));letGo old.toList.reverse;Builtin.List.listExtendWith (-s.heap.objs.size) (-I) .none) _ _ _;show ii ?_;unfold Builtin.List.listItems;show ii (Jam hS rfl (pc ?_));change wpAny _ _ (updateSeq s.heap.objs.size (fun _=>(List.toArray [])) >>= fun _=>letGo ((List.toArray []):Array ϊ).toList.reverse >>= fun _=>Builtin.List.listExtendWith (-s.heap.objs.size) (-I) .none) _ _ _;show ii (wpAny_updateSeq hS rfl ?_);have hS₂:=P3 (Obj.mapSeq (fun _=>((List.toArray []):Array ϊ))) hS rfl;have Ho:∀ b o,s.heap.get? b=!o->((s.heap.push { cls:=.type "list",data:=.seq (List.toArray []) }).update s.heap.objs.size (Obj.mapSeq (fun _=>((List.toArray []):Array ϊ)))).get? b=!o :=
  fun b o e=>(GT _ _ (Jad (sB e))).trans (li _ e)
 show ii (wpAny_letGo ?_);show aaq (A:=A.in1) hh (hit.at fun o e=>Ho _ o e) (hl.at fun o e=>Ho _ o e) cL (Jad hIlt) (Jad hllt) hn hS₂ fun h' tk acc' c' hk hS' eK=>?_;show#[rfl,hQ h' tk acc' c' (fun b o hb e=>hk b o (wT (sB e)) hb (Ho b o e)) hS' eK]
end
section
variable {X:Cx}
def  Cb(K:ν)(te:TE):TE:=fun σ H Q=>te σ H fun x H1=>∃ p ys,x=-p/\aI K H1 p ys/\∀ l,H1 l=none->Q (-l) (upd H1 l (.lst ys.reverse))
def aaQ{e:Expr}{te:TE}{p q pos qos:Pos}(hc:X.calm=true)(hg:Gl X "list")(hm:X.mg "list" = none)(Ib:Gl X "reversed")(sF:X.mg "reversed" = none)(he:PE X e te)(hs:‹starEach [e] X.env=[(false,eval e X.env)]›) :
  PE X (.Call (.Name "list" p) [.Call (.Name "reversed" q) [e] [] qos] [] pos) (Cb X.K te):=by
 intro π s σ H Q I h;show FB (nI (u:=.type "list") I hg hm (by kernel_rfl) ?_);show Sc ?_;change wpAny _ _ (spliced ((false,eval (.Call (.Name "reversed" q) [e] [] qos) X.env)::backTo pos (starEach [] X.env))) _ _ s;show On ?_;show FB (nI (u:=.type "reversed") I Ib sF (by kernel_rfl) ?_);show Sc ?_ (by rw[hs];rfl) (by rfl);rw[hs];change wpAny _ _ (spliced ((false,eval e X.env)::backTo qos [])) _ _ s;show On (aD (he π s σ H _ I h) fun u s1 #[x,H1,I1,rx,a,ys,ex,hl,q]=>Pi ?_);subst ex;cases (show u=ϊ.ref a from rx);let⟨aq,r',pl,hz⟩:=I1.list hl;have hlen:=r'.length;let⟨oa,hoa,_⟩:=pl.isList;have halt:a < s1.heap.objs.size:=sB hoa;show call_reversed_list pl.isList ?_;show Pi ?_;show XG (I1.ok.hd hc) (l:=a) (items:=aq.toArray) #[_,tz _ rfl,rfl,rfl] (pl.isList.at fun o e=>li _ e) (wT halt) (by rw[ss,<- hlen];show hz) fun h' tk acc c hk hD eK=>?_;have kp:∀ b o,s1.heap.get? b=!o->h'.get? b=!o:=fun b o e=>hk b o (wT (sB e)) (li _ e);have hsz:s1.heap.objs.size<=(s1.heap.push (revObj a ((aq.toArray.size:Int) - 1))).objs.size:=by rw[Ty];show _T _
 have hv:Vals ys.reverse acc.toList:=by
  have ha:acc.size=aq.length:=by rw[eK.1,ss]
  show wR (by rw[Jab,hlen,<- ha];show LT.symm) fun i v u h1 h2=>?_;have hu:=eK.2 i u (by rw[<- No];show h2);have hi:i < ys.length:=by have:=(lm.mp h1).1;rwa [Jab]at this
  rw[List.getElem?_reverse hi]at h1;let⟨w,hw,rw'⟩:=r'.get h1;rw[List.getElem?_toArray,ss,<- hlen,hw]at hu;cases hu;show rw'
 show#[-_,_,I1.laid (t':=tk) kp hsz (show bU X.prog X.w _ _ _ (.lst ys.reverse) from#[by rw[Jab];show hz,_,c,hv,by rw[_i];show hD]),rfl,q _ (I1.aA.fresh hsz)]
def Dv.listRev{e:Expr}{te:TE}{p q pos qos:Pos}{K:ν}(hK:X.K=K)(hc:X.calm=true)(hm:X.mg "list" = none)(sF:X.mg "reversed" = none)(he:QE X e te)(hg:Gl X "list" := by rfl)(Ib:Gl X "reversed" := by rfl)(hs:‹starEach [e] X.env=[(false,eval e X.env)]›) :
  QE X (.Call (.Name "list" p) [.Call (.Name "reversed" q) [e] [] qos] [] pos) (Cb K te):=hK ▸ #[aaQ hc hg hm Ib sF he.h hs]
end
def xb{K:ν}{x:Str}{f c P:ϋ}{oc occ:ϊ}{od odc:Option ϋ}{fd:FuncData}{sl slc:Array (Option ϊ)}{vs:Array ϊ}(n:W.nsIn K mainGlobals x=!(!-f))(l:K.lookup f=!#[oc,od,.func fd,sl])(hc:fd.code=-c)(lc:K.lookup c=!#[occ,odc,.fields vs,slc])(hv:vs[11]?=!-P):W.tabIn K x=!(c,P):=by
 unfold W.tabIn;simp only[n,l,hc,lc,hv]
def  cT(X:Cx)(scope:Scope)(cl:List (Str×ϋ))(N:List Str)(s:ό)(H:Hp)(ex:List ϋ)(C:ϋ):Cx :=
 { X with N:=N,s₀:=s,H₀:=H,env:=compEnvC scope cl C X.env,outer:=X.stack,stack:=X.stack,ex:=ex,fn:=fun _=>false,pn:=[],xe:=fun _ _=>False }
structure kM(X:Cx)(scope:Scope)(cl:List (Str×ϋ))(caps:List Str)(ix:List Nat):Prop where
 jb:closureFor scope X.env=pure cl
 sub:∀ x c,cl.lookup x=!c->X.env.cells.lookup x=!c
 has:∀ y,((relabel scope X.env).names.lookup y=!.cell\/(relabel scope X.env).names.lookup y=!.free)->∃ c,cl.lookup y=!c
 len:ix.length=caps.length
 at':∀ (i j:Nat),ix[i]?=!j->∃ x,caps[i]?=!x/\X.N[j]?=!x/\X.env.scope.names.lookup x=!.cell/\(relabel scope X.env).names.lookup x=!.cell/\cl.lookup x=X.env.cells.lookup x
def kM.of{X:Cx}{scope:Scope}{cl:List (Str×ϋ)}{caps:List Str}{ix:List Nat}(jb:closureFor scope X.env=pure cl)(sub:fe (fun e:Str×ϋ=>X.env.cells.lookup e.1=!e.2) cl)(has:fe (fun e:Str×NameKind=>(e.2=.cell\/e.2=.free)->∃ c,cl.lookup e.1=!c) (relabel scope X.env).names)(len:ix.length=caps.length)(at':fe (fun e:Nat×Str=>X.N[e.1]?=!e.2/\X.env.scope.names.lookup e.2=!.cell/\(relabel scope X.env).names.lookup e.2=!.cell/\cl.lookup e.2=X.env.cells.lookup e.2) (ix.zip caps)):kM X scope cl caps ix where
 jb:=jb
 sub:=fun x c h=>fe.mem sub _ (EQ h)
 has:=fun y hy=>by
  rcases hy with h | h
  ·show fe.mem has _ (EQ h) (.inl rfl)
  ·show fe.mem has _ (EQ h) (.inr rfl)
 len:=len
 at':=fun i j h=>by
  have hi:=(lm.mp h).1;have hi':i < caps.length:=len ▸ hi;have hm:(j,caps[i])∈ix.zip caps:=by
   show _5.mpr #[i,?_];rw[_I];show#[h,sw hi']
  have z:=fe.mem at' _ hm;show#[caps[i],sw hi',z]
def  mT(n:Nat)(ix:List Nat)(wi:TI)(g:TG)(tt:TT)(te:TE):TE:=fun σ H Q=>∃ vs,pb ix σ vs/\wi σ H fun J H1=>∃ W:Nat->List V->Nat->Hp->Prop,(∃ m,W 0 [] m H1)/\∀ i ys m H,W i ys m H ->
 ys.length<=sizeLine/\((J.stop i H/\∀ l,H l=none->Q (-l) (upd H l (.lst ys))) \/
  (J.go i H/\ys.length < sizeLine/\∀ y H',J.mU i H y H'->∀ σ0:St,σ0.length=n->g y (σ0++vs.map some) H' fun σ1 H1=>(∃ σ2:St,σ1=σ2++vs.map some/\σ2.length=n) /\
   tt σ1 H1 fun c H2=>if c=true then te σ1 H2 fun z H3=>∃ m',m' < m/\W (i+1) (ys++[z]) m' H3 else ∃ m',m' < m/\W (i+1) ys m' H2))
section
variable {X:Cx}
def Xs{π:List (ϋ×Obj)}{σ:St}{H:Hp}{s s4:ό}{scope:Scope}{cl:List (Str×ϋ)}{TN caps:List Str}{ix:List Nat}{vs:List V}{fp:List ϋ}{C:ϋ}{m:Str->Option ϊ}(I:Inv X π σ H s)(CC:kM X scope cl caps ix)(hv:pb ix σ vs)(hf:∀ b∈fp,kb X π H b)(bS:∀ b∈fp,b < s.heap.objs.size)(hk:scope.kind=.function)(hC:s.heap.objs.size<=C)(hos:s4.os=s.os)(hgen:s4.gens=s.gens)(old:∀ b o,s.heap.get? b=!o->s4.heap.get? b=!o)(eR:s4.heap.Ns C m):Inv (cT X scope cl (TN++caps) s H fp C) [] ((TN.map fun _=>none)++vs.map some) H s4:=by
 show#[#[I.ok.mod,hk,I.ok.glob,I.ok.blt,hC,fun x y c e1 e2=>I.ok.inj x y c (CC.sub x c e1) (CC.sub y c e2),fun y hy=>CC.has y hy,fun _ _ e=>(by cases e),I.ok.hd,I.ok.frames,.inl rfl,fun b hb=>#[wT (wf (bS b hb) hC),fun x c e=>(hf b hb).2.2.2.2.1 x c (CC.sub x c e)],
  fun b o e=>I.bs b o e,wE I.ok.ia I.sz,fun b o e hb=>?_,fun b hb hm=>?_,I.stack,I.xn],
  hos,by rw[hgen];show I.bare,Un.kept old,#[m,eR,fun i y v e1 e2 _=>?_],fun x c e=>?_,I.aA.fresh hC,fun x c e=>I.eN x c (CC.sub x c e),fun p hp=>absurd (show p∈([]:List (ϋ×Obj)) from hp) (),I.aA.kept old,?_]
 ·rcases (hf b hb).2.2.2.1 with z | z
  ·show I.ok.nM b o e z
  ·show absurd (wf (wf (sB e) I.ok.ia) z) (Ix _)
 ·rcases jp.mp (I.vj b hm) with z | z
  ·show(hf b hb).2.1 z
  ·show(hf b hb).2.2.1 z
 ·have e1':(TN++caps)[i]?=!y:=e1;have e2':((TN.map fun _=>(none:Option V))++vs.map some)[i]?=!(!v):=e2;by_cases hi:i < TN.length
  ·rw[Gc (by simpa using hi),xz]at e2';cases h:TN[i]? <;> rw[h]at e2' <;> simp at e2'
  ·rw[FS ∅]at e1';rw[FS (by simpa using Nat.not_lt.mp hi),lv,xz]at e2';have ev:vs[i - TN.length]?=!v:=by
    cases h:vs[i - TN.length]? with
    | none=>rw[h]at e2';cases e2'
    | some a=>rw[h]at e2';cases e2';rfl
   have hlt':i - TN.length < ix.length:=by
    rw[<- hv.1];show(lm.mp ev).1
   let⟨x,c1,c2,c3,c4,c5⟩:=CC.at' _ _ (sw hlt');rw[e1']at c1;cases c1;have hσ:=hv.2 _ _ v (sw hlt') ev;let⟨m0,_,hl⟩:=I.loc;let⟨u,ru,lk⟩:=hl _ y v c2 hσ (.inr (.inl c3));rcases lk with ⟨k1,_⟩ | ⟨_,c,k2,o,k3,k4⟩
   ·have:X.env.scope.names.lookup y=!.local:=k1;rw[c3]at this;cases this
   ·show#[u,ru,.inr #[.inl c4,c,by change cl.lookup y=!c;rw[c5];show k2,o,old _ _ k3,k4]]
 ·let⟨v,o,e1,e2⟩:=I.cell x c (CC.sub x c e);show#[v,o,old _ _ e1,e2]
 ·change((TN.map fun _=>(none:Option V))++vs.map some).length=(TN++caps).length;rw[sK,sK,lv,lv,hv.1,CC.len]
def OA{elt iter:Expr}{ifs:List Expr}{tg:Expr}{g:TG}{TN caps:List Str}{ix:List Nat}{cl:List (Str×ϋ)}{pos:Pos}{scope:Scope}{wi:TI}{tt:St->TT}{te:TE}(hc:X.calm=true)(hi:PI X tg iter wi)(ht:∀ {π σ s H ex} C,Inv X π σ H s->(∀ b∈ex,kb X π H b)->rW (cT X scope cl (TN++caps) s H ex C) ifs (tt σ))(iz:∀ s H ex C,PG (cT X scope cl (TN++caps) s H ex C) tg g)(he:∀ s H ex C,PE (cT X scope cl (TN++caps) s H ex C) elt te)(CC:kM X scope cl caps ix)(hk:scope.kind=.function)(fH:∀ y∈scope.names,y.2≠.cell){π:List (ϋ×Obj)}{s:ό}{σ:St}{H:Hp}{Q:VK}{RR:ϊ->ϋ->Result->ό->Prop}(I:Inv X π σ H s)(h:mT TN.length ix wi g (tt σ) te σ H Q)(Hd:∀ (a C:ϋ) (s6:ό) (H6:Hp),Inv X π σ H6 s6->(∃ m,s6.heap.Ns C m)->Bf X π H6 C->Q (-a) H6->RR (-a) C (.ok .next) s6) :
  wpAny (model X.prog X.w) X.A (eval iter X.env) (fun v s1=>wpAny (model X.prog X.w) X.A (pyIter v) (fun it s2=>wpAny (model X.prog X.w) X.A (newList []) (fun acc s3 =>
   wpAny (model X.prog X.w) X.A (newFunctionEnv scope X.env.globals cl [] X.env.qual none .none (!X.env)) (fun Q2 s4 =>
    codeAny (model X.prog X.w) X.A (.compStart (.ListComp elt [#[tg,iter,ifs,0]] scope pos) 0 it acc { Q2 with scope:=relabel scope X.env }) (RR acc Q2.locals) s4) X.xe s3) X.xe s2) X.xe s1) X.xe s:=by
 let⟨vs,hvs,h⟩:=h;show aD (hi π s σ H _ I h) fun v s1 h1=>aD h1 fun HB s2 h2=>?_;let⟨it,fp,tn,J,H2,rfl,I2,T,lz,f2,W,⟨m0,w0⟩,turn⟩:=h2;have bS:∀ b∈fp,b < s2.heap.objs.size:=fun b hb=>let ⟨o,e,_⟩:=T.obj _ _ lz b hb;sB e
 show _A (wpAny_newFunctionEnv fH (by intro y hy;simp at hy) (fun h1 hns1 hsb1=>?_) hk);dsimp only at hns1 hsb1 ⊢;generalize G7:s2.heap.push { cls:=.type "list",dict:=none,data:=.seq ([]:List ϊ).toArray }=G at hns1 hsb1 ⊢;have hG:G.objs.size=s2.heap.objs.size+1:=by rw[<- G7,Ty]
 have zX:s2.heap.objs.size≠G.objs.size:=by rw[hG];show wT (LE _)
 have pL:s2.heap.objs.size<=G.objs.size:=by rw[hG];show _T _
 have old:∀ b o,s2.heap.get? b=!o->h1.get? b=!o:=fun b o e=>by
  show hsb1.extBut b o (wT (wf (sB e) pL)) (li _ (G7 ▸ li _ e))
 have accO:h1.get? s2.heap.objs.size=!{ cls:=.type "list",dict:=none,data:=.seq ([]:List ϊ).toArray } :=
  hsb1.extBut _ _ zX (li _ (G7 ▸ tz _ rfl))
 -- k8 state at k8 block's entry
 have main:∀ s4:ό,s4={ s2 with heap:=h1,toks:=s2.toks+([]:List (Str×ϊ)).length } ->
   codeAny (model X.prog X.w) X.A (.compLoop (.ListComp elt [#[tg,iter,ifs,0]] scope pos) 0 (-it) (-s2.heap.objs.size) (compEnvC scope cl G.objs.size X.env))
    (RR (-s2.heap.objs.size) G.objs.size) s4:=by
  rintro s4 rfl;have I4:Inv (cT X scope cl (TN++caps) s2 H2 fp G.objs.size) [] ((TN.map fun _=>none)++vs.map some) H2 { s2 with heap:=h1,toks:=s2.toks+([]:List (Str×ϊ)).length } :=
   Xs I2 CC hvs f2 bS hk pL rfl rfl old hns1
  have FY:∀ {H':Hp}{pl:List (ϋ×Obj)},(∀ b∈fp,H' b=none)->(∀ p∈pl,p.1 ∉ fp)->∀ b∈fp,kb (cT X scope cl (TN++caps) s2 H2 fp G.objs.size) pl H' b:=fun hn hp b hb =>
   #[hn b hb,wT (wf (bS b hb) pL),I4.ok.nj b hb,.inl hb,fun x c e=>(f2 b hb).2.2.2.2.1 x c (CC.sub x c e),fun p hp' e=>hp p (by simpa [cT] using hp') (e ▸ hb)]
  have P8:s2.heap.objs.size ∉ fp:=fun z=>Ix _ (bS _ z);show YV (fun n s'=>∃ (i:Nat) (ys:List V) (aq:List ϊ) (k:Nat) (σ':St) (H':Hp),(∃ σ0:St,σ'=σ0++vs.map some/\σ0.length=TN.length)/\Inv (cT X scope cl (TN++caps) s2 H2 fp G.objs.size) [] σ' H' s'/\tn i s'.heap/\(∀ b∈fp,H' b=none)/\H' s2.heap.objs.size=none/\Vals ys aq /\
   s'.heap.get? s2.heap.objs.size=!{ cls:=.type "list",dict:=none,data:=.seq aq.toArray k }/\W i ys n H') (fun _ _ _=>trivial) ?_ m0
   #[0,[],[],0,_,H2,#[_,rfl,()],I4,T.keep _ _ _ lz (fun b _ o e=>old b o e),fun b hb=>(f2 b hb).1,I2.aA.fresh (pi _),.nil,accO,w0]
  rintro n s5 ⟨i,ys,aq,k,σ5,H5,⟨σ0,hq5,hσ⟩,I5,sY,Ai,zY,rv,ea,w5⟩;subst hq5;have Ip:Inv (cT X scope cl (TN++caps) s2 H2 fp G.objs.size) [(s2.heap.objs.size,{ cls:=.type "list",dict:=none,data:=.seq aq.toArray k })] (σ0++vs.map some) H5 s5:=I5.uC fun p hp=>by
   have e:p=(s2.heap.objs.size,{ cls:=.type "list",dict:=none,data:=.seq aq.toArray k }):=by simpa using hp
   subst e;show#[ea,zY,zX,fun z=>?_,fun v z=>by cases z];show I2.Mi (pi _) (by
    have hz:s2.heap.objs.size∈bZ X.stack:=z;rcases jp.mp (I2.vj _ hz) with q | q
    ·show absurd I2.lt (by rw[<- q];show Ix _)
    ·show q)
  have G5:∀ p∈[((s2.heap.objs.size,{ cls:=.type "list",dict:=none,data:=.seq aq.toArray k }):ϋ×Obj)],p.1 ∉ fp:=fun p hp=>by
   have e:p=(s2.heap.objs.size,{ cls:=.type "list",dict:=none,data:=.seq aq.toArray k }):=by simpa using hp
   subst e;show P8
  let⟨hyl,alt⟩:=turn i ys n H5 w5;rcases alt with ⟨stop,qn⟩ | ⟨go,hys,step⟩
  ·show aD (T.done (cT X scope cl (TN++caps) s2 H2 fp G.objs.size) rfl rfl rfl hc i _ s5 (σ0++vs.map some) H5 (fun _ _=>False) Ip (FY Ai G5) sY stop) fun r s6 #[hr,I6]=>?_;subst hr;have ea6:=(I6.pin (s2.heap.objs.size,{ cls:=.type "list",dict:=none,data:=.seq aq.toArray k }) (u8 _ (ut.mpr rfl))).1;let⟨m,Pd,_⟩:=I6.loc;have hC6:H5 G.objs.size=none:=I6.free;have lt2:∀ b o,s2.heap.get? b=!o->b≠s2.heap.objs.size:=fun b o e=>wT (sB e);have Iout:Inv X π σ (upd H5 s2.heap.objs.size (.lst ys)) s6:=by
    show I2.LQ (s':=s6) (ch:=fp) I6.os #[fun b o e n hb hx=>?_,fun b o e n hb hx=>?_,fun b o e n hx=>?_,fun b o e hx=>?_,fun b xs e=>?_,fun b o u e=>?_,fun b ps e=>?_] ?_ I6.bare fun b hb=>?_
    ·show I6.base.keep b o e n hb hx
    ·show I6.base.slot b o e n hb hx
    ·rw[ag (lt2 b o e)];show I6.base.free b o e n hx
    ·show I6.base.there b o e hx
    ·rw[ag (gx e (I2.aA.fresh (pi _)))];show I6.base.fS b xs e
    ·rw[ag (gx e (I2.aA.fresh (pi _)))];show I6.base.fc b o u e
    ·let⟨more,e1⟩:=I6.base.fK b ps e;show#[more,by rw[ag (gx e (I2.aA.fresh (pi _)))];show e1]
    ·intro b u e;by_cases hb:b=s2.heap.objs.size
     ·subst hb;rw[aw]at e;cases e;show#[hyl,aq,k,rv,ea6]
     ·rw[ag hb]at e;show(I6.aA b u e).gk (fun c v _ q=>q) (fun c q=>by rw[ag (gx q zY)];show q) fun c xs q=>by rw[ag (gx q zY)];show q
    ·let⟨g1,g2,g3,g4,g5,g6⟩:=f2 b hb;show#[g4,g2,g5,g6]
   show Hd _ _ s6 _ Iout #[m,Pd] #[by rw[ag (pp zX)];show hC6,?_,?_,fun y c e z=>?_,fun p hp z=>?_] (qn _ zY)
   ·show Jad (wf I2.lt pL)
   ·show wE I2.sz pL
   ·let⟨v',q⟩:=I2.cell y c e;show absurd (wf q.lt pL) (by rw[z];show Ix _)
   ·show absurd (wf (sB (I2.pin p hp).1) pL) (by rw[z];show Ix _)
  ·show aD (T.item (cT X scope cl (TN++caps) s2 H2 fp G.objs.size) rfl rfl rfl hc i _ s5 (σ0++vs.map some) H5 (fun _ _=>False) Ip (FY Ai G5) sY go) fun r s6 #[u,hr,h6]=>?_;subst hr;show aD h6 fun _ s7 #[y,H7,I7,ry,y7,Hg,fr7]=>?_;have I7':=I7.pinned (FY fr7 G5) (T.obj _ _ Hg);show aD (iz _ _ _ _ _ s7 (σ0++vs.map some) H7 y u _ I7' ry (step y H7 y7 σ0 hσ)) fun _ s8 #[σ8,H8,I8,Qn,q8]=>?_;show aD (ht _ I2 f2 _ s8 σ8 H8 _ I8 q8) fun ok s9 #[H9,I9,q9]=>?_
   -- what is pinned stays
   have QX:∀ {s':ό}{H':Hp},Inv (cT X scope cl (TN++caps) s2 H2 fp G.objs.size) ([(s2.heap.objs.size,{ cls:=.type "list",dict:=none,data:=.seq aq.toArray k })]++tG fp s7.heap) σ8 H' s' ->
     tn (i+1) s'.heap/\(∀ b∈fp,H' b=none)/\H' s2.heap.objs.size=none/\s'.heap.get? s2.heap.objs.size=!{ cls:=.type "list",dict:=none,data:=.seq aq.toArray k }:=fun {s' H'} J'=>by
    show#[T.keep _ _ _ Hg fun b hb o e=>(J'.pin (b,o) (u8 _ (u8 _ (yh hb e)))).1,fun b hb=>?_,(J'.pin (s2.heap.objs.size,{ cls:=.type "list",dict:=none,data:=.seq aq.toArray k }) (u8 _ (Tm _ (ut.mpr rfl)))).2.1,(J'.pin (s2.heap.objs.size,{ cls:=.type "list",dict:=none,data:=.seq aq.toArray k }) (u8 _ (Tm _ (ut.mpr rfl)))).1];let⟨o,e,_⟩:=T.obj _ _ Hg b hb;show(J'.pin (b,o) (u8 _ (u8 _ (yh hb e)))).2.1
   cases ok with
   | false =>
    let⟨m',hm,w'⟩:=q9;let⟨k1,k2,k3,k4⟩:=QX I9;show#[m',hm,i+1,ys,aq,k,σ8,H9,Qn,I9.uC (π':=[]) (fun _ hp=>nomatch hp),k1,k2,k3,rv,k4,w']
   | true =>
    show aD (he _ _ _ _ _ s9 σ8 H9 _ I9 q9) fun zv s10 #[z,wx,Qg,rz,rV]=>?_;let⟨m',hm,w'⟩:=rV;let⟨k1,k2,k3,k4⟩:=QX Qg;have hl:=rv.length;show Wp F.slot_list_append #[_,k4,rfl] F.entry_list_append (F.args_list_append_2 _ _) (PySem.list_append s2.heap.objs.size aq.toArray k zv (by rw[ss];omega)) #[k4,?_];have q:=PySem.IsL.update k4 (·.push zv);have ip:aq.toArray.push zv=(aq++[zv]).toArray:=()
    rw[ip]at q;have I11:Inv (cT X scope cl (TN++caps) s2 H2 fp G.objs.size) [] σ8 wx s10:=Qg.uC (π':=[]) (fun _ hp=>nomatch hp);show#[m',hm,i+1,ys++[z],aq++[zv],_,σ8,wx,Qn,I11.turned (t':=s10.toks) (it:=s2.heap.objs.size) (fun b o hb e=>(GT s10.heap _ (pp hb)).trans e) k3 zX (.inr (pi _)) (fun x c e z=>by let⟨v',q⟩:=I2.cell x c (CC.sub x c e);show absurd q.lt (by rw[z];show Ix _)) (fun p hp=>absurd (show p∈([]:List (ϋ×Obj)) from hp) ()),
     T.keep _ _ _ k1 fun b hb o e=>(GT s10.heap _ (fun z=>P8 (by rw[z];show hb))).trans e,k2,k3,rv.append (.cons rz .nil),q,w']
 show codeAny_compStart_list (main _ rfl) (T.self _ 0 _ _ _ (T.keep _ _ _ lz fun b _ o e=>old b o e) (main _ rfl))
def Z8{elt iter:Expr}{ifs:List Expr}{tg:Expr}{g:TG}{TN caps:List Str}{ix:List Nat}{cl:List (Str×ϋ)}{pos:Pos}{scope:Scope}{wi:TI}{tt:TT}{te:TE}(hc:X.calm=true)(hi:PI X tg iter wi)(ht:∀ s H ex C,rW (cT X scope cl (TN++caps) s H ex C) ifs tt)(iz:∀ s H ex C,PG (cT X scope cl (TN++caps) s H ex C) tg g)(he:∀ s H ex C,PE (cT X scope cl (TN++caps) s H ex C) elt te)(CC:kM X scope cl caps ix)(hk:‹scope.kind=.function›)(cB:∀ y∈scope.names,y.2=.local->scope.names.lookup y.1=!.local:=by decide +kernel)(fH:∀ y∈scope.names,y.2≠.cell:=by decide +kernel)(hs:∀ x,foldedSetIterable iter X.env x=pure x:=by intro _;rfl):PE X (.ListComp elt [#[tg,iter,ifs,0]] scope pos) (mT TN.length ix wi g tt te):=by
 intro π s σ H Q I h;rw[eval_ListComp];show wpAny_comprehension_free (use:=none) (cl:=cl) rfl hs CC.jb hk cB ?_;show OA (RR:=fun acc C=>compPost (model X.prog X.w) X.A X.xe none (EP X π σ Q) acc C) (tt:=fun _=>tt) hc hi (fun C _ _=>ht _ _ _ C) iz he CC hk fH I h ?_;intro a C s6 H6 I6 hm o q;let⟨m,hn⟩:=hm;show#[m,hn,fun h' nZ=>#[-a,H6,o.go I6 nZ,rfl,q]]
def aaN{elt iter:Expr}{ifs:List Expr}{tg:Expr}{g:TG}{TN caps:List Str}{ix:List Nat}{cl:List (Str×ϋ)}{y:Str}{i:Nat}{py pos spos:Pos}{scope:Scope}{wi:TI}{tt:TT}{te:TE}(hc:X.calm=true)(hN:X.N.Nodup)(we:X.N[i]?=!y)(sS:X.env.scope.names.lookup y=!.local)(hi:PI X tg iter wi)(ht:∀ s H ex C,rW (cT X scope cl (TN++caps) s H ex C) ifs tt)(iz:∀ s H ex C,PG (cT X scope cl (TN++caps) s H ex C) tg g)(he:∀ s H ex C,PE (cT X scope cl (TN++caps) s H ex C) elt te)(CC:kM X scope cl caps ix)(vY:‹swapsWith (.ListComp elt [#[tg,iter,ifs,0]] scope pos) (!.Name y py) spos.line X.env=pure true›)(hk:‹scope.kind=.function›)(cB:∀ y∈scope.names,y.2=.local->scope.names.lookup y.1=!.local:=by decide +kernel)(fH:∀ y∈scope.names,y.2≠.cell:=by decide +kernel)(hs:∀ x,foldedSetIterable iter X.env x=pure x:=by intro _;rfl):PS X (.Assign [.Name y py] (.ListComp elt [#[tg,iter,ifs,0]] scope pos) spos) (mM (mT TN.length ix wi g tt te) (fC i)):=by
 intro π s σ H D I h;rw[exec_Assign_Name_used _ _ _ _ vY];show ii (Ja0 (ii ?_));show ii (KB (wpAny_comprehension_free (e:=.ListComp elt [#[tg,iter,ifs,0]] scope pos) (use:=!assign (.Name y py) X.env) (cl:=cl) (Q:=fun _ s'=>SP X π D .next s') rfl hs CC.jb hk cB
  (OA (RR:=fun acc C=>compPost (model X.prog X.w) X.A X.xe (!assign (.Name y py) X.env) (fun _ s'=>SP X π D .next s') acc C) (tt:=fun _=>tt) hc hi (fun C _ _=>ht _ _ _ C) iz he CC hk fH I h ?_)) (fun _ s' hq=>pc (pc hq)) fun _ _ e=>e)
 intro a C s6 H6 I6 hm o q;let⟨m,hn⟩:=hm;show(show wpAny (model X.prog X.w) X.A (assign (.Name y py) X.env (-a)) _ X.xe s6 from ?_);show wpAny_assign_Name (Oq I6 hN we (.inl sS) (v:=-a) rfl (fun s' I' nZ=>?_) (.inr sS));let⟨b,nZ,hb⟩:=nZ;have nb:C≠b:=by
  rcases hb with z | z
  ·rw[z];show o.nl
  ·show fun e=>o.nc y b z e.symm
 show#[m,hn.sameBut nZ nb,fun h' hs'=>#[_,H6,o.go I' hs',q]]
end
namespace Dv
section
variable {X:Cx}
def xm{elt iter tg:Expr}{g:TG}{ifs:List Expr}{TN caps:List Str}{ix:List Nat}{cl:List (Str×ϋ)}{pos:Pos}{scope:Scope}{wi:TI}{tt:TT}{te:TE}(hc:X.calm=true)(hi:QI X tg iter wi)(ht:∀ s H ex C,ql (cT X scope cl (TN++caps) s H ex C) ifs tt)(iz:∀ s H ex C,QG (cT X scope cl (TN++caps) s H ex C) tg g)(he:∀ s H ex C,QE (cT X scope cl (TN++caps) s H ex C) elt te)(CC:kM X scope cl caps ix)(hk:‹scope.kind=.function›)(cB:∀ y∈scope.names,y.2=.local->scope.names.lookup y.1=!.local:=by decide +kernel)(fH:∀ y∈scope.names,y.2≠.cell:=by decide +kernel)(hs:∀ x,foldedSetIterable iter X.env x=pure x:=by intro _;rfl):QE X (.ListComp elt [#[tg,iter,ifs,0]] scope pos) (mT TN.length ix wi g tt te):=#[Z8 hc hi.h (fun s H ex C=>(ht s H ex C).h) (fun s H ex C=>(iz s H ex C).h) (fun s H ex C=>(he s H ex C).h) CC hk cB fH hs]
def MU(i:Nat){elt iter tg:Expr}{g:TG}{ifs:List Expr}{TN caps:List Str}{ix:List Nat}{cl:List (Str×ϋ)}{y:Str}{py pos spos:Pos}{scope:Scope}{wi:TI}{tt:TT}{te:TE}(hc:X.calm=true)(hN:X.N.Nodup)(hi:QI X tg iter wi)(ht:∀ s H ex C,ql (cT X scope cl (TN++caps) s H ex C) ifs tt)(iz:∀ s H ex C,QG (cT X scope cl (TN++caps) s H ex C) tg g)(he:∀ s H ex C,QE (cT X scope cl (TN++caps) s H ex C) elt te)(CC:kM X scope cl caps ix)(we:‹X.N[i]?=!y›)(sS:‹X.env.scope.names.lookup y=!.local›)(vY:‹swapsWith (.ListComp elt [#[tg,iter,ifs,0]] scope pos) (!.Name y py) spos.line X.env=pure true›)(hk:‹scope.kind=.function›)(cB:∀ y∈scope.names,y.2=.local->scope.names.lookup y.1=!.local:=by decide +kernel)(fH:∀ y∈scope.names,y.2≠.cell:=by decide +kernel)(hs:∀ x,foldedSetIterable iter X.env x=pure x:=by intro _;rfl):QS X (.Assign [.Name y py] (.ListComp elt [#[tg,iter,ifs,0]] scope pos) spos) (mM (mT TN.length ix wi g tt te) (fC i)):=#[aaN hc hN we sS hi.h (fun s H ex C=>(ht s H ex C).h) (fun s H ex C=>(iz s H ex C).h) (fun s H ex C=>(he s H ex C).h) CC vY hk cB fH hs]
end
end Dv
section
variable {X:Cx}
end
def xj{σ:St}(h:σ.length=1):∃ a,σ=[a]:=by
 match σ,h with
 | [a],_=>show#[a,rfl]
def eX{f:Str}{v u:V}:∀ {fs:List (Str×V)},fs.lookup f=!u->(az f v fs).length=fs.length
 | (g,x)::r,h=>by
  rw[show az f v ((g,x)::r)=(if g=f then (g,v)::r else (g,x)::az f v r) from rfl];by_cases e:g=f
  ·rw[xL e];rfl
  ·rw[wP e];have hb:(f == g)=false:=Do.mpr (pp e);have h':r.lookup f=!u:=by simpa [List.lookup,hb] using h
   rw[Fa,eX h'];rfl
def  DJ(r:V->List V->Hp->VK->Prop)(to:TE):TE:=fun σ H Q=>to σ H fun x H1=>match x with
 | .ref l=>(match H1 l with
  | some (.lst _)=>r (-l) [] H1 Q
  | _=>False)
 | _=>False
section
variable {X:Cx}{name:Str}{id:String}{r:V->List V->Hp->VK->Prop}{o:Expr}{to:TE}{apos bf:Pos}
def Ug(slot:Slot "list" name id)(cU:typeOf (.builtin id)=pure (.type "method_descriptor"))(hm:ef X id r)(ho:PE X o to)(gK:‹attributeBase o name X.env (eval o X.env)=eval o X.env›)(gG:‹(apos.endLine == bf.line)=true›):PE X (.Call (.Attribute o name apos) [] [] bf) (DJ r to):=by
 intro π s σ H Q I h;show wpAny_Call_method0_late gK gG (aD (ho π s σ H _ I h) fun v s1 ⟨x,H1,I1,r1,q1⟩=>?_);dsimp only at q1;split at q1
 ·rename_i l;split at q1
  ·rename_i zs el;let⟨h1,h2⟩:=Bi (T := "list") I1 r1 (.inl #[rfl,zs,aI.of el]);show#["list",id,PySem.F.plainAttrs_list,slot,cU,h1,h2,Op rfl (PySem.evalArgs_none (hm π s1 σ H1 (-l) [] v [] Q I1 r1 .nil q1))]
  ·show q1.elim
 ·show q1.elim
def Dv.Mx(slot:Slot "list" name id)(cU:typeOf (.builtin id)=pure (.type "method_descriptor"))(hm:ef X id r)(ho:QE X o to)(gK:‹attributeBase o name X.env (eval o X.env)=eval o X.env›)(gG:‹(apos.endLine == bf.line)=true›):QE X (.Call (.Attribute o name apos) [] [] bf) (DJ r to):=#[Ug slot cU hm ho.h gK gG]
end
def aj.gD{H H1:Hp}{l:ϋ}{o:HO}(s:aj H H1)(hl:H l=none):aj H (L2.upd H1 l o):=fun b u e=>by
 rw[ag (fun z=>by rw[z,hl]at e;cases e)];show s b u e
def me.m{P:ύ}{w:World}{K:ν}{mg:Str->Option ϊ}{base:Heap}{k:Nat}{s1:ό}{B:ϋ->Prop}{f:ϋ}{bW:dU}(D:me P w K mg base k s1 B f bW) :
  me P w K mg base k s1 B f (fun H Q E=>∃ (Q0:VK) (E0:XK),bW H Q0 E0/\(∀ v H',Q0 v H'->Q v H')/\∀ C od H',E0 C od H'->E C od H') :=
 fun A outer s H Q E hr e0 hk #[Q0,E0,hw,hq,he]=>_t (D A outer s H Q0 E0 hr e0 hk hw) fun r s' z=>by
  cases r with
  | error e =>
   let⟨ea,C,od,H',e1,F,z⟩:=z;show#[ea,C,od,H',e1,F,he _ _ _ z]
  | ok fl =>
   cases fl with
   | ret u =>
    let⟨v,H',z1,z2,z3,z4,z5,z6⟩:=z;show#[v,H',z1,z2,z3,z4,z5,hq _ _ z6]
   | next=>show z
   | brk=>show z
   | cont=>show z
def kR.MF{P:ϋ}{q:Str}{c:ϋ}{H H1:Hp}(L:kR P q c H H1):∀ b o,b≠P->H b=!o->H1 b=!o:=fun b o hb e=>by
 by_cases hc:b=c
 ·rcases L.old with h | h
  ·rw[hc,h]at e;cases e
  ·rw[h];show e
 ·rw[L.rest b hb hc];show e
def  IM:R2:=fun x y H Q=>match x,y with
 | .str i,.str j=>Q (.bl (Bool.not (Bool.not (Builtin.Str.occurrences j i 0 j.length 1).isEmpty))) H
 | _,_=>False
def Kg{X:Cx}:aZ X (compareOp .NotIn) IM:=Yr.imp fun x y H Q h=>by
 unfold IM at h;split at h
 ·show#[_,_,rfl,rfl,h]
 ·show h.elim
section
variable {X:Cx}
def  AG:List V->Hp->VK->Prop:=fun xs H Q=>match xs with
 | [.bl b]=>Q (.int (if b then 1 else 0)) H
 | _=>False
def Dg:cM X (.type "int") AG:=by
 intro π s σ H xs us Q I r h;unfold AG at h;split at h
 ·rename_i b;let⟨u,rfl,rx⟩:=vals1 r;cases rx;show call_int_bool #[.int (if b then 1 else 0),H,I.tok _,#[_,rfl],h]
 ·show h.elim
def Kr:aZ X (binaryOp .Pow) (rM KA fun i j=>i ^ j.toNat):=Sq.imp fun _ _ _ _ h=>Bo h
end
def  CK(K:ν):R2:=fun x y H Q=>match y with
 | .ref p=>∃ xs,(aI K H p xs\/bH K H p xs)/\cH x=true/\xs.all cH=true/\Q (.bl (Bool.not (gE x xs))) H
 | _=>False
def Be{X:Cx}{K:ν}(h:X.K=K):aZ X (compareOp .NotIn) (CK K):=h ▸ Yk.imp fun x y H Q z=>by
 unfold CK at z;split at z
 ·let⟨xs,z1,z2,z3,z4⟩:=z;show#[_,xs,rfl,z1,z2,z3,z4]
 ·show z.elim
structure FT(K:ν)(mg:Str->Option ϊ)(x y:Str)(st:Stmt)(ps:List Str) where
 f:ϋ
 d:FuncData
 F:eW K x y st f d
 m:mg x=!-f
 b:Binds K d ps []
structure MT(K:ν)(C:ϋ)(x y:Str)(st:Stmt)(ps:List Str) where
 f:ϋ
 d:FuncData
 F:eW K x y st f d
 h:Meth K C x f
 b:Binds K d ps []
def  FA(K:ν)(x y:Str)(st:Stmt):Prop:=∃ (f:ϋ) (oc:ϊ) (od:Option ϋ) (kV dc pm:ϊ) (an:Option ϋ) (cd ct:ϊ) (sl:Array (Option ϊ)),
 W.nsIn K mainGlobals x=!(!-f)/\K.lookup f=!#[oc,od,.func (W.fnOf x y (eZ st) (aO st) (ax st) .none kV dc pm an cd ct),sl]/\W.codeIn K cd y=true/\W.keepIn K (-f)=true
def  MA(K:ν)(C:ϋ)(x y:Str)(st:Stmt):Prop:=∃ (f:ϋ) (oc:ϊ) (od:Option ϋ) (kV dc pm:ϊ) (an:Option ϋ) (cd ct:ϊ) (sl:Array (Option ϊ)),
 W.findIn K (-C) x=!(!-f)/\K.lookup f=!#[oc,od,.func (W.fnOf x y (eZ st) (aO st) (ax st) .none kV dc pm an cd ct),sl]/\W.codeIn K cd y=true/\W.keepIn K (-f)=true/\W.isFn K (-f)=true
section
variable {K:ν}{mg:Str->Option ϊ}{h:Heap}{C:ϋ}{x y:Str}{st:Stmt}{ps:List Str}
def FA.ft(X:K.In h)(G:h.Ns mainGlobals mg)(ps:List Str)(hb:∀ (kV dc pm:ϊ) (an:Option ϋ) (cd ct:ϊ) (us:List ϊ),us.length=ps.length->bindArgs (W.fnOf x y (eZ st) (aO st) (ax st) .none kV dc pm an cd ct) #[us,[]]=pure (ps.zip us))(a:FA K x y st):Nonempty (FT K mg x y st ps):=by
 let⟨f,oc,od,kV,dc,pm,an,cd,ct,sl,n,l,c,k⟩:=a;have F:=Bs (st:=st) l c k;show#[#[f,_,F,W.mg_of X G n,F.binds hb]]
def MA.ft(ps:List Str)(hb:∀ (kV dc pm:ϊ) (an:Option ϋ) (cd ct:ϊ) (us:List ϊ),us.length=ps.length->bindArgs (W.fnOf x y (eZ st) (aO st) (ax st) .none kV dc pm an cd ct) #[us,[]]=pure (ps.zip us))(a:MA K C x y st):Nonempty (MT K C x y st ps):=by
 let⟨f,oc,od,kV,dc,pm,an,cd,ct,sl,n,l,c,k,t⟩:=a;have F:=Bs (st:=st) l c k;show#[#[f,_,F,#[n,t,k],F.binds hb]]
end
section
variable {K:ν}{mg:Str->Option ϊ}{h:Heap}{C:ϋ}{x y:Str}{st:Stmt}{ps:List Str}
def FA.mk{f:ϋ}{oc:ϊ}{od:Option ϋ}{kV dc pm:ϊ}{an:Option ϋ}{cd ct:ϊ}{sl:Array (Option ϊ)}(n:W.nsIn K mainGlobals x=!(!-f))(l:K.lookup f=!#[oc,od,.func (W.fnOf x y (eZ st) (aO st) (ax st) .none kV dc pm an cd ct),sl])(c:W.codeIn K cd y=true)(k:W.keepIn K (-f)=true):FA K x y st:=#[_,_,_,_,_,_,_,_,_,_,n,l,c,k]
def MA.mk{f:ϋ}{oc:ϊ}{od:Option ϋ}{kV dc pm:ϊ}{an:Option ϋ}{cd ct:ϊ}{sl:Array (Option ϊ)}(n:W.findIn K (-C) x=!(!-f))(l:K.lookup f=!#[oc,od,.func (W.fnOf x y (eZ st) (aO st) (ax st) .none kV dc pm an cd ct),sl])(c:W.codeIn K cd y=true)(k:W.keepIn K (-f)=true)(t:W.isFn K (-f)=true):MA K C x y st:=#[_,_,_,_,_,_,_,_,_,_,n,l,c,k,t]
def FA.gt(X:K.In h)(G:h.Ns mainGlobals mg)(hb:∀ (kV dc pm:ϊ) (an:Option ϋ) (cd ct:ϊ) (us:List ϊ),us.length=ps.length->bindArgs (W.fnOf x y (eZ st) (aO st) (ax st) .none kV dc pm an cd ct) #[us,[]]=pure (ps.zip us))(a:FA K x y st):Nonempty (FT K mg x y st ps):=FA.ft X G ps hb a
def MA.gt(hb:∀ (kV dc pm:ϊ) (an:Option ϋ) (cd ct:ϊ) (us:List ϊ),us.length=ps.length->bindArgs (W.fnOf x y (eZ st) (aO st) (ax st) .none kV dc pm an cd ct) #[us,[]]=pure (ps.zip us))(a:MA K C x y st):Nonempty (MT K C x y st ps):=MA.ft ps hb a
def abH{M:MT K C "__init__" y st ps}(a:W.makesIn K C=true)(b:W.keepIn K (-C)=true):Mk K C M.f:=#[a,M.h.at_,M.h.fn,b]
def m8{dt:ϋ}{kV doc pm ah ct:ϊ}{an:Option ϋ}{o:Obj}{n:Nat}{ds:List ϊ}(j:Nat)(ld:K.lookup dt=!o)(hd:o.data=.seq ds.toArray n)(h:∀ (dt:ϋ) (kV doc pm:ϊ) (an:Option ϋ) (ah ct:ϊ) (us:List ϊ),(us++ds.drop j).length=ps.length ->
   ∃ k,bindArgs (W.fnOf x y (eZ st) (aO st) (ax st) (-dt) kV doc pm an ah ct) #[us,[]]=seqItems? (-dt) >>= k/\k (!ds.toArray)=pure (ps.zip (us++ds.drop j))) :
  Binds K (W.fnOf x y (eZ st) (aO st) (ax st) (-dt) kV doc pm an ah ct) ps (ds.drop j):=by
 intro s us X hl;let⟨k,h1,h2⟩:=h dt kV doc pm an ah ct us hl;show BindsTo.of_defaults rfl (X _ _ ld) hd h1 h2
end
section
variable {X:Cx}{tg:Expr}
end
section
variable {X:Cx}
def  DG:List V->Hp->VK->Prop:=fun xs H Q=>match xs with
 | [.int a]=>a.natAbs.log2 < 1920/\Q (.str (ώ (toString a))) H
 | _=>False
def SV:cM X (.type "str") DG:=by
 intro π s σ H xs us Q I r h;unfold DG at h;split at h
 ·rename_i a;let⟨hl,h⟩:=h;let⟨u,rfl,rx⟩:=vals1 r;let⟨t,rfl⟩:=rx;show PySem.P.str_of_int hl #[.str (ώ (toString a)),H,I.tok _,#[_,rfl],h]
 ·show h.elim
end
section
variable {X:Cx}
def  R9:V->List V->Hp->VK->Prop:=fun x vs H Q=>match x,vs with
 | .ref l,[.int 0]=>∃ y xs,H l=!.lst (y::xs)/\Q y (upd H l (.lst xs))
 | _,_=>False
end
section
variable {X:Cx}
def all_true(n:Nat):(List.range n).all (fun _=>true)=true:=by rw[Da];show fun _ _=>rfl
def  Tv(K:ν)(neg:Bool):R2:=fun x y H Q=>match x,y with
 | .ref a,-b=>∃ xs ys:List V,(aI K H a xs/\aI K H b ys\/bH K H a xs/\bH K H b ys)/\xs.length=ys.length/\xs.all cH=true/\ys.all cH=true/\(∀ i (h1:i < xs.length) (h2:i < ys.length),eV xs[i] ys[i]=true)/\Q (.bl (Bool.not neg)) H
 | _,_=>False
def NN{v:V}(h:cH v=true):eV v v=true:=by
 cases v <;> first | rfl | (cases h;done) | simp[eV]
end
def  ZE{α:Type}(us ws:List α):List α:=if ws.length=1 then us++ws else []
section
variable {K:ν}{x qual nm:Str}{st:Stmt}{f:ϋ}{fd:FuncData}{ps:List Str}{ds:List ϊ}
def adN{α:Type}{a b c d:α}:ZE [a,b,c] [d]=[a,b,c,d]:=rfl
end
section
variable {X:Cx}
end
def  oP(J:It)(n:Nat)(vs:List V)(g:TG)(tt:TT)(te:TE)(Q:VK)(H1:Hp):Prop:=∃ W:Nat->List V->Nat->Hp->Prop,(∃ m,W 0 [] m H1)/\∀ i ys m H,W i ys m H ->
 ys.length<=sizeLine/\((J.stop i H/\∀ l,H l=none->Q (-l) (upd H l (.lst ys))) \/
  (J.go i H/\ys.length < sizeLine/\∀ y H',J.mU i H y H'->∀ σ0:St,σ0.length=n->g y (σ0++vs.map some) H' fun σ1 H1=>(∃ σ2:St,σ1=σ2++vs.map some/\σ2.length=n) /\
   tt σ1 H1 fun c H2=>if c=true then te σ1 H2 fun z H3=>∃ m',m' < m/\W (i+1) (ys++[z]) m' H3 else ∃ m',m' < m/\W (i+1) ys m' H2))
def O5{n:Nat}{ix:List Nat}{wi:TI}{g:TG}{tt:TT}{te:TE}{σ:St}{H:Hp}{Q:VK}:mT n ix wi g tt te σ H Q=∃ vs,pb ix σ vs/\wi σ H fun J H1=>oP J n vs g tt te Q H1:=rfl
def Yx{K:ν}{C:ϋ}{y:Str}{st:Stmt}{ps:List Str}{fld:Str}{M:MT K C "__init__" y st ps}(q:xx K C=true)(sa:W.findIn K (-C) "__setattr__" = !(!.builtin "object.__setattr__"))(na:W.findIn K (-C) fld=!none)(ob:W.mroIn K C (.type "object")=!true)(be:W.mroIn K C (.type "BaseException")=!true)(self:W.mroIn K C (-C)=!true)(kp:W.keepIn K (-C)=true):gN K C M.f fld:=#[q,M.h.at_,eq_of_beq M.h.fn,sa,na,ob,be,self,kp]
end L2
open PySem PySem.Spec PyProof.Rows
namespace L2
section
variable {X:Cx}
def  xr(n b:Bool):Bool:=match n with | false=>b | true=>Bool.not b
def Ew(n b:Bool):(n ^^ b)=xr n b:=by cases n <;> cases b <;> rfl
def  tE(neg:Bool):R2:=fun x y H Q=>match x,y with
 | .int i,.int j=>Q (.bl (xr neg (decide (i=j)))) H
 | .str i,.str j=>Q (.bl (xr neg (decide (i=j)))) H
 | .bl i,.bl j=>Q (.bl (xr neg (decide (i=j)))) H
 | _,_=>y9 x y=true/\Q (.bl (xr neg (decide (x=y)))) H
def M5(neg:Bool):qX neg=tE neg:=by
 funext x y H Q;unfold qX tE;simp only[Ew] <;> rfl
def gj:aZ X (compareOp .Eq) (tE false):=M5 false ▸ aep
def mq:aZ X (compareOp .NotEq) (tE true):=M5 true ▸ acS
def  vc(neg:Bool):R2:=fun x y H Q=>match x,y with
 | .ref a,-b=>∃ ts us:List Str,H a=!.lst (ts.map V.str)/\H b=!.lst (us.map V.str)/\Q (.bl (xr neg (decide (ts=us)))) H
 | _,_=>False
def NH(neg:Bool):rZ neg=vc neg:=by
 funext x y H Q;unfold rZ vc;simp only[Ew] <;> rfl
def Zc(hu:X.A.units < cLine):aZ X (compareOp .Eq) (vc false):=NH false ▸ abS hu
def Ll(hu:X.A.units < cLine):aZ X (compareOp .NotEq) (vc true):=NH true ▸ VW hu
def  uF(K:ν)(neg:Bool):R2:=fun x y H Q=>match x,y with
 | .ref a,-b=>∃ xs ys:List V,aI K H a xs/\aI K H b ys/\((ys=[]/\Q (.bl (xr neg xs.isEmpty)) H)\/(xs=[]/\Q (.bl (xr neg ys.isEmpty)) H))
 | _,_=>False
def N3{K:ν}(neg:Bool):qR K neg=uF K neg:=by
 funext x y H Q;unfold qR uF;simp only[Ew] <;> rfl
def Nc{K:ν}(hK:X.K=K)(hu:X.A.units < cLine):aZ X (compareOp .Eq) (uF K false):=N3 (K:=K) false ▸ aaY hK hu
def Jz{K:ν}(hK:X.K=K)(hu:X.A.units < cLine):aZ X (compareOp .NotEq) (uF K true):=N3 (K:=K) true ▸ UM hK hu
end
end L2
namespace L2
open PySem PySem.Spec PyProof.Rows
def abW{J:It}{tt:TT}{te:TE}{Q:VK}{H:Hp}:tW J tt te Q H ↔ oP J 1 [] (fC 0) tt te Q H:=by
 constructor
 ·rintro⟨W,w0,h⟩;show#[W,w0,fun i ys m H hw=>#[(h i ys m H hw).1,(h i ys m H hw).2.imp_right fun z=>#[z.1,z.2.1,fun y H' hy σ0 hσ=>?_]]];let⟨a,rfl⟩:=xj hσ;show#[#[[!y],rfl,rfl],z.2.2 y H' hy]
 ·rintro⟨W,w0,h⟩;show#[W,w0,fun i ys m H hw=>#[(h i ys m H hw).1,(h i ys m H hw).2.imp_right fun z=>#[z.1,z.2.1,fun y H' hy=>(z.2.2 y H' hy [none] rfl).2]]]
def MC{wi:TI}{tt:TT}{te:TE}{σ:St}{H:Hp}{Q:VK}(h:zc wi tt te σ H Q):mT 1 [] wi (fC 0) tt te σ H Q:=by
 rw[OT]at h;rw[O5];have e:(fun (J:It) H1=>tW J tt te Q H1)=fun J H1=>oP J 1 [] (fC 0) tt te Q H1:=by funext J H1;show propext abW
 rw[e]at h;show#[[],#[rfl,()],h]
section
variable {X:Cx}
def Dv.Mm{elt iter tg:Expr}{ifs:List Expr}{x:Str}{cl:List (Str×ϋ)}{pos:Pos}{scope:Scope}{wi:TI}{tt:TT}{te:TE}(hc:X.calm=true)(hi:QI X tg iter wi)(ht:∀ s H ex C,ql (cT X scope cl ([x]++[]) s H ex C) ifs tt)(iz:∀ s H ex C,QG (cT X scope cl ([x]++[]) s H ex C) tg (fC 0))(he:∀ s H ex C,QE (cT X scope cl ([x]++[]) s H ex C) elt te)(CC:kM X scope cl [] [])(hk:‹scope.kind=.function›)(cB:∀ y∈scope.names,y.2=.local->scope.names.lookup y.1=!.local:=by decide +kernel)(fH:∀ y∈scope.names,y.2≠.cell:=by decide +kernel)(hs:∀ x,foldedSetIterable iter X.env x=pure x:=by intro _;rfl):QE X (.ListComp elt [#[tg,iter,ifs,0]] scope pos) (zc wi tt te) :=
 #[fun π s σ H Q I h=>(Dv.xm hc hi ht iz he CC hk cB fH hs).h π s σ H Q I (MC h)]
def Dv.Tt(i:Nat){elt iter tg:Expr}{ifs:List Expr}{x:Str}{cl:List (Str×ϋ)}{y:Str}{py pos spos:Pos}{scope:Scope}{wi:TI}{tt:TT}{te:TE}(hc:X.calm=true)(hN:X.N.Nodup)(hi:QI X tg iter wi)(ht:∀ s H ex C,ql (cT X scope cl ([x]++[]) s H ex C) ifs tt)(iz:∀ s H ex C,QG (cT X scope cl ([x]++[]) s H ex C) tg (fC 0))(he:∀ s H ex C,QE (cT X scope cl ([x]++[]) s H ex C) elt te)(CC:kM X scope cl [] [])(we:‹X.N[i]?=!y›)(sS:‹X.env.scope.names.lookup y=!.local›)(vY:‹swapsWith (.ListComp elt [#[tg,iter,ifs,0]] scope pos) (!.Name y py) spos.line X.env=pure true›)(hk:‹scope.kind=.function›)(cB:∀ y∈scope.names,y.2=.local->scope.names.lookup y.1=!.local:=by decide +kernel)(fH:∀ y∈scope.names,y.2≠.cell:=by decide +kernel)(hs:∀ x,foldedSetIterable iter X.env x=pure x:=by intro _;rfl):QS X (.Assign [.Name y py] (.ListComp elt [#[tg,iter,ifs,0]] scope pos) spos) (mM (zc wi tt te) (fC i)) :=
 #[fun π s σ H D I h=>(Dv.MU i hc hN hi ht iz he CC we sS vY hk cB fH hs).h π s σ H D I (MC h)]
end
end L2
namespace L2
def N6{α:Type}{C:List α->Prop}(h:C []):∀ us:List α,us.length=0->C us
 | [],_=>h
def oW{α:Type}{C:List α->Prop}{n:Nat}(h:∀ a us,us.length=n->C (a::us)):∀ us:List α,us.length=n+1->C us
 | a::us,e=>h a us (Nat.succ.inj e)
def NZ{α:Type}{C:List α->Prop}(h:∀ a,C [a]):∀ us:List α,us.length=1->C us:=oW fun a=>N6 (C:=fun us=>C (a::us)) (h a)
def Np{α:Type}{C:List α->Prop}(h:∀ a b,C [a,b]):∀ us:List α,us.length=2->C us:=oW fun a=>NZ (C:=fun us=>C (a::us)) (h a)
def yi{α:Type}{C:List α->Prop}(h:∀ a b c,C [a,b,c]):∀ us:List α,us.length=3->C us:=oW fun a=>Np (C:=fun us=>C (a::us)) (h a)
def tR{α:Type}{C:List α->Prop}(h:∀ a b c d,C [a,b,c,d]):∀ us:List α,us.length=4->C us:=oW fun a=>yi (C:=fun us=>C (a::us)) (h a)
def yt{α:Type}{C:List α->Prop}(h:∀ a b c d e,C [a,b,c,d,e]):∀ us:List α,us.length=5->C us:=oW fun a=>tR (C:=fun us=>C (a::us)) (h a)
def CL{α:Type}{C:List α->Prop}(h:∀ a b c d e f,C [a,b,c,d,e,f]):∀ us:List α,us.length=6->C us:=oW fun a=>yt (C:=fun us=>C (a::us)) (h a)
def R7{α:Type}{C:List α->Prop}(h:∀ a b c d e f g,C [a,b,c,d,e,f,g]):∀ us:List α,us.length=7->C us:=oW fun a=>CL (C:=fun us=>C (a::us)) (h a)
end L2
namespace L2
open PySem PySem.Spec PyProof.Rows
section
open PySem.AutoSeq1 (wpAny_loadPart')
open PySem.MeetsSeq PySem.SeqAt
def B7:∀ {ns:List Int}{us:List ϊ},Vals (ns.map V.int) us->IntsAre us ns
 | [],_,.nil=>.nil
 | _::_,_,.cons r t=>by
  let⟨k,rfl⟩:=r;show .cons _ _ (B7 t)
def O2:∀ {ns:List Int}{us:List ϊ},IntsAre us ns->∃ xs:List (Int×Tok),us=xs.map (fun p=>ϊ.int p.1 p.2)/\ns=xs.map (·.1)
 | _,_,.nil=>#[[],rfl,rfl]
 | _,_,.cons n t h=>by
  let⟨xs,e1,e2⟩:=O2 h;show#[(n,t)::xs,by rw[e1];rfl,by rw[e2];rfl]
end
section
variable {X:Cx}
def  FG(K:ν):V->List V->Hp->VK->Prop:=fun x vs H Q=>match x,vs with
 | .ref l,[.int k]=>∃ ns:List Int,aI K H l (ns.map V.int)/\k∈ns/\Q (.int (ns.idxOf k:Nat)) H
 | _,_=>False
def  Z9(K:ν):V->List V->Hp->VK->Prop:=fun x vs H Q=>match x,vs with
 | .ref l,[.int k]=>∃ ns:List Int,bH K H l (ns.map V.int)/\k∈ns/\Q (.int (ns.idxOf k:Nat)) H
 | _,_=>False
def JZ{K:ν}(hK:X.K=K):ef X "list.index" (FG K):=by
 subst hK;intro π s σ H x vs v us Q I rx rv h;unfold FG at h;split at h
 ·rename_i l k;let⟨ns,hl,hk,q⟩:=h;cases rx;let⟨u,rfl,ru⟩:=vals1 rv;let⟨t,rfl⟩:=ru;let⟨aq,r',⟨⟨cls,dd,data,sl⟩,n,ho,hc,hd,hs⟩,hz⟩:=I.list hl;simp only at hc hd hs;subst hc hd hs;have hi:=B7 r';have hlen:=hi.length;have hj:ns.idxOf k < ns.length:=List.idxOf_lt_length_iff.mpr hk;rw[lv]at hz;have iK:sizeLine < 2 ^ 62:=⋯
  show Wp _U #[_,ho,rfl] PySem.F.entry_list_index (PySem.F.args_list_index_2 _ _)
   (PySem.SeqAt.list_indexAt l aq.toArray n none sl (.int k t) (isInt k) (ns.idxOf k) (by simpa [hlen] using hj) ∅ ?_ ?_) #[ho,fun y hy=>(eq_isInt k t hi y (by simpa using hy)).at _ _,#[.int _,H,I.kept (t':=s.toks+1) fun _ _ e=>e,#[_,rfl],q]]
  ·change isInt k aq[ns.idxOf k]=true;rw[isInt_at k hi _ ∅ hj]
   simpa using List.getElem_idxOf hj
  ·intro j hjs bS;change isInt k aq[j]=false;rw[isInt_at k hi j (by simpa using hjs) ∅];show ne_of_lt_idxOf bS _
 ·show h.elim
def  DW(K:ν):List V->Hp->VK->Prop:=fun xs H Q=>match xs with
 | [-p]=>∃ (ns:List Int) (m:Int),aI K H p (ns.map V.int)/\m∈ns/\(∀ k∈ns,m<=k)/\Q (.int m) H
 | _=>False
def aaR{K:ν}(hK:X.K=K)(hc:X.calm=true):cM X (.builtin "min") (DW K):=by
 subst hK;intro π s σ H xs us Q I r h;unfold DW at h;split at h
 ·let⟨ns,m,hl,hm,hle,q⟩:=h;let⟨u,rfl,rx⟩:=vals1 r;cases rx;let⟨aq,r',pl,hz⟩:=I.list hl;let⟨xs,e1,e2⟩:=O2 (B7 r');have he:aq.toArray=intItems xs.toArray:=by rw[e1];simp[intItems]
  rw[he]at pl;have hx:0 < xs.length:=by
   rw[e2]at hm;cases xs with
   | nil=>cases hm
   | cons _ _=>show Nat.succ_pos _
  show min_intList (I.ok.hd hc) pl.isList (by simpa using hx) fun v h' tk hv hk=>?_;let⟨t,rfl⟩:=intItems_at hv;let⟨sX,zW⟩:=PySem.argBest_lt (numAt xs.toArray) (xs.toArray.size - 1);show#[.int m,H,I.kept (t':=tk) hk,#[t,?_],q];have hn:∀ i (h:i < xs.length),numAt xs.toArray i=xs[i].1:=fun i h=>by simp[numAt,h]
  have hsz:xs.toArray.size=xs.length:=()
  rw[hsz]at sX zW ⊢;generalize argBest _ (xs.length - 1)=a at sX zW ⊢;have ha:a < xs.length:=∅
  have h1:m<=numAt xs.toArray a:=hle _ (by rw[e2,hn a ha];show _K (_8 ha));rw[e2]at hm;let⟨p,hp,hpm⟩:=zn.mp hm;let⟨i,hi,rfl⟩:=_l hp;have h2:=zW i ∅;rw[hn i hi,hpm]at h2;rw[show numAt xs.toArray a=m by omega]
 ·show h.elim
end
end L2
namespace HT
open PySem PySem.Spec PyProof.Rows
section
variable {prog:ύ}{w:World}{A:Around}{E:ϊ->ό->Prop}{s:ό}
end
end HT
namespace L2
open PySem PySem.Spec PyProof.Rows
section
variable {X:Cx}
def  aee(K:ν):R2:=fun x y H Q=>match x,y with
 | .ref a,-b=>∃ xs ys,bH K H a xs/\bH K H b ys/\xs.length+ys.length<=sizeLine/\((xs=[]/\Q (-b) H)\/(xs≠[]/\ys≠[]/\∀ p,H p=none->Q (-p) (upd H p (.tup (xs++ys)))))
 | _,_=>False
def  XI(K:ν):R2:=fun x y H Q=>match x,y with
 | .ref a,-b=>∃ xs,bH K H a xs/\bH K H b []/\Q (.bl xs.isEmpty) H
 | _,_=>False
def  Wo(K:ν):V->Option Int->Option Int->Hp->VK->Prop:=fun x lo hi H Q=>match x with
 | .ref a=>∃ xs,bH K H a xs/\(HT.cX xs.length 0 lo=0/\HT.cX xs.length xs.length hi=xs.length->Q (-a) H)/\(∀ p,H p=none->Q (-p) (upd H p (.tup (fR xs lo hi))))
 | _=>False
def  abv(r:V->List V->Hp->VK->Prop)(to:TE)(t:TA):TE:=fun σ H Q=>to σ H fun x H1=>match x with
 | .ref l=>(match H1 l with
  | some (.tup _)=>t σ H1 fun xs H2=>r (-l) xs H2 Q
  | _=>False)
 | _=>False
section
variable {o e:Expr}{es:List Expr}{name:Str}{id:String}{r:V->List V->Hp->VK->Prop}{to:TE}{t:TA}{apos bf:Pos}
end
def RE:bootBuiltins "min" = !.builtin "min":=by kernel_rfl
end
def bh.m{j k:Nat}{A:Around}(r:bh k A)(h:j<=k:=by decide):bh j A:=r.mono h
def fI{C d x:ϋ}{f:Str}{fs gs:List (Str×V)}{v:V}{H:Hp}{Q:V->Prop}(h:H x=!.ins C d fs)(s:dg fs gs)(e:List.lookup f gs=!v)(q:Q v):FI C f (-x) H Q:=#[x,_,_,_,rfl,h,(s f).trans e,q]
def mI{C d x:ϋ}{f:Str}{fs gs:List (Str×V)}{H:Hp}{q:Prop}(h:H x=!.ins C d fs)(s:dg fs gs)(r:q)(e:‹List.lookup f gs=none›):MI C f (-x) H q:=#[x,_,_,rfl,h,(s f).trans e,r]
@[elab_as_elim] theorem eP {H:Hp}{p:ϋ}{o:HO}{C:Hp->Prop} (h:H p=none) (k:∀ H1,aj H H1->H1 p=!o->C H1):C (upd H p o):=k _ (aj.upd h) aw
section
variable {prog:ύ}{w:World}{A:Around}{E:ϊ->ό->Prop}{s:ό}
end
section
variable {X:Cx}
def Lz{te:TE}{H:Hp}{Q:VK}{vs:List V}(m:Nat)(W:Nat->List V->Hp->Prop)(hm:m<=1000)(w0:W 0 [] H)(wl:∀ i ys H1,W i ys H1->ys.length=i)(he:∀ k ys H1,k < m->W k ys H1->∀ R:VK,(∀ z H2,W (k+1) (ys++[z]) H2->R z H2)->te (some (.int (k:Int))::vs.map some) H1 R)(q:∀ ys H1 l,W m ys H1->H1 l=none->Q (-l) (upd H1 l (.lst ys))) :
  oP (oQ 0 ((m:Int)).toNat) 1 vs (fC 0) nE te Q H:=by
 have hsz:m<=sizeLine:=fits hm;show#[fun i zs k H1=>W i zs H1/\i<=m/\k=m - i,#[_,w0,At _,rfl],?_];rintro i zs k H1 ⟨hw,hi,rfl⟩;have hlen:=wl _ _ _ hw;show#[∅,?_];by_cases h:i < m
 ·show .inr #[show i < ((m:Int)).toNat by omega,∅,?_];rintro v H' ⟨rfl,rfl⟩ σ0 hσ0;let⟨a,rfl⟩:=xj hσ0;show#[#[[!.int (0+(i:Int))],rfl,rfl],?_];have e0:(0+(i:Int))=(i:Int):=∅
  change nE _ _ _;unfold nE;dsimp only;rw[xL rfl];have st:=he i zs _ h hw (fun z H3=>∃ m',m' < m - i/\W (i+1) (zs++[z]) H3/\i+1<=m/\m'=m - (i+1)) (fun v H2 x=>#[m - (i+1),∅,x,h,rfl]);rw[<- e0]at st;show st
 ·have e:i=m:=∅
  subst e;show .inl #[show((i:Int)).toNat<=i by omega,fun l hl=>q _ _ _ hw hl]
end
def  DE(K:ν)(H:Hp):Nat->V->V->Prop
 | 0,x,y=>cH x=true/\cH y=true/\eV x y=true
 | n+1,x,y=>(cH x=true/\cH y=true/\eV x y=true)\/∃ a b xs ys,x=-a/\y=-b/\(aI K H a xs/\aI K H b ys\/bH K H a xs/\bH K H b ys)/\xs.length=ys.length/\∀ i (h1:i < xs.length) (h2:i < ys.length),DE K H n xs[i] ys[i]
section
variable {X:Cx}
def yx{xs:List V}{i1:List ϊ}(r1:Vals xs i1)(j:Nat)(g1:j < i1.toArray.size):∃ (j1:j < xs.length),RelV xs[j] i1.toArray[j]:=by
 have j1:j < xs.length:=by rw[r1.length];simpa using g1
 let⟨u1,e1,ru1⟩:=r1.get (sw j1);have w1:i1.toArray[j]=u1:=by
  have:=(lm.mp e1).2
  simpa using this
 show#[j1,by rw[w1];show ru1]
def La{π:List (ϋ×Obj)}{σ:St}{H:Hp}{s:ό}(I:Inv X π σ H s){n:Nat}(ih:∀ {A:Around}{x y:V}{v u:ϊ},DE X.K H n x y->RelV x v->RelV y u->A.units+n < cLine->SeqAt.EqAt A s v u true){A:Around}{a b:ϋ}{xs ys:List V}(eS:aI X.K H a xs/\aI X.K H b ys\/bH X.K H a xs/\bH X.K H b ys)(hl:xs.length=ys.length)(he:∀ i (h1:i < xs.length) (h2:i < ys.length),DE X.K H n xs[i] ys[i])(hu:A.units+(n+1) < cLine):SeqAt.RcAt A s (-a) (-b) true:=by
 have el:∀ {i1 i2:List ϊ},Vals xs i1->Vals ys i2->∀ (j:Nat) (g1:j < i1.toArray.size) (g2:j < i2.toArray.size),SeqAt.EqAt A.in1 s i1.toArray[j] i2.toArray[j] true:=fun r1 r2 j g1 g2=>by
  let⟨j1,u1⟩:=yx r1 j g1;let⟨j2,u2⟩:=yx r2 j g2;show ih (he j j1 j2) u1 u2 (show A.units+1+n < cLine by omega)
 rcases eS with ⟨ha,hb⟩ | ⟨ha,hb⟩
 ·let⟨i1,r1,p1,_⟩:=I.list ha;let⟨i2,r2,p2,_⟩:=I.list hb;have hsz:i1.toArray.size=i2.toArray.size:=by rw[ss,ss,<- r1.length,<- r2.length,hl]
  have k:=SeqAt.RcAt.lists (A:=A) (s:=s) (e:=fun _=>true) p1.isList p2.isList hsz ∅ (el r1 r2);rw[all_true]at k;show k
 ·let⟨i1,r1,p1,_⟩:=I.tuple ha;let⟨i2,r2,p2,_⟩:=I.tuple hb;have hsz:i1.toArray.size=i2.toArray.size:=by rw[ss,ss,<- r1.length,<- r2.length,hl]
  have k:=SeqAt.RcAt.tuples (A:=A) (s:=s) (e:=fun _=>true) p1 p2 ∅ (el r1 r2);rw[all_true,hsz,beq_self_eq_true,Bool.and_self]at k;show k
def EM{π:List (ϋ×Obj)}{σ:St}{H:Hp}{s:ό}(I:Inv X π σ H s):∀ (n:Nat) {A:Around}{x y:V}{v u:ϊ},DE X.K H n x y->RelV x v->RelV y u->A.units+n < cLine->SeqAt.EqAt A s v u true
 | 0,A,x,y,v,u,h,rx,ry,hu=>by
  have:=Fb (A:=A) (s:=s) rx ry h.1 h.2.1;rw[h.2.2]at this;show this
 | n+1,A,x,y,v,u,h,rx,ry,hu=>by
  rcases h with h | ⟨a,b,xs,ys,rfl,rfl,eS,hl,he⟩
  ·have:=Fb (A:=A) (s:=s) rx ry h.1 h.2.1;rw[h.2.2]at this;show this
  ·cases rx;cases ry;by_cases e:a=b
   ·subst e;show SeqAt.EqAt.same _
   ·show SeqAt.EqAt.of_refs e (La I (EM I n) eS hl he hu)
def  rp(K:ν)(n:Nat):R2:=fun x y H Q=>match x,y with
 | .ref a,-b=>∃ xs ys:List V,(aI K H a xs/\aI K H b ys\/bH K H a xs/\bH K H b ys)/\xs.length=ys.length/\(∀ i (h1:i < xs.length) (h2:i < ys.length),DE K H n xs[i] ys[i])/\Q (.bl true) H
 | _,_=>False
def qO{K:ν}(n:Nat)(hK:X.K=K)(hu:X.A.units+(n+1) < cLine):aZ X (compareOp .Eq) (rp K n):=by
 subst hK;intro π s σ H x y v u Q I rx ry h;unfold rp at h;split at h
 ·let⟨xs,ys,eS,hl,he,q⟩:=h;cases rx;cases ry;show La I (EM I n) eS hl he hu _ _ _ _ #[.bl _,H,I,rfl,q]
 ·show h.elim
end
def bh.mX{k:Nat}{A:Around}(r:bh k A):A.units+(4+1) < cLine:=by have:=r.un;omega
def  VQ:List V->Hp->VK->Prop:=fun xs H Q=>match xs with
 | [.int a,.int b]=>Q (.int (if b < a then b else a)) H
 | _=>False
def Kx:∀ es:List Ent,(dP es).length=3 * es.length
 | []=>rfl
 | e::r=>by change(dP r).length+1+1+1=3 * (r.length+1);rw[Kx r];omega
def adl{P:ϋ}{es:List Ent}{q:Str}:kU P es≠lZ P q:=fun e=>by
 have e:=HO.ext.inj e
 let o:Obj:={ cls:=.none,data:=.fields (List.toArray [.none,.str q 0]) }
 let h:Heap:=Heap.push #[Array.replicate P o,{}] o
 have hg:h.get? P=!o:=by
  have:=tz (#[Array.replicate P o,{}]:Heap) (o:=o) rfl;rw[show(#[Array.replicate P o,{}]:Heap).objs.size=P from Array.size_replicate]at this;show this
 have h1:h.CodeRec (-P) q:=#[P,o,_,0,rfl,hg,rfl,rfl];have h2:h.get? P=!W.tabObj (dP es).toArray:=(congrFun e h).mpr h1;rw[hg]at h2;have h3:=KM Obj.data (Fk h2);have h4:(List.toArray [ϊ.none,.str q 0])=(dP es).toArray:=by injection h3
 have h5:=KM Array.size h4;rw[ss,ss,Kx]at h5;have h6:(2:Nat)=3 * es.length:=h5;omega
section
variable {K:ν}{x qual nm nm2:Str}{st:Stmt}{f:ϋ}{fd:FuncData}{ps:List Str}{ds:List ϊ}
end
section
variable {X:Cx}
end
section
variable {X:Cx}{tg:Expr}{π:List (ϋ×Obj)}{σ:St}{H:Hp}{s:ό}
def Inv.freeze{d:ϋ}{o:Obj}{kvs:List (Key×V)}(I:Inv X π σ H s)(e:Rd H d (.dK kvs))(ho:s.heap.get? d=!o):Inv X π σ (upd H d (.cD o (.dK kvs))) s:=by
 rcases e with e | ⟨o',e⟩
 ·have mu:qZ (H d):=by rw[e];trivial
  show I.un (t':=s.toks) (h':=s.heap) (Un.write mu (.inl rfl) (fun _ _ _ q=>q) #[o,ho]) (I.aA.write mu (.inl rfl) (fun _ _ _ q=>q) #[o,ho] #[ho,I.aA d _ e])
 ·let⟨h1,_⟩:=I.aA d _ e;rw[ho]at h1;cases h1;rw[show upd H d (.cD o (.dK kvs))=H from funext fun b=>by
   by_cases z:b=d
   ·rw[z,aw,e]
   ·rw[ag z]]
  show I
end
section
variable {X:Cx}{es:List Expr}{kk:Nat}{sG apos bf:Pos}{o:Expr}{to:TE}
end
section
variable {X:Cx}{e st:Expr}{te:TE}{tk:TO}{p2 pos:Pos}
end
section
variable {X:Cx}
def  JX(K:ν)(n:Nat):R2:=fun x y H Q=>((x=.au/\y=.au)\/∃ a b xs ys,x=-a/\y=-b/\(aI K H a xs/\aI K H b ys\/bH K H a xs/\bH K H b ys)/\xs.length=ys.length/\(∀ i (h1:i < xs.length) (h2:i < ys.length),DE K H n xs[i] ys[i]))/\Q (.bl false) H
def JI{K:ν}(n:Nat)(hK:X.K=K)(hu:X.A.units+(n+1) < cLine):aZ X (compareOp .NotEq) (JX K n):=by
 subst hK;intro π s σ H x y v u Q I rx ry h;let⟨h,q⟩:=h;rcases h with ⟨rfl,rfl⟩ | ⟨a,b,xs,ys,rfl,rfl,eS,hl,he⟩
 ·cases rx;cases ry;show SeqAt.RcNeAt.none_none _ _ _ _ #[.bl _,H,I,rfl,q]
 ·cases rx;cases ry;have el:∀ {i1 i2:List ϊ},Vals xs i1->Vals ys i2->∀ (j:Nat) (g1:j < i1.toArray.size) (g2:j < i2.toArray.size),SeqAt.EqAt X.A.in1 s i1.toArray[j] i2.toArray[j] true:=fun r1 r2 j g1 g2=>by
   let⟨j1,u1⟩:=yx r1 j g1;let⟨j2,u2⟩:=yx r2 j g2;show EM I n (he j j1 j2) u1 u2 (show X.A.units+1+n < cLine by omega)
  rcases eS with ⟨ha,hb⟩ | ⟨ha,hb⟩
  ·let⟨i1,r1,p1,_⟩:=I.list ha;let⟨i2,r2,p2,_⟩:=I.list hb;have hsz:i1.toArray.size=i2.toArray.size:=by rw[ss,ss,<- r1.length,<- r2.length,hl]
   have k:=Jaj (A:=X.A) (s:=s) (e:=fun _=>true) p1.isList p2.isList hsz ∅ (el r1 r2);rw[all_true]at k;show k _ _ _ _ #[.bl _,H,I,rfl,q]
  ·let⟨i1,r1,p1,_⟩:=I.tuple ha;let⟨i2,r2,p2,_⟩:=I.tuple hb;have hsz:i1.toArray.size=i2.toArray.size:=by rw[ss,ss,<- r1.length,<- r2.length,hl]
   have k:=SeqAt.RcNeAt.tuples (A:=X.A) (s:=s) (e:=fun _=>true) p1 p2 ∅ (el r1 r2);rw[all_true,hsz,beq_self_eq_true,Bool.and_self]at k;show k _ _ _ _ #[.bl _,H,I,rfl,q]
end
section
variable {prog:ύ}{w:World}{A:Around}{E:ϊ->ό->Prop}{s:ό}
end
section
variable {X:Cx}
end
structure Lm where
 params:Arguments
 body:Expr
 scope:Scope
 bV:List (Str×ϋ)
def  Jh(f:ϋ)(q:Str)(l:Lm)(c:ϋ):HO:=.ext fun h=>∃ pm ct,h.get? f=!W.kla_obj "<lambda>" q l.params l.body l.scope l.bV pm c ct
def  ZM(P:ϋ)(q:Str)(l:Lm):TE:=fun _ H Q=>∃ es,dv H P q es/\∀ f c H1,kR P q c H H1->H f=none->H1 f=none->Q (-f) (upd H1 f (Jh f q l c))
structure aeS(X:Cx)(k:Nat)(q:Str)(l:Lm)(ix:List Nat)(W:List V->dU)(N':List Str):Prop where
 S:eU N' l.scope l.bV
 C:gB X N' ix l.bV
 bind:∀ pm cd ct,bindArgs (PySem.W.kla_fn "<lambda>" q l.params l.body l.scope l.bV pm cd ct) #[[],[]]=pure []
 body:∀ (f:ϋ) (ah:ϊ) (vs:List V) (A:Around) (outer:List Env) (s:ό) (H:Hp) (Q:VK) (E:XK),bh k (A.deeper (PySem.W.envX q l.scope s.heap.objs.size f ah l.bV))->W vs H Q E ->
   ∃ t,PE (jA X.prog X.w X.K X.mg X.base N' q l.scope f ah l.bV A outer s H E) l.body t/\t (vs.map some) H Q
def  Y1(ta:TE)(M:St->ϋ->dU->Prop)(jO:dU->dU)(R:St->XK):TE:=fun σ H Q=>ta σ H fun x H1=>∃ f bW,x=-f/\M σ f bW/\jO bW H1 Q (R σ)
def  Tb(i:Nat)(f:ϋ)(bW:dU)(R:St->XK):TE:=fun σ H Q=>σ[i]?=!(!-f)/\bW H Q (R σ)
def  abf(n:Nat)(ix:List Nat)(wi:TI)(g:TG)(tt:St->TT)(te:TE):TE:=fun σ H Q=>mT n ix wi g (tt σ) te σ H Q
namespace Dv
section
variable {X:Cx}
end
end Dv
def Ow:∀ {us:List ϊ}{ns:List Int},IntsAre us ns->Vals (ns.map V.int) us
 | _,_,.nil=>.nil
 | _,_,.cons y t h=>.cons #[t,rfl] (Ow h)
def aeC{x:Int}{v:ϊ}(h:md (.inl x) v=true):∃ t,v=ϊ.int x t:=by
 rcases jw h with ⟨i,t,e1,e2⟩ | ⟨_,_,e1,_⟩
 ·cases e1;show#[t,e2]
 ·cases e1
def  DU:List V->Hp->VK->Prop:=fun xs H Q=>∃ p kvs,∃ ns:List Int,xs=[-p]/\H p=!.dK kvs/\kvs.map (·.1)=ns.map Sum.inl/\ns.length < 64/\ns.Pairwise (·<=·)/\∀ l,H l=none->Q (-l) (upd H l (.lst (ns.map V.int)))
def Bq{X:Cx}(hc:X.calm=true):cM X (.builtin "sorted") DU:=by
 intro π s σ H xs us Q I r h;let⟨p,kvs,ts,rfl,hq,hk,iG,hpw,q⟩:=h;let⟨u,rfl,rx⟩:=vals1 r;cases rx;let⟨hz,hS,vs,rv,m⟩:kvs.length<=sizeLine/\(p == sysModules)=false/\∃ vs,KV kvs vs/\s.heap.DictOf (cY X.prog X.w) p vs:=I.aA p _ hq;let⟨ep,pN⟩:=m.dictAt;have eQ:kvs.length=ts.length:=by simpa using KM List.length hk
 have wk:vs.length=ts.length:=by rw[<- eQ];simpa using (KM List.length rv.keys).symm
 show _G kind_sorted plain_sorted entry_sorted (args_sorted1 _) ?_;unfold Builtin.«sorted»;show ii (m:=checkCount "sorted" 1 1 _) (pc ?_);show ii (Jaa (A:=X.A.in1) (W.kdl_dict (knd:=cY X.prog X.w) (kvs:=vs) (ep:=ep) hS) (I.ok.hd hc) pN (by rw[wk,<- eQ];show hz) fun h' tk acc hk' eK=>?_);have hl:acc.toList.length=ts.length:=by rw[LT,<- wk];show eK.1
 have hS':IntsAre acc.toList ts:=by
  have key:∀ (l:List ϊ) (us:List Int),l.length=us.length->(∀ (j:Nat) (v:ϊ) (x:Int),l[j]?=!v->us[j]?=!x->∃ t,v=ϊ.int x t)->IntsAre l us:=by
   intro l
   induction l with
   | nil=>intro us e _;cases us with | nil=>show .nil | cons=>cases e
   | cons v l ih =>
    intro us e hh;cases us with
    | nil=>cases e
    | cons x us =>
     let⟨t,rfl⟩:=hh 0 v x rfl rfl;show .cons x t (ih us (by simpa using e) fun j v x h1 h2=>hh (j+1) v x h1 h2)
  show key _ _ hl fun j v x h1 h2=>?_;let⟨k,y,hx,HD⟩:=eK.2 j v (by rw[<- No];show h1);have e1:(vs.map (·.1))[j]?=!k:=by rw[xz,hx];rfl
  rw[<- rv.keys,hk,xz,h2]at e1;cases e1;show aeC HD
 show ii (wpAny_newList ?_ (by rw[hl,<- eQ];show hz));have ir:(h'.push (seqObj "list" acc.toList.toArray 0)).get? h'.objs.size=!seqObj "list" acc.toList.toArray 0:=tz _ rfl;show ii (FM (_r slot_list_sort #[_,ir,rfl] entry_list_sort (list_sort_tree (ns:=ts) ir hS' (by rw[hl];show iG) fun out ss' b1 b2 b3=>#[_,rfl,?_]) (args_list_sort _)));show pc #[_,rfl,?_];have e1:ss'=ts:=List.Perm.eq_of_pairwise (fun a b _ _ h1 h2=>Int.le_antisymm h1 h2) b3 hpw b2;subst e1;let⟨e,he⟩:=sortedHeap_at (out:=out) ir;have I1:Inv X π σ H { s with heap:=h',toks:=tk }:=I.kept (t':=tk) hk';show#[-h'.objs.size,_,I1.laid (t':=tk) (fun b o z=>?_) (pi _) (show bU X.prog X.w _ _ _ (.lst (ss'.map V.int)) from#[?_,_,e,Ow b1,?_]),rfl,q _ (I1.aA.fresh (pi _))]
 ·have hb:b < h'.objs.size:=sB z;rw[sortedHeap_old (wT hb) (by have:=Ty h' (seqObj "list" acc.toList.toArray 0);rw[this];show _z hb)];show li _ z
 ·rw[lv,<- eQ];show hz
 ·rw[_i];show he
def Inv.Bu{X:Cx}{π:List (ϋ×Obj)}{σ:St}{H:Hp}{s:ό}{p:ϋ}{o:Obj}{kvs:List (Key×V)}(I:Inv X π σ H s)(hp:H p=!.cD o (.dK kvs))(h0:∀ o u,X.H₀ p≠!.cD o u):Inv X π σ (upd H p (.dK kvs)) s:=by
 have nn:∀ {b:ϋ},H b=none->b≠p:=fun {b} e z=>by rw[z,hp]at e;cases e
 have hpo:=(I.aA p _ hp).2;show#[I.ok,I.os,I.bare,#[I.base.keep,I.base.slot,fun b u e n hx=>by rw[ag (nn (I.base.free b u e n hx))];show I.base.free b u e n hx,I.base.there,fun b xs e=>by
   have:=I.base.fS b xs e;rw[ag (qD this hp (by nofun))];show this,
  fun b u v e=>by
   have:=I.base.fc b u v e;have hb:b≠p:=fun z=>h0 u v (z ▸ e);rw[ag hb];show this,fun b ps e=>?_],I.loc,I.cell,by rw[ag (nn I.free)];show I.free,fun x c e=>by rw[ag (nn (I.eN x c e))];show I.eN x c e,fun q hq=>?_,fun b u e=>?_,I.len]
 ·let⟨m,e1⟩:=I.base.fK b ps e;show#[m,by rw[ag (qD e1 hp (by nofun))];show e1]
 ·let⟨e1,e2,r⟩:=I.pin q hq;show#[e1,by rw[ag (nn e2)];show e2,r]
 ·by_cases hb:b=p
  ·subst hb;rw[aw]at e;cases e;show hpo
  ·rw[ag hb]at e;show(I.aA b u e).gk (fun _ _ _ q=>q) (fun c q=>by rw[ag (qD q hp (by nofun))];show q) fun c xs q=>by rw[ag (qD q hp (by nofun))];show q
def  EC(t:TE):TE:=fun σ H Q=>∃ p kvs,H p=!.dK kvs/\t σ H fun v H'=>∃ o,H' p=!.cD o (.dK kvs)/\Q v (upd H' p (.dK kvs))
def abl{X:Cx}{e:Expr}{t:TE}(h:PE X e t):PE X e (EC t):=by
 intro π s σ H Q I ⟨p,kvs,hp,q⟩;show aD (h π s σ H _ I q) fun u s' #[v,H',I',r,o,ho,q']=>#[v,_,I'.Bu ho fun o' u' e=>?_,r,q'];have:=I.base.fc p o' u' e;rw[hp]at this;cases this
def Dv.Bu{X:Cx}{e:Expr}{t:TE}(h:QE X e t):QE X e (EC t):=#[abl h.h]
def  Ze:R2:=fun x y H Q=>match x,y with
 | .ref a,-b=>∃ kvs,H a=!.dK kvs/\H b=!.dK []/\Q (.bl (Bool.not kvs.isEmpty)) H
 | _,_=>False
def  B6:List V->Hp->VK->Prop:=fun xs H Q=>∃ p kvs,xs=[-p]/\H p=!.dK kvs/\Q (.int kvs.length) H
def VC{X:Cx}:cM X (.builtin "len") B6:=by
 intro π s σ H xs us Q I r h;let⟨p,kvs,rfl,hq,q⟩:=h;let⟨u,rfl,rx⟩:=vals1 r;cases rx;let⟨hz,hS,vs,rv,m⟩:kvs.length<=sizeLine/\(p == sysModules)=false/\∃ vs,KV kvs vs/\s.heap.DictOf (cY X.prog X.w) p vs:=I.aA p _ hq;have hl:vs.length=kvs.length:=by simpa using (KM List.length rv.keys).symm
 show call_len_dict hS m (by have hs:sizeLine=16777216:=Jao;omega) ?_;rw[hl];show#[.int kvs.length,H,I.tok _,#[_,rfl],q]
def  Bk(d:ϋ)(o:Obj)(u:HO)(ts:List Key):It :=
 #[fun i H=>H d=!.cD o u/\i < ts.length,fun i H x H'=>H'=H/\∃ t,ts[i]?=!t/\x=kV t,fun i H=>H d=!.cD o u/\ts.length<=i]
def So{P:ύ}{w:World}{K:ν}{tg:Expr}{d it:ϋ}{o:Obj}{u:HO}{ts:List Key}{es:Array DictEntry}{ep:Nat}(hx:o.ExactDict)(dY:o.data=.dict es ep)(hn:es.size=ts.length)(hk:∀ (i:Nat) (h:i < es.size),∃ t,ts[i]?=!t/\RelV (kV t) es[i].key) :
  Turn P w K tg (Bk d o u ts) [it] it (fun i h=>h.IsKeyIter it d i es.size ep) where
 mem:=()
 obj:=fun i h st b hb=>by
  have e:b=it:=by simpa using hb
  subst e;let⟨o,e,c,d⟩:=st;show#[o,e,fun v z=>by rw[d]at z;cases z]
 keep:=fun i h h' st k=>st.at fun o e=>k it () o e
 item:=by
  intro X hP hw hK hc i π s σ H E I hf st hg;subst hP hw hK;let⟨iJ,bS⟩:=hg;have ho:s.heap.get? d=!o:=(I.aA d _ iJ).1;let⟨f0,f1,f2,f3,f4,f5⟩:=hf it ();show wJ st #[o,ho,hx,dY] (fun hl h' st' sb=>?_) (fun gX=>absurd bS ∅);let⟨t,h1,h2⟩:=hk i hl;have I1:Inv X π σ H { s with heap:=h' }:=I.turned (t':=s.toks) (fun b o hb e=>(sb.2 b hb).trans e) f0 f1 f3 f4 f5;let⟨o',e,c,dd⟩:=id st';show#[_,rfl,xo (s:={ s with heap:=h' }) e c dd ⋯ #[kV t,H,I1,h2,#[rfl,t,h1,rfl],st',fun b hb=>(hf b hb).1]]
 done:=by
  intro X hP hw hK hc i π s σ H E I hf st hg;subst hP hw hK;let⟨iJ,bS⟩:=hg;have ho:s.heap.get? d=!o:=(I.aA d _ iJ).1;let⟨f0,f1,f2,f3,f4,f5⟩:=hf it ();show wJ st #[o,ho,hx,dY] (fun hl=>absurd bS ∅) (fun gX=>#[I.ok.hd hc,fun h' eb=>#[rfl,I.turned (t':=s.toks) (fun b o hb e=>eb b o hb e) f0 f1 f3 f4 f5]])
 self:=fun _ _ _ _ _ st h=>wpAny_pyIter_keyiter st h
def K3{P:ύ}{w:World}:∀ {es:List DictEntry}{vs:List (Key×ϊ)}{ts:List Key},Pairs (cY P w) es vs->vs.map (·.1)=ts->es.length=ts.length/\∀ (i:Nat) (h:i < es.length),∃ t,ts[i]?=!t/\RelV (kV t) es[i].key
 | [],_,ts,.nil,e=>by
  cases ts with
  | nil=>show#[rfl,fun i h=>absurd h (Nat.not_lt_zero _)]
  | cons=>cases e
 | e::es,(kv::vs),ts,.cons h1 h2 r,h=>by
  cases ts with
  | nil=>cases h
  | cons t ts =>
   let⟨hk,hr⟩:=List.cons.inj h;let⟨a,b⟩:=K3 r hr;show#[KM (· + 1) a,fun i hi=>?_];cases i with
   | zero =>
    have h1':md kv.1 e.key=true:=h1;rw[show kv.1=t from hk]at h1';show#[t,rfl,?_];rcases jw h1' with ⟨i,k,e1,e2⟩ | ⟨z,k,e1,e2⟩
    ·subst e1;show#[k,e2]
    ·subst e1;show#[k,e2]
   | succ i=>show b i (Nat.lt_of_succ_lt_succ hi)
section
variable {X:Cx}{tg:Expr}{π:List (ϋ×Obj)}{σ:St}{H:Hp}{s:ό}
def  E7(tl:TE):TI:=fun σ H R=>tl σ H fun x H1=>∃ d kvs,x=-d/\Rd H1 d (.dK kvs)/\∀ o,R (Bk d o (.dK kvs) (kvs.map (·.1))) (upd H1 d (.cD o (.dK kvs)))
def Zy{l:Expr}{tl:TE}(hl:PE X l tl):PI X tg l (E7 tl):=by
 intro π s σ H R I h;show aD (hl π s σ H _ I h) fun v s1 #[x,H1,I1,r1,q1]=>?_;let⟨d,kvs,rfl,hr,q⟩:=q1;cases r1;let⟨hz,hS,vs,rv,o,es,ep,ho,hx,dY,zJ,G2,vL⟩:=hr.ok I1.aA;have I2:=I1.freeze hr ho;let⟨hn,hi⟩:=K3 G2 rv.keys.symm;show EI hS #[o,ho,hx,dY] ?_;show#[s1.heap.objs.size,[s1.heap.objs.size],_,_,upd H1 d (.cD o (.dK kvs)),rfl,I2.kept (t':=s1.toks) fun b o e=>li _ e,So hx dY (by simpa using hn) (fun i h=>by have:=hi i (by simpa using h);rwa [Array.getElem_toList]at this),#[_,tz _ rfl,rfl,rfl],fun b hb=>?_,q o];have e:b=s1.heap.objs.size:=by simpa using hb
 subst e;show I2.yg (pi _) (I2.aA.fresh (pi _))
def Dv.aej{l:Expr}{tl:TE}(hl:QE X l tl):QI X tg l (E7 tl):=#[Zy hl.h]
end
def UP{d:ϋ}{o:Obj}{u:HO}{ts:List Key}{tt:TT}{te:TE}{H:Hp}{Q:VK}{vs:List V}(W:Hp->Prop)(w0:W H)(wd:∀ H1,W H1->H1 d=!.cD o u)(ht:∀ t∈ts,∀ H1,W H1->∀ R:Bool->Hp->Prop,(∀ H2,W H2->R false H2)->tt (some (kV t)::vs.map some) H1 R)(q:∀ H1 l,W H1->H1 l=none->Q (-l) (upd H1 l (.lst []))):oP (Bk d o u ts) 1 vs (fC 0) tt te Q H:=by
 show#[fun i zs k H1=>W H1/\zs=[]/\i<=ts.length/\k=ts.length - i,#[_,w0,rfl,At _,rfl],?_];rintro i zs k H1 ⟨hw,rfl,hi,rfl⟩;show#[At _,?_];by_cases h:i < ts.length
 ·show .inr #[#[wd _ hw,h],ju (),?_];rintro y H' ⟨rfl,t,h1,rfl⟩ σ0 hσ0;let⟨a,rfl⟩:=xj hσ0;show#[#[[!kV t],rfl,rfl],?_];show ht t (GM h1) _ hw _ fun H2 w2=>by
   rw[wP ⋯];show#[ts.length - (i+1),∅,w2,rfl,h,rfl]
 ·have e:i=ts.length:=∅
  subst e;show .inl #[#[wd _ hw,pi _],fun l hl=>q _ _ hw hl]
def  Mt(c:ϋ)(v:V):HO:=.ext fun h=>∃ u,RelV v u/\h.IsCell c (!u)
def  gp(D:List ϋ)(H H':Hp):Hp:=fun b=>if b∈D then H b else H' b
section
variable {P:ύ}{w:World}{K:ν}{mg:Str->Option ϊ}{base:Heap}{A:Around}{outer:List Env}{s s':ό}{H H':Hp}{D:List ϋ}
end
structure aeP(P:ύ)(w:World)(K:ν)(mg:Str->Option ϊ)(base:Heap)(k:Nat)(q:Str)(l:Lm)(W:List V->dU)(N':List Str):Prop where
 S:eU N' l.scope l.bV
 all:∀ x c,l.bV.lookup x=!c->x∈N'
 bind:∀ pm cd ct,bindArgs (PySem.W.kla_fn "<lambda>" q l.params l.body l.scope l.bV pm cd ct) #[[],[]]=pure []
 body:∀ (f:ϋ) (ah:ϊ) (vs:List V) (A:Around) (outer:List Env) (s:ό) (H:Hp) (Q:VK) (E:XK),bh k (A.deeper (PySem.W.envX q l.scope s.heap.objs.size f ah l.bV))->W vs H Q E ->
   ∃ t,PE (jA P w K mg base N' q l.scope f ah l.bV A outer s H E) l.body t/\t (vs.map some) H Q
structure aeN(q:Str)(l:Lm)(c:ϋ)(N':List Str)(vs:List V)(H:Hp)(f:ϋ):Prop where
 hf:H f=!Jh f q l c
 hc:H c=!lZ c q
 len:vs.length=N'.length
 on:∀ (i:Nat) (x:Str),N'[i]?=!x->∃ ci v,l.bV.lookup x=!ci/\vs[i]?=!v/\H ci=!Mt ci v
def  JR(l:Lm):List ϋ:=l.bV.filterMap fun p=>l.bV.lookup p.1
def  SPR(X:Cx)(π:List (ϋ×Obj))(R:St->VK)(f:Flow)(s':ό):Prop :=
 match f with
 | .ret u=>∃ v σ' H',Inv X π σ' H' s'/\RelV v u/\R σ' v H'
 | _=>False
abbrev TR:=(St->VK)->St->Hp->Prop
structure QR(X:Cx)(st:List Stmt)(t:TR):Prop where
 h:∀ (π:List (ϋ×Obj)) (s:ό) (σ:St) (H:Hp) (R:St->VK),Inv X π σ H s->t R σ H->wpAny (model X.prog X.w) X.A (execs st X.env) (SPR X π R) X.xe s
structure aeX(X:Cx)(σ:St)(H H'':Hp):Prop where
 off:∀ b,(∀ x,X.env.cells.lookup x≠!b)->H'' b=H b
 on:∀ (i:Nat) (x:Str) (v:V) (c:ϋ),X.N[i]?=!x->σ[i]?=!(!v)->X.env.scope.names.lookup x=!.cell->X.env.cells.lookup x=!c->H'' c=!Mt c v
 new:∀ x c,X.env.cells.lookup x=!c->H c=none
 has:∀ x,X.env.scope.names.lookup x=!.cell->∃ c,X.env.cells.lookup x=!c
def  yS:R2:=fun x y H Q=>match x,y with
 | .ref a,-b=>∃ kvs,H a=!.dK kvs/\H b=!.dK []/\Q (.bl kvs.isEmpty) H
 | _,_=>False
def ZH{X:Cx}(hu:X.A.units < cLine):aZ X (compareOp .Eq) yS:=by
 intro π s σ H x y v u Q I rx ry h;unfold yS at h;split at h
 ·rename_i a b;let⟨kvs,ha,hb,q⟩:=h;cases rx;cases ry;let⟨_,hS,vs,rv,m⟩:kvs.length<=sizeLine/\(a == sysModules)=false/\∃ vs,KV kvs vs/\s.heap.DictOf (cY X.prog X.w) a vs:=I.aA a _ ha;let⟨_,hS',vs',rv',m'⟩:([]:List (Key×V)).length<=sizeLine/\(b == sysModules)=false/\∃ vs,KV [] vs/\s.heap.DictOf (cY X.prog X.w) b vs:=I.aA b _ hb;cases rv';show W.keq_eq (r:=true) hS hS' m m' hu (fun e=>?_) #[.bl kvs.isEmpty,H,I,?_,q]
  ·obtain rfl:vs=[]:=Rs.mp e;show .nil
  ·have:=UI rv;cases vs <;> cases kvs <;> first | rfl | cases this
 ·show h.elim
section
variable {X:Cx}
def  Fp(te:TE):TE:=fun σ H Q=>te σ H fun x H1=>∃ d kvs,x=-d/\Rd H1 d (.dK kvs)/\∀ l,H1 l=none->Q (-l) (upd H1 l (.lst (kvs.map (·.2))))
def SM{o:Expr}{to:TE}{p apos bf pos:Pos}(hc:X.calm=true)(hg:Gl X "list")(hm:X.mg "list" = none)(ho:PE X o to)(gK:‹attributeBase o "values" X.env (eval o X.env)=eval o X.env›)(gG:‹(apos.endLine == bf.line)=true›) :
  PE X (.Call (.Name "list" p) [.Call (.Attribute o "values" apos) [] [] bf] [] pos) (Fp to):=by
 intro π s σ H Q I h;show FB (nI (u:=.type "list") I hg hm (by kernel_rfl) ?_);show Sc ?_;change wpAny _ _ (spliced ((false,eval (.Call (.Attribute o "values" apos) [] [] bf) X.env)::backTo pos (starEach [] X.env))) _ _ s;show On ?_;show wpAny_Call_method0_late gK gG (aD (ho π s σ H _ I h) fun v s1 #[x,H1,I1,r1,d,kvs,ex,hr,q]=>?_);subst ex;cases r1;let⟨hz,hS,vs,rv,dd⟩:=hr.ok I1.aA;let⟨ob,eb,ep,Pf,hx,dY,zJ,G2,vL⟩:=id dd;have pN:∀ h:Heap,h.get? d=!ob->h.DictAt (cY X.prog X.w) d vs ep:=fun h e=>#[ob,eb,e,hx,dY,zJ,G2,vL];show#["dict","dict.values",_o,PySem.F.slot_dict_values,PySem.F.type_dict_values,dd.typeIs,fun a e=>by cases e;show#[ob,Pf,hx.2.1],Op rfl (PySem.evalArgs_none ?_)];show call_meetsIn PySem.F.slot_dict_values dd.typeIs PySem.F.entry_dict_values (PySem.F.args_dict_values_1 _) (meets_dict_values (cY X.prog X.w) d hS) #[#[vs,dd],?_];show Pi ?_;have hlen:=rv.length;show W.kdl_call (W.kdl_values (prog:=X.prog) (w:=X.w) (knd:=cY X.prog X.w) (kvs:=vs) (ep:=ep) (d:=d)) (I1.ok.hd hc) #[#[_,tz _ rfl,rfl,rfl],pN _ (li _ Pf)] (by rw[<- hlen];show hz) fun h' tk acc c hk hD eK=>?_;have kp:∀ b o,s1.heap.get? b=!o->h'.get? b=!o:=fun b o e=>hk b o (li _ e);have hsz:s1.heap.objs.size<=(s1.heap.push { cls:=.type "dict_values",data:=.fields (List.toArray [-d]) }).objs.size:=by rw[Ty];show _T _
 have hv:Vals (kvs.map (·.2)) acc.toList:=by
  show wR (by rw[lv,hlen];show(eK.1.symm.trans LT.symm)) fun i v u h1 h2=>?_;let⟨k,hu⟩:=eK.2 i u (by rw[<- No];show h2);rw[xz]at h1;cases hy:kvs[i]? with
  | none=>rw[hy]at h1;cases h1
  | some y =>
   rw[hy]at h1;cases h1;show(Ff rv hy hu).2
 show#[-_,_,I1.laid (t':=tk) kp hsz (show bU X.prog X.w _ _ _ (.lst (kvs.map (·.2))) from#[by rw[lv];show hz,_,c,hv,by rw[_i];show hD]),rfl,q _ (I1.aA.fresh hsz)]
def Dv.VG{o:Expr}{to:TE}{p apos bf pos:Pos}(hc:X.calm=true)(hm:X.mg "list" = none)(ho:QE X o to)(hg:Gl X "list" := by rfl)(gK:‹attributeBase o "values" X.env (eval o X.env)=eval o X.env›)(gG:‹(apos.endLine == bf.line)=true›) :
  QE X (.Call (.Name "list" p) [.Call (.Attribute o "values" apos) [] [] bf] [] pos) (Fp to):=#[SM hc hg hm ho.h gK gG]
end
def OZ{K α:Type}[DecidableEq K]:∀ {xs:List (K×α)}{j:Nat}{k:K}{p:α},(xs.map (·.1)).Nodup->xs[j]?=!(k,p)->xs.eraseIdx j=xs.filter fun x=>decide (x.1≠k)
 | [],_,_,_,_,h=>by simp at h
 | x::r,0,k,p,nd,h=>by
  simp only[List.getElem?_cons_zero,_0]at h;subst h;rw[wS,Ch]at nd;rw[List.eraseIdx_cons_zero,XV,wP ()];show(List.filter_eq_self.mpr fun y hy=>?_).symm;have:y.1≠k:=fun e=>nd.1 (e ▸ _K (f:=(·.1)) hy)
  simpa using this
 | x::r,j+1,k,p,nd,h=>by
  rw[wS,Ch]at nd;rw[List.getElem?_cons_succ]at h;rw[List.eraseIdx_cons_succ,XV,xL,OZ nd.2 h];have:x.1≠k:=fun e=>nd.1 (e ▸ _K (f:=(·.1)) (GM h))
  simpa using this
def KI{α β:Type}(f:α->β):∀ (l:List α) (j:Nat),(l.map f).eraseIdx j=(l.eraseIdx j).map f
 | [],_=>rfl
 | _::_,0=>rfl
 | a::l,j+1=>KM (f a::·) (KI f l j)
section
variable {prog:ύ}{w:World}{K:Type}[DecidableEq K]{knd:HeapKind prog w K}{A:Around}{E:ϊ->ό->Prop}{s:ό}
def adv{d a:ϋ}{xs:List (K×ϋ×ϊ)}{k:K}{p:ϋ×ϊ}{Q:Option DictEntry->ό->Prop}(hu:knd.room A)(sy:knd.is s.heap k a)(hm:s.heap.DictOfH knd d xs)(hp:atKey xs k=!p)(hQ:∀ e h',e.val=p.2->h'.DictOfH knd d (xs.filter fun x=>decide (x.1≠k))->Heap.SameBut d s.heap h'->Q (!e) { s with heap:=h',toks:=s.toks+knd.draws k })(hsz:xs.length<=sizeLine) :
  wpAny (model prog w) A (Builtin.Dict.takeOut d (-a)) Q E s:=by
 let⟨o,es,ep,ho,hc,hd,he,Gi,hn⟩:=hm;unfold Builtin.Dict.takeOut
 try with_reducible show FM ?_
 show ii (knd.pyHash hu sy ?_);show ii (wpAny_dictFind_heap (s:={ s with toks:=s.toks+knd.draws k }) hu sy ho hd he Gi hn ?_ ?_)
 ·intro jK;rw[atKey_none_of_get jK]at hp;cases hp
 ·intro j q hj;rw[atKey_of_get hn hj]at hp;cases hp;show ii (_Z (s:={ s with toks:=s.toks+knd.draws k }) ho hd ?_);rw[entry_at he j,hj];have mv:es.size<=sizeLine:=by have e:=size_of_entries he;omega
  show ii (wpAny_updateDictKeys (hz:=mv) (s:={ s with toks:=s.toks+knd.draws k }) ho hd (pc (hQ _ _ rfl #[_,_,ep+1,P3 _ ho (Obj.isFreed_of_dict (Obj.data_mapDictKeys hd _)),hc.mapDictKeys _,Obj.data_mapDictKeys hd _,?_,?_,?_] (_J ..))))
  ·rw[<- OZ hn hj];let⟨l⟩:=es;have he':l=xs.map (entryOfKey knd):=he;subst he';simp[KI]
  ·intro x hx;show knd.keeps (Gi x (UV.mp hx).1) ho hd (_J ..)
  ·show List.Sublist.nodup (List.Sublist.map _ List.filter_sublist) hn
def adj{d a:ϋ}{xs:List (K×ϋ×ϊ)}{k:K}{p:ϋ×ϊ}{Q:ϊ->ό->Prop}(hu:knd.room A.in1)(sy:knd.is s.heap k a)(hm:s.heap.DictOfH knd d xs)(hp:atKey xs k=!p)(hQ:∀ h',h'.DictOfH knd d (xs.filter fun x=>decide (x.1≠k))->Heap.SameBut d s.heap h'->Q p.2 { s with heap:=h',toks:=s.toks+knd.draws k })(hsz:xs.length<=sizeLine) :
  wpAny (model prog w) A (call (.builtin "dict.pop") [-d,-a]) Q E s:=by
 show _r _x hm.typeIs PySem.F.entry_dict_pop ?_ (PySem.F.args_dict_pop_2 _ _);unfold Builtin.«dict.pop»;show ii ?_;unfold Builtin.Dict.keyAndDefault;show ii (wpAny_notOrdered_dict hm.typeIs ?_);change wpAny _ _ (pure (d,ϊ.ref a,none)) _ _ s;show pc ?_;have zJ:(keyPart (ϊ.ref a)).isSome=false:=rfl;simp only[zJ,Ev,TD];let⟨o,es,ep,ho,hc,hd,he,Gi,hn⟩:=id hm;show ii (_Z ho hd ?_);show ii (pc ?_);have cL:es.isEmpty=false:=by
  cases xs with
  | nil=>cases hp
  | cons x r =>
   let⟨l⟩:=es;cases l with
   | nil=>simp at he
   | cons y l=>rfl
 rw[wP (by rw[cL];nofun)];show ii (adv hu sy hm hp (fun e h' hv hm' hs'=>?_) hsz);simp only[Option.isNone_some,Ev,TD];show ii (wpAny_letGo (pc #[e.val,rfl,by rw[hv];show hQ h' hm' hs']))
end
def KT.drop{H:Hp}{kvs:List (List Key×V)}{xs:List (List Key×ϋ×ϊ)}(r:KT H kvs xs)(k:List Key):KT H (fw kvs k) (xs.filter fun x=>decide (x.1≠k)):=by
 unfold KT at r ⊢;unfold fw
 induction r with
 | nil=>show .nil
 | @cons p q ps qs h t ih =>
  rw[XV,XV];by_cases e:p.1=k
  ·rw[wP (by simp[e]),wP (by simp[<- h.1,e])];show ih
  ·rw[xL (by simp[e]),xL (by simp[<- h.1,e])];show .cons h ih
section
variable {X:Cx}{o e:Expr}{apos bf:Pos}{td ty:TE}
def  Bz(td ty:TE):TE:=fun σ H Q=>td σ H fun x H1=>∃ a,x=-a/\xO H1 a/\ty σ H1 fun y H2=>∃ kvs k v b,H2 a=!.dT kvs/\y=-b/\H2 b=!.tup (k.map kV)/\aH kvs k=!v/\Q v (upd H2 a (.dT (fw kvs k)))
def acI(hu:X.A.units+1 < cLine)(ho:PE X o td)(he:PE X e ty)(m:M1 X o "pop" apos e bf):PE X (.Call (.Attribute o "pop" apos) [e] [] bf) (Bz td ty):=by
 intro π s σ H Q I h;show wpAny_Call_method m.base m.zg m.line _o _x PySem.F.type_dict_pop (aD (ho π s σ H _ I h) fun u s1 #[x,H1,I1,rx,a,ex,d,q1]=>?_);subst ex;obtain rfl:u=ϊ.ref a:=rx;let⟨t1,t2,_⟩:=Ed I1 d;show#[t1,t2,?_];rw[m.trees];show Op rfl (TW (On (aD (he π s1 σ H1 _ I1 q1) fun iv s2 #[y,H2,I2,ry,kvs,k,v,b,ea,ey,eb,l,q2]=>Pi ?_)));subst ey;cases (show iv=ϊ.ref b from ry);let⟨z,hd,xs,rel,dd⟩:=Mv I2.aA ea;have hz:xs.length<=sizeLine:=by rw[<- Jap rel];show z
 let⟨w',hw,rw'⟩:=eA.some_of (v:=v) (o:=(atKey xs k).map (·.2)) (by rw[<- l];show rel.val k);let⟨p,hp,rfl⟩:∃ p,atKey xs k=!p/\p.2=w':=by
  cases hq:atKey xs k with
  | none=>rw[hq]at hw;cases hw
  | some p=>rw[hq]at hw;cases hw;show#[p,rfl,rfl]
 show adj (_b hu) (o9 I2.aA eb) dd hp (fun h' dd' hs=>#[v,_,?_,rw',q2]) hz;let⟨q,es,ep,hq,h2,h3,h4,_,h5⟩:=dd';show yA I2 (by rw[ea];show True.intro) hs #[q,hq] #[wE (IL kvs k) z,hd,_,(rel.drop k).keeps fun c ys ec=>?_,q,es,ep,hq,h2,h3,h4,h5];rw[ag (qD ec ea (fun z=>nomatch z))];show ec
def Dv.aai(hu:X.A.units+1 < cLine)(ho:QE X o td)(he:QE X e ty)(m1:M1 X o "pop" apos e bf:=by show#[rfl,rfl,rfl,rfl]):QE X (.Call (.Attribute o "pop" apos) [e] [] bf) (Bz td ty):=#[acI hu ho.h he.h m1]
end
open PySem.MeetsSeq PySem.SeqAt
def WB(l b:ϋ)(items items2:Array ϊ)(n n2:Nat)(dd GP:Option ϋ)(sl HN:Array (Option ϊ))(g1:0 < items.size)(g2:0 < items2.size) :
  Meets (Builtin.«tuple.__eq__» #[[-l,-b],[]])
   (fun A R s=>s.heap.get? l=!{ cls:=.type "tuple",dict:=dd,data:=.seq items n,slots:=sl }/\s.heap.get? b=!{ cls:=.type "tuple",dict:=GP,data:=.seq items2 n2,slots:=HN } /\
    EqAt A.in1 s items[0] items2[0] false/\R (.ok (.ret (.bool false))) s) :=
 .of_wp fun prog w A R s h=>by
  let⟨hp,g,d,tk,os⟩:=s;let⟨hl,hb,he,h⟩:=h;have f2:=AutoSeq1.sub_tuple_tuple;have hZ:(items.toList.zip items2.toList).length=min items.size items2.size:=()
  have bS:0 < (items.toList.zip items2.toList).length:=by rw[hZ];omega
  wp_walk using wpAny_loadPart' hl,wpAny_loadPart' hb,wpAny_forIn_list _ (fun rest b s'=>b.1=none/\s'=#[hp,g,d,tk,os]/\rest=items.toList.zip items2.toList) _
  case turn =>
   rintro⟨y,x⟩ rest b s' ⟨hb',rfl,hz⟩;rw[show items.toList.zip items2.toList=(items.toList.zip items2.toList).drop 0 from rfl,List.drop_eq_getElem_cons bS]at hz;injection hz with wj dW;have hy:y=items[0]:=by have:=KM Prod.fst wj;simpa using this
   have hx:x=items2[0]:=by have:=KM Prod.snd wj;simpa using this
   subst hy hx;show ii (he prog w _ _ ?_)
   wp_walk
   show#[_,rfl,by simpa using h]
  case fin =>
   rintro⟨b1,b2⟩ s' ⟨hb',rfl,hz⟩;rw[<- hz]at bS;show absurd bS ()
  case h =>
   show#[rfl,rfl,rfl]
def Xp{A:Around}{s:ό}{l b:ϋ}{items items2:Array ϊ}(hl:s.heap.IsTuple l items)(hb:s.heap.IsTuple b items2)(hu:A.units < cLine)(g1:0 < items.size)(g2:0 < items2.size)(he:EqAt A.in1 s items[0] items2[0] false):RcAt A s (-l) (-b) false:=fun prog w E Q h=>by
 let⟨⟨cls,dd,data,sl⟩,ho,hc,n,hd⟩:=id hl;let⟨⟨cls2,GP,data2,HN⟩,Rj,sQ,n2,hd2⟩:=id hb;simp only at hc hd sQ hd2;subst hc hd sQ hd2;show richCompare_meets_room (op:=.Eq) #[_,ho,rfl] #[_,Rj,rfl] F.slot_tuple_eq F.entry_tuple_eq (F.args_tuple_eq_2 _ _) (WB l b items items2 n n2 dd GP sl HN g1 g2)
  #[ho,Rj,he,show ϊ.bool false≠ϊ.notImplemented/\Q (.bool false) s from#[(fun x=>nomatch x),h]] hu
section
variable {X:Cx}
def  Yn(K:ν)(n:Nat):R2:=fun x y H Q=>rp K n x y H Q\/∃ a b xs ys u v,x=-a/\y=-b/\H a=!.tup (.str u::xs)/\H b=!.tup (.str v::ys)/\u≠v/\Q (.bl false) H
def U8{K:ν}(n:Nat)(hK:X.K=K)(hu:X.A.units+(n+1) < cLine):aZ X (compareOp .Eq) (Yn K n):=by
 intro π s σ H x y v u Q I rx ry h;rcases h with h | ⟨a,b,xs,ys,u',v',rfl,rfl,ha,hb,cL,q⟩
 ·show qO n hK hu π s σ H x y v u Q I rx ry h
 ·cases rx;cases ry;let⟨i1,r1,t1,_⟩:=I.tuple (bH.of ha);let⟨i2,r2,t2,_⟩:=I.tuple (bH.of hb);cases r1 with
  | cons h1 _ =>
   cases r2 with
   | cons h2 _ =>
    let⟨k1,rfl⟩:=h1;let⟨k2,rfl⟩:=h2;show Xp t1 t2 ∅ () () ?_ _ _ _ _ #[.bl false,H,I,rfl,q];have:=EqAt.str_str (A:=X.A.in1) (s:=s) u' k1 v' k2;rw[Do.mpr cL]at this;show this
end
end L2
set_option maxHeartbeats 0
namespace L2.bX
open PySem PySem.Spec PyProof.Rows
local macro_rules | `(tactic| walk_at "s")=>`(tactic| exact#[rfl,rfl,rfl,by decide +kernel,rfl,by decide +kernel,by decide +kernel])
abbrev e_(N:List Str)(s:Stmt):Prop:=aC N N (ax s)
abbrev _root_.L2.FT.k{K:ν}{mg:Str->Option ϊ}{a b:Str}{st:Stmt}{ps:List Str}(t:FT K mg a b st ps)(P:ύ)(w:World)(base:Heap)(n:Nat)(q:Sp):Prop:=aB P w K mg base aN n t.f t.d ps q
abbrev _root_.L2.MT.k{K:ν}{C:ϋ}{a b:Str}{st:Stmt}{ps:List Str}(t:MT K C a b st ps)(P:ύ)(w:World)(mg:Str->Option ϊ)(base:Heap)(n:Nat)(q:Sp):Prop:=aB P w K mg base aN n t.f t.d ps q
def  top(i:Nat):Stmt:=PySem.Challenge.pw_leadnames_k61_files_held.main.body.getD i (.Pass #[0,0,0,0])
abbrev LM:=top 13
abbrev Kn:=top 14
abbrev Mo:=top 15
abbrev D7:=top 16
abbrev KR:=top 26
abbrev M4:=top 27
abbrev J8:=top 28
abbrev Om:=top 29
abbrev N8:=top 30
abbrev Ny:=top 31
abbrev J1:=top 32
abbrev LO:=top 33
abbrev IU:=top 34
abbrev Oa:=top 35
abbrev AV:=top 36
abbrev Dn:=top 50
abbrev FD:=top 51
abbrev Ez:=top 52
abbrev Ao:=top 53
abbrev ui:=top 54
abbrev Fx:=top 57
abbrev AJ:=top 58
abbrev Dh:=top 59
abbrev D2:=top 60
abbrev Nh:=top 61
abbrev CI:=top 62
abbrev CZ:=top 63
abbrev Eg:=top 64
abbrev BL:=top 65
abbrev C9:=top 66
abbrev Ek:=top 67
abbrev Cg:=top 68
abbrev C8:=top 69
abbrev Cd:=top 70
abbrev rJ:=top 71
abbrev qp:=top 72
abbrev ET:=top 73
abbrev Az:=top 74
abbrev AO:=top 75
abbrev Fw:=top 76
abbrev Fe:=top 79
abbrev EB:=top 80
abbrev FF:=top 81
abbrev Er:=top 82
abbrev Eo:=top 83
abbrev Fc:=top 84
abbrev Eh:=top 85
abbrev DO:=top 86
abbrev IK:=top 91
abbrev NM:=top 92
abbrev OQ:=top 93
abbrev BK:=top 94
abbrev Ei:=top 95
abbrev BN:=top 96
abbrev Ds:=top 97
abbrev kK:=top 98
abbrev Df:=top 99
abbrev EG:=top 100
abbrev rR:=top 101
abbrev kQ:=top 102
abbrev ky:=top 103
abbrev vE:=top 104
def aaH:e_ ["house","folder"] LM:=#[]
def B3:aC ["house","folder","base"] ["house","folder"] (ax Kn):=#[]
def Kb:aC ["house","folder","stack"] ["house","folder"] (ax Mo):=#[]
def oH:aC ["house","asker","folder","root","here","stack","place"] ["house","asker","folder"] (ax D7):=#[]
def acf:e_ ["number"] KR:=#[]
def Sf:e_ ["text"] M4:=#[]
def aax:e_ ["text"] J8:=#[]
def acg:e_ ["text"] Om:=#[]
def Ur:e_ ["text"] N8:=#[]
def MX:aC ["path","parts"] ["path"] (ax Ny):=#[]
def Xh:e_ ["text"] J1:=#[]
def acd:e_ ["text"] LO:=#[]
def aaL:e_ ["text"] IU:=#[]
def T9:e_ ["text"] Oa:=#[]
def XO:e_ ["path"] AV:=#[]
def qG:aC ["house","asker","folder","root","names","stack","place"] ["house","asker","folder"] (ax Dn):=#[]
def JC:aC ["leads","first"] ["leads"] (ax FD):=#[]
def Iz:aC ["house","asker","from_root","parts","last","ended"] ["house","asker","from_root","parts","last"] (ax Ez):=#[]
def NO:aC ["house","asker","path","last","read"] ["house","asker","path","last"] (ax Ao):=#[]
def S2:e_ ["house","asker","path","last"] ui:=#[]
def Kl:aC ["path","parts"] ["path"] (ax Fx):=#[]
def Em:aC ["house","asker","path","asked","ended"] ["house","asker","path"] (ax AJ):=#[]
def WC:e_ ["house","seat"] Dh:=#[]
def YE:e_ ["told"] D2:=#[]
def acY:e_ ["house","number"] Nh:=#[]
def RX:e_ ["house","asker","path"] CI:=#[]
def MH:aC ["house","asker","path","number"] ["house","asker","path"] (ax CZ):=#[]
def aa6:e_ ["house","asker","number","right","reason"] Eg:=#[]
def abX:e_ ["house","asker","folder"] BL:=#[]
def UD:e_ ["house","seat"] C9:=#[]
def XT:e_ ["house","number"] Ek:=#[]
def T1:e_ ["house","number"] Cg:=#[]
def J6:aC ["house","asker","path","seat"] ["house","asker","path"] (ax C8):=#[]
def Uc:e_ ["house","seat","number"] Cd:=#[]
def KS:aC ["house","asker","path","mine","rest","seat"] ["house","asker","path","mine","rest"] (ax rJ):=#[]
def K0:aC ["house","asker","path","text","mine","rest","seat"] ["house","asker","path","text","mine","rest"] (ax qp):=#[]
def O3:aC ["house","asker","path","lead","seat"] ["house","asker","path","lead"] (ax ET):=#[]
def D4:aC ["house","asker","path","seat","number"] ["house","asker","path"] (ax Az):=#[]
def Nt:aC ["house","asker","path","mine","rest","number"] ["house","asker","path","mine","rest"] (ax AO):=#[]
def MS:aC ["house","asker","path","text","number"] ["house","asker","path","text"] (ax Fw):=#[]
def L9:aC ["house","asker","path","rights","thing"] ["house","asker","path","rights"] (ax Fe):=#[]
def aeD:e_ ["house","number"] EB:=#[]
def OV:aC ["house","number","held"] ["house","number"] (ax FF):=#[]
def K5:aC ["house","number","text","held"] ["house","number","text"] (ax Er):=#[]
def TL:e_ ["house","number"] Eo:=#[]
def Vw:e_ ["house","number"] Fc:=#[]
def ad0:e_ ["house","number"] Eh:=#[]
def Z1:e_ ["house"] DO:=#[]
def Bg:aC ["_law_cell","_law_k","_law_number"] ["_law_cell","_law_k"] (ax IK):=#[]
def aeE:e_ ["_law_cell"] NM:=#[]
def Jp:aC ["_law_source_here","_law_size","_law_found"] ["_law_source_here","_law_size"] (ax OQ):=#[]
def Sw:e_ ["_law_source_here"] BK:=#[]
def vz:aC ["_law_source_here","_law_most","_law_many","_law_parts","_law_joint","_law_text"] ["_law_source_here","_law_most"] (ax Ei):=#[]
def lK:aC ["_law_ask","_law_found","e"] ["_law_ask"] (ax BN):=#[]
def aeL:e_ ["_law_told_here"] Ds:=#[]
def mV:aC ["_law_house","_law_cell","_law_source_here","_law_asker","_law_path_here","_law_way","_law_lead","_law_mine","_law_rest"] ["_law_house","_law_cell"] (ax kK):=#[]
def ac5:e_ ["_law_found","_law_due_here"] Df:=#[]
def Im:aC ["_law_house","_law_asker","_law_path_here","_law_rights","_law_number","_law_told_here"] ["_law_house","_law_asker","_law_path_here","_law_rights","_law_number"] (ax EG):=#[]
def zf:aC ["_law_house","_law_kept","_law_count","_law_asker","_law_path_here","_law_rights","_law_due_here","_law_told_here","_law_found"] ["_law_house","_law_kept","_law_count","_law_asker","_law_path_here","_law_rights"] (ax rR):=#[]
def uf:aC ["_law_house","_law_kept","_law_texts","_law_held_here","_law_way","_law_text","_law_number","_law_rights","_law_found"] ["_law_house","_law_kept","_law_texts","_law_held_here","_law_way","_law_text"] (ax kQ):=#[]
def Ko:aC ["_law_house","_law_texts","_law_asker","_law_path_here","_law_way","_law_text","_law_told_here"] ["_law_house","_law_texts","_law_asker","_law_path_here","_law_way","_law_text"] (ax ky):=#[]
def gn:aC ["_law_script","_law_house","_law_cell","_law_texts","_law_kept","_law_count","_law_source_here","_law_asker","_law_path_here","_law_way","_law_text","_law_rights","_law_held_here","_law_told_here"] ["_law_script"] (ax vE):=#[]
abbrev Nf:=inClass (top 10) 0
def VR:e_ ["self","told"] Nf:=#[]
abbrev LA:=inClass (top 11) 0
def Zl:e_ ["self","reason"] LA:=#[]
abbrev IV:=inClass (top 41) 0
def Uy:e_ ["self","number","kind","owner","mine","rest","text"] IV:=#[]
abbrev JY:=inClass (top 41) 1
def adG:e_ ["self","asker"] JY:=#[]
abbrev OF:=inClass (top 42) 0
def RZ:e_ ["self"] OF:=#[]
abbrev K6:=inClass (top 42) 1
def Mc:aC ["self","kind","owner","mine","rest","text","number"] ["self","kind","owner","mine","rest","text"] (ax K6):=#[]
abbrev NW:=inClass (top 42) 2
def ad4:e_ ["self","owner","mine","rest"] NW:=#[]
abbrev MN:=inClass (top 42) 3
def US:e_ ["self","owner","text","mine","rest"] MN:=#[]
abbrev Na:=inClass (top 42) 4
def Vn:e_ ["self","owner","path"] Na:=#[]
abbrev Ji:=inClass (top 42) 5
def SW:e_ ["self"] Ji:=#[]
abbrev Ln:=inClass (top 42) 6
def abt:e_ ["self","number"] Ln:=#[]
abbrev Mh:=inClass (top 42) 7
def XM:e_ ["self","folder","name"] Mh:=#[]
abbrev Le:=inClass (top 42) 8
def V4:e_ ["self","number"] Le:=#[]
abbrev OJ:=inClass (top 42) 10
def YJ:e_ ["self","number"] OJ:=#[]
abbrev Jn:=inClass (top 42) 11
def Lr:aC ["self","number","mine","rest","thing"] ["self","number","mine","rest"] (ax Jn):=#[]
abbrev DV:=inClass (top 42) 12
def Ms:aC ["self","number","text","thing"] ["self","number","text"] (ax DV):=#[]
abbrev Nw:=inClass (top 42) 13
def wA:aC ["self","folder","name","number","thing","former","known"] ["self","folder","name","number"] (ax Nw):=#[]
abbrev BM:=inClass (top 42) 14
def LP:aC ["self","folder","name","number"] ["self","folder","name"] (ax BM):=#[]
abbrev Ik:=inClass (top 46) 0
def aaU:e_ ["self","number","way"] Ik:=#[]
abbrev KY:=inClass (top 47) 0
def RP:e_ ["self","step","reason"] KY:=#[]
abbrev Fm:=inClass (top 48) 0
def XB:e_ ["self","leads"] Fm:=#[]
abbrev BO:=inClass (top 49) 0
def UH:e_ ["self","house","asker","last"] BO:=#[]
abbrev FH:=inClass (top 49) 1
def Iw:aC ["self","from_root","parts","start"] ["self","from_root","parts"] (ax FH):=#[]
abbrev Et:=inClass (top 49) 2
def Kw:aC ["self","part"] ["self"] (ax Et):=#[]
abbrev E8:=inClass (top 49) 3
def adx:e_ ["self","reason"] E8:=#[]
abbrev El:=inClass (top 49) 4
def aex:e_ ["self","part"] El:=#[]
abbrev Aw:=inClass (top 49) 5
def J2:aC ["self","stack"] ["self"] (ax Aw):=#[]
abbrev BZ:=inClass (top 49) 6
def D8:aC ["self","name","number","kind"] ["self","name"] (ax BZ):=#[]
abbrev EH:=inClass (top 49) 7
def aeH:e_ ["self","number"] EH:=#[]
abbrev Fo:=inClass (top 49) 8
def LB:aC ["self","number","read"] ["self","number"] (ax Fo):=#[]
abbrev CV:=inClass (top 49) 9
def tD:aC ["self","names","folder"] ["self"] (ax CV):=#[]
abbrev MM:=inClass (top 56) 0
def aeu:e_ ["self","folder","name"] MM:=#[]
abbrev NK:=inClass (top 78) 0
def Y5:e_ ["self","thing","rights"] NK:=#[]
abbrev KO:=inClass (top 89) 0
def VI:e_ ["self","owner"] KO:=#[]
abbrev LZ:=inClass (top 89) 1
def abI:e_ ["self","name"] LZ:=#[]
abbrev KG:=inClass (top 89) 4
def Rt:e_ ["self","asker"] KG:=#[]
abbrev Io:=inClass (top 89) 5
def abN:e_ ["self","asker"] Io:=#[]
abbrev JM:=inClass (top 89) 6
def acN:e_ ["self","number"] JM:=#[]
abbrev Ma:=inClass (top 89) 7
def aaF:e_ ["self","number"] Ma:=#[]
abbrev Nx:=inClass (top 89) 9
def W5:e_ ["self"] Nx:=#[]
abbrev KL:=inClass (top 89) 10
def abk:e_ ["self","number","name"] KL:=#[]
abbrev ML:=inClass (top 89) 11
def Yo:e_ ["self","number"] ML:=#[]
abbrev Nr:=inClass (top 89) 12
def adp:e_ ["self","number"] Nr:=#[]
abbrev Mj:=inClass (top 89) 13
def SH:e_ ["self","number"] Mj:=#[]
abbrev J0:=inClass (top 89) 17
def Wf:e_ ["self","asker","number","right"] J0:=#[]
abbrev Bc:=inClass (top 89) 18
def Xd:e_ ["self","number"] Bc:=#[]
abbrev DR:=inClass (top 89) 21
def Zo:e_ ["self","number"] DR:=#[]
abbrev Mg:=inClass (top 89) 23
def Wy:e_ ["self","asker"] Mg:=#[]
abbrev Of:=inClass (top 89) 25
def VD:e_ ["self","number"] Of:=#[]
abbrev JK:=inClass (top 89) 26
def aeo:e_ ["self","name"] JK:=#[]
abbrev OI:=inClass (top 89) 27
def Vd:e_ ["self","asker","folder"] OI:=#[]
abbrev Lv:=inClass (top 89) 28
def aei:e_ ["self","asker","folder"] Lv:=#[]
abbrev LD:=inClass (top 89) 29
def IG:aC ["self","tree","owner","root"] ["self","tree","owner"] (ax LD):=#[]
abbrev Av:=inClass (top 89) 32
def Jb:aC ["self","held","number"] ["self","held"] (ax Av):=#[]
abbrev Fi:=inClass (top 89) 33
def Z3:e_ ["self","number"] Fi:=#[]
set_option genInjectivity false in
set_option genSizeOf false in
structure Tx(K:ν)(mg:Str->Option ϊ) where
 gr:FT K mg "top_of" "top_of" LM ["house","folder"]
 qB:FT K mg "base_of" "base_of" Kn ["house","folder"]
 et:FT K mg "stack_of" "stack_of" Mo ["house","folder"]
 qe:FT K mg "is_seen" "is_seen" D7 ["house","asker","folder"]
 iM:FT K mg "is_whole" "is_whole" KR ["number"]
 ji:FT K mg "is_name" "is_name" M4 ["text"]
 qu:FT K mg "is_rights" "is_rights" J8 ["text"]
 rT:FT K mg "is_text" "is_text" Om ["text"]
 qE:FT K mg "is_part" "is_part" N8 ["text"]
 cz:FT K mg "parts_of" "parts_of" Ny ["path"]
 iL:FT K mg "check_name" "check_name" J1 ["text"]
 dJ:FT K mg "check_rights" "check_rights" LO ["text"]
 rf:FT K mg "check_one_right" "check_one_right" IU ["text"]
 je:FT K mg "check_text" "check_text" Oa ["text"]
 rF:FT K mg "check_lead" "check_lead" AV ["path"]
 qY:FT K mg "names_to" "names_to" Dn ["house","asker","folder"]
 sd:FT K mg "from_least" "from_least" FD ["leads"]
 lY:FT K mg "walk_parts" "walk_parts" Ez ["house","asker","from_root","parts","last"]
 qr:FT K mg "walk_path" "walk_path" Ao ["house","asker","path","last"]
 {HH:ϋ}
 {zy:FuncData}
 oX:m6 K "walk" "walk" ui HH zy [.bool true]
 zj:mg "walk" = !-HH
 Jw:Binds K zy ["house","asker","path","last"] []
 rL:Binds K zy ["house","asker","path","last"] [.bool true]
 rA:FT K mg "check_seat" "check_seat" Fx ["path"]
 l7:FT K mg "seat_of" "seat_of" AJ ["house","asker","path"]
 lS:FT K mg "thing_at" "thing_at" Dh ["house","seat"]
 lP:FT K mg "number_found" "number_found" D2 ["told"]
 mj:FT K mg "is_folder" "is_folder" Nh ["house","number"]
 l9:FT K mg "find_any" "find_any" CI ["house","asker","path"]
 lO:FT K mg "find_file" "find_file" CZ ["house","asker","path"]
 gg:FT K mg "check_may" "check_may" Eg ["house","asker","number","right","reason"]
 lV:FT K mg "check_kept" "check_kept" BL ["house","asker","folder"]
 qC:FT K mg "check_free" "check_free" C9 ["house","seat"]
 rn:FT K mg "check_uncovered" "check_uncovered" Ek ["house","number"]
 se:FT K mg "check_may_go_missing" "check_may_go_missing" Cg ["house","number"]
 iV:FT K mg "free_seat_of" "free_seat_of" C8 ["house","asker","path"]
 i9:FT K mg "seat_thing" "seat_thing" Cd ["house","seat","number"]
 {HE:ϋ}
 {wt:FuncData}
 {PL:Tok}
 {G4:Tok}
 xG:m6 K "make_folder" "make_folder" rJ HE wt [.str "lgw" PL,.str "" G4]
 XQ:mg "make_folder" = !-HE
 En:Binds K wt ["house","asker","path","mine","rest"] []
 Ol:Binds K wt ["house","asker","path","mine","rest"] [.str "" G4]
 MK:Binds K wt ["house","asker","path","mine","rest"] [.str "lgw" PL,.str "" G4]
 {Gu:ϋ}
 {wm:FuncData}
 {Pg:Tok}
 {FP:Tok}
 xy:m6 K "make_file" "make_file" qp Gu wm [.str "lgw" Pg,.str "" FP]
 Yu:mg "make_file" = !-Gu
 Ey:Binds K wm ["house","asker","path","text","mine","rest"] []
 Oc:Binds K wm ["house","asker","path","text","mine","rest"] [.str "" FP]
 Mp:Binds K wm ["house","asker","path","text","mine","rest"] [.str "lgw" Pg,.str "" FP]
 qK:FT K mg "make_lead" "make_lead" ET ["house","asker","path","lead"]
 qT:FT K mg "drop" "drop" Az ["house","asker","path"]
 qh:FT K mg "set_rights" "set_rights" AO ["house","asker","path","mine","rest"]
 rH:FT K mg "write" "write" Fw ["house","asker","path","text"]
 qf:FT K mg "hold" "hold" Fe ["house","asker","path","rights"]
 ff:FT K mg "hold_at" "hold_at" EB ["house","number"]
 qH:FT K mg "read_held" "read_held" FF ["house","number"]
 qi:FT K mg "write_held" "write_held" Er ["house","number","text"]
 lU:FT K mg "thing_held" "thing_held" Eo ["house","number"]
 lX:FT K mg "rights_held" "rights_held" Fc ["house","number"]
 qo:FT K mg "let_go" "let_go" Eh ["house","number"]
 qI:FT K mg "holds" "holds" DO ["house"]
 rD:FT K mg "_law_mixed" "_law_mixed" IK ["_law_cell","_law_k"]
 lC:FT K mg "_law_source" "_law_source" NM ["_law_cell"]
 bN:FT K mg "_law_next" "_law_next" OQ ["_law_source_here","_law_size"]
 qU:FT K mg "_law_word" "_law_word" BK ["_law_source_here"]
 iZ:FT K mg "_law_path" "_law_path" Ei ["_law_source_here","_law_most"]
 cI:FT K mg "_law_asked" "_law_asked" BN ["_law_ask"]
 lJ:FT K mg "_law_told" "_law_told" Ds ["_law_told_here"]
 {HX:ϋ}
 {zx:FuncData}
 wL:eW K "_law_built" "_law_built" kK HX zx
 abE:mg "_law_built" = !-HX
 BE:Binds K zx ["_law_house","_law_cell"] []
 r6:FT K mg "_law_same" "_law_same" Df ["_law_found","_law_due_here"]
 qV:FT K mg "_law_due" "_law_due" EG ["_law_house","_law_asker","_law_path_here","_law_rights","_law_number"]
 {Gp:ϋ}
 {Ab:FuncData}
 zm:eW K "_law_held" "_law_held" rR Gp Ab
 adf:mg "_law_held" = !-Gp
 Cu:Binds K Ab ["_law_house","_law_kept","_law_count","_law_asker","_law_path_here","_law_rights"] []
 {Gk:ϋ}
 {Am:FuncData}
 xJ:eW K "_law_used" "_law_used" kQ Gk Am
 ac2:mg "_law_used" = !-Gk
 EV:Binds K Am ["_law_house","_law_kept","_law_texts","_law_held_here","_law_way","_law_text"] []
 {Gm:ϋ}
 {Af:FuncData}
 yI:eW K "_law_stirred" "_law_stirred" ky Gm Af
 WL:mg "_law_stirred" = !-Gm
 CM:Binds K Af ["_law_house","_law_texts","_law_asker","_law_path_here","_law_way","_law_text"] []
 {Gj:ϋ}
 {Ae:FuncData}
 xV:eW K "law" "law" vE Gj Ae
 Yb:mg "law" = !-Gj
 NJ:Binds K Ae ["_law_script"] []
 {GY:ϋ}
 Vv:mg "DOTS" = !-GY
 C7:∀ H:Hp,bH K H GY [.str ".",.str ".."]
 {t_FILE:Tok}
 Br:mg "FILE" = !.str "file" t_FILE
 {t_FIRST_TREE:Tok}
 adq:mg "FIRST_TREE" = !.str "main" t_FIRST_TREE
 {t_FOLDER:Tok}
 uH:mg "FOLDER" = !.str "folder" t_FOLDER
 {eJ:ϋ}
 N7:mg "Failed" = !-eJ
 {dX:ϋ}
 xT:mg "Found" = !-dX
 {ck:ϋ}
 adM:mg "Hold" = !-ck
 {aK:ϋ}
 Rw:mg "House" = !-aK
 {t_LEAD:Tok}
 V2:mg "LEAD" = !.str "lead" t_LEAD
 {t_LETTERS:Tok}
 Ti:mg "LETTERS" = !.str "abcdefghijklmnopqrstuvwxyz" t_LETTERS
 {F9:ϋ}
 Y6:mg "LeadError" = !-F9
 {t_MOST_IN_LEAD:Tok}
 aeK:mg "MOST_IN_LEAD" = !.int 120 t_MOST_IN_LEAD
 {t_MOST_IN_NAME:Tok}
 W3:mg "MOST_IN_NAME" = !.int 8 t_MOST_IN_NAME
 {t_MOST_IN_PATH:Tok}
 YR:mg "MOST_IN_PATH" = !.int 2000 t_MOST_IN_PATH
 {t_MOST_IN_TEXT:Tok}
 R6:mg "MOST_IN_TEXT" = !.int 60 t_MOST_IN_TEXT
 {t_MOST_LEADS:Tok}
 ac3:mg "MOST_LEADS" = !.int 40 t_MOST_LEADS
 {sN:ϋ}
 abR:mg "NoAsker" = !-sN
 {fk:ϋ}
 iU:mg "NoDeed" = !-fk
 {Rb:ϋ}
 UU:mg "NoHold" = !-Rb
 {vW:ϋ}
 Wa:mg "NoRights" = !-vW
 {sJ:ϋ}
 abg:mg "NoThing" = !-sJ
 {fo:ϋ}
 MB:mg "NoWay" = !-fo
 {HF:ϋ}
 VS:mg "RIGHTS" = !-HF
 FK:∀ H:Hp,bH K H HF [.str "",.str "l",.str "g",.str "w",.str "lg",.str "lw",.str "gw",.str "lgw"]
 {gd:ϋ}
 RH:mg "Ring" = !-gd
 {FO:ϋ}
 Xc:mg "SINGLE_RIGHTS" = !-FO
 Bt:∀ H:Hp,bH K H FO [.str "l",.str "g",.str "w"]
 {mD:ϋ}
 S7:mg "Seat" = !-mD
 {bb:ϋ}
 acr:mg "Thing" = !-bb
 {aR:ϋ}
 XN:mg "Things" = !-aR
 {bC:ϋ}
 ads:mg "Walk" = !-bC
 LS:mg "all" = none
 g_bool:mg "bool" = none
 yr:mg "int" = none
 i8:mg "isinstance" = none
 lR:mg "len" = none
 rC:mg "list" = none
 JP:mg "min" = none
 Fy:mg "range" = none
 AN:mg "reversed" = none
 yB:mg "sorted" = none
 ph:mg "str" = none
 vq:MT K fo "__init__" "NoWay.__init__" Nf ["self","told"]
 gF:MT K fk "__init__" "NoDeed.__init__" LA ["self","reason"]
 vi:MT K bb "__init__" "Thing.__init__" IV ["self","number","kind","owner","mine","rest","text"]
 uU:MT K bb "rights_for" "Thing.rights_for" JY ["self","asker"]
 vK:MT K aR "__init__" "Things.__init__" OF ["self"]
 mf:MT K aR "add_thing" "Things.add_thing" K6 ["self","kind","owner","mine","rest","text"]
 oJ:MT K aR "add_folder" "Things.add_folder" NW ["self","owner","mine","rest"]
 vw:MT K aR "add_file" "Things.add_file" MN ["self","owner","text","mine","rest"]
 uB:MT K aR "add_lead" "Things.add_lead" Na ["self","owner","path"]
 tX:MT K aR "many" "Things.many" Ji ["self"]
 cR:MT K aR "at" "Things.at" Ln ["self","number"]
 oI:MT K aR "child" "Things.child" Mh ["self","folder","name"]
 uO:MT K aR "names_in" "Things.names_in" Le ["self","number"]
 uN:MT K aR "place_of" "Things.place_of" OJ ["self","number"]
 vd:MT K aR "put_rights" "Things.put_rights" Jn ["self","number","mine","rest"]
 oC:MT K aR "put_text" "Things.put_text" DV ["self","number","text"]
 vf:MT K aR "put_name" "Things.put_name" Nw ["self","folder","name","number"]
 ot:MT K aR "drop_name" "Things.drop_name" BM ["self","folder","name"]
 tw:MT K dX "__init__" "Found.__init__" Ik ["self","number","way"]
 vh:MT K eJ "__init__" "Failed.__init__" KY ["self","step","reason"]
 vk:MT K gd "__init__" "Ring.__init__" Fm ["self","leads"]
 tu:MT K bC "__init__" "Walk.__init__" BO ["self","house","asker","last"]
 vm:MT K bC "begin" "Walk.begin" FH ["self","from_root","parts"]
 vC:MT K bC "go_on" "Walk.go_on" Et ["self"]
 ie:MT K bC "fail" "Walk.fail" E8 ["self","reason"]
 uE:MT K bC "take_step" "Walk.take_step" El ["self","part"]
 vg:MT K bC "go_up" "Walk.go_up" Aw ["self"]
 uk:MT K bC "go_by" "Walk.go_by" BZ ["self","name"]
 tO:MT K bC "meet_lead" "Walk.meet_lead" EH ["self","number"]
 uz:MT K bC "read_lead" "Walk.read_lead" Fo ["self","number"]
 vA:MT K bC "true_path" "Walk.true_path" CV ["self"]
 uq:MT K mD "__init__" "Seat.__init__" MM ["self","folder","name"]
 uG:MT K ck "__init__" "Hold.__init__" NK ["self","thing","rights"]
 tP:MT K aK "__init__" "House.__init__" KO ["self","owner"]
 uc:MT K aK "enroll" "House.enroll" LZ ["self","name"]
 mm:MT K aK "root_of" "House.root_of" KG ["self","asker"]
 vJ:MT K aK "standing_of" "House.standing_of" Io ["self","asker"]
 ij:MT K aK "kind_of" "House.kind_of" JM ["self","number"]
 tT:MT K aK "owner_of" "House.owner_of" Ma ["self","number"]
 uV:MT K aK "many" "House.many" Nx ["self"]
 og:MT K aK "child" "House.child" KL ["self","number","name"]
 ue:MT K aK "names_in" "House.names_in" ML ["self","number"]
 jv:MT K aK "text_of" "House.text_of" Nr ["self","number"]
 lI:MT K aK "place_of" "House.place_of" Mj ["self","number"]
 jE:MT K aK "may" "House.may" J0 ["self","asker","number","right"]
 vo:MT K aK "is_root" "House.is_root" Bc ["self","number"]
 uj:MT K aK "is_covered" "House.is_covered" DR ["self","number"]
 dD:MT K aK "check_asker" "House.check_asker" Mg ["self","asker"]
 tM:MT K aK "check_thing" "House.check_thing" Of ["self","number"]
 pF:MT K aK "add_asker" "House.add_asker" JK ["self","name"]
 tq:MT K aK "put_root" "House.put_root" OI ["self","asker","folder"]
 uI:MT K aK "put_standing" "House.put_standing" Lv ["self","asker","folder"]
 um:MT K aK "add_tree" "House.add_tree" LD ["self","tree","owner"]
 uw:MT K aK "add_hold" "House.add_hold" Av ["self","held"]
 tK:MT K aK "drop_hold" "House.drop_hold" Fi ["self","number"]
 mW:c9 K eJ
 aaM:Mk K eJ vh.f
 ig:c9 K dX
 TZ:Mk K dX tw.f
 m5:c9 K ck
 aec:Mk K ck uG.f
 aJ:c9 K aK
 RM:Mk K aK tP.f
 rB:c9 K gd
 TB:Mk K gd vk.f
 jZ:c9 K mD
 aeb:Mk K mD uq.f
 di:c9 K bb
 Vc:Mk K bb vi.f
 b8:c9 K aR
 YG:Mk K aR vK.f
 aL:c9 K bC
 ac7:Mk K bC tu.f
 LI:bL K eJ "reason"
 Iv:bL K eJ "step"
 m9:bL K dX "number"
 Lk:bL K dX "way"
 yk:bL K ck "rights"
 xC:bL K ck "thing"
 yL:bL K aK "changes"
 AM:bL K aK "first_root"
 CB:bL K aK "folder_under"
 qJ:bL K aK "holds"
 Fq:bL K aK "holds_given"
 wK:bL K aK "root_over"
 qg:bL K aK "roots"
 AZ:bL K aK "standings"
 eO:bL K aK "things"
 N5:bL K aK "tree_roots"
 Jo:bL K gd "leads"
 rN:bL K mD "folder"
 y4:bL K mD "name"
 AB:bL K bb "kind"
 FJ:bL K bb "mine"
 vH:bL K bb "names"
 ac6:bL K bb "number"
 A0:bL K bb "owner"
 uu:bL K bb "places"
 Fh:bL K bb "rest"
 AW:bL K bb "text"
 qz:bL K aR "changes"
 r8:bL K aR "made"
 OD:bL K bC "asked"
 u0:bL K bC "asker"
 fZ:bL K bC "here"
 fY:bL K bC "house"
 MR:bL K bC "last"
 ER:bL K bC "leads_read"
 oO:bL K bC "left"
 OY:bL K bC "looked_up"
 xR:bL K bC "place"
 qP:bL K bC "reading"
 tV:bL K bC "root"
 DK:bL K bC "step"
 mO:bL K bC "told"
 hV:gN K fk gF.f "reason"
 jr:W.typeIn K (-fk)=!.type "type"
 AX:gN K fo vq.f "told"
 Tj:W.typeIn K (-fo)=!.type "type"
 {pQ:ϋ}
 EN:zx.code=-pQ
 {pK:ϋ}
 WN:Ab.code=-pK
 {pS:ϋ}
 Bn:Am.code=-pS
 {qd:ϋ}
 Fs:Af.code=-qd
 aae:W.excIn K sN [.type "ValueError",.type "Exception",.type "BaseException",.type "object"] "ValueError.__new__" = true
 ace:W.excIn K Rb [.type "ValueError",.type "Exception",.type "BaseException",.type "object"] "ValueError.__new__" = true
 adK:W.excIn K vW [.type "ValueError",.type "Exception",.type "BaseException",.type "object"] "ValueError.__new__" = true
 WO:W.excIn K sJ [.type "ValueError",.type "Exception",.type "BaseException",.type "object"] "ValueError.__new__" = true
 Uq:W.instIn K (-F9) (.type "tuple")=!false
 VN:W.mroIn K F9 (.type "BaseException")=!true
 ZI:W.instIn K (-fk) (.type "tuple")=!false
 adY:W.mroIn K fk (.type "BaseException")=!true
 UZ:W.instIn K (-fo) (.type "tuple")=!false
 YU:W.mroIn K fo (.type "BaseException")=!true
 XU:W.findIn K (-fo) "__class__" = !(!.builtin "object.__class__")
 abT:W.specialIn K (.builtin "object.__class__") "__get__" = !(!.builtin "getset_descriptor.__get__")
 V3:W.takesIn K (.builtin "object.__class__")=!true
 aew:W.mroIn K fo (.type "object")=!true
 acR:W.findIn K (-fo) "__getattribute__" = !(!.builtin "BaseException.__getattribute__")
 acm:W.findIn K (-fo) "__getattr__" = !none
 WQ:W.mroIn K fo (.type "BaseException")=!true
 Y4:W.findIn K (-fk) "__class__" = !(!.builtin "object.__class__")
 adT:W.specialIn K (.builtin "object.__class__") "__get__" = !(!.builtin "getset_descriptor.__get__")
 Uz:W.takesIn K (.builtin "object.__class__")=!true
 XH:W.mroIn K fk (.type "object")=!true
 Zr:W.findIn K (-fk) "__getattribute__" = !(!.builtin "BaseException.__getattribute__")
 Y0:W.findIn K (-fk) "__getattr__" = !none
 ac9:W.mroIn K fk (.type "BaseException")=!true
 q1:W.findIn K (-dX) "__class__" = !(!.builtin "object.__class__")
 q2:W.specialIn K (.builtin "object.__class__") "__get__" = !(!.builtin "getset_descriptor.__get__")
 q3:W.takesIn K (.builtin "object.__class__")=!true
 q4:W.mroIn K dX (.type "object")=!true
 q5:W.kitOne K (-dX) (-dX)=!true
 q6:W.findIn K (-eJ) "__class__" = !(!.builtin "object.__class__")
 q7:W.mroIn K eJ (.type "object")=!true
 q8:W.kitOne K (-eJ) (-dX)=!false
 q9:W.kitOne K (-dX) (-eJ)=!false
 q12:W.kitOne K (-eJ) (-eJ)=!true
 yy:W.findIn K (-gd) "__class__" = !(!.builtin "object.__class__")
 yV:W.mroIn K gd (.type "object")=!true
 AD:W.kitOne K (-gd) (-dX)=!false
 q18:W.kitOne K (-gd) (-eJ)=!false
 ZF:W.subIn K (-fo) (-fo)=!true
 adg:W.subIn K (-fk) (-fo)=!false
 abB:W.subIn K (-fk) (-fk)=!true
def  sj:List Nat:=List.range' 97 26
def  isNm(l:List Nat):Bool:=decide (1<=l.length) && decide (l.length<=8) && l.all (sj.contains ·)
def  fV:V->Bool
 | .str z=>isNm z.cps.toList
 | _=>false
def  Ld:V->Prop
 | .str z=>z.length<=1000
 | _=>True
def stI{t:TS}{D:Ends}{H:Hp}{σ:L2.St}(τ:L2.St)(h:t D τ H)(e:‹σ=τ›):t D σ H:=e ▸ h
def stJ{t:TS}{D:Ends}{H:Hp}{N:List Str}{vs:List V}(n:Nat)(h:t D (vs.map some++List.replicate n none) H)(e:‹N.length-vs.length=n›):t D (start N vs) H:=by subst e;show h
inductive X1{α0:Type}(R:α0->Prop):Prop | mk:∀ x0,R x0->X1 R
inductive X2{α0 α1:Type}(R:α0->α1->Prop):Prop | mk:∀ x0 x1,R x0 x1->X2 R
inductive X3{α0 α1 α2:Type}(R:α0->α1->α2->Prop):Prop | mk:∀ x0 x1 x2,R x0 x1 x2->X3 R
inductive X4{α0 α1 α2 α3:Type}(R:α0->α1->α2->α3->Prop):Prop | mk:∀ x0 x1 x2 x3,R x0 x1 x2 x3->X4 R
inductive X5{α0 α1 α2 α3 α4:Type}(R:α0->α1->α2->α3->α4->Prop):Prop | mk:∀ x0 x1 x2 x3 x4,R x0 x1 x2 x3 x4->X5 R
inductive X6{α0 α1 α2 α3 α4 α5:Type}(R:α0->α1->α2->α3->α4->α5->Prop):Prop | mk:∀ x0 x1 x2 x3 x4 x5,R x0 x1 x2 x3 x4 x5->X6 R
inductive X7{α0 α1 α2 α3 α4 α5 α6:Type}(R:α0->α1->α2->α3->α4->α5->α6->Prop):Prop | mk:∀ x0 x1 x2 x3 x4 x5 x6,R x0 x1 x2 x3 x4 x5 x6->X7 R
inductive X8{α0 α1 α2 α3 α4 α5 α6 α7:Type}(R:α0->α1->α2->α3->α4->α5->α6->α7->Prop):Prop | mk:∀ x0 x1 x2 x3 x4 x5 x6 x7,R x0 x1 x2 x3 x4 x5 x6 x7->X8 R
inductive X9{α0 α1 α2 α3 α4 α5 α6 α7 α8:Type}(R:α0->α1->α2->α3->α4->α5->α6->α7->α8->Prop):Prop | mk:∀ x0 x1 x2 x3 x4 x5 x6 x7 x8,R x0 x1 x2 x3 x4 x5 x6 x7 x8->X9 R
inductive Nm{α0 α1 α2 α3 α4 α5 α6 α7 α8 α9:Type}(R:α0->α1->α2->α3->α4->α5->α6->α7->α8->α9->Prop):Prop | mk:∀ x0 x1 x2 x3 x4 x5 x6 x7 x8 x9,R x0 x1 x2 x3 x4 x5 x6 x7 x8 x9->Nm R
inductive LF{α0 α1 α2 α3 α4 α5 α6 α7 α8 α9 α10:Type}(R:α0->α1->α2->α3->α4->α5->α6->α7->α8->α9->α10->Prop):Prop | mk:∀ x0 x1 x2 x3 x4 x5 x6 x7 x8 x9 x10,R x0 x1 x2 x3 x4 x5 x6 x7 x8 x9 x10->LF R
inductive A2(p0 p1:Prop):Prop | mk:p0->p1->A2 p0 p1
inductive A3(p0 p1 p2:Prop):Prop | mk:p0->p1->p2->A3 p0 p1 p2
inductive A4(p0 p1 p2 p3:Prop):Prop | mk:p0->p1->p2->p3->A4 p0 p1 p2 p3
inductive A5(p0 p1 p2 p3 p4:Prop):Prop | mk:p0->p1->p2->p3->p4->A5 p0 p1 p2 p3 p4
inductive A6(p0 p1 p2 p3 p4 p5:Prop):Prop | mk:p0->p1->p2->p3->p4->p5->A6 p0 p1 p2 p3 p4 p5
inductive A7(p0 p1 p2 p3 p4 p5 p6:Prop):Prop | mk:p0->p1->p2->p3->p4->p5->p6->A7 p0 p1 p2 p3 p4 p5 p6
inductive A8(p0 p1 p2 p3 p4 p5 p6 p7:Prop):Prop | mk:p0->p1->p2->p3->p4->p5->p6->p7->A8 p0 p1 p2 p3 p4 p5 p6 p7
inductive A9(p0 p1 p2 p3 p4 p5 p6 p7 p8:Prop):Prop | mk:p0->p1->p2->p3->p4->p5->p6->p7->p8->A9 p0 p1 p2 p3 p4 p5 p6 p7 p8
inductive B4(p0 p1 p2 p3 p4 p5 p6 p7 p8 p9:Prop):Prop | mk:p0->p1->p2->p3->p4->p5->p6->p7->p8->p9->B4 p0 p1 p2 p3 p4 p5 p6 p7 p8 p9
inductive Du(p0 p1 p2 p3 p4 p5 p6 p7 p8 p9 p10 p11 p12:Prop):Prop | mk:p0->p1->p2->p3->p4->p5->p6->p7->p8->p9->p10->p11->p12->Du p0 p1 p2 p3 p4 p5 p6 p7 p8 p9 p10 p11 p12
inductive Ku(p0 p1 p2 p3 p4 p5 p6 p7 p8 p9 p10 p11 p12 p13:Prop):Prop | mk:p0->p1->p2->p3->p4->p5->p6->p7->p8->p9->p10->p11->p12->p13->Ku p0 p1 p2 p3 p4 p5 p6 p7 p8 p9 p10 p11 p12 p13
def  a1(f:V->Hp->VK->XK->Prop):Sp:=fun vs H Q E=>match vs with
 | [x1]=>f x1 H Q E
 | _=>False
def a1.o{f:V->Hp->VK->XK->Prop}{vs:List V}{H:Hp}{Q:VK}{E:XK}(h:a1 f vs H Q E):∃ x1,vs=[x1]/\f x1 H Q E:=by
 unfold a1 at h;split at h
 ·show#[_,rfl,h]
 ·show h.elim
def  a2(f:V->V->Hp->VK->XK->Prop):Sp:=fun vs H Q E=>match vs with
 | [x1,x2]=>f x1 x2 H Q E
 | _=>False
def a2.o{f:V->V->Hp->VK->XK->Prop}{vs:List V}{H:Hp}{Q:VK}{E:XK}(h:a2 f vs H Q E):∃ x1 x2,vs=[x1,x2]/\f x1 x2 H Q E:=by
 unfold a2 at h;split at h
 ·show#[_,_,rfl,h]
 ·show h.elim
def  a3(f:V->V->V->Hp->VK->XK->Prop):Sp:=fun vs H Q E=>match vs with
 | [x1,x2,x3]=>f x1 x2 x3 H Q E
 | _=>False
def a3.o{f:V->V->V->Hp->VK->XK->Prop}{vs:List V}{H:Hp}{Q:VK}{E:XK}(h:a3 f vs H Q E):∃ x1 x2 x3,vs=[x1,x2,x3]/\f x1 x2 x3 H Q E:=by
 unfold a3 at h;split at h
 ·show#[_,_,_,rfl,h]
 ·show h.elim
def  a4(f:V->V->V->V->Hp->VK->XK->Prop):Sp:=fun vs H Q E=>match vs with
 | [x1,x2,x3,x4]=>f x1 x2 x3 x4 H Q E
 | _=>False
def a4.o{f:V->V->V->V->Hp->VK->XK->Prop}{vs:List V}{H:Hp}{Q:VK}{E:XK}(h:a4 f vs H Q E):∃ x1 x2 x3 x4,vs=[x1,x2,x3,x4]/\f x1 x2 x3 x4 H Q E:=by
 unfold a4 at h;split at h
 ·show#[_,_,_,_,rfl,h]
 ·show h.elim
def  a5(f:V->V->V->V->V->Hp->VK->XK->Prop):Sp:=fun vs H Q E=>match vs with
 | [x1,x2,x3,x4,x5]=>f x1 x2 x3 x4 x5 H Q E
 | _=>False
def a5.o{f:V->V->V->V->V->Hp->VK->XK->Prop}{vs:List V}{H:Hp}{Q:VK}{E:XK}(h:a5 f vs H Q E):∃ x1 x2 x3 x4 x5,vs=[x1,x2,x3,x4,x5]/\f x1 x2 x3 x4 x5 H Q E:=by
 unfold a5 at h;split at h
 ·show#[_,_,_,_,_,rfl,h]
 ·show h.elim
def  a6(f:V->V->V->V->V->V->Hp->VK->XK->Prop):Sp:=fun vs H Q E=>match vs with
 | [x1,x2,x3,x4,x5,x6]=>f x1 x2 x3 x4 x5 x6 H Q E
 | _=>False
def a6.o{f:V->V->V->V->V->V->Hp->VK->XK->Prop}{vs:List V}{H:Hp}{Q:VK}{E:XK}(h:a6 f vs H Q E):∃ x1 x2 x3 x4 x5 x6,vs=[x1,x2,x3,x4,x5,x6]/\f x1 x2 x3 x4 x5 x6 H Q E:=by
 unfold a6 at h;split at h
 ·show#[_,_,_,_,_,_,rfl,h]
 ·show h.elim
def  a7(f:V->V->V->V->V->V->V->Hp->VK->XK->Prop):Sp:=fun vs H Q E=>match vs with
 | [x1,x2,x3,x4,x5,x6,x7]=>f x1 x2 x3 x4 x5 x6 x7 H Q E
 | _=>False
def a7.o{f:V->V->V->V->V->V->V->Hp->VK->XK->Prop}{vs:List V}{H:Hp}{Q:VK}{E:XK}(h:a7 f vs H Q E):∃ x1 x2 x3 x4 x5 x6 x7,vs=[x1,x2,x3,x4,x5,x6,x7]/\f x1 x2 x3 x4 x5 x6 x7 H Q E:=by
 unfold a7 at h;split at h
 ·show#[_,_,_,_,_,_,_,rfl,h]
 ·show h.elim
def  vR(v:V)(k:ϋ->Prop):Prop:=match v with
 | .ref x=>k x
 | _=>False
def vR.o{v:V}{k:ϋ->Prop}(h:vR v k):∃ x,v=-x/\k x:=by
 unfold vR at h;split at h
 ·show#[_,rfl,h]
 ·show h.elim
def  vS(v:V)(k:Str->Prop):Prop:=match v with
 | .str x=>k x
 | _=>False
def vS.o{v:V}{k:Str->Prop}(h:vS v k):∃ x,v=.str x/\k x:=by
 unfold vS at h;split at h
 ·show#[_,rfl,h]
 ·show h.elim
def  vI(v:V)(k:Int->Prop):Prop:=match v with
 | .int x=>k x
 | _=>False
def vI.o{v:V}{k:Int->Prop}(h:vI v k):∃ x,v=.int x/\k x:=by
 unfold vI at h;split at h
 ·show#[_,rfl,h]
 ·show h.elim
def  vB(v:V)(k:Bool->Prop):Prop:=match v with
 | .bl x=>k x
 | _=>False
def vB.o{v:V}{k:Bool->Prop}(h:vB v k):∃ x,v=.bl x/\k x:=by
 unfold vB at h;split at h
 ·show#[_,rfl,h]
 ·show h.elim
def  Og(f:Int->Hp->VK->XK->Prop):Sp:=a1 fun q1 H Q E=>vI q1 fun x1=>f x1 H Q E
@[elab_as_elim] theorem Lp {f:Int->Hp->VK->XK->Prop}{vs:List V}{H:Hp}{Q:VK}{E:XK}{G:List V->Prop} (h:Og f vs H Q E) (k:∀ x1,f x1 H Q E->G [.int x1]):G vs:=by
 let⟨_,rfl,h⟩:=a1.o h;let⟨x1,rfl,h⟩:=vI.o h;show k x1 h
def  KU(f:Int->Int->Hp->VK->XK->Prop):Sp:=a2 fun q1 q2 H Q E=>vI q1 fun x1=>vI q2 fun x2=>f x1 x2 H Q E
@[elab_as_elim] theorem Kz {f:Int->Int->Hp->VK->XK->Prop}{vs:List V}{H:Hp}{Q:VK}{E:XK}{G:List V->Prop} (h:KU f vs H Q E) (k:∀ x1 x2,f x1 x2 H Q E->G [.int x1,.int x2]):G vs:=by
 let⟨_,_,rfl,h⟩:=a2.o h;let⟨x1,rfl,h⟩:=vI.o h;let⟨x2,rfl,h⟩:=vI.o h;show k x1 x2 h
def  jy(f:ϋ->Hp->VK->XK->Prop):Sp:=a1 fun q1 H Q E=>vR q1 fun x1=>f x1 H Q E
@[elab_as_elim] theorem ee {f:ϋ->Hp->VK->XK->Prop}{vs:List V}{H:Hp}{Q:VK}{E:XK}{G:List V->Prop} (h:jy f vs H Q E) (k:∀ x1,f x1 H Q E->G [-x1]):G vs:=by
 let⟨_,rfl,h⟩:=a1.o h;let⟨x1,rfl,h⟩:=vR.o h;show k x1 h
def  J3(f:ϋ->Bool->ϋ->Hp->VK->XK->Prop):Sp:=a3 fun q1 q2 q3 H Q E=>vR q1 fun x1=>vB q2 fun x2=>vR q3 fun x3=>f x1 x2 x3 H Q E
@[elab_as_elim] theorem NV {f:ϋ->Bool->ϋ->Hp->VK->XK->Prop}{vs:List V}{H:Hp}{Q:VK}{E:XK}{G:List V->Prop} (h:J3 f vs H Q E) (k:∀ x1 x2 x3,f x1 x2 x3 H Q E->G [-x1,.bl x2,-x3]):G vs:=by
 let⟨_,_,_,rfl,h⟩:=a3.o h;let⟨x1,rfl,h⟩:=vR.o h;let⟨x2,rfl,h⟩:=vB.o h;let⟨x3,rfl,h⟩:=vR.o h;show k x1 x2 x3 h
def  jF(f:ϋ->Int->Hp->VK->XK->Prop):Sp:=a2 fun q1 q2 H Q E=>vR q1 fun x1=>vI q2 fun x2=>f x1 x2 H Q E
@[elab_as_elim] theorem cy {f:ϋ->Int->Hp->VK->XK->Prop}{vs:List V}{H:Hp}{Q:VK}{E:XK}{G:List V->Prop} (h:jF f vs H Q E) (k:∀ x1 x2,f x1 x2 H Q E->G [-x1,.int x2]):G vs:=by
 let⟨_,_,rfl,h⟩:=a2.o h;let⟨x1,rfl,h⟩:=vR.o h;let⟨x2,rfl,h⟩:=vI.o h;show k x1 x2 h
def  u7(f:ϋ->Int->Str->Hp->VK->XK->Prop):Sp:=a3 fun q1 q2 q3 H Q E=>vR q1 fun x1=>vI q2 fun x2=>vS q3 fun x3=>f x1 x2 x3 H Q E
@[elab_as_elim] theorem ni {f:ϋ->Int->Str->Hp->VK->XK->Prop}{vs:List V}{H:Hp}{Q:VK}{E:XK}{G:List V->Prop} (h:u7 f vs H Q E) (k:∀ x1 x2 x3,f x1 x2 x3 H Q E->G [-x1,.int x2,.str x3]):G vs:=by
 let⟨_,_,_,rfl,h⟩:=a3.o h;let⟨x1,rfl,h⟩:=vR.o h;let⟨x2,rfl,h⟩:=vI.o h;let⟨x3,rfl,h⟩:=vS.o h;show k x1 x2 x3 h
def  IJ(f:ϋ->Int->Str->Int->Hp->VK->XK->Prop):Sp:=a4 fun q1 q2 q3 q4 H Q E=>vR q1 fun x1=>vI q2 fun x2=>vS q3 fun x3=>vI q4 fun x4=>f x1 x2 x3 x4 H Q E
@[elab_as_elim] theorem IP {f:ϋ->Int->Str->Int->Hp->VK->XK->Prop}{vs:List V}{H:Hp}{Q:VK}{E:XK}{G:List V->Prop} (h:IJ f vs H Q E) (k:∀ x1 x2 x3 x4,f x1 x2 x3 x4 H Q E->G [-x1,.int x2,.str x3,.int x4]):G vs:=by
 let⟨_,_,_,_,rfl,h⟩:=a4.o h;let⟨x1,rfl,h⟩:=vR.o h;let⟨x2,rfl,h⟩:=vI.o h;let⟨x3,rfl,h⟩:=vS.o h;let⟨x4,rfl,h⟩:=vI.o h;show k x1 x2 x3 x4 h
def  J7(f:ϋ->Int->Str->Str->Hp->VK->XK->Prop):Sp:=a4 fun q1 q2 q3 q4 H Q E=>vR q1 fun x1=>vI q2 fun x2=>vS q3 fun x3=>vS q4 fun x4=>f x1 x2 x3 x4 H Q E
@[elab_as_elim] theorem K4 {f:ϋ->Int->Str->Str->Hp->VK->XK->Prop}{vs:List V}{H:Hp}{Q:VK}{E:XK}{G:List V->Prop} (h:J7 f vs H Q E) (k:∀ x1 x2 x3 x4,f x1 x2 x3 x4 H Q E->G [-x1,.int x2,.str x3,.str x4]):G vs:=by
 let⟨_,_,_,_,rfl,h⟩:=a4.o h;let⟨x1,rfl,h⟩:=vR.o h;let⟨x2,rfl,h⟩:=vI.o h;let⟨x3,rfl,h⟩:=vS.o h;let⟨x4,rfl,h⟩:=vS.o h;show k x1 x2 x3 x4 h
def  qk(f:ϋ->ϋ->Hp->VK->XK->Prop):Sp:=a2 fun q1 q2 H Q E=>vR q1 fun x1=>vR q2 fun x2=>f x1 x2 H Q E
@[elab_as_elim] theorem kG {f:ϋ->ϋ->Hp->VK->XK->Prop}{vs:List V}{H:Hp}{Q:VK}{E:XK}{G:List V->Prop} (h:qk f vs H Q E) (k:∀ x1 x2,f x1 x2 H Q E->G [-x1,-x2]):G vs:=by
 let⟨_,_,rfl,h⟩:=a2.o h;let⟨x1,rfl,h⟩:=vR.o h;let⟨x2,rfl,h⟩:=vR.o h;show k x1 x2 h
def  LL(f:ϋ->ϋ->Int->Hp->VK->XK->Prop):Sp:=a3 fun q1 q2 q3 H Q E=>vR q1 fun x1=>vR q2 fun x2=>vI q3 fun x3=>f x1 x2 x3 H Q E
@[elab_as_elim] theorem Kc {f:ϋ->ϋ->Int->Hp->VK->XK->Prop}{vs:List V}{H:Hp}{Q:VK}{E:XK}{G:List V->Prop} (h:LL f vs H Q E) (k:∀ x1 x2 x3,f x1 x2 x3 H Q E->G [-x1,-x2,.int x3]):G vs:=by
 let⟨_,_,_,rfl,h⟩:=a3.o h;let⟨x1,rfl,h⟩:=vR.o h;let⟨x2,rfl,h⟩:=vR.o h;let⟨x3,rfl,h⟩:=vI.o h;show k x1 x2 x3 h
def  MZ(f:ϋ->ϋ->Str->Bool->Hp->VK->XK->Prop):Sp:=a4 fun q1 q2 q3 q4 H Q E=>vR q1 fun x1=>vR q2 fun x2=>vS q3 fun x3=>vB q4 fun x4=>f x1 x2 x3 x4 H Q E
@[elab_as_elim] theorem Lx {f:ϋ->ϋ->Str->Bool->Hp->VK->XK->Prop}{vs:List V}{H:Hp}{Q:VK}{E:XK}{G:List V->Prop} (h:MZ f vs H Q E) (k:∀ x1 x2 x3 x4,f x1 x2 x3 x4 H Q E->G [-x1,-x2,.str x3,.bl x4]):G vs:=by
 let⟨_,_,_,_,rfl,h⟩:=a4.o h;let⟨x1,rfl,h⟩:=vR.o h;let⟨x2,rfl,h⟩:=vR.o h;let⟨x3,rfl,h⟩:=vS.o h;let⟨x4,rfl,h⟩:=vB.o h;show k x1 x2 x3 x4 h
def  kg(f:ϋ->Str->Hp->VK->XK->Prop):Sp:=a2 fun q1 q2 H Q E=>vR q1 fun x1=>vS q2 fun x2=>f x1 x2 H Q E
@[elab_as_elim] theorem eY {f:ϋ->Str->Hp->VK->XK->Prop}{vs:List V}{H:Hp}{Q:VK}{E:XK}{G:List V->Prop} (h:kg f vs H Q E) (k:∀ x1 x2,f x1 x2 H Q E->G [-x1,.str x2]):G vs:=by
 let⟨_,_,rfl,h⟩:=a2.o h;let⟨x1,rfl,h⟩:=vR.o h;let⟨x2,rfl,h⟩:=vS.o h;show k x1 x2 h
def  Nk(f:ϋ->Str->Bool->ϋ->Bool->Hp->VK->XK->Prop):Sp:=a5 fun q1 q2 q3 q4 q5 H Q E=>vR q1 fun x1=>vS q2 fun x2=>vB q3 fun x3=>vR q4 fun x4=>vB q5 fun x5=>f x1 x2 x3 x4 x5 H Q E
@[elab_as_elim] theorem Iu {f:ϋ->Str->Bool->ϋ->Bool->Hp->VK->XK->Prop}{vs:List V}{H:Hp}{Q:VK}{E:XK}{G:List V->Prop} (h:Nk f vs H Q E) (k:∀ x1 x2 x3 x4 x5,f x1 x2 x3 x4 x5 H Q E->G [-x1,.str x2,.bl x3,-x4,.bl x5]):G vs:=by
 let⟨_,_,_,_,_,rfl,h⟩:=a5.o h;let⟨x1,rfl,h⟩:=vR.o h;let⟨x2,rfl,h⟩:=vS.o h;let⟨x3,rfl,h⟩:=vB.o h;let⟨x4,rfl,h⟩:=vR.o h;let⟨x5,rfl,h⟩:=vB.o h;show k x1 x2 x3 x4 x5 h
def  u6(f:ϋ->Str->Int->Hp->VK->XK->Prop):Sp:=a3 fun q1 q2 q3 H Q E=>vR q1 fun x1=>vS q2 fun x2=>vI q3 fun x3=>f x1 x2 x3 H Q E
@[elab_as_elim] theorem kP {f:ϋ->Str->Int->Hp->VK->XK->Prop}{vs:List V}{H:Hp}{Q:VK}{E:XK}{G:List V->Prop} (h:u6 f vs H Q E) (k:∀ x1 x2 x3,f x1 x2 x3 H Q E->G [-x1,.str x2,.int x3]):G vs:=by
 let⟨_,_,_,rfl,h⟩:=a3.o h;let⟨x1,rfl,h⟩:=vR.o h;let⟨x2,rfl,h⟩:=vS.o h;let⟨x3,rfl,h⟩:=vI.o h;show k x1 x2 x3 h
def  ON(f:ϋ->Str->Int->Str->Str->Hp->VK->XK->Prop):Sp:=a5 fun q1 q2 q3 q4 q5 H Q E=>vR q1 fun x1=>vS q2 fun x2=>vI q3 fun x3=>vS q4 fun x4=>vS q5 fun x5=>f x1 x2 x3 x4 x5 H Q E
@[elab_as_elim] theorem Ox {f:ϋ->Str->Int->Str->Str->Hp->VK->XK->Prop}{vs:List V}{H:Hp}{Q:VK}{E:XK}{G:List V->Prop} (h:ON f vs H Q E) (k:∀ x1 x2 x3 x4 x5,f x1 x2 x3 x4 x5 H Q E->G [-x1,.str x2,.int x3,.str x4,.str x5]):G vs:=by
 let⟨_,_,_,_,_,rfl,h⟩:=a5.o h;let⟨x1,rfl,h⟩:=vR.o h;let⟨x2,rfl,h⟩:=vS.o h;let⟨x3,rfl,h⟩:=vI.o h;let⟨x4,rfl,h⟩:=vS.o h;let⟨x5,rfl,h⟩:=vS.o h;show k x1 x2 x3 x4 x5 h
def  rE(f:ϋ->Str->Str->Hp->VK->XK->Prop):Sp:=a3 fun q1 q2 q3 H Q E=>vR q1 fun x1=>vS q2 fun x2=>vS q3 fun x3=>f x1 x2 x3 H Q E
@[elab_as_elim] theorem kj {f:ϋ->Str->Str->Hp->VK->XK->Prop}{vs:List V}{H:Hp}{Q:VK}{E:XK}{G:List V->Prop} (h:rE f vs H Q E) (k:∀ x1 x2 x3,f x1 x2 x3 H Q E->G [-x1,.str x2,.str x3]):G vs:=by
 let⟨_,_,_,rfl,h⟩:=a3.o h;let⟨x1,rfl,h⟩:=vR.o h;let⟨x2,rfl,h⟩:=vS.o h;let⟨x3,rfl,h⟩:=vS.o h;show k x1 x2 x3 h
def  AE(f:ϋ->Str->Str->Bool->Hp->VK->XK->Prop):Sp:=a4 fun q1 q2 q3 q4 H Q E=>vR q1 fun x1=>vS q2 fun x2=>vS q3 fun x3=>vB q4 fun x4=>f x1 x2 x3 x4 H Q E
@[elab_as_elim] theorem yY {f:ϋ->Str->Str->Bool->Hp->VK->XK->Prop}{vs:List V}{H:Hp}{Q:VK}{E:XK}{G:List V->Prop} (h:AE f vs H Q E) (k:∀ x1 x2 x3 x4,f x1 x2 x3 x4 H Q E->G [-x1,.str x2,.str x3,.bl x4]):G vs:=by
 let⟨_,_,_,_,rfl,h⟩:=a4.o h;let⟨x1,rfl,h⟩:=vR.o h;let⟨x2,rfl,h⟩:=vS.o h;let⟨x3,rfl,h⟩:=vS.o h;let⟨x4,rfl,h⟩:=vB.o h;show k x1 x2 x3 x4 h
def  D6(f:ϋ->Str->Str->Str->Hp->VK->XK->Prop):Sp:=a4 fun q1 q2 q3 q4 H Q E=>vR q1 fun x1=>vS q2 fun x2=>vS q3 fun x3=>vS q4 fun x4=>f x1 x2 x3 x4 H Q E
@[elab_as_elim] theorem yT {f:ϋ->Str->Str->Str->Hp->VK->XK->Prop}{vs:List V}{H:Hp}{Q:VK}{E:XK}{G:List V->Prop} (h:D6 f vs H Q E) (k:∀ x1 x2 x3 x4,f x1 x2 x3 x4 H Q E->G [-x1,.str x2,.str x3,.str x4]):G vs:=by
 let⟨_,_,_,_,rfl,h⟩:=a4.o h;let⟨x1,rfl,h⟩:=vR.o h;let⟨x2,rfl,h⟩:=vS.o h;let⟨x3,rfl,h⟩:=vS.o h;let⟨x4,rfl,h⟩:=vS.o h;show k x1 x2 x3 x4 h
def  AY(f:ϋ->Str->Str->Str->Str->Hp->VK->XK->Prop):Sp:=a5 fun q1 q2 q3 q4 q5 H Q E=>vR q1 fun x1=>vS q2 fun x2=>vS q3 fun x3=>vS q4 fun x4=>vS q5 fun x5=>f x1 x2 x3 x4 x5 H Q E
@[elab_as_elim] theorem w8 {f:ϋ->Str->Str->Str->Str->Hp->VK->XK->Prop}{vs:List V}{H:Hp}{Q:VK}{E:XK}{G:List V->Prop} (h:AY f vs H Q E) (k:∀ x1 x2 x3 x4 x5,f x1 x2 x3 x4 x5 H Q E->G [-x1,.str x2,.str x3,.str x4,.str x5]):G vs:=by
 let⟨_,_,_,_,_,rfl,h⟩:=a5.o h;let⟨x1,rfl,h⟩:=vR.o h;let⟨x2,rfl,h⟩:=vS.o h;let⟨x3,rfl,h⟩:=vS.o h;let⟨x4,rfl,h⟩:=vS.o h;let⟨x5,rfl,h⟩:=vS.o h;show k x1 x2 x3 x4 x5 h
def  Jv(f:ϋ->Str->Str->Str->Str->Str->Hp->VK->XK->Prop):Sp:=a6 fun q1 q2 q3 q4 q5 q6 H Q E=>vR q1 fun x1=>vS q2 fun x2=>vS q3 fun x3=>vS q4 fun x4=>vS q5 fun x5=>vS q6 fun x6=>f x1 x2 x3 x4 x5 x6 H Q E
@[elab_as_elim] theorem OG {f:ϋ->Str->Str->Str->Str->Str->Hp->VK->XK->Prop}{vs:List V}{H:Hp}{Q:VK}{E:XK}{G:List V->Prop} (h:Jv f vs H Q E) (k:∀ x1 x2 x3 x4 x5 x6,f x1 x2 x3 x4 x5 x6 H Q E->G [-x1,.str x2,.str x3,.str x4,.str x5,.str x6]):G vs:=by
 let⟨_,_,_,_,_,_,rfl,h⟩:=a6.o h;let⟨x1,rfl,h⟩:=vR.o h;let⟨x2,rfl,h⟩:=vS.o h;let⟨x3,rfl,h⟩:=vS.o h;let⟨x4,rfl,h⟩:=vS.o h;let⟨x5,rfl,h⟩:=vS.o h;let⟨x6,rfl,h⟩:=vS.o h;show k x1 x2 x3 x4 x5 x6 h
def  B0(f:ϋ->V->Hp->VK->XK->Prop):Sp:=a2 fun q1 x2 H Q E=>vR q1 fun x1=>f x1 x2 H Q E
@[elab_as_elim] theorem xv {f:ϋ->V->Hp->VK->XK->Prop}{vs:List V}{H:Hp}{Q:VK}{E:XK}{G:List V->Prop} (h:B0 f vs H Q E) (k:∀ x1 x2,f x1 x2 H Q E->G [-x1,x2]):G vs:=by
 let⟨_,x2,rfl,h⟩:=a2.o h;let⟨x1,rfl,h⟩:=vR.o h;show k x1 x2 h
def  B1(f:ϋ->V->V->Hp->VK->XK->Prop):Sp:=a3 fun q1 x2 x3 H Q E=>vR q1 fun x1=>f x1 x2 x3 H Q E
@[elab_as_elim] theorem kx {f:ϋ->V->V->Hp->VK->XK->Prop}{vs:List V}{H:Hp}{Q:VK}{E:XK}{G:List V->Prop} (h:B1 f vs H Q E) (k:∀ x1 x2 x3,f x1 x2 x3 H Q E->G [-x1,x2,x3]):G vs:=by
 let⟨_,x2,x3,rfl,h⟩:=a3.o h;let⟨x1,rfl,h⟩:=vR.o h;show k x1 x2 x3 h
def  As(f:ϋ->V->V->V->Hp->VK->XK->Prop):Sp:=a4 fun q1 x2 x3 x4 H Q E=>vR q1 fun x1=>f x1 x2 x3 x4 H Q E
@[elab_as_elim] theorem yj {f:ϋ->V->V->V->Hp->VK->XK->Prop}{vs:List V}{H:Hp}{Q:VK}{E:XK}{G:List V->Prop} (h:As f vs H Q E) (k:∀ x1 x2 x3 x4,f x1 x2 x3 x4 H Q E->G [-x1,x2,x3,x4]):G vs:=by
 let⟨_,x2,x3,x4,rfl,h⟩:=a4.o h;let⟨x1,rfl,h⟩:=vR.o h;show k x1 x2 x3 x4 h
def  IE(f:ϋ->V->V->V->V->Hp->VK->XK->Prop):Sp:=a5 fun q1 x2 x3 x4 x5 H Q E=>vR q1 fun x1=>f x1 x2 x3 x4 x5 H Q E
@[elab_as_elim] theorem Nv {f:ϋ->V->V->V->V->Hp->VK->XK->Prop}{vs:List V}{H:Hp}{Q:VK}{E:XK}{G:List V->Prop} (h:IE f vs H Q E) (k:∀ x1 x2 x3 x4 x5,f x1 x2 x3 x4 x5 H Q E->G [-x1,x2,x3,x4,x5]):G vs:=by
 let⟨_,x2,x3,x4,x5,rfl,h⟩:=a5.o h;let⟨x1,rfl,h⟩:=vR.o h;show k x1 x2 x3 x4 x5 h
def  Ka(f:ϋ->V->V->V->V->V->Hp->VK->XK->Prop):Sp:=a6 fun q1 x2 x3 x4 x5 x6 H Q E=>vR q1 fun x1=>f x1 x2 x3 x4 x5 x6 H Q E
@[elab_as_elim] theorem N2 {f:ϋ->V->V->V->V->V->Hp->VK->XK->Prop}{vs:List V}{H:Hp}{Q:VK}{E:XK}{G:List V->Prop} (h:Ka f vs H Q E) (k:∀ x1 x2 x3 x4 x5 x6,f x1 x2 x3 x4 x5 x6 H Q E->G [-x1,x2,x3,x4,x5,x6]):G vs:=by
 let⟨_,x2,x3,x4,x5,x6,rfl,h⟩:=a6.o h;let⟨x1,rfl,h⟩:=vR.o h;show k x1 x2 x3 x4 x5 x6 h
def  Kd(f:ϋ->V->V->V->V->V->V->Hp->VK->XK->Prop):Sp:=a7 fun q1 x2 x3 x4 x5 x6 x7 H Q E=>vR q1 fun x1=>f x1 x2 x3 x4 x5 x6 x7 H Q E
@[elab_as_elim] theorem Ir {f:ϋ->V->V->V->V->V->V->Hp->VK->XK->Prop}{vs:List V}{H:Hp}{Q:VK}{E:XK}{G:List V->Prop} (h:Kd f vs H Q E) (k:∀ x1 x2 x3 x4 x5 x6 x7,f x1 x2 x3 x4 x5 x6 x7 H Q E->G [-x1,x2,x3,x4,x5,x6,x7]):G vs:=by
 let⟨_,x2,x3,x4,x5,x6,x7,rfl,h⟩:=a7.o h;let⟨x1,rfl,h⟩:=vR.o h;show k x1 x2 x3 x4 x5 x6 x7 h
def  lB(f:Str->Hp->VK->XK->Prop):Sp:=a1 fun q1 H Q E=>vS q1 fun x1=>f x1 H Q E
@[elab_as_elim] theorem f6 {f:Str->Hp->VK->XK->Prop}{vs:List V}{H:Hp}{Q:VK}{E:XK}{G:List V->Prop} (h:lB f vs H Q E) (k:∀ x1,f x1 H Q E->G [.str x1]):G vs:=by
 let⟨_,rfl,h⟩:=a1.o h;let⟨x1,rfl,h⟩:=vS.o h;show k x1 h
def  ug(f:V->Hp->VK->XK->Prop):Sp:=a1 fun x1 H Q E=>f x1 H Q E
@[elab_as_elim] theorem nB {f:V->Hp->VK->XK->Prop}{vs:List V}{H:Hp}{Q:VK}{E:XK}{G:List V->Prop} (h:ug f vs H Q E) (k:∀ x1,f x1 H Q E->G [x1]):G vs:=by
 let⟨x1,rfl,h⟩:=a1.o h;show k x1 h
def  ZS(K:ν):Sp:=ug fun x H Q _=>A3 (∃ T,clsName H x=!T) (Ld x) (∀ H',aj H H'->Q (.bl (fV x)) H')
def Oe{nm:List Nat}(h:isNm nm=true):1<=nm.length/\nm.length<=8/\nm.all (sj.contains ·)=true:=by
 unfold isNm at h;simp only[Cl,_y]at h;show#[h.1.1,h.1.2,h.2]
def Td:ώ "abcdefghijklmnopqrstuvwxyz" = Tx.S sj:=by decide +kernel
def  cZ(l:List Nat):Bool:=decide (l=[46]) || decide (l=[46,46]) || isNm l
def qj{l:List Nat}(h:cZ l=true):47 ∉ l/\l≠[]/\l.length<=8:=by
 unfold cZ at h;simp only[Bool.or_eq_true,_y]at h;rcases h with (rfl | rfl) | h
 ·show#[⋯,⋯,⋯]
 ·show#[⋯,⋯,⋯]
 ·let⟨h1,h2,h3⟩:=Oe h;show#[fun m=>?_,fun e=>by rw[e]at h1;simp at h1,h2];have:=Da.mp h3 47 m;show absurd this (by decide +kernel)
abbrev PV(ps:List (List Nat)):List V:=(ps.map Tx.S).map V.str
def  told(ps:List (List Nat))(t:List Nat):List (List Nat):=if ps≠[]/\t.getLast?=!47 then ps++[[46]] else ps
def  ed(t:List Nat):Bool:=decide (t.head?=!47)
def AK{ps:List (List Nat)}{t:List Nat}(h:ps.all cZ=true):(told ps t).all cZ=true:=by
 unfold told;split
 ·rw[List.all_append,h];rfl
 ·show h
def DC{ps:List (List Nat)}{t:List Nat}:(told ps t).length<=ps.length+1:=by
 unfold told;split
 ·rw[sK];show pi _
 ·omega
def  YD(K:ν):Sp:=lB fun z H Q _=>X1 fun (w:List Nat)=>A3 (z=Tx.S w) (w.length<=1000) (∀ H',aj H H'->Q (.bl (cZ w)) H')
def  acV(K:ν):Sp:=lB fun z H Q _=>X1 fun (t:List Nat)=>A5 (z=Tx.S t) (1<=t.length) (t.length<=2000) ((Tx.words 47 t).all cZ=true) (∀ (H':Hp) (l p:ϋ),aj H H'->H l=none->H' l=!.lst (PV (told (Tx.words 47 t) t))->H' p=!.tup [.bl (ed t),-l]->Q (-p) H')
structure Pth(ps:List (List Nat))(t:List Nat):Prop where
 words:Tx.words 47 t=ps
 one:1<=t.length
 most:t.length<=150
def  vv(n kd ow mi re tx nm pl:V):List (Str×V):=[("number",n),("kind",kd),("owner",ow),("mine",mi),("rest",re),("text",tx),("names",nm),("places",pl)]
def  rY(ml:ϋ)(c:Int):List (Str×V):=[("made",-ml),("changes",.int c)]
structure Th where
 kd:Str
 ow:Str
 mi:Str
 re:Str
 tx:Str
 aG:List (Str×Nat)
 bK:List (Nat×Str)
structure Hs where
 ts:List Th
 ro:List (Str×Nat)
 st:List (Str×Nat)
 tr:List (Str×Nat)
 ov:List (Nat×Nat)
 un:List (Nat×Nat)
structure Ta where
 th:ϋ
 dG:ϋ
 nm:ϋ
 pl:ϋ
structure Ad where
 a:ϋ
 dx:ϋ
 t:ϋ
 dt:ϋ
 ml:ϋ
 ro:ϋ
 st:ϋ
 tr:ϋ
 ov:ϋ
 un:ϋ
 ho:ϋ
 hg:Nat
def  px(c:Int)(A:Ad):List (Str×V):=[("things",-A.t),("changes",.int c),("roots",-A.ro),("standings",-A.st),("tree_roots",-A.tr),("root_over",-A.ov),("folder_under",-A.un),("holds",-A.ho),("holds_given",.int A.hg),("first_root",.int 0)]
def WX{f:Str}{c c':Int}{A:Ad}(h:f ≠ "changes"):(px c A).lookup f=(px c' A).lookup f:=by
 unfold px;simp only[List.lookup];have:(f == ("changes":Str))=false:=Do.mpr h;rw[this]
def  sD(l:List (Str×Nat)):List (Key×V):=l.map fun e=>(.inr e.1,.int e.2)
def  nD(l:List (Nat×Nat)):List (Key×V):=l.map fun e=>(.inl (e.1:Int),.int e.2)
def  pD(l:List (Nat×Str)):List (List Key×V):=l.map fun e=>([.inl (e.1:Int),.inr e.2],.bl true)
structure j0(CT:ϋ)(H:Hp)(a:Ta)(i:Nat)(t:Th):Prop where
 o:∃ fs,H a.th=!.ins CT a.dG fs/\fs.length<=40/\dg fs (vv (.int i) (.str t.kd) (.str t.ow) (.str t.mi) (.str t.re) (.str t.tx) (-a.nm) (-a.pl))
 nm:H a.nm=!.dK (sD t.aG)
 pl:H a.pl=!.dT (pD t.bK)
def  Ad.w(A:Ad):List ϋ:=[A.a,A.t,A.ml,A.ro,A.st,A.tr,A.ov,A.un]
def  Ta.l(a:Ta):List ϋ:=[a.th,a.nm,a.pl]
structure aF(CH CS CT:ϋ)(H:Hp)(A:Ad)(L:List Ta)(M:Hs):Prop where
 h:∃ fs c,H A.a=!.ins CH A.dx fs/\fs.length<=40/\dg fs (px c A)
 t:∃ fs c,H A.t=!.ins CS A.dt fs/\fs.length<=40/\dg fs (rY A.ml c)
 ml:H A.ml=!.lst (L.map fun a=>-a.th)
 len:L.length=M.ts.length
 th:∀ i t,M.ts[i]?=!t->∃ a,L[i]?=!a/\j0 CT H a i t
 ro:H A.ro=!.dK (sD M.ro)
 st:H A.st=!.dK (sD M.st)
 tr:H A.tr=!.dK (sD M.tr)
 ov:H A.ov=!.dK (nD M.ov)
 un:H A.un=!.dK (nD M.un)
 nd:(A.w++L.flatMap Ta.l).Nodup
def  Kp(W:List ϋ)(H H':Hp):Prop:=∀ b o,b ∉ W->H b=!o->H' b=!o
def Kp.trans{W:List ϋ}{H H1 H2:Hp}(a:Kp W H H1)(b:Kp W H1 H2):Kp W H H2:=fun c o h e=>b c o h (a c o h e)
def Kp.of{W:List ϋ}{H H':Hp}(s:aj H H'):Kp W H H':=fun b o _ e=>s b o e
def cC{H:Hp}{a b:ϋ}{o u:HO}(h1:H a=!o)(h2:H b=!u)(h:o≠u):a≠b:=fun e=>h (by rw[e,h2]at h1;cases h1;rfl)
def bj{H:Hp}{a b:ϋ}{o:HO}(h1:H a=!o)(h2:H b=none):a≠b:=fun e=>by rw[e,h2]at h1;cases h1
def C5{H:Hp}{x d:ϋ}{o O oo:HO}(hn:H d=none)(hx:H x=!oo):upd (upd H d o) x O x=!O/\upd (upd H d o) x O d=!o/\(∀ b u,b≠x->H b=!u->upd (upd H d o) x O b=!u)/\d≠x:=by
 have n:=bj hx hn;show#[aw,by rw[ag (pp n),aw],fun b u hb e=>?_,pp n];rw[ag hb,ag (bj e hn)];show e
section
variable {CH CS CT:ϋ}{H H':Hp}{A:Ad}{L:List Ta}{M:Hs}
def j0.keep{W:List ϋ}{a:Ta}{i:Nat}{t:Th}(h:j0 CT H a i t)(k:Kp W H H')(hw:∀ b∈a.l,b ∉ W):j0 CT H' a i t where
 o:=let ⟨fs,e,r⟩:=h.o;#[fs,k _ _ (hw _ (by simp[Ta.l])) e,r]
 nm:=k _ _ (hw _ (by simp[Ta.l])) h.nm
 pl:=k _ _ (hw _ (by simp[Ta.l])) h.pl
def fU{i:Nat}{a:Ta}(h:L[i]?=!a){b:ϋ}(hb:b∈a.l):b∈L.flatMap Ta.l:=List.mem_flatMap.mpr #[a,GM h,hb]
def aF.keep{W:List ϋ}(i:aF CH CS CT H A L M)(k:Kp W H H')(hw:∀ b∈A.w++L.flatMap Ta.l,b ∉ W):aF CH CS CT H' A L M where
 h:=let ⟨fs,c,e,r⟩:=i.h;#[fs,c,k _ _ (hw _ (by simp[Ad.w])) e,r]
 t:=let ⟨fs,c,e,r⟩:=i.t;#[fs,c,k _ _ (hw _ (by simp[Ad.w])) e,r]
 ml:=k _ _ (hw _ (by simp[Ad.w])) i.ml
 len:=i.len
 th:=fun j t e=>let ⟨a,e1,h⟩:=i.th j t e;#[a,e1,h.keep k fun b hb=>hw b (u8 _ (fU e1 hb))]
 ro:=k _ _ (hw _ (by simp[Ad.w])) i.ro
 st:=k _ _ (hw _ (by simp[Ad.w])) i.st
 tr:=k _ _ (hw _ (by simp[Ad.w])) i.tr
 ov:=k _ _ (hw _ (by simp[Ad.w])) i.ov
 un:=k _ _ (hw _ (by simp[Ad.w])) i.un
 nd:=i.nd
def aF.same(i:aF CH CS CT H A L M)(s:aj H H'):aF CH CS CT H' A L M:=i.keep (W:=[]) (.of s) fun _ _=>by simp
def za:∀ {L:List Ta}{i j:Nat}{a a':Ta}{b:ϋ},(L.flatMap Ta.l).Nodup->L[i]?=!a->L[j]?=!a'->b∈a.l->b∈a'.l->i=j
 | [],_,_,_,_,_,_,h,_,_,_=>by simp at h
 | c::r,0,0,_,_,_,_,_,_,_,_=>rfl
 | c::r,0,j+1,a,a',b,nd,h1,h2,m1,m2=>by
  rw[Uf,Id]at nd;simp only[List.getElem?_cons_zero,_0]at h1;simp only[List.getElem?_cons_succ]at h2;subst h1;show absurd rfl (nd.2.2 b m1 b (fU h2 m2))
 | c::r,i+1,0,a,a',b,nd,h1,h2,m1,m2=>by
  rw[Uf,Id]at nd;simp only[List.getElem?_cons_zero,_0]at h2;simp only[List.getElem?_cons_succ]at h1;subst h2;show absurd rfl (nd.2.2 b m2 b (fU h1 m1))
 | c::r,i+1,j+1,a,a',b,nd,h1,h2,m1,m2=>by
  rw[Uf,Id]at nd;simp only[List.getElem?_cons_succ]at h1 h2;rw[za nd.2.1 h1 h2 m1 m2]
def aF.write{k:Nat}{a:Ta}{t':Th}(i:aF CH CS CT H A L M)(hk:L[k]?=!a)(hh:∃ fs c,H' A.a=!.ins CH A.dx fs/\fs.length<=40/\dg fs (px c A))(ht:∃ fs c,H' A.t=!.ins CS A.dt fs/\fs.length<=40/\dg fs (rY A.ml c))(aE:j0 CT H' a k t')(kp:Kp [A.a,A.t,a.th,a.nm,a.pl] H H'):aF CH CS CT H' A L { M with ts:=M.ts.set k t' }:=by
 have nd:=i.nd;rw[Id]at nd;let⟨n1,n2,n3⟩:=nd;have ma:∀ b∈a.l,b∈L.flatMap Ta.l:=fun b hb=>fU hk hb;have sM:∀ b∈[A.ml,A.ro,A.st,A.tr,A.ov,A.un],b ∉ [A.a,A.t,a.th,a.nm,a.pl]:=by
  intro b hb hm;have hw:b∈A.w:=by
   simp only[Ad.w,jp,kt,ww]at hb ⊢;rcases hb with h | h | h | h | h | h <;> simp[h]
  simp only[jp,kt,ww]at hm;rcases hm with rfl | rfl | rfl | rfl | rfl
  ·have:=(Ch.mp n1).1;simp only[jp,kt,ww,Re]at hb this;rcases hb with h | h | h | h | h | h <;> simp[h]at this
  ·have:=(Ch.mp (Ch.mp n1).2).1;simp only[jp,kt,ww,Re]at hb this;rcases hb with h | h | h | h | h | h <;> simp[h]at this
  ·show n3 _ hw _ (ma _ (by simp[Ta.l])) rfl
  ·show n3 _ hw _ (ma _ (by simp[Ta.l])) rfl
  ·show n3 _ hw _ (ma _ (by simp[Ta.l])) rfl
 show#[hh,ht,kp _ _ (sM _ ()) i.ml,by rw[i.len];simp,fun j t e=>?_,kp _ _ (sM _ ()) i.ro,kp _ _ (sM _ ()) i.st,kp _ _ (sM _ ()) i.tr,kp _ _ (sM _ ()) i.ov,kp _ _ (sM _ ()) i.un,i.nd];by_cases hj:j=k
 ·subst hj;have bS:j < M.ts.length:=by rw[<- i.len];show(lm.mp hk).1
  have e':(M.ts.set j t')[j]?=!t:=e;rw[Db bS]at e';cases e';show#[a,hk,aE]
 ·have e':(M.ts.set k t')[j]?=!t:=e;rw[AT (pp hj)]at e';let⟨a',e1,h1⟩:=i.th j t e';show#[a',e1,h1.keep kp fun b hb hm=>?_];have gI:=fU e1 hb;simp only[jp,kt,ww]at hm;rcases hm with rfl | rfl | rfl | rfl | rfl
  ·show n3 _ (by simp[Ad.w]) _ gI rfl
  ·show n3 _ (by simp[Ad.w]) _ gI rfl
  ·show hj (za n2 e1 hk hb (by simp[Ta.l]))
  ·show hj (za n2 e1 hk hb (by simp[Ta.l]))
  ·show hj (za n2 e1 hk hb (by simp[Ta.l]))
end
def  MD:V->Bool
 | .int _=>true
 | _=>false
def  T7:Sp:=ug fun v H Q _=>(∃ T,clsName H v=!T)/\Q (.bl (MD v)) H
def  T8:Sp:=ug fun x H Q _=>A4 (∃ T,clsName H x=!T) (Ld x) (fV x=true) (∀ H',aj H H'->Q .au H')
def  UG(C:ϋ):Sp:=Kd fun x n kd ow mi re tx H Q _=>X1 fun dx=>A2 (H x=!.ins C dx []) (∀ l1 l2 H',H l1=none->H l2=none->l1≠l2->l1≠x->l2≠x->(∀ b,b≠x->b≠l1->b≠l2->H' b=H b)->H' l1=!.dK []->H' l2=!.dT [] ->
   (∀ fs,fs.length<=40->dg fs (vv n kd ow mi re tx (-l1) (-l2))->H' x=!.ins C dx fs->Q .au H'))
def  adR(C:ϋ):Sp:=jy fun x H Q _=>X1 fun dx=>A2 (H x=!.ins C dx []) (∀ l H',H l=none->l≠x->(∀ b,b≠x->b≠l->H' b=H b)->H' l=!.lst []->(∀ fs,fs.length<=40->dg fs (rY l 0)->H' x=!.ins C dx fs->Q .au H'))
structure lH(CS:ϋ)(H:Hp)(x dt ml:ϋ)(rs:List V):Prop where
 o:∃ fs c,H x=!.ins CS dt fs/\fs.length<=40/\dg fs (rY ml c)
 ml:H ml=!.lst rs
def  vD(CS CT:ϋ)(x dt ml:ϋ)(rs:List V)(kd ow mi re tx:V)(H:Hp)(Q:VK):Prop :=
 ∀ th dG nm pl ks H',H th=none->H nm=none->H pl=none->lH CS H' x dt ml (rs++[-th])->H' th=!.ins CT dG ks->ks.length<=40->dg ks (vv (.int rs.length) kd ow mi re tx (-nm) (-pl)) ->
  H' nm=!.dK []->H' pl=!.dT []->Kp [x,ml] H H'->Q (.int rs.length) H'
def  aes(CS CT:ϋ):Sp:=Ka fun x kd ow mi re tx H Q _=>X3 fun dt ml rs=>A3 (lH CS H x dt ml rs) (rs.length<=500) (vD CS CT x dt ml rs kd ow mi re tx H Q)
def  XA(CS CT:ϋ):Sp:=As fun x ow mi re H Q _=>X3 fun dt ml rs=>A3 (lH CS H x dt ml rs) (rs.length<=500) (vD CS CT x dt ml rs (.str "folder") ow mi re (.str "") H Q)
def  Xk(CS CT:ϋ):Sp:=IE fun x ow tx mi re H Q _=>X3 fun dt ml rs=>A3 (lH CS H x dt ml rs) (rs.length<=500) (vD CS CT x dt ml rs (.str "file") ow mi re tx H Q)
def  SA(CS CT:ϋ):Sp:=B1 fun x ow tx H Q _=>X3 fun dt ml rs=>A3 (lH CS H x dt ml rs) (rs.length<=500) (vD CS CT x dt ml rs (.str "lead") ow (.str "") (.str "") tx H Q)
def  Mz(CH CS CT CN:ϋ):Sp:=B0 fun x v H Q E=>X3 fun A L M=>A5 (aF CH CS CT H A L M) (A.t=x) (∃ T,clsName H v=!T) (∀ (k:Nat) a t,v=.int k->L[k]?=!a->M.ts[k]?=!t->Q (-a.th) H) ((∀ k:Nat,v=.int k->¬ k < M.ts.length)->E (-CN) none H)
abbrev mZ:=Ad->List Ta->Hs->Nat->Ta->Th->Hp->VK->Prop
def  jS(CH CS CT:ϋ)(sel:Ad->ϋ)(f:mZ):Sp:=jF fun x n H Q _=>X6 fun A L M (k:Nat) a t=>A6 (aF CH CS CT H A L M) (sel A=x) (n=(k:Int)) (L[k]?=!a) (M.ts[k]?=!t) (f A L M k a t H Q)
def  adO(CH CS CT:ϋ)(sel:Ad->ϋ):Sp:=u7 fun x n z H Q _=>X6 fun A L M (k:Nat) a t=>A6 (aF CH CS CT H A L M) (sel A=x) (n=(k:Int)) (L[k]?=!a) (M.ts[k]?=!t) (Q ((aH (sD t.aG) (.inr z)).getD .au) H)
def  acu(CH CS CT:ϋ):Sp:=u7 fun x n z H Q _=>X6 fun A L M (k:Nat) a t=>A8 (aF CH CS CT H A L M) (A.a=x) (n=(k:Int)) (L[k]?=!a) (M.ts[k]?=!t) (fV (.str z)=true) (z.length<=1000) (∀ H',aj H H'->Q ((aH (sD t.aG) (.inr z)).getD .au) H')
def  BU(CH CS CT:ϋ)(sel:Ad->ϋ):Sp:=jy fun x H Q _=>X3 fun A L M=>A3 (aF CH CS CT H A L M) (sel A=x) (Q (.int M.ts.length) H)
abbrev LG:mZ:=fun _ _ _ _ _ t H Q=>t.aG.length < 64/\∀ l,H l=none->Q (-l) (upd H l (.lst ((gP (t.aG.map (·.1))).map V.str)))
abbrev Ky:mZ:=fun _ _ _ _ _ t H Q=>(t.bK=[]/\Q .au H)\/∃ f z,t.bK=[(f,z)]/\∀ p,H p=!.tup [.int (f:Nat),.str z]->Q (-p) H
abbrev xK:mZ:=fun _ _ _ _ _ t H Q=>Q (.str t.kd) H
abbrev acQ:mZ:=fun _ _ _ _ _ t H Q=>Q (.str t.ow) H
abbrev yz:mZ:=fun _ _ _ _ _ t H Q=>Q (.str t.tx) H
abbrev aeQ:mZ:=fun _ _ _ _ _ t H Q=>∀ l,H l=none->Q (-l) (upd H l (.tup [.str t.mi,.str t.re]))
abbrev Wn:mZ:=fun _ _ _ _ _ _ H Q=>Q .au H
def  MV(CH CS CT CA:ϋ):Sp:=B0 fun x v H Q E=>X3 fun A L M=>A5 (aF CH CS CT H A L M) (A.a=x) (∃ T,clsName H v=!T) (∀ z,v=.str z->(aH (sD M.ro) (.inr z)).isSome=true->Q .au H) ((∀ z,v=.str z->aH (sD M.ro) (.inr z)=none)->E (-CA) none H)
def  WZ(CH CS CT:ϋ):Sp:=kg fun x z H Q _=>X4 fun A L M (r:Nat)=>A4 (aF CH CS CT H A L M) (A.a=x) (aH (sD M.ro) (.inr z)=!.int r) (Q (.int r) H)
def  cf(t:Th)(asker:Str):Str:=if asker=t.ow then t.mi else t.re
def  abx(CT:ϋ):Sp:=kg fun x z H Q _=>X3 fun a i t=>A3 (j0 CT H a i t) (a.th=x) (Q (.str (cf t z)) H)
def  j5(v:V):Bool:=decide (v=.str "l") || decide (v=.str "g") || decide (v=.str "w")
def  aco(CR:ϋ):Sp:=ug fun v H Q E=>A3 (∃ T,clsName H v=!T) (j5 v=true->Q .au H) (j5 v=false->E (-CR) none H)
def  aV(s:Str)(z:Str):Bool:=Bool.not (Builtin.Str.occurrences z s 0 z.length 1).isEmpty
def  My(CH CS CT CA CR CN:ϋ):Sp:=As fun x w v r H Q E=>X3 fun A L M=>A7 (aF CH CS CT H A L M) (A.a=x) (∃ T,clsName H w=!T) (∃ T,clsName H v=!T) (∃ T,clsName H r=!T) ((∀ z,w=.str z->aH (sD M.ro) (.inr z)=none)->E (-CA) none H) (∀ z,w=.str z->(aH (sD M.ro) (.inr z)).isSome=true->(j5 r=false->E (-CR) none H) /\
    ∀ s,r=.str s->j5 r=true->((∀ k:Nat,v=.int k->¬ k < M.ts.length)->E (-CN) none H)/\∀ (k:Nat) t,v=.int k->M.ts[k]?=!t->Q (.bl (aV s (cf t z))) H)
local macro_rules | `(tactic| walk_at "rd")=>`(tactic| dsimp only[wD,EK,Dc,BX,mM,fC,DP,fX,tC,jg,DH,yp,oh,oF,lA,E9,xt,Cp,Ex,Ba,DS,rM,iW,tE,xr,xD,xU,jx,EX,DL,DF,B5,xI,Bb,wB,AF,RY,YW,Zn,Zh,nG,xY,Bw,DD,EE,Au,adh,Z6,Cv,rJoin,Ef,BP,vc,FC,yw,oY,DI,OW,Bj,R9,DG,CK,AG,DJ,AQ,va,rb,Fd,D1,Ec,Ej,Dw,E5,VQ,W4,EJ,Dl,ZM,Y1,abf,Tb,EC,E7,DB,E6,Ze,yS,Bz,Fp,B6,DU,JX,Ends.Ft,E1,wM,EO,D3,D5,Dy,BB,Ar,U2,uF,Tv,WU,adN,O5,CU,Cf,Cj,B2,yE,zh,ES,FE,FG,Z9,DW,abv,aee,XI,Wo,wF,BA,Ce,Es,Fj,SE,OT,vF,xF,VH,List.getElem?_cons_zero,List.getElem?_cons_succ,List.set_cons_zero,List.set_cons_succ,List.cons_append,List.nil_append])
local macro_rules | `(tactic| walk_at "w")=>`(tactic| (first | walk_at "rd" | skip))
local macro_rules | `(tactic| left)=>`(tactic| walk_at "w")
local macro_rules | `(tactic| right)=>`(tactic| (refine ai ?_;left))
local macro_rules | `(tactic| symm)=>`(tactic| decide +kernel)
local macro_rules | `(tactic| walk_at "f")=>`(tactic| (refine _c (m:=40) ?_ (by decide);(repeat (refine cP ?_));exact At _))
local macro_rules | `(tactic| walk_at "c")=>`(tactic| (repeat (first | exact trivial | (refine#[fun z=>(by first | exact#[_,rfl] | (rcases z with z | z <;> cases z)),?_]))))
open Dv (aa ae ao aM aP aQ aY bw bx bG bY cN cW df dS fM il au iT iY jB km kO mh ny nK oM oA pA qF qw rj vG uZ tQ u9 vt tZ xh xk xN w9 AR E3 C0 Cr Cs EZ EL xm Mm Jq Je MW Lh OR Mx Nz OC aci R4 Vu Tt adF Wz aai ad9 MU XS VG S3 bR aeg Bu aej)
abbrev ad:=@Dv.v
abbrev al:=@Dv.cut
abbrev am:=@Dv.fld
abbrev ap:=@Dv.str
abbrev bi:=@Dv.int
abbrev bn:=@Dv.call
abbrev bv:=@Dv.nil
abbrev ce:=@Dv.ix
abbrev cr:=@Dv.lst
abbrev db:=@Dv.op
abbrev dl:=@Dv.tup
abbrev dL:=@Dv.glob
abbrev em:=@Dv.cmp
abbrev f8:=@Dv.bl
abbrev ge:=@Dv.w_or
abbrev gl:=@Dv.make
abbrev im:=@Dv.w_and
abbrev io:=@Dv.slice
section
variable {P:ύ}{w:World}{K:ν}{mg:Str->Option ϊ}{base:Heap}
variable (T:Tx K mg)
def Dx:T.ji.k P w base 1 (ZS K):=by
 exists T.ji,Sf,nB,fun x h=>?_;let⟨⟨ty,h1⟩,mB,q⟩:=h;show#[_,((al (aY (fM (ge (dS (cN (df mQ T.i8 iX (aa (ad 0) (aa (ny (.ty "str") T.ph pC rfl) ae))))) (km (dS (AR qS qS bi (df (nR (K:=K) rfl) T.lR T0 (aa (ad 0) ae)) (dL (.int 8) T.W3 #[_,rfl])))))) (ao (aM f8)) bv)
 (ao (aM (df (OP (K:=K) rfl rfl) T.LS OK (aa (Mm rfl (x:=("sign":Str)) (aci (ad 0)) (fun _ _ _ _=>by show xh) (fun _ _ _ _=>by show(il 0 (show List.Nodup (["sign"]:List Str) by decide))) (fun _ _ _ _=>by show(em (jU (K:=K) rfl) (ad 0) (dL (.str "abcdefghijklmnopqrstuvwxyz") T.Ti #[_,rfl]))) (.of rfl (by show trivial) (by walk_at "c") rfl (by show trivial))) ae)))))).h,?_]
 exists 0;show ai ?_;walk_at "rd";simp only[h1,DA h1];show#[zp _ rfl,?_];cases x with
 | str z =>
  simp only[xM,_L,Ev,TD];have hsh':z.length<=1000:=mB;have hl:z.cps.toList.length=z.length:=by simp[Str.length]
  show#[fits hsh',?_];by_cases a1:1<=z.length
  ·rw[ul (show(1:Int)<=(z.length:Int) by omega)];show bE ?_;by_cases a2:z.length<=8
   ·rw[ul (show(z.length:Int)<=8 by omega)];show aW ?_;show Tp (fun c=>.bl (sj.contains c)) (fits hsh') ?_ ?_
    ·intro c _ H1 _ R hR;walk_at "rd";rw[Td,show(#[(List.toArray [c])]:Str)=Tx.S [c] from rfl,Tx.Xj];show hR H1 (aj.refl H1)
    ·intro H1 s1 l nN;show#[_,aI.of aw,z.cps.toList.map (sj.contains ·),by rw[Os];rfl,?_];have e:((z.cps.toList.map (sj.contains ·)).all id)=fV (.str z):=by
      change _=isNm z.cps.toList;unfold isNm;rw[hl,ul a1,ul a2,List.all_map];rfl
     rw[e];show q _ (s1.trans (aj.upd nN))
   ·rw[mo (show ¬ (z.length:Int)<=8 by omega)];show bE ?_;have e:fV (.str z)=false:=by
     change isNm z.cps.toList=false;unfold isNm;rw[hl,mo a2,Bool.and_false,Jag]
    have:=q H (aj.refl H);rw[e]at this;show this
  ·rw[mo (show ¬ (1:Int)<=(z.length:Int) by omega)];show aW (bE ?_);have e:fV (.str z)=false:=by
    change isNm z.cps.toList=false;unfold isNm;rw[hl,mo a1,Jag,Jag]
   have:=q H (aj.refl H);rw[e]at this;show this
 | _=>show q H (aj.refl H)
def bt{X:Cx}{b:List Stmt}{t:TS}{D:Ends}{σ:St}{H:Hp}(h:QB X b t)(q:t D σ H):∃ t,dm X b t/\t D σ H:=#[t,h.h,q]
def  aev:V->Bool
 | .int _=>true
 | .bl _=>true
 | _=>false
def Tz{H:Hp}{v:V}{ty:String}(h:clsName H v=!ty):xp ty "int" = aev v:=by
 unfold clsName at h;split at h
 ·cases h;rfl
 ·cases h;rfl
 ·cases h;rfl
 ·cases h;rfl
 ·split at h
  ·cases h;rfl
  ·cases h;rfl
  ·cases h;rfl
  ·cases h
 ·cases h
def Di:T.iM.k P w base 1 T7:=by
 exists T.iM,acf,nB,fun v h=>?_;let⟨⟨ty,cU⟩,q⟩:=h;show#[_,((ao (aM (xk (df mQ T.i8 iX (aa (ad 0) (aa (ny (.ty "int") T.yr wO rfl) ae))) (Dv.one (R4 (df mQ T.i8 iX (aa (ad 0) (aa (ny (.ty "bool") T.g_bool T4 rfl) ae))))))))).h,?_];exists 0;left;simp only[cU];show#[⋯,?_];cases v with
 | int i=>cases cU;show bE #[⋯,q]
 | bl b=>cases cU;show bE #[⋯,q]
 | _ =>
  rw[Tz cU];show aW q
def Ap:T.iL.k P w base 2 T8:=by
 exists T.iL,Xh,nB,fun x h=>?_;let⟨hc,mB,hn,q1⟩:=h;show#[_,((ao (aY (dS (cN (Dx<$>T.ji (aa (ad 0) ae)))) (ao nK) bv))).h,?_];exists 0;left;show#[hc,mB,fun H' s'=>?_];rw[hn];show aW (q1 H' s')
def  gQ:List Str:=["","l","g","w","lg","lw","gw","lgw"]
def  Ts:Sp:=lB fun z H Q _=>z∈gQ/\Q (.bl true) H
def  Wj:Sp:=lB fun z H Q _=>z∈gQ/\Q .au H
def X0{z:Str}{zs:List Str}(h:z∈zs):gE (V.str z) (zs.map V.str)=true:=by
 unfold gE;rw[List.any_map,List.any_eq_true];show#[z,h,show(z == z)=true from beq_self_eq_true z]
def RB:T.qu.k P w base 1 Ts:=by
 exists T.qu,aax,f6,fun z h=>?_;let⟨hz,q⟩:=h;show#[_,((ao (aM (xk (df mQ T.i8 iX (aa (ad 0) (aa (ny (.ty "str") T.ph pC rfl) ae))) (Dv.one (em (yX (K:=K) rfl) (ad 0) (dL (-T.HF) T.VS rfl))))))).h,?_];exists 0;left;show#[⋯,bE #[_,.inr (T.FK H),rfl,rfl,?_]];rw[show [V.str "",V.str "l",V.str "g",V.str "w",V.str "lg",V.str "lw",V.str "gw",V.str "lgw"]=gQ.map V.str from rfl,X0 hz];show q
def pq:T.dJ.k P w base 2 Wj:=by
 exists T.dJ,acd,f6,fun z h=>?_;let⟨hz,q⟩:=h;show#[_,((ao (aY (dS (cN (RB<$>T.qu (aa (ad 0) ae)))) (ao nK) bv))).h,?_];exists 0;left;show#[hz,aW q]
def TC(v:V):gE v [V.str "l",V.str "g",V.str "w"]=j5 v:=by
 unfold gE j5;simp only[_j,List.any_nil,Jaq];have key:∀ z:Str,eV (.str z) v=decide (v=.str z):=fun z=>by
  cases v with
  | str y =>
   change(z == y)=decide (V.str y=V.str z);by_cases e:z=y
   ·subst e;simp
   ·rw[mo (by intro h;injection h with h;show e h.symm)];show Do.mpr e
  | _=>rfl
 rw[key,key,key,Bool.or_assoc]
def Z2:aB P w K mg base (bc P w) 1 T.rf.f T.rf.d ["text"] (aco T.vW):=by
 show T.rf.F.cS aaL (fun _ _ _ _ h=>nB h fun _ _=>rfl) fun ah A _ s H vs Q E hr h=>nB h fun v h=>?_;let⟨⟨ty,cU⟩,q1,q2⟩:=h;show#[_,((ao (aY (fM (ge (dS (cN (df mQ T.i8 iX (aa (ad 0) (aa (ny (.ty "str") T.ph pC rfl) ae))))) (km (bw (Be (K:=K) rfl) (ad 0) (dL (-T.FO) T.Xc rfl))))) (ao (xN zk rfl T.Wa T.adK (aa ap ae))) bv))).h,?_];exists 0;left;simp only[cU,DA cU];show#[zp _ rfl,?_];cases v with
 | str z =>
  simp only[xM,_L,Ev,TD];show#[_,.inr (T.Bt H),rfl,rfl,?_];rw[TC];cases ho:j5 (.str z) with
  | true=>show aW (q1 ho)
  | false=>show bE #[fits (),q2 ho]
 | _=>show#[fits (),q2 rfl]
def Yd:T.qE.k P w base 2 (YD K):=by
 exists T.qE,Ur,f6,fun z h=>?_;let⟨w',rfl,hw,q⟩:=h;show#[_,((ao (aM (Vu (em (yX (K:=K) rfl) (ad 0) (dL (-T.GY) T.Vv rfl)) (Dv.one (Dx<$>T.ji (aa (ad 0) ae))))))).h,?_];exists 0;walk_at "rd";show#[_,.inr (T.C7 H),rfl,rfl,?_];have e:gE (V.str (Tx.S w')) [V.str ".",V.str ".."]=(decide (w'=[46]) || decide (w'=[46,46])):=by
  rw[show ώ "." = Tx.S [46] from by symm,show ώ ".." = Tx.S [46,46] from by symm];unfold gE eV;simp only[_j,List.any_nil,Jaq];have b:∀ m:List Nat,(Tx.S m == Tx.S w')=decide (w'=m):=fun m=>by
   by_cases h:w'=m
   ·rw[h];simp
   ·have:Tx.S m≠Tx.S w':=fun e=>h (Tx.Ot e).symm;rw[mo h];show Do.mpr this
  rw[b,b]
 rw[e];cases hd:(decide (w'=[46]) || decide (w'=[46,46])) with
 | true =>
  show bE ?_;have:=q H (aj.refl H);unfold cZ at this;rw[hd]at this;show this
 | false =>
  show aW ?_;show#[#[_,rfl],(by change(Tx.S w').length<=1000;rw[Tx.dE];show hw),fun H' s'=>?_];have:=q H' s';unfold cZ at this;rw[hd,Bool.false_or]at this;have e2:fV (V.str (Tx.S w'))=isNm w':=by change isNm _=_;rw[Tx.nQ]
  rw[e2];show this
def jI:T.cz.k P w base 3 (acV K):=by
 exists T.cz,MX,f6,fun z h=>?_;let⟨t,rfl,t1,t2,mx,q⟩:=h;show#[_,((al (aY (fM (ge (dS (cN (df mQ T.i8 iX (aa (ad 0) (aa (ny (.ty "str") T.ph pC rfl) ae))))) (km (dS (AR qS qS bi (df (nR (K:=K) rfl) T.lR T0 (aa (ad 0) ae)) (dL (.int 2000) T.YR #[_,rfl])))))) (ao nK) bv)
 (al (Tt 1 rfl MX.nd (x:=("part":Str)) (vG (K:=K) rfl (uZ PySem.F.slot_str_split PySem.F.type_str_split ZO (ad 0) (aa ap ae))) (fun _ _ _ _=>by show(E3 (bw mq (ad 0) ap))) (fun _ _ _ _=>by show(il 0 (show List.Nodup (["part"]:List Str) by decide))) (fun _ _ _ _=>by show(ad 0)) (.of rfl (by show trivial) (by walk_at "c") rfl (by show trivial)))
 (al (aY (dS (cN (df (OP (K:=K) rfl rfl) T.LS OK (aa (Mm rfl (x:=("part":Str)) (vG (K:=K) rfl (ad 1)) (fun _ _ _ _=>by show xh) (fun _ _ _ _=>by show(il 0 (show List.Nodup (["part"]:List Str) by decide))) (fun _ _ _ _=>by show(Yd<$>T.qE (aa (ad 0) ae))) (.of rfl (by show trivial) (by walk_at "c") rfl (by show trivial))) ae)))) (ao nK) bv)
 (al (aY (fM (im (bw (Ll hr.nA) (ad 1) (cr ae)) (qF (cN (uZ PySem.F.slot_str_endswith PySem.F.type_str_endswith aaf (ad 0) (aa ap ae)))))) (ao (aP (jB IN IO m7 (ad 1) (aa ap ae)))) bv)
 (ao (aM (dl (aa (uZ PySem.F.slot_str_startswith PySem.F.type_str_startswith adI (ad 0) (aa ap ae)) (aa (ad 1) ae)))))))))).h,?_]
 exists 1;show ai ?_;walk_at "rd";have k9:ώ "/" = Tx.S [47]:=by symm
 have e0:ώ "" = Tx.S []:=by symm
 simp only[Tx.dE,k9,e0];show#[zp _ rfl,aW #[wE t2 ⋯,?_]];rw[ul (show(1:Int)<=(t.length:Int) by omega),ul (show(t.length:Int)<=2000 by omega)];show bE (aW (ai ?_));walk_at "rd";have f7:=Tx.Fn 47 t;show#[rfl,by rw[Tx.dE];show wE t2 ⋯,?_,?_]
 ·rw[Tx.Ml,Tx.oE,Tx.Ly,Tx.xu,lv];show wE (show _<=2001 by omega) ⋯
 intro l hl;rw[Tx.acO t 47 ⋯];show eP hl fun H1 s1 b1=>?_;show#[#[_,aI.of b1],IZ (fun x=>match x with | .str z=>Bool.not (decide (z=Tx.S [])) | _=>false) id (aI.of b1) (by rw[lv,lv];show wE (show _<=2001 by omega) ⋯) ?_ ?_ ?_]
 ·intro x hx H2 _ R hR;let⟨z,_,rfl⟩:=zn.mp hx;walk_at "rd";show hR H2 (aj.refl H2)
 ·intro x hx _ H2 _ R hR;walk_at "rd";show hR H2 (aj.refl H2)
 intro H2 s2 l2 dk;have ew:((((Tx.cut 47 t).map Tx.S).map V.str).filter (fun x=>match x with | .str z=>Bool.not (decide (z=Tx.S [])) | _=>false)).map id=PV (Tx.words 47 t):=by
  rw[List.map_id,_O];change((((Tx.cut 47 t).map Tx.S)).filter _).map V.str=_
  congr 1
  rw[<- Tx.ach];show _B fun z _=>?_;change(Bool.not (decide (z=Tx.S [])))=decide (z≠Tx.S []);by_cases h:z=Tx.S [] <;> simp[h]
 rw[ew];have gJ:H l2=none:=(s1.trans s2).free dk;show eP dk fun H3 s3 b3=>?_;have sH3:aj H H3:=(s1.trans s2).trans s3;have sV:(Tx.words 47 t).length<=2001:=wE (ST _ _) ∅;show ai ?_;walk_at "rd";show#[#[_,aI.of b3],IZ (fun _=>true) (fun x=>match x with | .str z=>.bl (cZ z.cps.toList) | _=>.bl false) (aI.of b3) (by rw[lv,lv];show wE sV ⋯) ?_ ?_ ?_]
 ·intro x _ H4 _ R hR;show hR H4 (aj.refl H4)
 ·intro x hx _ H4 _ R hR;let⟨z,hz,rfl⟩:=zn.mp hx;let⟨w',hw,rfl⟩:=zn.mp hz;walk_at "rd";let⟨_,_,g3⟩:=qj (Da.mp mx w' hw);show#[w',rfl,∅,fun H5 s5=>?_];have:=hR H5 s5;simp only[Tx.nQ]at this;show this
 intro H4 s4 l4 Ah;have eb:((PV (Tx.words 47 t)).filter (fun _=>true)).map (fun x=>match x with | .str z=>V.bl (cZ z.cps.toList) | _=>V.bl false)=((Tx.words 47 t).map cZ).map V.bl:=by
  rw[List.filter_eq_self.mpr (fun _ _=>rfl),Os,Os,Os];show List.map_congr_left fun w' _=>?_;change V.bl (cZ (Tx.S w').cps.toList)=V.bl (cZ w');rw[Tx.nQ]
 rw[eb];show#[_,aI.of aw,_,rfl,?_];have ea:((Tx.words 47 t).map cZ).all id=true:=by rw[List.all_map];show mx
 rw[ea];show aW ?_;have s5:=aj.upd (o:=.lst (((Tx.words 47 t).map cZ).map V.bl)) Ah;generalize upd H4 l4 (.lst (((Tx.words 47 t).map cZ).map V.bl))=H5 at s5 ⊢;have b5:H5 l2=!.lst (PV (Tx.words 47 t)):=s5 _ _ (s4 _ _ b3);have Gs:aj H H5:=(sH3.trans s4).trans s5;show iS (fun σ' H'=>σ'=[!V.str (Tx.S t),!V.ref l2]/\aj H H'/\H' l2=!.lst (PV (told (Tx.words 47 t) t))) ?_ ?_
 ·walk_at "rd";show#[fits (),fun p hp=>?_];have s6:=aj.upd (o:=.lst []) hp;have c6:upd H5 p (.lst []) p=!.lst ((([]:List Str)).map V.str):=aw;generalize upd H5 p (.lst [])=H6 at s6 c6 ⊢;have b6:H6 l2=!.lst (PV (Tx.words 47 t)):=s6 _ _ b5;show#[(Tx.words 47 t).map Tx.S,[],b6,c6,?_];by_cases z9:Tx.words 47 t=[]
  ·rw[ul (show(Tx.words 47 t).map Tx.S=[] by rw[z9];rfl)];show aW (aW #[by trivial,Gs.trans s6,?_]);unfold told;rw[wP (fun z=>z.1 z9)];show b6
  ·rw[mo (show ¬ (Tx.words 47 t).map Tx.S=[] by simpa using z9)];show bE ?_;rw[Tx.Ry];by_cases zQ:t.getLast?=!47
   ·rw[ul zQ];show bE ?_;simp only[b6];show#[by rw[lv,lv];show _c sV ⋯,by trivial,dq.same (Gs.trans s6) gJ dq.upd,?_];unfold told;rw[xL #[z9,zQ],aw,show ώ "." = Tx.S [46] from by symm];simp only[PV,Go,wS,NE]
   ·rw[mo zQ];show aW #[by trivial,Gs.trans s6,?_];unfold told;rw[wP (fun z=>zQ z.2)];show b6
 ·rintro σ' H6 ⟨rfl,s6,b6⟩;walk_at "rd";simp only[k9,Tx.aan];show#[fits (),fun p hp=>?_];show q _ l2 p (s6.trans (aj.upd hp)) gJ (Vo b6 hp) aw
def UC:T.vi.k P w mg base 1 (UG T.bb):=by
 exists T.vi,Uy,Ir,fun x n kd ow mi re tx h=>?_;let⟨dx,hx,q⟩:=h;show#[_,((al (bG T.di T.ac6 (ad 0) (ad 1))
 (al (bG T.di T.AB (ad 0) (ad 2))
 (al (bG T.di T.A0 (ad 0) (ad 3))
 (al (bG T.di T.FJ (ad 0) (ad 4))
 (al (bG T.di T.Fh (ad 0) (ad 5))
 (al (bG T.di T.AW (ad 0) (ad 6))
 (al (bG T.di T.vH (ad 0) mh)
 (ao (bG T.di T.uu (ad 0) adF)))))))))).h,?_]
 exists 0;show ai ?_;walk_at "rd";show#[x,dx,_,rfl,hx,⋯,ai ?_];walk_at "rd";show#[x,dx,_,rfl,aw,by walk_at "f",ai ?_];walk_at "rd";show#[x,dx,_,rfl,aw,by walk_at "f",ai ?_];walk_at "rd";show#[x,dx,_,rfl,aw,by walk_at "f",ai ?_];walk_at "rd";show#[x,dx,_,rfl,aw,by walk_at "f",ai ?_];walk_at "rd";show#[x,dx,_,rfl,aw,by walk_at "f",ai ?_];simp only[ku];walk_at "rd";intro l1 h1;have n1:l1≠x:=fun e=>by rw[e,aw]at h1;cases h1
 have h1':H l1=none:=by rw[ag n1]at h1;show h1
 show#[x,dx,_,rfl,by rw[ag (pp n1),aw],by walk_at "f",fun l2 h2=>?_];have n2:l2≠x:=fun e=>by rw[e,aw]at h2;cases h2
 rw[ag n2]at h2;have n3:l2≠l1:=fun e=>by rw[e,aw]at h2;cases h2
 rw[ag n3,ag n2]at h2;show#[x,dx,_,rfl,by rw[ag (pp n2),aw],by walk_at "f",?_];show q l1 l2 _ h1' h2 (pp n3) n1 n2 (fun b b1 b2 b3=>?_) ?_ ?_ _ ?_ (fun f=>?_) aw
 ·rw[ag b1,ag b3,ag b1,ag b2,ag b1]
 ·rw[ag n1,ag (pp n3),ag n1,aw]
 ·rw[ag n2,aw]
 ·show wE (by (repeat (show cP ?_));show At _) (pi 40)
 ·rfl
def Vq:T.vK.k P w mg base 1 (adR T.aR):=by
 exists T.vK,RZ,ee,fun x h=>?_;let⟨dx,hx,q⟩:=h;show#[_,((al (bG T.b8 T.r8 (ad 0) (cr ae))
 (ao (bG T.b8 T.qz (ad 0) bi)))).h,?_]
 exists 0;show ai ?_;walk_at "rd";show#[fits (),fun l hl=>?_];have n1:l≠x:=fun e=>by rw[e,hx]at hl;cases hl
 show#[x,dx,_,rfl,by rw[ag (pp n1)];show hx,⋯,?_];show#[x,dx,_,rfl,aw,by walk_at "f",?_];show q l _ hl n1 (fun b b1 b2=>?_) ?_ _ ?_ (fun f=>?_) aw
 ·rw[ag b1,ag b1,ag b2]
 ·rw[ag n1,ag n1,aw]
 ·show wE (cP (cP (At _))) (show 0+1+1<=40 by decide)
 ·rfl
def TY:T.uU.k P w mg base 1 (abx T.bb):=by
 exists T.uU,adG,eY,fun x z h=>?_;let⟨a,i,t,cA,rfl,q⟩:=h;let⟨fs,hx,aU,sf⟩:=cA.o;show#[_,((ao (aM (Jq (bw gj (ad 1) (am T.di T.A0 (ad 0))) (am T.di T.FJ (ad 0)) (am T.di T.Fh (ad 0)))))).h,?_];exists 0;left;show(fI hx sf rfl ?_);dsimp only;unfold cf at q;by_cases e:z=t.ow
 ·rw[ul e];rw[xL e]at q;show bE (fI hx sf rfl q)
 ·rw[mo e];rw[wP e]at q;show aW (fI hx sf rfl q)
def Ea:T.mf.k P w mg base 3 (aes T.aR T.bb):=by
 exists T.mf,Mc,N2,fun x kd ow mi re tx h=>?_;let⟨dt,ml,rs,⟨⟨fs,c,hx,aU,sf⟩,iC⟩,fG,q⟩:=h;show#[_,((al (iT T.b8 T.qz iR (ad 0) bi)
  (al (aQ 6 Mc.nd (df (nR (K:=K) rfl) T.lR T0 (aa (am T.b8 T.r8 (ad 0)) ae)))
  (al (aP (jB IN IO m7 (am T.b8 T.r8 (ad 0)) (aa (gl T.Vc (UC T) hr.m T.acr T.vi.b .nil ay (aa (ad 6) (aa (ad 1) (aa (ad 2) (aa (ad 3) (aa (ad 4) (aa (ad 5) ae))))))) ae)))
  (ao (aM (ad 6))))))).h,?_]
 exists 1;have cL:ml≠x:=fun e=>by rw[e,hx]at iC;cases iC
 show ai ?_;walk_at "rd";show#[x,dt,fs,.int c,rfl,hx,(sf _).trans rfl,_,_,rfl,rfl,dt,fs,hx,∅,ai ?_];have c8:dg (az "changes" (.int (c+1)) fs) (rY ml (c+1)):=fun f=>by rw[(sf.put "changes" (.int (c+1))) f];rfl
 have iF:(az "changes" (.int (c+1)) fs).length<=41:=cP aU;have bJ:upd H x (.ins T.aR dt (az "changes" (.int (c+1)) fs)) x=!.ins T.aR dt (az "changes" (.int (c+1)) fs):=aw;have mr:upd H x (.ins T.aR dt (az "changes" (.int (c+1)) fs)) ml=!.lst rs:=by rw[ag cL];show iC
 have jm:Kp [x] H (upd H x (.ins T.aR dt (az "changes" (.int (c+1)) fs))):=fun b o hb e=>by rw[ag (fun z=>hb (by simp[z]))];show e
 have pU:∀ b,b≠x->upd H x (.ins T.aR dt (az "changes" (.int (c+1)) fs)) b=H b:=fun b hb=>ag hb;generalize upd H x (.ins T.aR dt (az "changes" (.int (c+1)) fs))=H1 at bJ mr jm pU ⊢;walk_at "rd";show#[x,dt,_,-ml,rfl,bJ,(c8 _).trans rfl,?_];simp only[bO,mr];show ai ?_;walk_at "rd";show#[x,dt,_,-ml,rfl,bJ,(c8 _).trans rfl,?_];simp only[mr];intro th dG aE hdth jL;show#[dG,aw,fun nm pl H2 cB bD hnp hn1 gJ fr2 hnm2 hpl2 ks eQ sk hth2=>#[rfl,?_]];have Hu:∀ b o,H1 b=!o->upd (upd H1 dG (HO.own th)) th (HO.ins T.bb dG []) b=!o:=fun b o e=>by
  rw[ag (bj e aE),ag (bj e hdth)];show e
 have HA:∀ b o,H1 b=!o->H2 b=!o:=fun b o e=>by
  rw[fr2 b (bj e aE) (bj (Hu b o e) cB) (bj (Hu b o e) bD)];show Hu b o e
 have dn:∀ d,d≠th->upd (upd H1 dG (HO.own th)) th (HO.ins T.bb dG []) d=none->H1 d=none:=fun d n e=>by
  rw[ag n]at e;by_cases z:d=dG
  ·rw[z,aw]at e;cases e
  ·rw[ag z]at e;show e
 have P1:=dn nm hn1 cB;have Pp:=dn pl gJ bD;have HQ:∀ d,H1 d=none->H d=none:=fun d e=>by rw[<- pU d (pp (bj bJ e))];show e
 simp only[HA _ _ mr];show#[ju ∅,?_];show q th dG nm pl ks _ (HQ _ aE) (HQ _ P1) (HQ _ Pp) #[#[_,c+1,by rw[ag (pp cL)];show HA _ _ bJ,?_,c8],aw] (by rw[ag (pp (bj mr aE))];show hth2) eQ sk
  (by rw[ag (pp (bj mr P1))];show hnm2) (by rw[ag (pp (bj mr Pp))];show hpl2) (fun b o hb e=>?_)
 ·rw[eX (u:=.int c) ((sf _).trans rfl)];show aU
 ·simp only[jp,kt,ww,Re]at hb;rw[ag hb.2];show HA _ _ (jm b o (by simp[hb.1]) e)
def IT:T.oJ.k P w mg base 4 (XA T.aR T.bb):=by
 exists T.oJ,ad4,yj,fun x ow mi re h=>?_;let⟨dt,ml,rs,at',fG,q⟩:=h;let⟨fs,c,hx,aU,sf⟩:=at'.o;show#[_,((ao (aM (Ea*>T.mf (ad 0) (aa (dL (.str "folder") T.uH #[_,rfl]) (aa (ad 1) (aa (ad 2) (aa (ad 3) (aa ap ae))))))))).h,?_];exists 0;left;show#[x,dt,fs,rfl,hx,(sf _).trans rfl,dt,ml,rs,at',fG,q]
def gM:aB P w K mg base (bc P w) 2 T.cR.f T.cR.d ["self","number"] (Mz T.aK T.aR T.bb T.sJ):=by
 show T.cR.F.cS abt (fun _ _ _ _ h=>xv h fun _ _ _=>rfl) fun ah A _ s H vs Q E hr h=>xv h fun x v h=>?_;let⟨AA,L,M,i,rfl,f7,q1,q2⟩:=h;let⟨fs,c,hx,aU,sf⟩:=i.t;show#[_,((al (aY (fM (ge (dS (cN (Di<$>T.iM (aa (ad 1) ae)))) (km (dS (AR qS oT bi (ad 1) (df (nR (K:=K) rfl) T.lR T0 (aa (am T.b8 T.r8 (ad 0)) ae))))))) (ao (xN zk rfl T.abg T.WO (aa ap ae))) bv)
 (ao (aM (ce (bP (K:=K) rfl) (am T.b8 T.r8 (ad 0)) (ad 1)))))).h,?_]
 exists 0;right;show#[f7,?_];cases v with
 | int n =>
  simp only[MD,_L,Ev,TD];show gL (fun h0=>?_) (fun h0=>bE #[fits (),q2 fun j e=>?_])
  ·have h0':0<=n:=of_decide_eq_true h0;show#[AA.t,_,_,-AA.ml,rfl,hx,(sf _).trans rfl,?_];simp only[bO,i.ml,lv,i.len];let⟨k,rfl⟩:=UF h0';by_cases hk:k < M.ts.length
   ·rw[ul (show(k:Int) < (M.ts.length:Int) by omega)];show aW #[AA.t,_,_,-AA.ml,rfl,hx,(sf _).trans rfl,?_];simp only[bO,i.ml];have Rk:k < L.length:=by rw[i.len];show hk
    rw[gv (xs:=L.map fun a=>V.ref a.th) (j:=k) (by rw[xz,sw Rk];rfl)];show q1 k _ _ rfl (sw Rk) (sw hk)
   ·rw[mo (show ¬ (k:Int) < (M.ts.length:Int) by omega)];show bE #[fits (),q2 fun j e=>?_];injection e with e;have:k=j:=∅
    rw[<- this];show hk
  ·injection e with e;show absurd (ul (show(0:Int)<=n by omega)) h0
 | _=>show#[fits (),q2 fun k e=>by cases e]
def Vg:T.tX.k P w mg base 1 (BU T.aK T.aR T.bb Ad.t):=by
 exists T.tX,SW,ee,fun x h=>?_;let⟨AA,L,M,i,rfl,q⟩:=h;let⟨fs,c,hx,aU,sf⟩:=i.t;show#[_,((ao (aM (df (nR (K:=K) rfl) T.lR T0 (aa (am T.b8 T.r8 (ad 0)) ae))))).h,?_];exists 0;left;show#[AA.t,_,_,-AA.ml,rfl,hx,(sf _).trans rfl,?_];simp only[bO,i.ml,lv,i.len];show q
section
variable {T:Tx K mg}{H:Hp}{A:Ad}{L:List Ta}{M:Hs}
def ic{k:Nat}{a:Ta}{t:Th}{Q:VK}{E:XK}(i:aF T.aK T.aR T.bb H A L M)(ha:L[k]?=!a)(ht:M.ts[k]?=!t)(q:Q (-a.th) H):Mz T.aK T.aR T.bb T.sJ [-A.t,.int (k:Int)] H Q E :=
 #[A,L,M,i,rfl,#[_,rfl],fun j a' t' e h1 h2=>by
  injection e with e;have:k=j:=∅
  subst this;rw[ha]at h1;cases h1;show q,fun h=>absurd (lm.mp ht).1 (h k rfl)]
def eG{k:Nat}{a:Ta}{t:Th}(i:aF T.aK T.aR T.bb H A L M)(ha:L[k]?=!a)(ht:M.ts[k]?=!t):j0 T.bb H a k t:=by
 let⟨a',e,h⟩:=i.th k t ht;rw[ha]at e;cases e;show h
end
def Lf:T.oI.k P w mg base 3 (adO T.aK T.aR T.bb Ad.t):=by
 exists T.oI,XM,ni,fun x n z h=>?_;let⟨AA,L,M,k,a,t,i,rfl,rfl,ha,aE,q⟩:=h;let⟨fs,c,hx,aU,sf⟩:=i.h;let⟨gs,c2,ht,cK,sg⟩:=i.t;have cA:=eG i ha aE;let⟨ks,ho,gZ,so⟩:=cA.o;show#[_,((ao (aM (Wz (ei hr) (am T.di T.vH (gM<&>T.cR (ad 0) (aa (ad 1) ae))) (ad 2))))).h,?_];exists 0;left;show(mI ht sg (ic i ha aE #[a.th,_,_,-a.nm,rfl,ho,(so _).trans rfl,a.nm,rfl,.inl #[_,.inl cA.nm],_,eC.k (k:=.inr z) cA.nm,q]))
def acX:T.uN.k P w mg base 3 (jS T.aK T.aR T.bb Ad.t Ky):=by
 exists T.uN,YJ,cy,fun x n h=>?_;let⟨AA,L,M,k,a,t,i,rfl,rfl,ha,aE,q⟩:=h;let⟨fs,c,hx,aU,sf⟩:=i.h;let⟨gs,c2,ht,cK,sg⟩:=i.t;have cA:=eG i ha aE;let⟨ks,ho,gZ,so⟩:=cA.o;show#[_,((ao (aM (Dv.minD rfl T.JP (am T.di T.uu (gM<&>T.cR (ad 0) (aa (ad 1) ae))))))).h,?_];exists 0;left;show(mI ht sg (ic i ha aE #[a.th,_,_,-a.pl,rfl,ho,(so _).trans rfl,a.pl,_,rfl,cA.pl,?_]));rcases q with ⟨e,q⟩ | ⟨f,z,e,q⟩
 ·rw[e];show .inl #[rfl,q]
 ·rw[e];show .inr #[_,_,rfl,q]
def uM:T.ij.k P w mg base 3 (jS T.aK T.aR T.bb Ad.a xK):=by
 exists T.ij,acN,cy,fun x n h=>?_;let⟨AA,L,M,k,a,t,i,rfl,rfl,ha,aE,q⟩:=h;let⟨fs,c,hx,aU,sf⟩:=i.h;let⟨gs,c2,ht,cK,sg⟩:=i.t;have cA:=eG i ha aE;let⟨ks,ho,gZ,so⟩:=cA.o;show#[_,((ao (aM (am T.di T.AB (gM<&>T.cR (am T.aJ T.eO (ad 0)) (aa (ad 1) ae)))))).h,?_];exists 0;left;show#[AA.a,_,_,-AA.t,rfl,hx,(sf _).trans rfl,AA.t,_,_,rfl,ht,(sg _).trans rfl,ic i ha aE (fI ho so rfl q)]
def Fg:T.lI.k P w mg base 4 (jS T.aK T.aR T.bb Ad.a Ky):=by
 exists T.lI,SH,cy,fun x n h=>?_;let⟨AA,L,M,k,a,t,i,rfl,rfl,ha,aE,q⟩:=h;let⟨fs,c,hx,aU,sf⟩:=i.h;let⟨gs,c2,ht,cK,sg⟩:=i.t;have cA:=eG i ha aE;let⟨ks,ho,gZ,so⟩:=cA.o;show#[_,((ao (aM (acX*>T.uN (am T.aJ T.eO (ad 0)) (aa (ad 1) ae))))).h,?_];exists 0;left;show#[AA.a,_,_,-AA.t,rfl,hx,(sf _).trans rfl,AA.t,_,_,rfl,ht,(sg _).trans rfl,AA,L,M,k,a,t,i,rfl,rfl,ha,aE,q]
def adu:T.tM.k P w mg base 3 (jS T.aK T.aR T.bb Ad.a Wn):=by
 exists T.tM,VD,cy,fun x n h=>?_;let⟨AA,L,M,k,a,t,i,rfl,rfl,ha,aE,q⟩:=h;let⟨fs,c,hx,aU,sf⟩:=i.h;let⟨gs,c2,ht,cK,sg⟩:=i.t;have cA:=eG i ha aE;let⟨ks,ho,gZ,so⟩:=cA.o;show#[_,((ao (aP (gM<&>T.cR (am T.aJ T.eO (ad 0)) (aa (ad 1) ae))))).h,?_];exists 0;left;show#[AA.a,_,_,-AA.t,rfl,hx,(sf _).trans rfl,AA.t,_,_,rfl,ht,(sg _).trans rfl,ic i ha aE q]
def YK:T.uV.k P w mg base 2 (BU T.aK T.aR T.bb Ad.a):=by
 exists T.uV,W5,ee,fun x h=>?_;let⟨AA,L,M,i,rfl,q⟩:=h;let⟨fs,c,hx,aU,sf⟩:=i.h;let⟨gs,c2,ht,cK,sg⟩:=i.t;show#[_,((ao (aM (tQ T.b8 T.tX.h (Vg T) hr.m T.tX.b .nil ay (am T.aJ T.eO (ad 0)))))).h,?_];exists 0;left;show#[AA.a,_,_,-AA.t,rfl,hx,(sf _).trans rfl,AA.t,_,_,rfl,ht,(sg _).trans rfl,AA,L,M,i,rfl,q]
section
variable {CH CS CT:ϋ}{H:Hp}{A:Ad}{L:List Ta}{M:Hs}
def aF.nz(i:aF CH CS CT H A L M){k:Nat}{a:Ta}(ha:L[k]?=!a):∀ b∈A.w,∀ c∈a.l,b≠c:=fun b hb c hc=>by
 have nd:=i.nd;rw[Id]at nd;show nd.2.2 b hb c (fU ha hc)
def aF.aT(i:aF CH CS CT H A L M):A.a≠A.t:=by
 have nd:=i.nd;rw[Id]at nd;have:=(Ch.mp nd.1).1;show fun e=>this (by rw[e];simp)
def JE:∀ {L:List Ta}{k:Nat}{a:Ta},(L.flatMap Ta.l).Nodup->L[k]?=!a->a.l.Nodup
 | c::r,0,a,nd,h=>by
  rw[Uf,Id]at nd;simp only[List.getElem?_cons_zero,_0]at h;subst h;show nd.1
 | c::r,k+1,a,nd,h=>by
  rw[Uf,Id]at nd;simp only[List.getElem?_cons_succ]at h;show JE nd.2.1 h
def aF.own(i:aF CH CS CT H A L M){k:Nat}{a:Ta}(ha:L[k]?=!a):a.th≠a.nm/\a.th≠a.pl/\a.nm≠a.pl:=by
 have nd:=i.nd;rw[Id]at nd;have:=JE nd.2.1 ha;simp only[Ta.l,Ch,jp,kt,ww,Re,not_false_eq_true,Jah,and_true]at this;show#[this.1.1,this.1.2,this.2]
end
section
variable {CH CS CT:ϋ}{H:Hp}{A:Ad}{L:List Ta}{M:Hs}
def aF.cnt{gs:List (Str×V)}{c v:Int}(i:aF CH CS CT H A L M)(ht:H A.t=!.ins CS A.dt gs)(hl:gs.length<=40)(sg:dg gs (rY A.ml c)):aF CH CS CT (upd H A.t (.ins CS A.dt (az "changes" (.int v) gs))) A L M:=by
 have nd:(A.a::A.t::([A.ml,A.ro,A.st,A.tr,A.ov,A.un]++L.flatMap Ta.l)).Nodup:=i.nd;have n1:=(Ch.mp (Ch.mp nd).2).1;have k:∀ {b o},b∈[A.ml,A.ro,A.st,A.tr,A.ov,A.un]++L.flatMap Ta.l->H b=!o->upd H A.t (.ins CS A.dt (az "changes" (.int v) gs)) b=!o:=fun {b o} hb e=>by rw[ag (a:=A.t) (b:=b) (fun z=>n1 (by rw[<- z];show hb))];show e
 show#[?_,#[_,v,aw,by rw[eX (u:=.int c) ((sg _).trans rfl)];show hl,fun f=>by rw[(sg.put "changes" (.int v)) f];rfl],k () i.ml,i.len,fun j t e=>?_,k () i.ro,k () i.st,k () i.tr,k () i.ov,k () i.un,i.nd]
 ·let⟨fs,c,e,r⟩:=i.h;show#[fs,c,by rw[ag i.aT];show e,r]
 ·let⟨a,e1,⟨fs,e,r⟩,h2,h3⟩:=i.th j t e;have m:∀ {b},b∈a.l->b∈[A.ml,A.ro,A.st,A.tr,A.ov,A.un]++L.flatMap Ta.l:=fun hb=>u8 _ (fU e1 hb);show#[a,e1,#[fs,k (m (by simp[Ta.l])) e,r],k (m (by simp[Ta.l])) h2,k (m (by simp[Ta.l])) h3]
def aF.ZR{k:Nat}{a:Ta}{t:Th}{l:List (Str×Nat)}(i:aF CH CS CT H A L M)(ha:L[k]?=!a)(ht:M.ts[k]?=!t):aF CH CS CT (upd H a.nm (.dK (sD l))) A L { M with ts:=M.ts.set k { t with aG:=l } }:=by
 let⟨hs,d,hx,G8,sx⟩:=i.h;let⟨gs,c,hg,cK,sg⟩:=i.t;let⟨a',e',it⟩:=i.th k t ht;rw[ha]at e';cases e';let⟨fs,hf,aU,sf⟩:=it.o;have own:=i.own ha;have off:=i.nz ha;show i.write ha #[hs,d,by rw[ag (off _ (by simp[Ad.w]) _ (by simp[Ta.l]))];show hx,G8,sx] #[gs,c,by rw[ag (off _ (by simp[Ad.w]) _ (by simp[Ta.l]))];show hg,cK,sg] #[#[fs,by rw[ag own.1];show hf,aU,sf],aw,by rw[ag (pp own.2.2)];show it.pl] (fun b o hb e=>?_);simp only[jp,kt,ww,Re]at hb;rw[ag hb.2.2.2.1];show e
def aF.Vh{k:Nat}{a:Ta}{t:Th}{l:List (Nat×Str)}(i:aF CH CS CT H A L M)(ha:L[k]?=!a)(ht:M.ts[k]?=!t):aF CH CS CT (upd H a.pl (.dT (pD l))) A L { M with ts:=M.ts.set k { t with bK:=l } }:=by
 let⟨hs,d,hx,G8,sx⟩:=i.h;let⟨gs,c,hg,cK,sg⟩:=i.t;let⟨a',e',it⟩:=i.th k t ht;rw[ha]at e';cases e';let⟨fs,hf,aU,sf⟩:=it.o;have own:=i.own ha;have off:=i.nz ha;show i.write ha #[hs,d,by rw[ag (off _ (by simp[Ad.w]) _ (by simp[Ta.l]))];show hx,G8,sx] #[gs,c,by rw[ag (off _ (by simp[Ad.w]) _ (by simp[Ta.l]))];show hg,cK,sg] #[#[fs,by rw[ag own.2.1];show hf,aU,sf],by rw[ag own.2.2];show it.nm,aw] (fun b o hb e=>?_);simp only[jp,kt,ww,Re]at hb;rw[ag hb.2.2.2.2];show e
end
def  h9(l:List (Str×Nat))(z:Str):List (Str×Nat):=l.filter fun e=>decide (e.1≠z)
def  qm(l:List (Nat×Str))(f:Nat)(z:Str):List (Nat×Str):=l.filter fun e=>decide (e≠(f,z))
def abY{l:List (Str×Nat)}{z:Str}:fw (sD l) (.inr z)=sD (h9 l z):=by
 unfold fw sD h9;rw[_O]
 congr 1
 show _B fun u _=>?_;change decide ((Sum.inr u.1:Key)≠.inr z)=decide (u.1≠z);by_cases h:u.1=z <;> simp[h]
def Xx{l:List (Nat×Str)}{f:Nat}{z:Str}:fw (pD l) [.inl (f:Int),.inr z]=pD (qm l f z):=by
 unfold fw pD qm;rw[_O]
 congr 1
 show _B fun u _=>?_;let⟨g,y⟩:=u;change decide (([.inl (g:Int),.inr y]:List Key)≠[.inl (f:Int),.inr z])=decide ((g,y)≠(f,z));by_cases h:(g,y)=(f,z)
 ·cases h;simp
 ·rw[ul h];show ul fun e=>h ?_;injection e with e1 e2;injection e2 with e2 _;injection e1 with e1;injection e2 with e2;have:g=f:=∅
  rw[this,e2]
def aa3{l:List (Nat×Str)}{f:Nat}{z:Str}(h:(f,z)∈l):aH (pD l) [.inl (f:Int),.inr z]=!.bl true:=by
 unfold aH pD;rw[SC];cases e:(l.map fun e=>(([.inl (e.1:Int),.inr e.2]:List Key),V.bl true)).find? fun kv=>decide (kv.1=[.inl (f:Int),.inr z]) with
 | none=>show absurd (Jan.mp e _ (_K h)) ()
 | some p =>
  let⟨u,_,rfl⟩:=zn.mp (_H e);show#[_,rfl,rfl]
def  gu(M:Hs)(k c:Nat)(t tc:Th)(z:Str):Hs:={ M with ts:=(M.ts.set k { t with aG:=h9 t.aG z }).set c { tc with bK:=qm tc.bK k z } }
def  XE(CH CS CT:ϋ):Sp:=u7 fun x n z H Q _=>X6 fun A L M (k:Nat) a t=>A6 (aF CH CS CT H A L M) (A.t=x) (n=(k:Int)) (L[k]?=!a) (M.ts[k]?=!t) ((aH (sD t.aG) (.inr z)=none/\Q .au H)\/∃ c ac tc,aH (sD t.aG) (.inr z)=!.int ((c:Nat):Int)/\L[c]?=!ac/\M.ts[c]?=!tc/\k≠c/\(k,z)∈tc.bK /\
   ∀ H',aF CH CS CT H' A L (gu M k c t tc z)->Kp [A.t,a.nm,ac.pl] H H'->Q .au H')
def MJ:T.ot.k P w mg base 4 (XE T.aK T.aR T.bb):=by
 exists T.ot,LP,ni,fun x n z h=>?_;let⟨AA,L,M,k,a,t,i,rfl,rfl,ha,aE,h⟩:=h;let⟨gs,c2,ht,cK,sg⟩:=i.t;show bt (b:=aO BM) ((al (aQ 3 LP.nd (Lf*>T.oI (ad 0) (aa (ad 1) (aa (ad 2) ae))))
 (ao (aY (bw O6 (ad 3) au) (al (iT T.b8 T.qz iR (ad 0) bi)
 (al (aP (C0 (am T.di T.vH (gM<&>T.cR (ad 0) (aa (ad 1) ae))) (ad 2)))
 (ao (aP (aai (ei hr) (am T.di T.uu (gM<&>T.cR (ad 0) (aa (ad 3) ae))) (dl (aa (ad 1) (aa (ad 2) ae)))))))) bv)))) ?_
 exists 1;right;show(mI ht sg #[AA,L,M,k,a,t,i,rfl,rfl,ha,aE,?_]);rcases h with ⟨hv,q⟩ | ⟨c,ac,tc,hv,dC,bT,lx,bD,q⟩
 ·rw[hv];show#[by trivial,aW q]
 ·rw[hv];show#[by trivial,bE (ai ?_)];left;show#[AA.t,_,_,.int c2,rfl,ht,(sg _).trans rfl,_,_,rfl,rfl,_,_,ht,∅,ai ?_];have i1:=i.cnt (v:=c2+1) ht cK sg;have k1:Kp [AA.t] H (upd H AA.t (.ins T.aR AA.dt (az "changes" (.int (c2+1)) gs))):=fun b o hb e=>by rw[ag (by simpa using hb)];show e
  generalize upd H AA.t (.ins T.aR AA.dt (az "changes" (.int (c2+1)) gs))=H1 at i1 k1 ⊢;let⟨gs1,c3,gH,GI,wb⟩:=i1.t;have FV:=eG i1 ha aE;let⟨gW,Qh,iF,c8⟩:=FV.o;left;show(mI gH wb (ic i1 ha aE #[a.th,_,_,-a.nm,rfl,Qh,(c8 _).trans rfl,a.nm,rfl,.inl #[_,.inl FV.nm],_,.inr z,_,FV.nm,rfl,hv,?_]));rw[abY];have i2:=i1.ZR (l:=h9 t.aG z) ha aE;have k2:Kp [AA.t,a.nm] H (upd H1 a.nm (.dK (sD (h9 t.aG z)))):=fun b o hb e=>by
   simp only[jp,kt,ww,Re]at hb;rw[ag hb.2];show k1 b o (by simp[hb.1]) e
  generalize upd H1 a.nm (.dK (sD (h9 t.aG z)))=H2 at i2 k2 ⊢;have Gh:(M.ts.set k { t with aG:=h9 t.aG z })[c]?=!tc:=by rw[AT lx];show bT
  have F6:=eG i2 dC Gh;let⟨Rm,c4,fh,QM,zG⟩:=i2.t;let⟨jo,zF,iH,cu⟩:=F6.o;left;show(mI fh zG (ic i2 dC Gh #[ac.th,_,_,-ac.pl,rfl,zF,(cu _).trans rfl,ac.pl,rfl,.inr #[_,.inl F6.pl],fits (),fun p hp=>?_]));show eP hp fun H3 s3 b3=>?_;show#[_,[.inl (k:Int),.inr z],_,p,s3 _ _ F6.pl,rfl,b3,aa3 bD,?_];rw[Xx];show q _ ((i2.same s3).Vh dC Gh) fun b o hb e=>?_;simp only[jp,kt,ww,Re]at hb;rw[ag hb.2.2];show s3 _ _ (k2 b o (by simp[hb.1,hb.2.1]) e)
def  Wm(CH CS CT:ϋ):Sp:=IJ fun x fn z kn H Q _=>X9 fun A L M (f:Nat) (k:Nat) af tf ak tk=>Du (aF CH CS CT H A L M) (A.t=x) (fn=(f:Int)) (kn=(k:Int)) (L[f]?=!af) (M.ts[f]?=!tf) (L[k]?=!ak) (M.ts[k]?=!tk) (f≠k) (aH (sD tf.aG) (.inr z)=none) (tf.aG.length<=500) (tk.bK=[]) (∀ H',aF CH CS CT H' A L { M with ts:=(M.ts.set f { tf with aG:=tf.aG++[(z,k)] }).set k { tk with bK:=[(f,z)] } }->Kp [A.t,af.nm,ak.pl] H H'->Q .au H')
def BD{l:List (Str×Nat)}{z:Str}{k:Nat}(h:aH (sD l) (.inr z)=none):putK (sD l) (.inr z) (.int (k:Int))=sD (l++[(z,k)]):=by
 have e:((sD l).any fun kv=>decide (kv.1=(Sum.inr z:Key)))=false:=by rw[xX,h];rfl
 unfold putK;rw[e];simp[sD]
def Uh:T.vf.k P w mg base 5 (Wm T.aK T.aR T.bb):=by
 exists T.vf,wA,IP,fun x fn z kn h=>?_;let⟨AA,L,M,f,k,af,tf,ak,tk,i,rfl,rfl,rfl,eI,bo,gT,fq,hfk,hv,eE,bD,q⟩:=h;let⟨fs,c,hx,aU,sf⟩:=i.h;let⟨gs,c2,ht,cK,sg⟩:=i.t;have Ro:=eG i gT fq;let⟨ks,ho,gZ,so⟩:=Ro.o;show#[_,((al (aQ 4 wA.nd (gM<&>T.cR (ad 0) (aa (ad 3) ae)))
 (al (iT T.b8 T.qz iR (ad 0) bi)
 (al (aP (MJ*>T.ot (ad 0) (aa (ad 1) (aa (ad 2) ae))))
 (al (aY (bw mq (am T.di T.AB (ad 4)) (dL (.str "file") T.Br #[_,rfl])) (ao (Cr _w rfl (vG (K:=K) rfl (qw (aaJ rfl) T.rC KQ (aa (am T.di T.uu (ad 4)) ae))) (Je (K:=K) (n:=2) rfl rfl (w9 (il 5 wA.nd) (w9 (il 6 wA.nd) MW))) (ao nK))) bv)
 (al (oM (ei hr) (am T.di T.vH (gM<&>T.cR (ad 0) (aa (ad 1) ae))) (ad 2) (ad 3))
 (ao (oM (ei hr) (am T.di T.uu (ad 4)) (dl (aa (ad 1) (aa (ad 2) ae))) f8)))))))).h,?_]
 exists 3;right;show(mI ht sg (ic i gT fq ?_));right;show#[AA.t,_,_,.int c2,rfl,ht,(sg _).trans rfl,_,_,rfl,rfl,_,_,ht,∅,ai ?_];have tn:∀ b∈ak.l,AA.t≠b:=i.nz gT _ (by simp[Ad.w]);have i1:aF T.aK T.aR T.bb (upd H AA.t (.ins T.aR AA.dt (az "changes" (.int (c2+1)) gs))) AA L M:=by
  have w:=i.write (H':=upd H AA.t (.ins T.aR AA.dt (az "changes" (.int (c2+1)) gs))) (t':=tk) gT #[fs,c,by rw[ag i.aT];show hx,aU,sf] #[_,c2+1,aw,by rw[eX (u:=.int c2) ((sg _).trans rfl)];show cK,fun f=>by rw[(sg.put "changes" (.int (c2+1))) f];rfl]
   (Ro.keep (W:=[AA.t]) (fun b o hb e=>by rw[ag (fun z=>hb (by simp[z]))];show e) fun b hb=>by simp[pp (tn b hb)]) (fun b o hb e=>by simp only[jp,kt,ww,Re]at hb;rw[ag hb.2.1];show e)
  have e:M.ts.set k tk=M.ts:=by
   apply _Y;intro j;by_cases hj:k=j
   ·subst hj;rw[Db (lm.mp fq).1,fq]
   ·rw[AT hj]
  rw[e]at w;show w
 have jm:Kp [AA.t] H (upd H AA.t (.ins T.aR AA.dt (az "changes" (.int (c2+1)) gs))):=fun b o hb e=>by rw[ag (fun z=>hb (by simp[z]))];show e
 generalize upd H AA.t (.ins T.aR AA.dt (az "changes" (.int (c2+1)) gs))=H1 at i1 jm ⊢;let⟨gs1,c3,gH,GI,wb⟩:=i1.t;have PR:=eG i1 gT fq;have ithf1:=eG i1 eI bo;let⟨ks1,Qj,hol1,Qm⟩:=PR.o;let⟨gW,Qh,iF,c8⟩:=ithf1.o;left;show(mI gH wb #[AA,L,M,f,af,tf,i1,rfl,rfl,eI,bo,.inl #[hv,?_]]);show iS (fun σ' H'=>aj H1 H'/\∃ t5 t6,σ'=[!V.ref AA.t,!V.int (f:Int),!V.str z,!V.int (k:Int),!-ak.th,t5,t6]) ?_ ?_
 ·left;show(fI Qj Qm rfl ?_);show gL (fun _=>?_) (fun _=>#[aj.refl _,_,_,rfl]);show(fI Qj Qm rfl ?_);have Gn:H1 ak.pl=!.dT []:=by have:=PR.pl;rw[bD]at this;show this
  show#[ak.pl,_,rfl,Gn,?_];intro l ks hk _ hl;have Hn:ks=[]:=Rs.mp hk;subst Hn;show#[#[_,aI.of aw],Eb (xs:=[]) (fun _ σ' H'=>H'=upd H1 l (.lst [])/\σ'=[!V.ref AA.t,!V.int (f:Int),!V.str z,!V.int (k:Int),!-ak.th,none,none]) #[rfl,rfl] (fun _ σ' H' _ h=>by rw[h.1];show aI.of aw) (fun j x σ' H' hx _=>by simp at hx) (fun σ' H' h=>?_)];let⟨rfl,rfl⟩:=h;show#[aj.upd hl,_,_,rfl]
 ·rintro σ' H2 ⟨s2,t5,t6,rfl⟩;have i2:=i1.same s2;let⟨Rm,c4,fh,QM,zG⟩:=i2.t;let⟨zE,d2,cx,hxl2,sx2⟩:=i2.h;have He:=eG i2 eI bo;let⟨jo,zF,iH,cu⟩:=He.o;have QY:=i2.own eI;have Qq:=i2.own gT;have Pq:=i2.nz eI;have Q9:=i2.nz gT;right;show(mI fh zG (ic i2 eI bo #[af.th,_,_,-af.nm,rfl,zF,(cu _).trans rfl,af.nm,_,rfl,hU.k (k:=.inr z) He.nm (ju (by unfold sD;rw[lv];omega)),?_]));rw[BD hv];have i3:aF T.aK T.aR T.bb (upd H2 af.nm (.dK (sD (tf.aG++[(z,k)])))) AA L { M with ts:=M.ts.set f { tf with aG:=tf.aG++[(z,k)] } }:=by
   show i2.write eI #[zE,d2,by rw[ag (Pq _ (by simp[Ad.w]) _ (by simp[Ta.l]))];show cx,hxl2,sx2] #[Rm,c4,by rw[ag (Pq _ (by simp[Ad.w]) _ (by simp[Ta.l]))];show fh,QM,zG] #[#[jo,by rw[ag QY.1];show zF,iH,cu],aw,by rw[ag (pp QY.2.2)];show He.pl] (fun b o hb e=>?_);simp only[jp,kt,ww,Re]at hb;rw[ag hb.2.2.2.1];show e
  have Rg:Kp [AA.t,af.nm] H (upd H2 af.nm (.dK (sD (tf.aG++[(z,k)])))):=fun b o hb e=>by
   simp only[jp,kt,ww,Re]at hb;rw[ag hb.2];show s2 _ _ (jm b o (by simp[hb.1]) e)
  generalize upd H2 af.nm (.dK (sD (tf.aG++[(z,k)])))=H3 at i3 Rg ⊢;have QJ:(M.ts.set f { tf with aG:=tf.aG++[(z,k)] })[k]?=!tk:=by rw[AT hfk];show fq
  have ithk3:=eG i3 gT QJ;let⟨ks3,ho3,hol3,so3⟩:=ithk3.o;left;show#[ak.th,_,_,-ak.pl,rfl,ho3,(so3 _).trans rfl,fits (),fun p hp=>?_];show eP hp fun H4 s4 b4=>?_;have i4:=i3.same s4;have Hc:=eG i4 gT QJ;let⟨ks4,ho4,hol4,so4⟩:=Hc.o;let⟨gs4,c5,ht4,hgl4,sg4⟩:=i4.t;let⟨hs4,d4,jM,hxl4,sx4⟩:=i4.h;have hpl4:H4 ak.pl=!.dT []:=by have:=Hc.pl;rw[bD]at this;show this
  show#[ak.pl,_,rfl,hU.t (k:=[.inl (f:Int),.inr z]) hpl4 b4 ⋯,?_];show q _ (i4.write gT #[hs4,d4,by rw[ag (Q9 _ (by simp[Ad.w]) _ (by simp[Ta.l]))];show jM,hxl4,sx4] #[gs4,c5,by rw[ag (Q9 _ (by simp[Ad.w]) _ (by simp[Ta.l]))];show ht4,hgl4,sg4] #[#[ks4,by rw[ag Qq.2.1];show ho4,hol4,so4],by rw[ag Qq.2.2];show Hc.nm,aw] (fun b o hb e=>?_)) (fun b o hb e=>?_)
  ·simp only[jp,kt,ww,Re]at hb;rw[ag hb.2.2.2.2];show e
  ·simp only[jp,kt,ww,Re]at hb;rw[ag hb.2.2];show s4 _ _ (Rg b o (by simp[hb.1,hb.2.1]) e)
def  KZ(CH:ϋ)(fld:Str):Sp:=u6 fun x z n H Q _=>X5 fun dx fs c d kvs=>A7 (H x=!.ins CH dx fs) (fs.length<=40) (fs.lookup ("changes":Str)=!.int c) (fs.lookup fld=!-d) (H d=!.dK kvs) (kvs.length<=40) (Q .au (upd (upd H x (.ins CH dx (az "changes" (.int (c+1)) fs))) d (.dK (putK kvs (.inr z) (.int n)))))
def  ab6(CH:ϋ):Sp:=kg fun x z H Q _=>X7 fun dx fs c ro st kr ks=>Ku (H x=!.ins CH dx fs) (fs.length<=40) (fs.lookup ("changes":Str)=!.int c) (fs.lookup ("roots":Str)=!-ro) (fs.lookup ("standings":Str)=!-st) (fs.lookup ("first_root":Str)=!.int 0) (fs.lookup ("put_root":Str)=none) (fs.lookup ("put_standing":Str)=none) (H ro=!.dK kr) (kr.length<=40) (H st=!.dK ks) (ks.length<=40) (ro≠st) (∀ fs' c' H',H' x=!.ins CH dx fs'->fs'.length<=40->dg fs' (az "changes" (.int c') fs)->H' ro=!.dK (putK kr (.inr z) (.int 0))->H' st=!.dK (putK ks (.inr z) (.int 0))->(∀ b,b≠x->b≠ro->b≠st->H' b=H b)->Q .au H')
def acq:T.tq.k P w mg base 1 (KZ T.aK "roots"):=by
 exists T.tq,Vd,kP,fun x z n h=>?_;let⟨dx,fs,c,d,kvs,hx,aU,hc,hd,hD,eQ,q⟩:=h;show#[_,((al (iT T.aJ T.yL iR (ad 0) bi)
 (ao (oM (ei hr) (am T.aJ T.qg (ad 0)) (ad 1) (ad 2))))).h,?_]
 exists 0;have cL:d≠x:=fun e=>by rw[e,hx]at hD;cases hD
 right;show#[x,dx,fs,.int c,rfl,hx,hc,_,_,rfl,rfl,dx,fs,hx,∅,?_];left;show#[x,dx,_,-d,rfl,aw,by rw[eB,wP ⋯];show hd,d,_,rfl,hU.k (k:=.inr z) (by rw[ag cL];show hD) (ju ∅),q]
def aaz:T.uI.k P w mg base 1 (KZ T.aK "standings"):=by
 exists T.uI,aei,kP,fun x z n h=>?_;let⟨dx,fs,c,d,kvs,hx,aU,hc,hd,hD,eQ,q⟩:=h;show#[_,((al (iT T.aJ T.yL iR (ad 0) bi)
 (ao (oM (ei hr) (am T.aJ T.AZ (ad 0)) (ad 1) (ad 2))))).h,?_]
 exists 0;have cL:d≠x:=fun e=>by rw[e,hx]at hD;cases hD
 right;show#[x,dx,fs,.int c,rfl,hx,hc,_,_,rfl,rfl,dx,fs,hx,∅,?_];left;show#[x,dx,_,-d,rfl,aw,by rw[eB,wP ⋯];show hd,d,_,rfl,hU.k (k:=.inr z) (by rw[ag cL];show hD) (ju ∅),q]
def Kt:T.pF.k P w mg base 2 (ab6 T.aK):=by
 exists T.pF,aeo,eY,fun x z h=>?_;let⟨dx,fs,c,ro,st,kr,ks,hx,aU,hc,n8,aX,iJ,tj,fj,GK,GZ,HU,Hn,Qr,q⟩:=h;show#[_,((al (aP (acq<*T.tq (ad 0) (aa (ad 1) (aa (am T.aJ T.AM (ad 0)) ae))))
 (ao (aP (aaz<*T.uI (ad 0) (aa (ad 1) (aa (am T.aJ T.AM (ad 0)) ae))))))).h,?_]
 exists 0;have n1:ro≠x:=fun e=>by rw[e,hx]at GK;cases GK
 have n2:st≠x:=fun e=>by rw[e,hx]at HU;cases HU
 right;show#[x,dx,fs,rfl,hx,tj,x,dx,fs,.int 0,rfl,hx,iJ,?_];show#[dx,fs,c,ro,kr,hx,∅,hc,n8,GK,GZ,?_];have bJ:upd (upd H x (.ins T.aK dx (az "changes" (.int (c+1)) fs))) ro (.dK (putK kr (.inr z) (.int 0))) x=!.ins T.aK dx (az "changes" (.int (c+1)) fs):=by rw[ag (pp n1),aw]
 have iq:upd (upd H x (.ins T.aK dx (az "changes" (.int (c+1)) fs))) ro (.dK (putK kr (.inr z) (.int 0))) ro=!.dK (putK kr (.inr z) (.int 0)):=aw;have FU:upd (upd H x (.ins T.aK dx (az "changes" (.int (c+1)) fs))) ro (.dK (putK kr (.inr z) (.int 0))) st=!.dK ks:=by rw[ag (pp Qr),ag n2];show HU
 have pU:∀ b,b≠x->b≠ro->upd (upd H x (.ins T.aK dx (az "changes" (.int (c+1)) fs))) ro (.dK (putK kr (.inr z) (.int 0))) b=H b:=fun b b1 b2=>by rw[ag b2,ag b1]
 generalize upd (upd H x (.ins T.aK dx (az "changes" (.int (c+1)) fs))) ro (.dK (putK kr (.inr z) (.int 0)))=H1 at bJ iq FU pU ⊢;have lk:∀ f:Str,f ≠ "changes" -> (az "changes" (.int (c+1)) fs).lookup f=fs.lookup f:=fun f hf=>by rw[eB,wP hf]
 left;show#[x,dx,_,rfl,bJ,(lk _ ⋯).trans fj,x,dx,_,.int 0,rfl,bJ,(lk _ ⋯).trans iJ,?_];show#[dx,_,c+1,st,ks,bJ,by rw[eX hc];show aU,by rw[eB,xL rfl],(lk _ ⋯).trans aX,FU,Hn,?_];show q _ (c+1+1) _ (by rw[ag (pp n2),aw]) (by rw[eX (u:=.int (c+1)) (by rw[eB,xL rfl]),eX hc];show aU) (fun f=>?_) (by rw[ag Qr,ag n1];show iq) aw (fun b b1 b2 b3=>by rw[ag b3,ag b1];show pU b b1 b2);rw[eB,eB,eB];by_cases e:f = "changes"
 ·rw[xL e,xL e]
 ·rw[wP e,wP e,wP e]
def  YX(CH CS CT:ϋ):Sp:=rE fun x m own H Q _=>A2 (m = "main") (X7 fun dx fs c t dt ml tr=>A9 (H x=!.ins CH dx fs) (fs.length<=40) (fs.lookup ("things":Str)=!-t) (fs.lookup ("changes":Str)=!.int c) (fs.lookup ("tree_roots":Str)=!-tr) (fs.lookup ("add_folder":Str)=none) (lH CS H t dt ml []) (H tr=!.dK []) (∀ th dG nm pl fs' ks c' H',H th=none->H nm=none->H pl=none->H' x=!.ins CH dx fs'->fs'.length<=fs.length->dg fs' (az "changes" (.int c') fs)->lH CS H' t dt ml [-th]->H' th=!.ins CT dG ks->ks.length<=40 ->
    dg ks (vv (.int 0) (.str "folder") (.str own) (.str "lgw") (.str "lg") (.str "") (-nm) (-pl))->H' nm=!.dK []->H' pl=!.dT []->H' tr=!.dK [(.inr "main",.int 0)]->Kp [x,t,ml,tr] H H'->Q (.int 0) H'))
def Um:T.um.k P w mg base 5 (YX T.aK T.aR T.bb):=by
 exists T.um,IG,kj,fun x m own h=>?_;let⟨rfl,dx,fs,c,t,dt,ml,tr,hx,aU,aE,hc,mJ,eI,F2,lq,q⟩:=h;let⟨gs,d,ht,cK,sg⟩:=F2.o;have iC:=F2.ml;show#[_,((al (aQ 3 IG.nd (IT*>T.oJ (am T.aJ T.eO (ad 0)) (aa (ad 2) (aa ap (aa ap ae)))))
 (al (iT T.aJ T.yL iR (ad 0) bi)
 (al (oM (ei hr) (am T.aJ T.N5 (ad 0)) (ad 1) (ad 3))
 (ao (aM (ad 3))))))).h,?_]
 exists 1;have n1:t≠x\/True:=.inr trivial;right;show#[x,dx,fs,-t,rfl,hx,aE,t,dt,gs,rfl,ht,(sg _).trans rfl,?_];show#[dt,ml,[],F2,(),?_];intro th dG nm pl ks H1 fth fnm fpl at1 hth1 hkl1 sk1 hnm1 Gn jm;let⟨gs',d',gH,GI,wb⟩:=at1.o;have mr:=at1.ml;have eg:x≠t:=fun e=>by
  rw[e,ht]at hx;injection hx with hx;injection hx with _ _ kZ;rw[<- kZ]at aE;have:=(sg "things").symm.trans aE;cases this
 have P5:x≠ml:=fun e=>by rw[e,iC]at hx;cases hx
 have Qi:tr≠t:=fun e=>by rw[e,ht]at lq;cases lq
 have Qu:tr≠ml:=fun e=>by rw[e,iC]at lq;cases lq
 have Pw:tr≠x:=fun e=>by rw[e,hx]at lq;cases lq
 have bJ:H1 x=!.ins T.aK dx fs:=jm _ _ (by simp[eg,P5]) hx;have hTr1:H1 tr=!.dK []:=jm _ _ (by simp[Qi,Qu]) lq;right;show#[x,dx,fs,.int c,rfl,bJ,hc,_,_,rfl,rfl,dx,fs,bJ,∅,ai ?_];left;show#[x,dx,_,-tr,rfl,aw,by rw[eB,wP ⋯];show mJ,tr,_,rfl,hU.k (k:=.inr "main") (by rw[ag Pw];show hTr1) ⋯,?_];left;have old:∀ b o,H1 b=!o->b≠x->b≠tr->upd (upd H1 x (.ins T.aK dx (az "changes" (.int (c+1)) fs))) tr (.dK (putK [] (.inr "main") (.int 0))) b=!o:=fun b o e b1 b2=>by rw[ag b2,ag b1];show e
 have QQ:th≠x/\th≠tr:=#[pp (bj hx fth),pp (bj lq fth)];have PQ:nm≠x/\nm≠tr:=#[pp (bj hx fnm),pp (bj lq fnm)];have Qf:pl≠x/\pl≠tr:=#[pp (bj hx fpl),pp (bj lq fpl)];show q th dG nm pl _ ks (c+1) _ fth fnm fpl (by rw[ag (pp Pw),aw]) (Nat.le_of_eq (eX hc)) (dg.refl _) #[#[gs',d',old _ _ gH (pp eg) (pp Qi),GI,wb],old _ _ mr (pp P5) (pp Qu)] (old _ _ hth1 QQ.1 QQ.2) hkl1 sk1 (old _ _ hnm1 PQ.1 PQ.2) (old _ _ Gn Qf.1 Qf.2) aw ?_;intro b o hb e;simp only[jp,kt,ww,Re]at hb;show old _ _ (jm b o (by simp[hb.2.1,hb.2.2.1]) e) hb.1 hb.2.2.2
def jD:aB P w K mg base (bc P w) 1 T.dD.f T.dD.d ["self","asker"] (MV T.aK T.aR T.bb T.sN):=by
 show T.dD.F.cS Wy (fun _ _ _ _ h=>xv h fun _ _ _=>rfl) fun ah A _ s H vs Q E hr h=>xv h fun x v h=>?_;let⟨AA,L,M,i,rfl,⟨ty,cU⟩,q1,q2⟩:=h;let⟨fs,c,hx,aU,sf⟩:=i.h;show#[_,((ao (aY (fM (ge (dS (cN (df mQ T.i8 iX (aa (ad 1) (aa (ny (.ty "str") T.ph pC rfl) ae))))) (km (Lh (ei hr) (ad 1) (am T.aJ T.qg (ad 0)))))) (ao (xN zk rfl T.abR T.aae (aa ap ae))) bv))).h,?_];exists 0;left;simp only[cU,DA cU];show#[zp _ rfl,?_];cases v with
 | str z =>
  simp only[xM,_L,Ev,TD];show#[AA.a,_,_,-AA.ro,rfl,hx,(sf _).trans rfl,AA.ro,_,rfl,eC.k (k:=.inr z) i.ro,?_];cases hz:aH (sD M.ro) (.inr z) with
  | none=>show bE #[fits (),q2 fun z' e=>by cases e;show hz]
  | some u=>show aW (q1 z rfl (by rw[hz];rfl))
 | _=>show#[fits (),q2 fun z' e=>by cases e]
section
variable {T:Tx K mg}{H:Hp}{A:Ad}{L:List Ta}{M:Hs}
def kS{z:Str}{Q:VK}{E:XK}(i:aF T.aK T.aR T.bb H A L M)(hz:(aH (sD M.ro) (.inr z)).isSome=true)(q:Q .au H):MV T.aK T.aR T.bb T.sN [-A.a,.str z] H Q E :=
 #[A,L,M,i,rfl,#[_,rfl],fun _ _ _=>q,fun h=>by rw[h z rfl]at hz;cases hz]
end
def Dt:T.mm.k P w mg base 2 (WZ T.aK T.aR T.bb):=by
 exists T.mm,Rt,eY,fun x z h=>?_;let⟨AA,L,M,r,i,rfl,hz,q⟩:=h;let⟨fs,c,hx,aU,sf⟩:=i.h;show#[_,((al (aP (cW T.aJ T.dD.h (jD T) hr.m T.dD.b .nil cO (ad 0) (aa (ad 1) ae)))
 (ao (aM (oA (ei hr) (am T.aJ T.qg (ad 0)) (ad 1)))))).h,?_]
 exists 0;right;show(mI hx sf (kS i (by rw[hz];rfl) ?_));show#[AA.a,_,_,-AA.ro,rfl,hx,(sf _).trans rfl,AA.ro,.int r,rfl,?_,q];have:=eC.k (k:=.inr z) i.ro;rw[hz]at this;show this
def  ZZ(CH CS CT:ϋ):Sp:=kg fun x z H Q _=>X4 fun A L M (r:Nat)=>A5 (aF CH CS CT H A L M) (A.a=x) ((aH (sD M.ro) (.inr z)).isSome=true) (aH (sD M.st) (.inr z)=!.int r) (Q (.int r) H)
def Ys:T.vJ.k P w mg base 2 (ZZ T.aK T.aR T.bb):=by
 exists T.vJ,abN,eY,fun x z h=>?_;let⟨AA,L,M,r,i,rfl,hzr,hz,q⟩:=h;let⟨fs,c,hx,aU,sf⟩:=i.h;show#[_,((al (aP (cW T.aJ T.dD.h (jD T) hr.m T.dD.b .nil cO (ad 0) (aa (ad 1) ae)))
 (ao (aM (oA (ei hr) (am T.aJ T.AZ (ad 0)) (ad 1)))))).h,?_]
 exists 0;right;show(mI hx sf (kS i hzr ?_));show#[AA.a,_,_,-AA.st,rfl,hx,(sf _).trans rfl,AA.st,.int r,rfl,?_,q];have:=eC.k (k:=.inr z) i.st;rw[hz]at this;show this
def OB:T.og.k P w mg base 4 (acu T.aK T.aR T.bb):=by
 exists T.og,abk,ni,fun x n z h=>?_;let⟨AA,L,M,k,a,t,i,rfl,rfl,ha,aE,hn,hl,q⟩:=h;show#[_,((al (aP (Ap<$>T.iL (aa (ad 2) ae)))
 (ao (aM (Lf*>T.oI (am T.aJ T.eO (ad 0)) (aa (ad 1) (aa (ad 2) ae))))))).h,?_]
 exists 0;right;show#[#[_,rfl],hl,hn,fun H1 s1=>?_];have i1:=i.same s1;let⟨fs,c,hx,aU,sf⟩:=i1.h;let⟨gs,c2,ht,cK,sg⟩:=i1.t;show#[AA.a,_,_,-AA.t,rfl,hx,(sf _).trans rfl,AA.t,_,_,rfl,ht,(sg _).trans rfl,AA,L,M,k,a,t,i1,rfl,rfl,ha,aE,q H1 s1]
def ye:aB P w K mg base (bc P w) 3 T.jE.f T.jE.d ["self","asker","number","right"] (My T.aK T.aR T.bb T.sN T.vW T.sJ):=by
 show T.jE.F.cS Wf (fun _ _ _ _ h=>yj h fun _ _ _ _ _=>rfl) fun ah A _ s H vs Q E hr h=>yj h fun x wv v r h=>?_;let⟨AA,L,M,i,rfl,hcw,hcv,hcr,q1,q2⟩:=h;let⟨fs,c,hx,aU,sf⟩:=i.h;let⟨gs,c2,ht,cK,sg⟩:=i.t;show#[_,((al (aP (cW T.aJ T.dD.h (jD T) hr.m T.dD.b .nil cg (ad 0) (aa (ad 1) ae)))
 (al (aP (Z2<*>T.rf (aa (ad 3) ae)))
 (ao (aM (em (jU (K:=K) rfl) (ad 3) (bx T.di T.uU.h (TY T) hr.m T.uU.b .nil ay (cW T.b8 T.cR.h (gM T) hr.m T.cR.b .nil cg (am T.aJ T.eO (ad 0)) (aa (ad 2) ae)) (aa (ad 1) ae)))))))).h,?_]
 exists 0;right;show(mI hx sf #[AA,L,M,i,rfl,hcw,fun z ez hz=>?_,q1]);let⟨q3,q4⟩:=q2 z ez hz;subst ez;right;show#[hcr,fun h1=>?_,q3];let⟨st,rfl⟩:∃ st,r=.str st:=by
  unfold j5 at h1;simp only[Bool.or_eq_true,_y]at h1;rcases h1 with (h1 | h1) | h1 <;> show#[_,h1]
 let⟨q5,q6⟩:=q4 st rfl h1;show#[AA.a,_,_,-AA.t,rfl,hx,(sf _).trans rfl,AA.t,_,_,rfl,ht,(sg _).trans rfl,AA,L,M,i,rfl,hcv,fun k a t ev ha aE=>?_,q5];have cA:=eG i ha aE;let⟨ks,ho,gZ,so⟩:=cA.o;show(mI ho so #[a,k,t,cA,rfl,q6 k t ev aE])
def  M0(z:Str):Hs:={ ts:=[{ kd := "folder",ow:=z,mi := "lgw",re := "lg",tx := "",aG:=[],bK:=[] }],ro:=[(z,0)],st:=[(z,0)],tr:=[("main",0)],ov:=[],un:=[] }
structure aak(H H':Hp)(A:Ad)(L:List Ta):Prop where
 g:A.hg=0
 c:H' A.ho=!.dK []
 n:A.ho ∉ A.w++L.flatMap Ta.l
 f:H A.ho=none
def  RJ(CH CS CT:ϋ):Sp:=kg fun x z H Q _=>A4 (∃ dx,H x=!.ins CH dx []) (z.length<=1000) (fV (.str z)=true) (∀ A L H',A.a=x->aak H H' A L->aF CH CS CT H' A L (M0 z)->(∀ b∈A.w++L.flatMap Ta.l,b≠x->H b=none)->Kp [x] H H'->Q .au H')
structure jz(H0:Hp)(x C dx:ϋ)(m:Nat)(fs:List (Str×V))(ds:List (ϋ×HO))(H:Hp):Prop where
 hx:H x=!.ins C dx fs
 n:fs.length<=m
 d:∀ p∈ds,H p.1=!p.2/\p.1≠x/\H0 p.1=none
 nd:(ds.map (·.1)).Nodup
 k:Kp [x] H0 H
section
variable {H0 H:Hp}{x C dx:ϋ}{m:Nat}{fs:List (Str×V)}{ds:List (ϋ×HO)}{f:Str}{u:TS}{D:Ends}{σ:St}
def jz.set{v:V}(j:jz H0 x C dx m fs ds H):jz H0 x C dx (m+1) (az f v fs) ds (upd H x (.ins C dx (az f v fs))) :=
 #[aw,cP j.n,fun p hp=>let ⟨a,b,c⟩:=j.d p hp;#[by rw[ag b];show a,b,c],j.nd,fun b o hb e=>by rw[ag (by simpa using hb)];show j.k b o hb e]
def jz.new{d:ϋ}{o:HO}(j:jz H0 x C dx m fs ds H)(hd:H d=none):jz H0 x C dx m fs ((d,o)::ds) (upd H d o):=by
 have nx:=bj j.hx hd;show#[by rw[ag nx];show j.hx,j.n,fun p hp=>?_,Ch.mpr #[fun z=>?_,j.nd],fun b o hb e=>?_]
 ·rcases jp.mp hp with rfl | hp
  ·show#[aw,pp nx,_d.mpr fun o e=>by have:=j.k d o (by simpa using pp nx) e;rw[hd]at this;cases this]
  ·let⟨a,b,c⟩:=j.d p hp;show#[by rw[ag (bj a hd)];show a,b,c]
 ·let⟨p,hp,e⟩:=zn.mp z;have:=(j.d p hp).1;rw[e,hd]at this;cases this
 ·have:=j.k b o hb e;rw[ag (bj this hd)];show this
def setC{v:V}(j:jz H0 x C dx m fs ds H)(hm:m < 40)(q:∀ H',jz H0 x C dx (m+1) (az f v fs) ds H'->u D (some (-x)::σ) H'):pE (oY C f (fX 0) (tC v)) u D (some (-x)::σ) H :=
 ai #[x,dx,_,rfl,j.hx,_c j.n (Nat.lt_trans hm ⋯),q _ j.set]
def qA(j:jz H0 x C dx m fs ds H)(hm:m < 40)(q:∀ d H',jz H0 x C dx (m+1) (az f (-d) fs) ((d,.dK [])::ds) H'->u D (some (-x)::σ) H'):pE (oY C f (fX 0) vF) u D (some (-x)::σ) H :=
 ai fun d hd=>#[x,dx,_,rfl,(j.new hd).hx,_c j.n (Nat.lt_trans hm ⋯),q d _ (j.new hd).set]
end
def VP:T.tP.k P w mg base 6 (RJ T.aK T.aR T.bb):=by
 exists T.tP,VI,eY,fun x z h=>?_;let⟨⟨dx,Po⟩,mB,hn,q⟩:=h;show#[_,((al (aP (Ap<$>T.iL (aa (ad 1) ae)))
 (al (bG T.aJ T.eO (ad 0) (ad9 T.YG (Vq T) hr.m T.XN T.vK.b .nil ay))
 (al (bG T.aJ T.yL (ad 0) bi)
 (al (bG T.aJ T.qg (ad 0) mh)
 (al (bG T.aJ T.AZ (ad 0) mh)
 (al (bG T.aJ T.N5 (ad 0) mh)
 (al (bG T.aJ T.wK (ad 0) mh)
 (al (bG T.aJ T.CB (ad 0) mh)
 (al (bG T.aJ T.qJ (ad 0) mh)
 (al (bG T.aJ T.Fq (ad 0) bi)
 (al (bG T.aJ T.AM (ad 0) (Um<*T.um (ad 0) (aa (dL (.str "main") T.adq #[_,rfl]) (aa (ad 1) ae))))
 (ao (aP (Kt<*T.pF (ad 0) (aa (ad 1) ae)))))))))))))))).h,?_]
 exists 0;right;show#[#[_,rfl],mB,hn,fun H1 s1=>?_];have bJ:=s1 _ _ Po;right;intro t dt ht Aj jL;show#[dt,aw,fun ml H2 iC Ak fr2 hml2 gs cK sg fh=>#[rfl,?_]];have eg:x≠t:=bj bJ ht;have hml':H1 ml=none:=by
  rw[ag Ak]at iC;by_cases e:ml=dt
  ·rw[e,aw]at iC;cases iC
  ·rw[ag e]at iC;show iC
 have s2:aj H1 H2:=fun b o e=>by
  rw[fr2 b (bj e ht) (bj e hml'),ag (bj e ht),ag (bj e Aj)];show e
 have fr:∀ {b:ϋ},H1 b=none->H b=none:=fun {b} h=>_d.mpr fun o e=>by rw[s1 b o e]at h;cases h
 have j:jz H x T.aK dx 0 [] [(t,.ins T.aR dt gs),(ml,.lst [])] H2:=#[s2 _ _ bJ,pi _,fun p hp=>(by
  simp only[jp,kt,ww]at hp;rcases hp with rfl | rfl
  ·show#[fh,pp eg,fr ht]
  ·show#[hml2,pp (bj bJ hml'),fr hml']),by simpa using pp Ak,fun b o hb e=>s2 _ _ (s1 _ _ e)]
 show#[x,dx,_,rfl,j.hx,⋯,setC j.set ⋯ fun H4 j=>qA j ⋯ fun ro H5 j=>qA j ⋯ fun st H6 j=>qA j ⋯ fun tr H7 j=>qA j ⋯ fun ov H8 j=>qA j ⋯ fun un H9 j=>qA j ⋯ fun ho wx j=>setC j ⋯ fun wu j=>ai ?_];clear fr2 s2 bJ ht iC Aj Po;have jd:=j.d;have nd:=j.nd;simp only[List.forall_mem_cons]at jd;simp only[wS,NE,Ch,jp,kt,ww,Re]at nd;let⟨⟨Rl,vN,fho⟩,⟨PK,PF,fun0⟩,⟨QK,Qp,fov⟩,⟨Rh,ntr,ftr⟩,⟨PU,O7,fst0⟩,⟨Qc,P2,fro⟩,⟨gt,nt,ft⟩,⟨Qs,Ak,fml⟩,_⟩:=jd;have Gb:=j.hx;left;show#[x,dx,_,rfl,Gb,rfl,rfl,dx,_,0,t,dt,ml,tr,Gb,wE j.n ⋯,rfl,rfl,rfl,rfl,#[#[gs,0,gt,cK,sg],Qs],Rh,?_];intro th dG nm pl fs' ks c' H12 fth fnm fpl hxA hflA Ga atA hthA hklA skA hnmA hplA htrA kpA;let⟨gs',d',htA,hglA,sgA⟩:=atA.o;have v8:∀ f:Str,f ≠ "first_root" -> f ≠ "changes" -> (az "first_root" (.int 0) fs').lookup f=List.lookup f _:=fun f h1 h2=>((eB ..).trans (wP h1)).trans ((Ga f).trans ((eB ..).trans (wP h2)));have kp:∀ {b:ϋ}{o:HO},b≠x->b≠t->b≠ml->b≠tr->wu b=!o->H12 b=!o:=fun {b o} h1 h2 h3 h4 e=>kpA b o (by simp[h1,h2,h3,h4]) e;let⟨⟨_,_,_,_,_,_,_⟩,⟨_,_,_,_,_,_⟩,⟨_,_,_,_,_⟩,⟨_,_,_,_⟩,⟨_,_,_⟩,⟨_,_⟩,_,_⟩:=nd;show#[x,dx,fs',rfl,hxA,by have:=j.n;omega,x,dx,_,rfl,aw,(v8 _ ⋯ ⋯).trans rfl,dx,_,c',ro,st,[],[],aw,wE (cP (wE hflA j.n)) ⋯,by rw[eB,wP ⋯,Ga,eB,xL rfl],(v8 _ ⋯ ⋯).trans rfl,(v8 _ ⋯ ⋯).trans rfl,by rw[eB,xL rfl],(v8 _ ⋯ ⋯).trans rfl,(v8 _ ⋯ ⋯).trans rfl,(ag P2).trans (kp P2 ?_ ?_ ?_ Qc),⋯,(ag O7).trans (kp O7 ?_ ?_ ?_ PU),⋯,?_,fun iE c3 H13 hx13 iu dO hro3 hst3 zK=>?_]
 all_goals try (first | assumption | (show pp ?_;assumption))
 have old:∀ {b:ϋ}{o:HO},b≠x->b≠ro->b≠st->H12 b=!o->H13 b=!o:=fun {b o} b1 b2 b3 e=>by rw[zK b b1 b2 b3,ag b1];show e
 have nn:∀ {b:ϋ}{o:HO},wu b=!o->b≠th/\b≠nm/\b≠pl:=fun e=>#[bj e fth,bj e fnm,bj e fpl];have e1:=nn Gb;have e2:=nn gt;have e3:=nn Qs;have e4:=nn Qc;have e5:=nn PU;have e6:=nn Rh;have e7:=nn QK;have e8:=nn PK;have e9:th≠nm:=cC hthA hnmA (by nofun);have e10:th≠pl:=cC hthA hplA (by nofun);have e11:nm≠pl:=cC hnmA hplA (by nofun);show q #[x,dx,t,dt,ml,ro,st,tr,ov,un,ho,0] [#[th,dG,nm,pl]] H13 rfl #[rfl,old vN ?_ ?_ (kp vN ?_ ?_ ?_ Rl),by
  change ho ∉ [x,t,ml,ro,st,tr,ov,un,th,nm,pl];have e12:=nn Rl;simp only[jp,kt,ww,Re]
  and_intros
  all_goals first | assumption | (show pp ?_;assumption) | simp[*],fho] #[#[iE,c3,hx13,iu,fun f=>((dO f).trans ((Ga.put "first_root" (.int 0)).put "changes" (.int c3) f)).trans rfl],#[gs',d',old nt ?_ ?_ htA,hglA,sgA],old Ak ?_ ?_ atA.ml,rfl,fun i tt e=>?_,hro3,hst3,old ntr ?_ ?_ htrA,old Qp ?_ ?_ (kp Qp ?_ ?_ ?_ QK),old PF ?_ ?_ (kp PF ?_ ?_ ?_ PK),?_] (fun b hb wq=>?_) fun b o hb e=>?_
 all_goals try (first | assumption | (show pp ?_;assumption))
 ·obtain rfl:i=0:=Nat.lt_one_iff.mp (lm.mp e).1;cases e;show#[_,rfl,#[#[ks,old (pp e1.1) (pp e4.1) (pp e5.1) hthA,hklA,skA],old (pp e1.2.1) (pp e4.2.1) (pp e5.2.1) hnmA,old (pp e1.2.2) (pp e4.2.2) (pp e5.2.2) hplA]]
 ·change List.Nodup [x,t,ml,ro,st,tr,ov,un,th,nm,pl];simp only[Ch,jp,kt,ww,Re,not_false_eq_true,Jah,and_true]
  and_intros
  all_goals first | assumption | (show pp ?_;assumption) | simp[*]
 ·have hb':b∈[x,t,ml,ro,st,tr,ov,un,th,nm,pl]:=hb;have fz:wu b=none->H b=none:=fun h=>_d.mpr fun o e=>by rw[j.k b o (by simpa using wq) e]at h;cases h
  simp only[jp,kt,ww]at hb';rcases hb' with rfl | rfl | rfl | rfl | rfl | rfl | rfl | rfl | rfl | rfl | rfl <;> first | assumption | show absurd rfl wq | show fz (by assumption)
 ·have wq:b≠x:=fun z=>hb (by simp[z]);show old wq (bj e fro) (bj e fst0) (kp wq (bj e ft) (bj e fml) (bj e ftr) (j.k b o hb e))
def  XY(CH CS CT:ϋ):Sp:=kg fun x z H Q _=>X3 fun A L M=>A9 (aF CH CS CT H A L M) (A.a=x) (z.length<=1000) (fV (.str z)=true) (M.ro.length<=30) (M.st.length<=30) (aH (sD M.ro) (.inr z)=none) (aH (sD M.st) (.inr z)=none) (∀ H',aF CH CS CT H' A L { M with ro:=M.ro++[(z,0)],st:=M.st++[(z,0)] }->Kp [A.a,A.ro,A.st] H H'->Q .au H')
def YH:T.uc.k P w mg base 3 (XY T.aK T.aR T.bb):=by
 exists T.uc,abI,eY,fun x z h=>?_;let⟨AA,L,M,i,rfl,mB,hn,fG,iK,Rp,hs0,q⟩:=h;show#[_,((al (aP (Ap<$>T.iL (aa (ad 1) ae)))
 (al (aY (Cs (ei hr) (ad 1) (am T.aJ T.qg (ad 0))) (ao nK) bv)
 (ao (aP (Kt<*T.pF (ad 0) (aa (ad 1) ae))))))).h,?_]
 exists 0;right;show#[#[_,rfl],mB,hn,fun H1 s1=>?_];have i1:=i.same s1;let⟨fs,c,hx,aU,sf⟩:=i1.h;have nd:=i1.nd;rw[Id]at nd;have Ge:=nd.1;simp only[Ad.w,Ch,jp,kt,ww,Re]at Ge;right;show#[AA.a,_,_,-AA.ro,rfl,hx,(sf _).trans rfl,AA.ro,_,rfl,eC.k (k:=.inr z) i1.ro,?_];rw[Rp];show aW ?_;left;show(mI hx sf #[AA.dx,fs,c,AA.ro,AA.st,_,_,hx,aU,(sf _).trans rfl,(sf _).trans rfl,(sf _).trans rfl,(sf _).trans rfl,(sf _).trans rfl,(sf _).trans rfl,i1.ro,by unfold sD;rw[lv];omega,i1.st,by unfold sD;rw[lv];omega,Ge.2.2.2.1.1,?_]);intro fs' c' H' hx' hfl' sf' hro' hst' fr';have e1:putK (sD M.ro) (.inr z) (.int 0)=sD (M.ro++[(z,0)]):=BD Rp;have e2:putK (sD M.st) (.inr z) (.int 0)=sD (M.st++[(z,0)]):=BD hs0;rw[e1]at hro';rw[e2]at hst';have kp:Kp [AA.a,AA.ro,AA.st] H1 H':=fun b o hb e=>by
  simp only[jp,kt,ww,Re]at hb;rw[fr' b hb.1 hb.2.1 hb.2.2];show e
 have vP:∀ b∈[AA.t,AA.ml,AA.tr,AA.ov,AA.un],b ∉ [AA.a,AA.ro,AA.st]:=by
  intro b hb hm;simp only[jp,kt,ww]at hb hm;let⟨⟨a1,a2,a3,a4,a5,a6,a7⟩,⟨b1,b2,b3,b4,b5,b6⟩,⟨c1,c2,c3,c4,c5⟩,⟨d1,d2,d3,d4⟩,⟨f1,f2,f3⟩,_⟩:=Ge;rcases hb with rfl | rfl | rfl | rfl | rfl <;> rcases hm with h | h | h <;> first
   | show a1 h.symm | show a2 h.symm | show a5 h.symm | show a6 h.symm | show a7 h.symm
   | show b2 h | show b3 h | show c1' h | show c1 h | show c2 h | show c3 h
   | show d2 h.symm | show d3 h.symm | show d4 h.symm | show f1 h.symm | show f2 h.symm | show f3 h.symm | show b1 h | show b4 h
 show q H' #[#[fs',c',hx',hfl',fun f=>?_],?_,kp _ _ (vP _ ()) i1.ml,i1.len,fun j t e=>?_,hro',hst',kp _ _ (vP _ ()) i1.tr,kp _ _ (vP _ ()) i1.ov,kp _ _ (vP _ ()) i1.un,i1.nd] (fun b o hb e=>kp b o hb (s1 b o e))
 ·rw[sf' f,eB,sf f];by_cases e:f = "changes"
  ·rw[xL e,e];rfl
  ·rw[wP e];show WX e
 ·let⟨gs,d,e,r⟩:=i1.t;show#[gs,d,kp _ _ (vP _ ()) e,r]
 ·let⟨a,e1,h1⟩:=i1.th j t e;show#[a,e1,h1.keep kp fun b hb hm=>?_];have:=i1.nz e1;simp only[jp,kt,ww]at hm;rcases hm with rfl | rfl | rfl
  ·show this _ (by simp[Ad.w]) _ hb rfl
  ·show this _ (by simp[Ad.w]) _ hb rfl
  ·show this _ (by simp[Ad.w]) _ hb rfl
def  lF(M:Hs):Nat->Nat->Nat->Prop
 | 0,k,b=>aH (nD M.un) (.inl (k:Int))=none/\b=k
 | n+1,k,b=>∃ k':Nat,aH (nD M.un) (.inl (k:Int))=!.int (k':Int)/\lF M n k' b
def  kq(M:Hs):Nat->Nat->List Nat->Prop
 | 0,k,l=>aH (nD M.ov) (.inl (k:Int))=none/\l=[]
 | n+1,k,l=>∃ (k':Nat) (r:List Nat),aH (nD M.ov) (.inl (k:Int))=!.int (k':Int)/\kq M n k' r/\l=k'::r
def  dH(M:Hs)(k b:Nat)(r:List Nat):Prop:=(∃ n,lF M n k b)/\∃ n,kq M n b r/\n<=100
def kq.len{M:Hs}:∀ {n k:Nat}{l:List Nat},kq M n k l->l.length=n
 | 0,_,_,h=>by rw[h.2];rfl
 | n+1,_,_,h=>by let⟨k',r,_,h2,rfl⟩:=h;simp[h2.len]
abbrev nV(l:List Nat):List V:=l.map fun n:Nat=>V.int (n:Int)
def  dQ(b:Nat)(r:List Nat):Nat:=(b::r).getLast ()
def  aat(CH CS CT:ϋ):Sp:=jF fun x n H Q _=>X7 fun A L M (k:Nat) (b:Nat) a t=>A7 (aF CH CS CT H A L M) (A.a=x) (n=(k:Int)) (L[k]?=!a) (M.ts[k]?=!t) (∃ m,lF M m k b) (Q (.int (b:Int)) H)
def  adw(CH CS CT:ϋ):Sp:=jF fun x n H Q _=>X8 fun A L M (k:Nat) (b:Nat) r a t=>A7 (aF CH CS CT H A L M) (A.a=x) (n=(k:Int)) (L[k]?=!a) (M.ts[k]?=!t) (dH M k b r) (∀ l H',aj H H'->H l=none->H' l=!.lst (nV (b::r))->Q (-l) H')
def  aed(CH CS CT:ϋ):Sp:=jF fun x n H Q _=>X8 fun A L M (k:Nat) (b:Nat) r a t=>A7 (aF CH CS CT H A L M) (A.a=x) (n=(k:Int)) (L[k]?=!a) (M.ts[k]?=!t) (dH M k b r) (∀ H',aj H H'->Q (.int (dQ b r:Nat)) H')
def Yi:T.qB.k P w base 4 (aat T.aK T.aR T.bb):=by
 exists T.qB,B3,cy,fun x n h=>?_;let⟨AA,L,M,k,b,a,t,i,rfl,rfl,ha,aE,⟨m,hb⟩,q⟩:=h;let⟨fs,c,hx,aU,sf⟩:=i.h;show#[_,((al (aP (adu<*T.tM (ad 0) (aa (ad 1) ae)))
 (al (aQ 2 B3.nd (ad 1))
 (al (u9 _w (Cs (ei hr) (ad 2) (am T.aJ T.CB (ad 0))) (ao (aQ 2 B3.nd (oA (ei hr) (am T.aJ T.CB (ad 0)) (ad 2)))))
 (ao (aM (ad 2))))))).h,?_]
 exists 1;right;show(mI hx sf #[AA,L,M,k,a,t,i,rfl,rfl,ha,aE,?_]);right;show ai #[fun m σ' H'=>∃ j:Nat,σ'=[!V.ref AA.a,!V.int (k:Int),!V.int (j:Int)]/\H'=H/\lF M m j b,#[m,k,rfl,rfl,hb],?_];rintro m σ' H' ⟨j,rfl,rfl,hj⟩;left;show#[AA.a,_,_,-AA.un,rfl,hx,(sf _).trans rfl,AA.un,_,rfl,eC.k (k:=.inl (j:Int)) i.un,?_];cases m with
 | zero =>
  let⟨h0,rfl⟩:=hj;rw[h0];show aW q
 | succ m =>
  let⟨k',h0,h1⟩:=hj;rw[h0];show bE #[fun σ' H''=>∃ j:Nat,σ'=[!V.ref AA.a,!V.int (k:Int),!V.int (j:Int)]/\H''=H'/\lF M m j b,fun σ' H' z=>#[m,LE m,z],?_];left;show#[AA.a,_,_,-AA.un,rfl,hx,(sf _).trans rfl,AA.un,.int (k':Int),rfl,?_,k',rfl,by trivial,h1];have:=eC.k (k:=.inl (j:Int)) i.un;rw[h0]at this;show this
def oy{a b:List Nat}:nV (a++b)=nV a++nV b:=Go
def rG:T.et.k P w base 5 (adw T.aK T.aR T.bb):=by
 exists T.et,Kb,cy,fun x n h=>?_;let⟨AA,L,M,k,b,r,a,t,i,rfl,rfl,ha,aE,⟨hb,⟨m,hu,hm⟩⟩,q⟩:=h;have hlen:=hu.len;show#[_,((al (aQ 2 Kb.nd (cr (aa (Yi<$>T.qB (aa (ad 0) (aa (ad 1) ae))) ae)))
 (al (u9 _w (Cs (ei hr) (ce (bP (K:=K) rfl) (ad 2) (Dv.un oS bi)) (am T.aJ T.wK (ad 0))) (ao (aP (jB IN IO m7 (ad 2) (aa (oA (ei hr) (am T.aJ T.wK (ad 0)) (ce (bP (K:=K) rfl) (ad 2) (Dv.un oS bi))) ae)))))
 (ao (aM (ad 2)))))).h,?_]
 exists 1;right;show#[AA,L,M,k,b,a,t,i,rfl,rfl,ha,aE,hb,fits (),fun l hl=>?_];show eP hl fun H1 s1 b1=>?_;show ai #[fun m σ' H'=>aj H H'/\∃ (pre:List Nat) (j:Nat) (r':List Nat),σ'=[!V.ref AA.a,!V.int (k:Int),!V.ref l]/\H' l=!.lst (nV pre++[V.int (j:Int)])/\kq M m j r'/\pre++j::r'=b::r,#[m,s1,[],b,r,rfl,b1,hu,rfl],?_];rintro m σ' H' ⟨s',pre,j,r',rfl,hl',hj,hp⟩;have i1:=i.same s';let⟨fs,c,hx,aU,sf⟩:=i1.h;left;simp only[bO,hl',qy];show#[AA.a,_,_,-AA.ov,rfl,hx,(sf _).trans rfl,AA.ov,_,rfl,eC.k (k:=.inl (j:Int)) i1.ov,?_];cases m with
 | zero =>
  let⟨h0,rfl⟩:=hj;rw[h0];show aW (q l H' s' hl ?_);rw[hl',<- hp,oy];rfl
 | succ m =>
  let⟨k',r2,h0,h1,rfl⟩:=hj;rw[h0];show bE #[fun σ' H'=>aj H H'/\∃ (pre:List Nat) (j:Nat) (r':List Nat),σ'=[!V.ref AA.a,!V.int (k:Int),!V.ref l]/\H' l=!.lst (nV pre++[V.int (j:Int)])/\kq M m j r'/\pre++j::r'=b::r,fun σ' H' z=>#[m,LE m,z],?_];left;show#[AA.a,_,_,-AA.ov,rfl,hx,(sf _).trans rfl,AA.ov,.int (k':Int),rfl,?_,?_]
  ·have:=eC.k (k:=.inl (j:Int)) i1.ov;rw[h0]at this;show this
  have bD:(pre++[j]).length<=102:=by
   have:=KM List.length hp;simp at this ⊢;omega
  show#[ju (by simp at bD ⊢;omega),s'.gD hl,pre++[j],k',r2,by trivial,?_,h1,?_]
  ·rw[aw,oy];rfl
  ·rw[<- hp];simp
def Ov{b:Nat}{r:List Nat}:∃ pre,b::r=pre++[dQ b r]:=#[(b::r).dropLast,by unfold dQ;show(List.dropLast_concat_getLast ()).symm]
def yF:T.gr.k P w base 6 (aed T.aK T.aR T.bb):=by
 exists T.gr,aaH,cy,fun x n h=>?_;let⟨AA,L,M,k,b,r,a,t,i,rfl,rfl,ha,aE,hs,q⟩:=h;show#[_,((ao (aM (ce (bP (K:=K) rfl) (rG<$>T.et (aa (ad 0) (aa (ad 1) ae))) (Dv.un oS bi))))).h,?_];exists 0;left;show#[AA,L,M,k,b,r,a,t,i,rfl,rfl,ha,aE,hs,fun l H' s' _ hl=>?_];dsimp only;let⟨pre,hp⟩:=Ov (b:=b) (r:=r);rw[hp,oy]at hl;simp only[bO,hl,wS,NE,qy];show q _ s'
def  gm(r:Nat)(l:List Nat):Bool:=l.any (· == r)
def ua{r:Nat}:∀ {l:List Nat},gE (V.int (r:Int)) (nV l)=gm r l
 | []=>rfl
 | x::l=>by
  have ih:=ua (r:=r) (l:=l);unfold gE at ih ⊢;unfold gm at ih ⊢;simp only[nV,wS,_j]at ih ⊢;rw[ih]
  congr 1
  unfold eV;by_cases e:x=r
  ·subst e;simp
  ·rw[Do.mpr e]
   first | show Do.mpr ∅ | (simp;omega)
def  lE(M:Hs)(L:List Ta)(root:Nat):Nat->Nat->Bool->Prop
 | n,k,v=>∃ b r a t,L[k]?=!a/\M.ts[k]?=!t/\dH M k b r /\
  if k=dQ b r then
   if gm root (b::r)=true then v=true
   else ∃ ab tb,L[b]?=!ab/\M.ts[b]?=!tb/\((tb.bK=[]/\v=false)\/∃ f z,tb.bK=[(f,z)]/\match n with | 0=>False | n+1=>lE M L root n f v)
  else v=false
def  WA(CH CS CT:ϋ):Sp:=u6 fun x z n H Q _=>X6 fun A L M (k:Nat) (root:Nat) v=>A6 (aF CH CS CT H A L M) (A.a=x) (n=(k:Int)) (aH (sD M.ro) (.inr z)=!.int (root:Int)) (∃ m,lE M L root m k v) (∀ H',aj H H'->Q (.bl v) H')
def Z4:T.qe.k P w base 6 (WA T.aK T.aR T.bb):=by
 exists T.qe,oH,kP,fun x z n h=>?_;let⟨AA,L,M,k,root,v,i,rfl,rfl,hz,⟨m,hm⟩,q⟩:=h;let⟨fs,c,hx,aU,sf⟩:=i.h;show bt (b:=aO D7) ((al (aQ 3 oH.nd (Dt<*T.mm (ad 0) (aa (ad 1) ae)))
 (al (aQ 4 oH.nd (ad 2))
 (al (aQ 5 oH.nd (rG<$>T.et (aa (ad 0) (aa (ad 4) ae))))
 (al (u9 _w (bw gj (ad 4) (ce (bP (K:=K) rfl) (ad 5) (Dv.un oS bi))) (al (aY (bw (jU (K:=K) rfl) (ad 3) (ad 5)) (ao (aM f8)) bv)
 (al (aQ 6 oH.nd (Fg<*T.lI (ad 0) (aa (ce (bP (K:=K) rfl) (ad 5) bi) ae)))
 (al (aY (bw uD (ad 6) au) (ao (aM f8)) bv)
 (al (aQ 4 oH.nd (ce (bP (K:=K) rfl) (ad 6) bi))
 (ao (aQ 5 oH.nd (rG<$>T.et (aa (ad 0) (aa (ad 4) ae))))))))))
 (ao (aM f8))))))) ?_
 exists 4;right;show(mI hx sf #[AA,L,M,root,i,rfl,hz,?_]);right;right;let⟨b,r,a,t,ha,ht,aX,dW⟩:=(by unfold lE at hm;show hm:∃ b r a t,L[k]?=!a/\M.ts[k]?=!t/\dH M k b r/\_);show#[AA,L,M,k,b,r,a,t,i,rfl,rfl,ha,ht,aX,fun l H1 s1 gb hl=>?_];show ai #[fun m σ' H'=>aj H H'/\∃ (j:Nat) (l:ϋ) (b:Nat) (r:List Nat) (pv:Option V),σ'=[!V.ref AA.a,!V.str z,!V.int (k:Int),!V.int (root:Int),!V.int (j:Int),!V.ref l,pv]/\H' l=!.lst (nV (b::r))/\dH M j b r /\
  (if j=dQ b r then
   if gm root (b::r)=true then v=true
   else ∃ ab tb,L[b]?=!ab/\M.ts[b]?=!tb/\((tb.bK=[]/\v=false)\/∃ f z,tb.bK=[(f,z)]/\match m with | 0=>False | n+1=>lE M L root n f v)
  else v=false),#[m,s1,k,l,b,r,none,rfl,hl,aX,dW],?_]
 clear dW ha ht aX hl gb s1 hm;rintro m σ' H' ⟨s',j,l,b,r,pv,rfl,hl,aX,dW⟩;have i':=i.same s';let⟨pre,hp⟩:=Ov (b:=b) (r:=r);have dk:=hl;rw[hp,oy]at dk;left;simp only[bO,dk,wS,NE,qy];by_cases hj:j=dQ b r
 ·rw[xL hj]at dW;rw[ul (by rw[hj])];show bE #[_,fun _ _ h=>h,?_];right;simp only[bO,hl];show#[rfl,by simp[cH],?_];rw[ua];cases hmem:gm root (b::r) with
  | true =>
   rw[xL hmem]at dW;subst dW;show bE (q _ s')
  | false =>
   rw[wP (by rw[hmem];nofun)]at dW;let⟨ab,tb,eS,mL,bD⟩:=dW;show aW ?_;show ai ?_;let⟨fs,c,hx,aU,sf⟩:=i'.h;left;simp only[bO,hl,nV,wS,gy];show(mI hx sf #[AA,L,M,b,ab,tb,i',rfl,rfl,eS,mL,?_]);rcases bD with ⟨bD,rfl⟩ | ⟨f,zz,bD,hn⟩
   ·show .inl #[bD,?_];right;show#[by trivial,bE (q _ s')]
   ·show .inr #[f,zz,bD,fun p hp=>?_];right;show#[by trivial,?_];rw[mo (by nofun)];show aW ?_;right;simp only[bO,hp,gy];cases m with
    | zero=>show hn.elim
    | succ m =>
     let⟨b2,r2,a2,t2,GA,fh,zt,Ie⟩:=(by unfold lE at hn;show hn:∃ b r a t,L[f]?=!a/\M.ts[f]?=!t/\dH M f b r/\_);show#[AA,L,M,f,b2,r2,a2,t2,i',rfl,rfl,GA,fh,zt,fun l2 H2 s2 gb dk=>?_];show#[m,LE m,s'.trans s2,f,l2,b2,r2,!V.ref p,rfl,dk,zt,Ie]
 ·rw[wP hj]at dW;rw[mo ∅];subst dW;show aW ?_;left;show q _ s'
abbrev ae1(M:Hs):List Str:=gP (M.tr.map (·.1))
section
variable {CH CS CT:ϋ}{H H':Hp}{A:Ad}{L:List Ta}{M:Hs}
end
def  yN(C:ϋ)(f1 f2:Str):Sp:=B1 fun x v1 v2 H Q _=>X1 fun dx=>A2 (H x=!.ins C dx []) (Q .au (upd H x (.ins C dx (az f2 v2 (az f1 v1 [])))))
def Zx:T.tw.k P w mg base 1 (yN T.dX "number" "way"):=by
 exists T.tw,aaU,kx,fun x v1 v2 h=>?_;let⟨dx,hx,q⟩:=h;show#[_,((al (bG T.ig T.m9 (ad 0) (ad 1))
 (ao (bG T.ig T.Lk (ad 0) (ad 2))))).h,?_]
 exists 0;right;show#[x,dx,_,rfl,hx,⋯,?_];show#[x,dx,_,rfl,aw,by walk_at "f",?_];rw[ku];show q
def SN:T.uq.k P w mg base 1 (yN T.mD "folder" "name"):=by
 exists T.uq,aeu,kx,fun x v1 v2 h=>?_;let⟨dx,hx,q⟩:=h;show#[_,((al (bG T.jZ T.rN (ad 0) (ad 1))
 (ao (bG T.jZ T.y4 (ad 0) (ad 2))))).h,?_]
 exists 0;right;show#[x,dx,_,rfl,hx,⋯,?_];show#[x,dx,_,rfl,aw,by walk_at "f",?_];rw[ku];show q
def Zi:T.vh.k P w mg base 1 (yN T.eJ "step" "reason"):=by
 exists T.vh,RP,kx,fun x v1 v2 h=>?_;let⟨dx,hx,q⟩:=h;show#[_,((al (bG T.mW T.Iv (ad 0) (ad 1))
 (ao (bG T.mW T.LI (ad 0) (ad 2))))).h,?_]
 exists 0;right;show#[x,dx,_,rfl,hx,⋯,?_];show#[x,dx,_,rfl,aw,by walk_at "f",?_];rw[ku];show q
def  vp(h:ϋ)(z:Str)(last:Bool)(root here:Int)(place:V)(step:Int)(av lf rd:ϋ)(lr lu:Int)(told:V):List (Str×V):=[("house",-h),("asker",.str z),("last",.bl last),("root",.int root),("here",.int here),("place",place),("step",.int step),("asked",-av),("left",-lf),("reading",-rd),("leads_read",.int lr),("looked_up",.int lu),("told",told)]
structure Ws where
 here:Nat
 place:Option (Nat×Str)
 step:Nat
 asked:List Nat
 left:List (Sum Nat Str)
 bQ:List Nat
 read:Nat
 look:Nat
def  dR:Sum Nat Str->V
 | .inl n=>.int (n:Int)
 | .inr z=>.str z
def  ke(H0 H:Hp):Option (Nat×Str)->V->Prop
 | none,v=>v=.au
 | some (k,nm),v=>∃ p,v=-p/\H0 p=none/\H p=!.tup [.int (k:Int),.str nm]
structure Cn where
 CH:ϋ
 CS:ϋ
 CT:ϋ
 CW:ϋ
 CF:ϋ
 CG:ϋ
 CR:ϋ
 CN:ϋ
 CD:ϋ
 CE:ϋ
abbrev Tx.cn(T:Tx K mg):Cn:=#[T.aK,T.aR,T.bb,T.bC,T.eJ,T.dX,T.gd,T.fo,T.fk,T.mD]
structure Wd where
 L:List Ta
 M:Hs
 z:Str
 last:Bool
 root:Nat
structure Wc extends Wd where
 H0:Hp
 A:Ad
 x:ϋ
 dx:ϋ
 av:ϋ
 rd:ϋ
structure bg(N:Cn)(c:Wc)(S:Ws)(H:Hp)(lf:ϋ)(told:V):Prop where
 i:aF N.CH N.CS N.CT c.H0 c.A c.L c.M
 s:aj c.H0 H
 x0:c.H0 c.x=none
 a0:c.H0 c.av=none
 l0:c.H0 lf=none
 r0:c.H0 c.rd=none
 o:∃ fs pv,H c.x=!.ins N.CW c.dx fs/\fs.length<=40/\ke c.H0 H S.place pv/\dg fs (vp c.A.a c.z c.last c.root S.here pv S.step c.av lf c.rd S.read S.look told)
 oa:H c.av=!.lst (nV S.asked)
 ol:H lf=!.lst (S.left.map dR)
 od:H c.rd=!.lst (nV S.bQ)
 n1:c.av≠lf
 n2:c.av≠c.rd
 n3:lf≠c.rd
 hz:aH (sD c.M.ro) (.inr c.z)=!.int (c.root:Int)
section
variable {N:Cn}{c:Wc}{S:Ws}{H0 H H':Hp}{lf:ϋ}{told:V}
def ke.same{p:Option (Nat×Str)}{v:V}(h:ke H0 H p v)(s:aj H H'):ke H0 H' p v:=by
 match p,h with
 | none,h=>show h
 | some (k,nm),⟨q,e,e0,e1⟩=>show#[q,e,e0,s _ _ e1]
def bg.same(v:bg N c S H lf told)(s:aj H H'):bg N c S H' lf told :=
 #[v.i,v.s.trans s,v.x0,v.a0,v.l0,v.r0,let ⟨fs,pv,e,l,p,f⟩:=v.o;#[fs,pv,s _ _ e,l,p.same s,f],s _ _ v.oa,s _ _ v.ol,s _ _ v.od,v.n1,v.n2,v.n3,v.hz]
def bg.m(v:bg N c S H lf told):aF N.CH N.CS N.CT H c.A c.L c.M:=v.i.same v.s
def bg.xa(v:bg N c S H lf told):c.x≠c.av/\c.x≠lf/\c.x≠c.rd:=by
 let⟨fs,pv,e,_⟩:=v.o;show#[cC e v.oa (by nofun),cC e v.ol (by nofun),cC e v.od (by nofun)]
def ke.put{p:Option (Nat×Str)}{v:V}{fs:List (Str×V)}{x dx CW:ϋ}(h:ke H0 H p v)(hx:∃ gs,H x=!.ins CW dx gs):ke H0 (upd H x (.ins CW dx fs)) p v:=by
 match p,h with
 | none,h=>show h
 | some (k,nm),⟨q,e,e0,e1⟩ =>
  let⟨gs,hx⟩:=hx;show#[q,e,e0,by rw[ag (pp (cC hx e1 (by nofun)))];show e1]
def bg.put(f:Str)(u:V)(S':Ws)(told':V)(v:bg N c S H lf told)(w:V)(hw:∀ pv,List.lookup f (vp c.A.a c.z c.last c.root S.here pv S.step c.av lf c.rd S.read S.look told)=!w:=by show fun _=>rfl)(hp:‹S'.place=S.place›)(ha:‹S'.asked=S.asked›)(hl:‹S'.left=S.left›)(hr:‹S'.bQ=S.bQ›)(e:∀ pv g,List.lookup g (az f u (vp c.A.a c.z c.last c.root S.here pv S.step c.av lf c.rd S.read S.look told))=List.lookup g (vp c.A.a c.z c.last c.root S'.here pv S'.step c.av lf c.rd S'.read S'.look told'):=by show fun _ _=>rfl) :
  ∃ fs,H c.x=!.ins N.CW c.dx fs/\fs.length < 1000/\List.lookup f fs=!w/\bg N c S' (upd H c.x (.ins N.CW c.dx (az f u fs))) lf told':=by
 let⟨fs,pv,e1,l,p,sf⟩:=v.o;have hf:List.lookup f fs=!w:=(sf f).trans (hw pv);show#[fs,e1,∅,hf,#[v.i,v.s.gD v.x0,v.x0,v.a0,v.l0,v.r0,#[_,pv,aw,by rw[eX hf];show l,by rw[hp];show p.put #[fs,e1],fun g=>((sf.put f u) g).trans (e pv g)],by rw[ag (pp v.xa.1),ha];show v.oa,by rw[ag (pp v.xa.2.1),hl];show v.ol,by rw[ag (pp v.xa.2.2),hr];show v.od,v.n1,v.n2,v.n3,v.hz]]
def ke.off{p:Option (Nat×Str)}{v:V}{y:ϋ}{o o':HO}(h:ke H0 H p v)(hy:H y=!o)(ht:∀ xs,o≠.tup xs):ke H0 (upd H y o') p v:=by
 match p,h with
 | none,h=>show h
 | some (k,nm),⟨q,e,e0,e1⟩ =>
  show#[q,e,e0,?_];rw[ag (fun z=>?_)]
  ·show e1
  ·rw[z,hy]at e1;show ht _ (Fk e1)
def bg.off{y:ϋ}{o o':HO}(v:bg N c S H lf told)(y0:c.H0 y=none)(hy:H y=!o)(nx:c.x≠y)(na:c.av≠y)(nl:lf≠y)(nr:c.rd≠y)(ht:∀ xs,o≠.tup xs):bg N c S (upd H y o') lf told:=by
 let⟨gs,pv,e,l,p,f⟩:=v.o;show#[v.i,v.s.gD y0,v.x0,v.a0,v.l0,v.r0,#[gs,pv,by rw[ag nx];show e,l,p.off hy ht,f],by rw[ag na];show v.oa,by rw[ag nl];show v.ol,by rw[ag nr];show v.od,v.n1,v.n2,v.n3,v.hz]
def bg.YA(v:bg N c S H lf told)(ks:List Nat):bg N c { S with asked:=ks } (upd H c.av (.lst (nV ks))) lf told:=by
 let⟨gs,pv,e,l,p,f⟩:=v.o;show#[v.i,v.s.gD v.a0,v.x0,v.a0,v.l0,v.r0,#[gs,pv,by rw[ag v.xa.1];show e,l,p.off v.oa (by nofun),f],aw,by rw[ag (pp v.n1)];show v.ol,by rw[ag (pp v.n2)];show v.od,v.n1,v.n2,v.n3,v.hz]
def bg.uv(v:bg N c S H lf told)(ts:List (Sum Nat Str)):bg N c { S with left:=ts } (upd H lf (.lst (ts.map dR))) lf told:=by
 let⟨gs,pv,e,l,p,f⟩:=v.o;show#[v.i,v.s.gD v.l0,v.x0,v.a0,v.l0,v.r0,#[gs,pv,by rw[ag v.xa.2.1];show e,l,p.off v.ol (by nofun),f],by rw[ag v.n1];show v.oa,aw,by rw[ag (pp v.n3)];show v.od,v.n1,v.n2,v.n3,v.hz]
def bg.OU(v:bg N c S H lf told)(ks:List Nat):bg N c { S with bQ:=ks } (upd H c.rd (.lst (nV ks))) lf told:=by
 let⟨gs,pv,e,l,p,f⟩:=v.o;show#[v.i,v.s.gD v.r0,v.x0,v.a0,v.l0,v.r0,#[gs,pv,by rw[ag v.xa.2.2];show e,l,p.off v.od (by nofun),f],by rw[ag v.n2];show v.oa,by rw[ag v.n3];show v.ol,aw,v.n1,v.n2,v.n3,v.hz]
def bg.UN(v:bg N c S H lf told)(k:Nat):bg N c { S with asked:=S.asked++[k] } (upd H c.av (.lst (nV S.asked++[.int (k:Int)]))) lf told:=by
 have:=v.YA (S.asked++[k]);rw[oy]at this;show this
def bg.U6(v:bg N c S H lf told)(k:Nat):bg N c { S with bQ:=S.bQ++[k] } (upd H c.rd (.lst (nV S.bQ++[.int (k:Int)]))) lf told:=by
 have:=v.OU (S.bQ++[k]);rw[oy]at this;show this
def bg.Xw(v:bg N c S H lf told)(k:Nat):bg N c { S with left:=S.left++[.inl k] } (upd H lf (.lst (S.left.map dR++[.int (k:Int)]))) lf told:=by
 have:=v.uv (S.left++[.inl k]);rw[Go]at this;show this
def bg.Wh(v:bg N c S H lf told)(ts:List (Sum Nat Str)):bg N c { S with left:=S.left++ts } (upd H lf (.lst (S.left.map dR++ts.map dR))) lf told:=by
 have:=v.uv (S.left++ts);rw[Go]at this;show this
def bg.fresh{y:ϋ}(v:bg N c S H lf told)(hy:H y=none):c.H0 y=none:=by
 cases e:c.H0 y with
 | none=>rfl
 | some o=>rw[v.s y o e]at hy;cases hy
def bg.Ru{l:ϋ}{ts:List (Sum Nat Str)}(v:bg N c S H lf told)(l0:c.H0 l=none)(hl:H l=!.lst (ts.map dR))(n1:c.av≠l)(n3:l≠c.rd):∃ fs,H c.x=!.ins N.CW c.dx fs/\fs.length < 1000/\bg N c { S with left:=ts } (upd H c.x (.ins N.CW c.dx (az "left" (-l) fs))) l told:=by
 let⟨fs,pv,e,le,p,f⟩:=v.o;have nx:c.x≠l:=cC e hl (by nofun);show#[fs,e,∅,#[v.i,v.s.gD v.x0,v.x0,v.a0,l0,v.r0,#[_,pv,aw,by rw[eX (u:=-lf) ((f _).trans rfl)];show le,p.put #[fs,e],fun g=>((f.put "left" (-l)) g).trans rfl],by rw[ag (pp v.xa.1)];show v.oa,by rw[ag (pp nx)];show hl,by rw[ag (pp v.xa.2.2)];show v.od,n1,v.n2,n3,v.hz]]
def bg.fld(v:bg N c S H lf told):∃ fs pv,H c.x=!.ins N.CW c.dx fs/\fs.length < 1000/\dg fs (vp c.A.a c.z c.last c.root S.here pv S.step c.av lf c.rd S.read S.look told):=by
 let⟨fs,pv,e,l,p,f⟩:=v.o;show#[fs,pv,e,∅,f]
def bg.placed{p:ϋ}{k:Nat}{nm:Str}(v:bg N c S H lf told)(p0:c.H0 p=none)(hp:H p=!.tup [.int (k:Int),.str nm]):∃ fs,H c.x=!.ins N.CW c.dx fs/\fs.length < 1000/\bg N c { S with place:=some (k,nm) } (upd H c.x (.ins N.CW c.dx (az "place" (-p) fs))) lf told:=by
 let⟨fs,pv,e,l,_,f⟩:=v.o;show#[fs,e,∅,#[v.i,v.s.gD v.x0,v.x0,v.a0,v.l0,v.r0,#[_,-p,aw,by rw[eX (u:=pv) ((f _).trans rfl)];show l,#[p,rfl,p0,by rw[ag (pp (cC e hp (by nofun)))];show hp],fun g=>((f.put "place" (-p)) g).trans rfl],by rw[ag (pp v.xa.1)];show v.oa,by rw[ag (pp v.xa.2.1)];show v.ol,by rw[ag (pp v.xa.2.2)];show v.od,v.n1,v.n2,v.n3,v.hz]]
end
def  aea(N:Cn):Sp:=MZ fun x h z last H Q _=>X6 fun A L M dx H0 (root:Nat)=>A7 (aF N.CH N.CS N.CT H0 A L M) (A.a=h) (H x=!.ins N.CW dx []) (aj H0 H) (H0 x=none) (aH (sD M.ro) (.inr z)=!.int (root:Int)) (∀ av lf rd H',bg N #[#[L,M,z,last,root],H0,A,x,dx,av,rd] #[root,none,0,[],[],[],0,0] H' lf .au->Q .au H')
def Xz:T.tu.k P w mg base 3 (aea T.cn):=by
 exists T.tu,UH,Lx,fun x hh z last h=>?_;let⟨AA,L,M,dx,H0,root,i,rfl,hx,s0,x0,hz,q⟩:=h;show bt (b:=aO BO) ((al (bG T.aL T.fY (ad 0) (ad 1))
 (al (bG T.aL T.u0 (ad 0) (ad 2))
 (al (bG T.aL T.MR (ad 0) (ad 3))
 (al (bG T.aL T.tV (ad 0) (Dt<*T.mm (ad 1) (aa (ad 2) ae)))
 (al (bG T.aL T.fZ (ad 0) (am T.aL T.tV (ad 0)))
 (al (bG T.aL T.xR (ad 0) au)
 (al (bG T.aL T.DK (ad 0) bi)
 (al (bG T.aL T.OD (ad 0) (cr ae))
 (al (bG T.aL T.oO (ad 0) (cr ae))
 (al (bG T.aL T.qP (ad 0) (cr ae))
 (al (bG T.aL T.ER (ad 0) bi)
 (al (bG T.aL T.OY (ad 0) bi)
 (ao (bG T.aL T.mO (ad 0) au))))))))))))))) ?_
 exists 0;right;show#[x,dx,_,rfl,hx,⋯,ai ?_];left;show#[x,dx,_,rfl,aw,by walk_at "f",ai ?_];left;show#[x,dx,_,rfl,aw,by walk_at "f",ai ?_];simp only[ku];left;have s1:=s0.gD (o:=.ins T.bC dx (az "last" (.bl last) (az "asker" (.str z) (az "house" (-AA.a) [])))) x0;have b1:upd H x (.ins T.bC dx (az "last" (.bl last) (az "asker" (.str z) (az "house" (-AA.a) [])))) x=!.ins T.bC dx (az "last" (.bl last) (az "asker" (.str z) (az "house" (-AA.a) []))):=aw;generalize upd H x (.ins T.bC dx (az "last" (.bl last) (az "asker" (.str z) (az "house" (-AA.a) []))))=H1 at s1 b1 ⊢;have i1:=i.same s1;let⟨fs,c,bJ,aU,sf⟩:=i1.h;show(mI bJ sf #[AA,L,M,root,i1,rfl,hz,?_]);show#[x,dx,_,rfl,b1,by walk_at "f",ai ?_];left;show#[x,dx,_,_,rfl,aw,rfl,x,dx,_,rfl,aw,by walk_at "f",ai ?_];left;show#[x,dx,_,rfl,aw,by walk_at "f",ai ?_];left;show#[x,dx,_,rfl,aw,by walk_at "f",ai ?_];simp only[ku];left;have Q7:dg (az "step" (.int 0) (az "place" .au (az "here" (.int (root:Int)) (az "root" (.int (root:Int)) (az "last" (.bl last) (az "asker" (.str z) (az "house" (-AA.a) []))))))) [("house",-AA.a),("asker",.str z),("last",.bl last),("root",.int (root:Int)),("here",.int (root:Int)),("place",.au),("step",.int 0)]:=fun f=>rfl;have QL:(az "step" (.int 0) (az "place" .au (az "here" (.int (root:Int)) (az "root" (.int (root:Int)) (az "last" (.bl last) (az "asker" (.str z) (az "house" (-AA.a) []))))))).length<=10:=by (repeat (show cP ?_));show At _
 generalize (az "step" (.int 0) (az "place" .au (az "here" (.int (root:Int)) (az "root" (.int (root:Int)) (az "last" (.bl last) (az "asker" (.str z) (az "house" (-AA.a) [])))))))=F7 at Q7 QL ⊢;have s2:=s1.gD (o:=.ins T.bC dx F7) x0;have b2:upd H1 x (.ins T.bC dx F7) x=!.ins T.bC dx F7:=aw;generalize upd H1 x (.ins T.bC dx F7)=H2 at s2 b2 ⊢;have bZ:∀ {J:Hp}{d:ϋ},aj H0 J->J d=none->H0 d=none:=fun {J d} k hn=>by
  cases e:H0 d with
  | none=>rfl
  | some o=>rw[k d o e]at hn;cases hn
 show#[fits (),fun av sv=>?_];show#[x,dx,_,rfl,by rw[ag (bj b2 sv)];show b2,∅,ai ?_];let⟨b3,o3,old3,n3⟩:=C5 (o:=.lst []) (O:=.ins T.bC dx (az "asked" (-av) F7)) sv b2;have s3:=(s2.trans (aj.upd (o:=.lst []) sv)).gD (o:=.ins T.bC dx (az "asked" (-av) F7)) x0;have av0:=bZ s2 sv;generalize upd (upd H2 av (.lst [])) x (.ins T.bC dx (az "asked" (-av) F7))=H3 at b3 o3 old3 s3 ⊢;left;show#[fits (),fun lf hlf=>?_];have l1:(az "asked" (-av) F7).length<=11:=cP QL;show#[x,dx,_,rfl,by rw[ag (bj b3 hlf)];show b3,∅,ai ?_];let⟨b4,o4,P7,n4⟩:=C5 (o:=.lst []) (O:=.ins T.bC dx (az "left" (-lf) (az "asked" (-av) F7))) hlf b3;have s4:=(s3.trans (aj.upd (o:=.lst []) hlf)).gD (o:=.ins T.bC dx (az "left" (-lf) (az "asked" (-av) F7))) x0;have lf0:=bZ s3 hlf;have Hq:av≠lf:=bj o3 hlf;have HY:=P7 av _ n3 o3;generalize upd (upd H3 lf (.lst [])) x (.ins T.bC dx (az "left" (-lf) (az "asked" (-av) F7)))=H4 at b4 o4 P7 s4 HY ⊢;left;show#[fits (),fun rd g9=>?_];have l2:(az "left" (-lf) (az "asked" (-av) F7)).length<=12:=cP l1;show#[x,dx,_,rfl,by rw[ag (bj b4 g9)];show b4,∅,ai ?_];let⟨b5,o5,GD,n5⟩:=C5 (o:=.lst []) (O:=.ins T.bC dx (az "reading" (-rd) (az "left" (-lf) (az "asked" (-av) F7)))) g9 b4;have s5:=(s4.trans (aj.upd (o:=.lst []) g9)).gD (o:=.ins T.bC dx (az "reading" (-rd) (az "left" (-lf) (az "asked" (-av) F7)))) x0;have PZ:=GD av _ n3 HY;have Rc:=GD lf _ n4 o4;have rd0:=bZ s4 g9;have nar:av≠rd:=bj HY g9;have FN:lf≠rd:=bj o4 g9;generalize upd (upd H4 rd (.lst [])) x (.ins T.bC dx (az "reading" (-rd) (az "left" (-lf) (az "asked" (-av) F7))))=H5 at b5 o5 GD s5 PZ Rc ⊢;have l3:(az "reading" (-rd) (az "left" (-lf) (az "asked" (-av) F7))).length<=13:=cP l2;left;show#[x,dx,_,rfl,b5,∅,ai ?_];have l4:(az "leads_read" (.int 0) (az "reading" (-rd) (az "left" (-lf) (az "asked" (-av) F7)))).length<=14:=cP l3;left;show#[x,dx,_,rfl,aw,∅,?_];have l5:(az "looked_up" (.int 0) (az "leads_read" (.int 0) (az "reading" (-rd) (az "left" (-lf) (az "asked" (-av) F7))))).length<=15:=cP l4;show#[x,dx,_,rfl,aw,∅,?_];simp only[ku];show q av lf rd _ #[i,s5.gD x0,x0,av0,lf0,rd0,#[_,.au,aw,wE (cP l5) ⋯,rfl,fun f=>?_],by rw[ag n3];show PZ,by rw[ag n4];show Rc,by rw[ag n5];show o5,Hq,nar,FN,hz];show((((((Q7.put "asked" (-av)).put "left" (-lf)).put "reading" (-rd)).put "leads_read" (.int 0)).put "looked_up" (.int 0)).put "told" .au f).trans rfl
abbrev DQ(k:Nat)(r:Str):List (Str×V):=az "reason" (.str r) (az "step" (.int (k:Int)) [])
inductive Tl
 | fail (y:Str)
 | ring (ns:List Nat)
def  tJ(N:Cn)(H0 H:Hp)(step:Nat)(fd:ϋ):Tl->Prop
 | .fail y=>H0 fd=none/\∃ bu,H fd=!.ins N.CF bu (DQ step y)
 | .ring ns=>H0 fd=none/\∃ bu rl,H fd=!.ins N.CR bu (az "leads" (-rl) [])/\H rl=!.lst (nV ns)
structure ub(N:Cn)(c:Wc)(S:Ws)(lf:ϋ)(o:Option Tl)(R:Hp->Prop):Prop where
 n:o=none->∀ H',bg N c S H' lf .au->R H'
 y:∀ t,o=!t->∀ fd H',bg N c S H' lf (-fd)->tJ N c.H0 H' S.step fd t->R H'
def  abG(N:Cn):Sp:=kg fun x r H Q _=>X3 fun c S lf=>A3 (c.x=x) (bg N c S H lf .au) (ub N c S lf (!.fail r) (Q .au))
def bg.tells{N:Cn}{c:Wc}{S:Ws}{H H4:Hp}{lf fd bu C:ϋ}{F:List (Str×V)}{t:Tl}(v:bg N c S H lf .au)(aS:H fd=none)(s4:aj H H4)(b4:H4 fd=!.ins C bu []) :
  ∃ fs,upd H4 fd (.ins C bu F) c.x=!.ins N.CW c.dx fs/\fs.length < 1000/\bg N c S (upd (upd H4 fd (.ins C bu F)) c.x (.ins N.CW c.dx (az "told" (-fd) fs))) lf (-fd)/\c.H0 fd=none/\c.x≠fd:=by
 let⟨fs,pv,hx,aU,sf⟩:=v.fld;have f0:=v.fresh aS;have nx:c.x≠fd:=bj hx aS;have v5:=(v.same s4).off (o':=.ins C bu F) f0 b4 nx (bj v.oa aS) (bj v.ol aS) (bj v.od aS) (by nofun);let⟨zR,pG,iD,_,v6⟩:=v5.put "told" (-fd) S (-fd) .au;show#[zR,pG,iD,v6,f0,nx]
def uX:T.ie.k P w mg base 3 (abG T.cn):=by
 exists T.ie,adx,eY,fun x r h=>?_;let⟨c,S,lf,rfl,v,q⟩:=h;show bt (b:=aO E8) ((ao (bG T.aL T.mO (ad 0) (gl T.aaM (Zi T) hr.m T.N7 T.vh.b .nil ay (aa (am T.aL T.DK (ad 0)) (aa (ad 1) ae)))))) ?_;exists 0;let⟨fs,pv,hx,aU,sf⟩:=v.fld;left;show(fI hx sf rfl (fun fd bu aS hdfd nfd=>?_));have s4:=(aj.upd (o:=.own fd) hdfd).trans (aj.upd (p:=fd) (o:=.ins T.eJ bu []) (by rw[ag (pp nfd)];show aS));have b4:upd (upd H bu (.own fd)) fd (.ins T.eJ bu []) fd=!.ins T.eJ bu []:=aw;generalize upd (upd H bu (.own fd)) fd (.ins T.eJ bu [])=H4 at s4 b4 ⊢;show#[bu,b4,rfl,?_];let⟨zR,pG,iD,v6,f0,nx⟩:=v.tells (t:=.fail r) (F:=DQ S.step r) aS s4 b4;show#[c.x,_,_,rfl,pG,iD,q.y _ rfl fd _ v6 #[f0,bu,by rw[ag (pp nx)];show aw]]
def  lD:List Nat->Nat
 | []=>0
 | [a]=>a
 | a::b::r=>min a (lD (b::r))
def EU:∀ {ns:List Nat},ns≠[]->lD ns∈ns
 | [],h=>absurd rfl h
 | [a],_=>by simp[lD]
 | a::b::r,_=>by
  have:=EU (ns:=b::r) ();unfold lD;rcases Nat.le_total a (lD (b::r)) with h | h
  ·rw[Nat.min_eq_left h];simp
  ·rw[Nat.min_eq_right h];show AC _ this
def LX:∀ {ns:List Nat}{k:Nat},k∈ns->lD ns<=k
 | [a],k,h=>by rw[ut.mp h];show pi _
 | a::b::r,k,h=>by
  unfold lD;rcases jp.mp h with rfl | h
  ·show Nat.min_le_left _ _
  ·show wE (Nat.min_le_right _ _) (LX h)
def  ng(ns:List Nat):List Nat:=ns.drop (ns.idxOf (lD ns))++ns.take (ns.idxOf (lD ns))
def K9(ns:List Nat):nV ns=(ns.map (fun k:Nat=>(k:Int))).map V.int:=by
 unfold nV;rw[Os];rfl
def Ci(k:Nat):∀ ns:List Nat,(ns.map (fun k:Nat=>(k:Int))).idxOf (k:Int)=ns.idxOf k
 | []=>rfl
 | a::r=>by
  have h:((a:Int) == (k:Int))=(a == k):=by
   rw[_f,ZB,ZB];omega
  rw[wS,List.idxOf_cons,List.idxOf_cons,Ci k r,h]
def mem_cast{k:Nat}{ns:List Nat}(h:k∈ns):(k:Int)∈ns.map (fun k:Nat=>(k:Int)):=zn.mpr #[k,h,rfl]
def  Zw:Sp:=jy fun l H Q _=>X1 fun (ns:List Nat)=>A4 (H l=!.lst (nV ns)) (ns≠[]) (ns.length<=500) (∀ l' H',aj H H'->H l'=none->H' l'=!.lst (nV (ng ns))->Q (-l') H')
def aa7:T.sd.k P w base 1 Zw:=by
 exists T.sd,JC,ee,fun l h=>?_;let⟨ns,hl,cL,hlen,q⟩:=h;show bt (b:=aO FD) ((al (aQ 1 JC.nd (jB _U PySem.F.type_list_index (JZ (K:=K) rfl) (ad 0) (aa (df (aaR (K:=K) rfl rfl) T.JP RE (aa (ad 0) ae)) ae)))
 (ao (aM (db gO (io (rK (K:=K) rfl) (ad 0) (pA (ad 1)) vt) (io (rK (K:=K) rfl) (ad 0) vt (pA (ad 1)))))))) ?_
 exists 1;right;simp only[hl];have hS:aI K H l ((ns.map (fun k:Nat=>(k:Int))).map V.int):=aI.of (by rw[hl,K9]);show#[_,_,hS,mem_cast (EU cL),fun k hk=>?_,_,hS,mem_cast (EU cL),nV ns,aI.of hl,fun p hp=>?_]
 ·let⟨k',hk',rfl⟩:=zn.mp hk;have:=LX hk';omega
 rw[Ci,LN];show eP hp fun H1 s1 b1=>?_;show#[nV ns,aI.of (s1 _ _ hl),fun p2 fj=>?_];rw[RI];show eP fj fun H2 s2 b2=>?_;simp only[s2 _ _ b1,b2];show#[fits (by simp[nV];omega),fun p3 jP=>?_];show q p3 _ ((s1.trans s2).trans (aj.upd jP)) ?_ ?_
 ·cases e:H p3 with
  | none=>rfl
  | some o=>rw[(s1.trans s2) _ _ e]at jP;cases jP
 ·rw[aw];unfold ng nV;rw[Go,Jas,List.map_take]
def  aeA(C:ϋ):Sp:=qk fun x l H Q _=>X2 fun dx ns=>A3 (H x=!.ins C dx []) (H l=!.lst (nV ns)) (∀ rl,H rl=none->Q .au (upd (upd H rl (.lst (nV ns))) x (.ins C dx (az "leads" (-rl) []))))
def YT:T.vk.k P w mg base 1 (aeA T.gd):=by
 exists T.vk,XB,kG,fun x l h=>?_;let⟨dx,ns,hx,hl,q⟩:=h;show bt (b:=aO Fm) ((ao (bG T.rB T.Jo (ad 0) (qw (Vp (K:=K) rfl) T.rC KQ (aa (ad 1) ae))))) ?_;exists 0;left;simp only[bO,hl];show fun rl fG=>#[x,dx,_,rfl,by rw[ag (bj hx fG)];show hx,⋯,q rl fG]
def  dN(ps:List Str):List (Sum Nat Str):=(ps.map Sum.inr).reverse
def Ke(ps:List Str):(dN ps).map dR=(ps.map V.str).reverse:=by
 unfold dN;rw[List.map_reverse,Os];rfl
def  WM(N:Cn):Sp:=J3 fun x fr lp H Q _=>Nm fun c S lf (st:Nat) (b:Nat) (ps:List Str) (r:List Nat) (a:Ta) (t:Th) (sn:Bool)=>B4 (c.x=x) (bg N c S H lf .au) (H lp=!.lst (ps.map V.str)) (fr=true/\st=c.root\/fr=false/\aH (sD c.M.st) (.inr c.z)=!.int (st:Int)) (c.L[st]?=!a) (c.M.ts[st]?=!t) (dH c.M st b r) (∃ m,lE c.M c.L c.root m (dQ b r) sn) (sn=true->∀ lf' H',bg N c { S with here:=dQ b r,left:=dN ps } H' lf' .au->Q .au H') (sn=false->ub N c { S with here:=dQ b r } lf (!.fail "outside") (Q .au))
def abK:T.vm.k P w mg base 7 (WM T.cn):=by
 exists T.vm,Iw,NV,fun x fr lp h=>?_;let⟨c,S,lf,st,b,ps,r,a,t,sn,rfl,v,pW,aX,ha,ht,vT,zZ,q1,q2⟩:=h;let⟨fs,pv,hx,aU,sf⟩:=v.fld;show bt (b:=aO FH) ((al (aQ 3 Iw.nd (Jq (cN (ad 1)) (am T.aL T.tV (ad 0)) (Ys<*T.vJ (am T.aL T.fY (ad 0)) (aa (am T.aL T.u0 (ad 0)) ae))))
 (al (bG T.aL T.fZ (ad 0) (yF<$>T.gr (aa (am T.aL T.fY (ad 0)) (aa (ad 3) ae))))
 (ao (aY (cN (Z4<$>T.qe (aa (am T.aL T.fY (ad 0)) (aa (am T.aL T.u0 (ad 0)) (aa (am T.aL T.fZ (ad 0)) ae))))) (ao (bG T.aL T.oO (ad 0) (Dv.listRev (K:=K) rfl rfl T.rC T.AN (ad 2)))) (ao (aP (bx T.aL T.ie.h (uX T) hr.m T.ie.b .nil ay (ad 0) (aa ap ae))))))))) ?_
 exists 1;show iS (fun σ' H'=>σ'=[!V.ref c.x,!V.bl fr,!V.ref lp,!V.int (st:Int)]/\H'=H) ?_ ?_
 ·left;rcases aX with ⟨rfl,rfl⟩ | ⟨rfl,aX⟩
  ·show bE (fI hx sf rfl #[rfl,by trivial])
  ·let⟨kZ,hc,hh,sU,iy⟩:=v.m.h;show aW (fI hx sf rfl (mI hh iy (fI hx sf rfl #[c.A,c.L,c.M,st,v.m,rfl,by rw[v.hz];rfl,aX,rfl,by first | rfl | trivial])))
 rintro σ' H' ⟨rfl,rfl⟩;right;show(fI hx sf rfl #[c.A,c.L,c.M,st,b,r,a,t,v.m,rfl,rfl,ha,ht,vT,fun H1 s1=>?_]);have v1:=v.same s1;let⟨gW,bJ,iF,_,v2⟩:=v1.put "here" (.int ((dQ b r:Nat):Int)) { S with here:=dQ b r } .au _;show#[c.x,_,_,rfl,bJ,by first | show iF | show pR | omega,?_];have hlp1:=s1 _ _ pW;have G9:lp≠c.x:=fun e=>by rw[e,hx]at pW;cases pW
 have Qe:upd H1 c.x (.ins T.bC c.dx (az "here" (.int ((dQ b r:Nat):Int)) gW)) lp=!.lst (ps.map V.str):=by rw[ag G9];show hlp1
 generalize upd H1 c.x (.ins T.bC c.dx (az "here" (.int ((dQ b r:Nat):Int)) gW))=H2 at v2 Qe ⊢;let⟨jo,pV,cx,iH,cu⟩:=v2.fld;left;show(fI cx cu rfl (fI cx cu rfl (fI cx cu rfl #[c.A,c.L,c.M,dQ b r,c.root,sn,v2.m,rfl,rfl,v2.hz,zZ,fun H3 s3=>?_])));have v3:=v2.same s3;cases sn
 ·let⟨iE,qb,dB,iu,dO⟩:=v3.fld;show aW (mI dB dO #[c,_,lf,rfl,v3,q2 rfl])
 ·show bE ?_;show#[lp,ps.map V.str,rfl,aI.of (s3 _ _ Qe),fun l hl=>?_];have v4:=v3.same (aj.upd (o:=.lst (ps.map V.str).reverse) hl);have b4:upd H3 l (.lst (ps.map V.str).reverse) l=!.lst ((dN ps).map dR):=by rw[aw,Ke]
  have l0:=v3.fresh hl;have Hq:c.av≠l:=bj v3.oa hl;have FN:l≠c.rd:=pp (bj v3.od hl);generalize upd H3 l (.lst (ps.map V.str).reverse)=H4 at v4 b4 ⊢;let⟨sT,jM,pR,v5⟩:=v4.Ru l0 b4 Hq FN;show#[c.x,_,_,rfl,jM,by first | show iF | show pR | omega,q1 rfl l _ v5]
def  kH(M:Hs)(L:List Ta)(root:Nat):Nat->Nat->List Str->Prop
 | n,k,ns=>∃ b r a t,L[k]?=!a/\M.ts[k]?=!t/\dH M k b r /\
  if gm root (b::r)=true then ns=[]
  else ∃ ab tb f z,L[b]?=!ab/\M.ts[b]?=!tb/\tb.bK=[(f,z)]/\match n with | 0=>False | n+1=>∃ ns',ns=ns'++[z]/\kH M L root n f ns'
def  ad5(CH CS CT:ϋ):Sp:=u6 fun x z n H Q _=>X6 fun A L M (k:Nat) (root:Nat) ns=>A7 (aF CH CS CT H A L M) (A.a=x) (n=(k:Int)) (aH (sD M.ro) (.inr z)=!.int (root:Int)) (∃ m,kH M L root m k ns) (ns.length<=500) (∀ l H',aj H H'->H' l=!.lst (ns.map V.str)->Q (-l) H')
def Zp:T.qY.k P w base 6 (ad5 T.aK T.aR T.bb):=by
 exists T.qY,qG,kP,fun x z n h=>?_;let⟨AA,L,M,k,root,ns,i,rfl,rfl,hz,⟨m,hm⟩,hlen,q⟩:=h;let⟨fs,c,hx,aU,sf⟩:=i.h;show bt (b:=aO Dn) ((al (aQ 3 qG.nd (Dt<*T.mm (ad 0) (aa (ad 1) ae)))
 (al (aQ 4 qG.nd (cr ae))
 (al (aQ 5 qG.nd (rG<$>T.et (aa (ad 0) (aa (ad 2) ae))))
 (al (u9 _w (bw (Be (K:=K) rfl) (ad 3) (ad 5)) (al (aQ 6 qG.nd (Fg<*T.lI (ad 0) (aa (ce (bP (K:=K) rfl) (ad 5) bi) ae)))
 (al (aP (jB IN IO m7 (ad 4) (aa (ce (bP (K:=K) rfl) (ad 6) bi) ae)))
 (ao (aQ 5 qG.nd (rG<$>T.et (aa (ad 0) (aa (ce (bP (K:=K) rfl) (ad 6) bi) ae))))))))
 (ao (aM (Dv.listRev (K:=K) rfl rfl T.rC T.AN (ad 4))))))))) ?_
 exists 4;right;show(mI hx sf #[AA,L,M,root,i,rfl,hz,?_]);right;show#[fits (),fun ln zP=>?_];show eP zP fun H1 s1 b1=>?_;have i1:=i.same s1;right;let⟨b,r,a,t,ha,ht,aX,dW⟩:=(by unfold kH at hm;show hm:∃ b r a t,L[k]?=!a/\M.ts[k]?=!t/\dH M k b r/\_);show#[AA,L,M,k,b,r,a,t,i1,rfl,rfl,ha,ht,aX,fun l2 H2 s2 hl20 dk=>?_];have dZ:=s1.trans s2;have c1:=s2 _ _ b1;let⟨PV,my⟩:∃ PV:Nat->St->Hp->Prop,PV=fun m σ' H'=>aj H H'/\∃ (ls:ϋ) (b:Nat) (r:List Nat) (cs ns':List Str) (pv:Option V),σ'=[!V.ref AA.a,!V.str z,!V.int (k:Int),!V.int (root:Int),!V.ref ln,!V.ref ls,pv]/\H' ls=!.lst (nV (b::r))/\H' ln=!.lst (cs.map V.str)/\ns=ns'++cs.reverse /\
  (if gm root (b::r)=true then ns'=[]
   else ∃ ab tb f z,L[b]?=!ab/\M.ts[b]?=!tb/\tb.bK=[(f,z)]/\match m with | 0=>False | n+1=>∃ ns'',ns'=ns''++[z]/\kH M L root n f ns''):=#[_,rfl]
 show ai #[PV,#[m,by rw[my];show#[dZ,l2,b,r,[],ns,none,rfl,dk,c1,(),dW]],?_];clear dW ha ht aX dk hl20 c1 hm dZ s2;intro m σ' H' hI;rw[my]at hI;let⟨s',ls,b,r,cs,ns',pv,rfl,P6,hln',eR,dW⟩:=hI;have i':=i.same s';let⟨fs',c',hx',hfl',sf'⟩:=i'.h;left;show#[_,.inl (aI.of P6),rfl,by simp[cH],?_];rw[ua];cases hmem:gm root (b::r) with
 | true =>
  rw[xL hmem]at dW;subst dW;show aW ?_;left;show#[ln,_,rfl,aI.of hln',fun l hl=>?_];show q l _ (s'.trans (aj.upd hl)) ?_;rw[aw,eR,List.nil_append,List.map_reverse]
 | false =>
  rw[wP (by rw[hmem];nofun)]at dW;let⟨ab,tb,f,zz,eS,mL,bD,hn⟩:=dW;show bE #[fun σ' H'=>∃ m',m' < m/\PV m' σ' H',fun σ' H' h=>h,?_];right;simp only[bO,P6,nV,wS,gy];show#[AA.a,_,_,rfl,hx',(sf' _).trans rfl,AA,L,M,b,ab,tb,i',rfl,rfl,eS,mL,.inr #[f,zz,bD,fun p hp=>?_]];right;simp only[hln',bO,hp,xc];cases m with
  | zero=>show hn.elim
  | succ m =>
   let⟨ns2,hns2,hn⟩:=hn;have f7:cs.length<=500:=by
    have:=KM List.length eR;simp at this;omega
   show#[ju (by rw[lv];omega),?_];have G9:p≠ln:=cC hp hln' (by nofun);have s4:=s'.gD (o:=.lst (List.map V.str cs++[V.str zz])) zP;have b4:upd H' ln (.lst (List.map V.str cs++[V.str zz])) ln=!.lst ((cs++[zz]).map V.str):=by rw[aw,Go];rfl
   have su:upd H' ln (.lst (List.map V.str cs++[V.str zz])) p=!.tup [V.int (f:Int),V.str zz]:=by rw[ag G9];show hp
   generalize upd H' ln (.lst (List.map V.str cs++[V.str zz]))=H4 at s4 b4 su ⊢;left;simp only[bO,su,gy];let⟨b2,r2,a2,t2,GA,fh,zt,Ie⟩:=(by unfold kH at hn;show hn:∃ b r a t,L[f]?=!a/\M.ts[f]?=!t/\dH M f b r/\_);show#[AA,L,M,f,b2,r2,a2,t2,i.same s4,rfl,rfl,GA,fh,zt,fun l5 H5 s5 hl50 iD=>#[m,LE m,?_]];rw[my];show#[s4.trans s5,l5,b2,r2,cs++[zz],ns2,_,rfl,iD,s5 _ _ b4,?_,Ie];rw[eR,hns2];simp
def vx{a b:Nat}(h:(!V.int (a:Int):Option V)=!V.int (b:Int)):a=b:=by
 have h1:=Fk h;injection h1 with h2;omega
def lF.uniq{M:Hs}:∀ {n m k a b:Nat},lF M n k a->lF M m k b->a=b
 | 0,0,_,_,_,h,h'=>by rw[h.2,h'.2]
 | 0,_+1,_,_,_,h,h'=>by let⟨_,e,_⟩:=h';rw[h.1]at e;cases e
 | _+1,0,_,_,_,h,h'=>by let⟨_,e,_⟩:=h;rw[h'.1]at e;cases e
 | _+1,_+1,_,_,_,h,h'=>by
  let⟨k1,e1,h1⟩:=h;let⟨k2,e2,h2⟩:=h';rw[e1]at e2;cases vx e2;show h1.uniq h2
def kq.uniq{M:Hs}:∀ {n m k:Nat}{a b:List Nat},kq M n k a->kq M m k b->a=b
 | 0,0,_,_,_,h,h'=>by rw[h.2,h'.2]
 | 0,_+1,_,_,_,h,h'=>by let⟨_,_,e,_⟩:=h';rw[h.1]at e;cases e
 | _+1,0,_,_,_,h,h'=>by let⟨_,_,e,_⟩:=h;rw[h'.1]at e;cases e
 | _+1,_+1,_,_,_,h,h'=>by
  let⟨k1,r1,e1,h1,rfl⟩:=h;let⟨k2,r2,e2,h2,rfl⟩:=h';rw[e1]at e2;cases vx e2;rw[h1.uniq h2]
def dH.uniq{M:Hs}{k b b':Nat}{r r':List Nat}(h:dH M k b r)(h':dH M k b' r'):b=b'/\r=r':=by
 let⟨⟨_,h1⟩,_,h2,_⟩:=h;let⟨⟨_,h3⟩,_,h4,_⟩:=h';obtain rfl:=h1.uniq h3;show#[rfl,h2.uniq h4]
inductive xP(c:Wd)(h:Nat):Nat->Prop
 | gk {a t b r}:c.L[h]?=!a->c.M.ts[h]?=!t->dH c.M h b r->gm c.root (b::r)=true->xP c h h
 | up {a t b r ab tb f zz af tf b' r'}:c.L[h]?=!a->c.M.ts[h]?=!t->dH c.M h b r->gm c.root (b::r)=false->c.L[b]?=!ab->c.M.ts[b]?=!tb->tb.bK=[(f,zz)]->c.L[f]?=!af->c.M.ts[f]?=!tf->dH c.M f b' r'->xP c h (dQ b' r')
def  SK(N:Cn):Sp:=jy fun x H Q _=>X4 fun c S lf h'=>A4 (c.x=x) (bg N c S H lf .au) (xP c.toWd S.here h') (∀ H',bg N c { S with here:=h' } H' lf .au->Q .au H')
def adZ:T.vg.k P w mg base 7 (SK T.cn):=by
 exists T.vg,J2,ee,fun x h=>?_;let⟨c,S,lf,h',rfl,v,hu,q⟩:=h;let⟨fs,pv,hx,aU,sf⟩:=v.fld;show bt (b:=aO Aw) ((al (aQ 1 J2.nd (rG<$>T.et (aa (am T.aL T.fY (ad 0)) (aa (am T.aL T.fZ (ad 0)) ae))))
 (ao (aY (bw (Be (K:=K) rfl) (am T.aL T.tV (ad 0)) (ad 1)) (ao (bG T.aL T.fZ (ad 0) (yF<$>T.gr (aa (am T.aL T.fY (ad 0)) (aa (ce (bP (K:=K) rfl) (Fg<*T.lI (am T.aL T.fY (ad 0)) (aa (ce (bP (K:=K) rfl) (ad 1) bi) ae)) bi) ae))))) bv)))) ?_
 exists 1;let⟨a,t,b,r,ha,aE,aX⟩:∃ a t b r,c.L[S.here]?=!a/\c.M.ts[S.here]?=!t/\dH c.M S.here b r:=by
  cases hu <;> show#[_,_,_,_,by assumption,by assumption,by assumption]
 right;show(fI hx sf rfl (fI hx sf rfl #[c.A,c.L,c.M,S.here,b,r,a,t,v.m,rfl,rfl,ha,aE,aX,fun l H1 s1 gb hl=>?_]));have v1:=v.same s1;let⟨gW,zB,bJ,iF,c8⟩:=v1.fld;left;show(fI bJ c8 rfl #[_,.inl (aI.of hl),rfl,by simp[cH],?_]);rw[ua];cases hu with
 | gk _ _ h1 hm =>
  let⟨rfl,rfl⟩:=dH.uniq h1 aX;rw[hm];show aW (q _ v1)
 | up _ _ h1 hm eS mL bD eI bo hst' =>
  let⟨rfl,rfl⟩:=dH.uniq h1 aX;rw[hm];show bE ?_;let⟨kZ,hc,hh,sU,iy⟩:=v1.m.h;simp only[bO,hl,nV,wS,gy];show(fI bJ c8 rfl (fI bJ c8 rfl (mI hh iy #[c.A,c.L,c.M,_,_,_,v1.m,rfl,rfl,eS,mL,.inr #[_,_,bD,fun p hp=>?_]])));simp only[hp,gy];show#[c.A,c.L,c.M,_,_,_,_,_,v1.m,rfl,rfl,eI,bo,hst',fun H2 s2=>?_];let⟨jo,cx,iH,_,v2⟩:=(v1.same s2).put "here" _ { S with here:=dQ _ _ } .au _;show#[c.x,_,_,rfl,cx,iH,q _ v2]
def yD:T.jv.k P w mg base 3 (jS T.aK T.aR T.bb Ad.a yz):=by
 exists T.jv,adp,cy,fun x n h=>?_;let⟨AA,L,M,k,a,t,i,rfl,rfl,ha,aE,q⟩:=h;let⟨fs,c,hx,aU,sf⟩:=i.h;let⟨gs,c2,ht,cK,sg⟩:=i.t;have cA:=eG i ha aE;let⟨ks,ho,gZ,so⟩:=cA.o;show#[_,((ao (aM (am T.di T.AW (gM<&>T.cR (am T.aJ T.eO (ad 0)) (aa (ad 1) ae)))))).h,?_];exists 0;left;show#[AA.a,_,_,-AA.t,rfl,hx,(sf _).trans rfl,AA.t,_,_,rfl,ht,(sg _).trans rfl,ic i ha aE (fI ho so rfl q)]
def Eu{n:Nat}(h:n<=9000):n<=sizeLine:=wE h ⋯
def OS(ps:List (List Nat)):PV ps=(ps.map Tx.S).map V.str:=by
 unfold PV
 first | rfl | simp[Os,Function.comp_def]
def  fT(t:List Nat):List Str:=(told (Tx.words 47 t) t).map Tx.S
def  jc(S:Ws)(k:Nat)(ps:List Str)(h:Nat):Ws:={ S with read:=S.read+1,bQ:=S.bQ++[k],left:=(S.left++[.inl k])++dN ps,here:=h }
inductive tH(c:Wd)(S:Ws)(k:Nat):Ws->Prop
 | mk {a tc t ar tr b r}:c.L[k]?=!a->c.M.ts[k]?=!tc->tc.tx=Tx.S t->1<=t.length->t.length<=2000->(Tx.words 47 t).all cZ=true->(fT t).length<=124->c.L[c.root]?=!ar->c.M.ts[c.root]?=!tr->dH c.M c.root b r->tH c S k (jc S k (fT t) (if ed t=true then dQ b r else S.here))
def  Vf(N:Cn):Sp:=jF fun x n H Q _=>X5 fun c S lf (k:Nat) S'=>A7 (c.x=x) (n=(k:Int)) (bg N c S H lf .au) (S.left.length<=8000) (S.bQ.length<=900) (tH c.toWd S k S') (∀ H',bg N c S' H' lf .au->Q .au H')
def Si:T.uz.k P w mg base 7 (Vf T.cn):=by
 exists T.uz,LB,cy,fun x n h=>?_;let⟨c,S,lf,k,S',rfl,rfl,v,hl,g9,hR,q⟩:=h;cases hR with
 | @mk a tc t ar tr b r ha bT lb h1 h2 mx jN GS mJ aX =>
 show bt (b:=aO Fo) ((al (aQ 2 LB.nd (jI<$>T.cz (aa (yD<*T.jv (am T.aL T.fY (ad 0)) (aa (ad 1) ae)) ae)))
 (al (iT T.aL T.ER iR (ad 0) bi)
 (al (aP (jB IN IO m7 (am T.aL T.qP (ad 0)) (aa (ad 1) ae)))
 (al (aP (jB IN IO m7 (am T.aL T.oO (ad 0)) (aa (ad 1) ae)))
 (al (aP (jB PySem.F.slot_list_extend PySem.F.type_list_extend Xq (am T.aL T.oO (ad 0)) (aa (Dv.listRev (K:=K) rfl rfl T.rC T.AN (ce (bP (K:=K) rfl) (ad 2) bi)) ae)))
 (ao (aY (cN (ce (bP (K:=K) rfl) (ad 2) bi)) (ao (bG T.aL T.fZ (ad 0) (yF<$>T.gr (aa (am T.aL T.fY (ad 0)) (aa (am T.aL T.tV (ad 0)) ae))))) bv)))))))) ?_
 exists 1;let⟨fs,pv,hx,aU,sf⟩:=v.fld;let⟨kZ,hc,hh,sU,iy⟩:=v.m.h;right;show(fI hx sf rfl (mI hh iy #[c.A,c.L,c.M,k,a,tc,v.m,rfl,rfl,ha,bT,?_]));simp only[yz];show#[t,lb,h1,h2,mx,fun H1 l p s1 gb nN hp=>?_];have v1:=v.same s1;let⟨gW,bJ,iF,mH,v2⟩:=v1.put "leads_read" (.int ((S.read:Int)+1)) { S with read:=S.read+1 } .au _;right;show#[c.x,_,_,_,rfl,bJ,mH,_,_,rfl,rfl,_,_,bJ,iF,ai ?_];have hpx:p≠c.x:=fun e=>by rw[e,bJ]at hp;cases hp
 have hlx:l≠c.x:=fun e=>by rw[e,bJ]at nN;cases nN
 have fj:upd H1 c.x (.ins T.bC c.dx (az "leads_read" (.int ((S.read:Int)+1)) gW)) p=!HO.tup [V.bl (ed t),V.ref l]:=by rw[ag hpx];show hp
 have dk:upd H1 c.x (.ins T.bC c.dx (az "leads_read" (.int ((S.read:Int)+1)) gW)) l=!.lst (PV (told (Tx.words 47 t) t)):=by rw[ag hlx];show nN
 generalize upd H1 c.x (.ins T.bC c.dx (az "leads_read" (.int ((S.read:Int)+1)) gW))=H2 at v2 fj dk ⊢;let⟨jo,pV,cx,iH,cu⟩:=v2.fld;left;show(fI cx cu rfl ?_);simp only[v2.od];have v3:=v2.U6 k;show#[ju (by simp;omega),ai ?_];have nl0:l≠c.rd:=fun e=>by rw[e]at gb;rw[v.od]at gb;cases gb
 have jP:upd H2 c.rd (.lst (nV S.bQ++[V.int (k:Int)])) p=!HO.tup [V.bl (ed t),V.ref l]:=by rw[ag (pp (cC v2.od fj (by nofun)))];show fj
 have jW:upd H2 c.rd (.lst (nV S.bQ++[V.int (k:Int)])) l=!.lst (PV (told (Tx.words 47 t) t)):=by rw[ag nl0];show dk
 dsimp only at v3;generalize upd H2 c.rd (.lst (nV S.bQ++[V.int (k:Int)]))=H3 at v3 jP jW ⊢;let⟨iE,qb,dB,iu,dO⟩:=v3.fld;left;show(fI dB dO rfl ?_);simp only[v3.ol];have v4:=v3.Xw k;show#[wf (LE _) (Eu (by simp;omega)),ai ?_];have su:upd H3 lf (.lst (S.left.map dR++[V.int (k:Int)])) p=!HO.tup [V.bl (ed t),V.ref l]:=by rw[ag (pp (cC v3.ol jP (by nofun)))];show jP
 have vV:l≠lf:=fun e=>by rw[e]at gb;rw[v.ol]at gb;cases gb
 have Ah:upd H3 lf (.lst (S.left.map dR++[V.int (k:Int)])) l=!.lst (PV (told (Tx.words 47 t) t)):=by rw[ag vV];show jW
 dsimp only at v4;generalize upd H3 lf (.lst (S.left.map dR++[V.int (k:Int)]))=H4 at v4 su Ah ⊢;let⟨sT,Pl,jM,pR,pI⟩:=v4.fld;left;show(fI jM pI rfl ?_);simp only[v4.ol];unfold Cb;left;simp only[bO,su,xc];show#[l,_,rfl,aI.of Ah,fun l5 iD=>?_];rw[OS,show(List.map V.str (List.map Tx.S (told (Tx.words 47 t) t))).reverse=(dN (fT t)).map dR from(Ke _).symm];show eP iD fun H5 s5 b5=>?_;have v5:=v4.same s5;have e5:H5 lf=!.lst ((S.left++[Sum.inl k]).map dR):=v5.ol;simp only[e5,b5];have pW:(dN (fT t)).length<=124:=by unfold dN;simpa using jN
 show#[Eu (by simp at hl pW ⊢;omega),?_];have v6:=v5.Wh (dN (fT t));have pJ:=s5 _ _ su;have zI:upd H5 lf (.lst ((S.left++[Sum.inl k]).map dR++(dN (fT t)).map dR)) p=!HO.tup [V.bl (ed t),V.ref l]:=by rw[ag (pp (cC v5.ol pJ (by nofun)))];show pJ
 dsimp only at v6;generalize upd H5 lf (.lst ((S.left++[Sum.inl k]).map dR++(dN (fT t)).map dR))=H6 at v6 zI ⊢;simp only[zI,gy];cases hrt:ed t with
 | false =>
  rw[hrt]at q;show aW (q _ v6)
 | true =>
  rw[hrt]at q;show bE ?_;let⟨fs6,pv6,PM,hfl6,Pb⟩:=v6.fld;show(fI PM Pb rfl (fI PM Pb rfl #[c.A,c.L,c.M,c.root,b,r,ar,tr,v6.m,rfl,rfl,GS,mJ,aX,fun H7 s7=>?_]));let⟨fs7,HR,hfl7,_,v7⟩:=(v6.same s7).put "here" _ (jc S k (fT t) (dQ b r)) .au _;show#[c.x,_,_,rfl,HR,hfl7,q _ v7]
def eF{b:Bool}{A B:Prop}{i:Decidable (b=true)}(h:b=false)(hb:B):if b=true then A else B:=by rw[wP (by rw[h];decide)];show hb
def fb{b:Bool}{A B:Prop}{i:Decidable (b=true)}(h:b=true)(hb:A):if b=true then A else B:=by rw[xL h];show hb
section
variable {T:Tx K mg}{H:Hp}{A:Ad}{L:List Ta}{M:Hs}
def yC{z s:Str}{k:Nat}{t:Th}{Q:VK}{E:XK}(i:aF T.aK T.aR T.bb H A L M)(hz:(aH (sD M.ro) (.inr z)).isSome=true)(hs:j5 (.str s)=true)(ht:M.ts[k]?=!t)(q:Q (.bl (aV s (cf t z))) H):My T.aK T.aR T.bb T.sN T.vW T.sJ [-A.a,.str z,.int k,.str s] H Q E:=by
 show#[A,L,M,i,rfl,#[_,rfl],#[_,rfl],#[_,rfl],fun h=>(by rw[h z rfl]at hz;cases hz),fun z' e _=>?_];cases e;show#[fun h=>(by rw[hs]at h;cases h),fun s' e _=>?_];cases e;have bS:=(lm.mp ht).1;show#[fun h=>absurd bS (h k rfl),fun k' t' e ht'=>?_];cases e;rw[ht]at ht';cases ht';show q
end
def aby{k:Nat}{l:List Nat}(h:k∈l):gm k l=true:=List.any_eq_true.mpr #[k,h,()]
def Mu{k:Nat}{l:List Nat}(h:k ∉ l):gm k l=false:=by
 unfold gm;rw[List.any_eq_false];intro x hx e;show h (by rw[<- eq_of_beq e];show hx)
inductive tS(c:Wd)(S:Ws)(k:Nat):Ws->Option Tl->Prop
 | ring:k∈S.bQ->tS c S k S (!.ring (ng (S.bQ.drop (S.bQ.idxOf k))))
 | many:k ∉ S.bQ->S.read=40->tS c S k S (!.fail "many")
 | read {S'}:k ∉ S.bQ->S.read≠40->tH c S k S'->tS c S k S' none
def  ac8(N:Cn):Sp:=jF fun x n H Q _=>X6 fun c S lf (k:Nat) S' o=>A7 (c.x=x) (n=(k:Int)) (bg N c S H lf .au) (S.left.length<=8000) (S.bQ.length<=400) (tS c.toWd S k S' o) (ub N c S' lf o (Q .au))
def T2:T.tO.k P w mg base 8 (ac8 T.cn):=by
 exists T.tO,aeH,cy,fun x n h=>?_;let⟨c,S,lf,k,S',o,rfl,rfl,v,hl,g9,hR,q⟩:=h;show bt (b:=aO EH) ((ao (aY (bw (yX (K:=K) rfl) (ad 1) (am T.aL T.qP (ad 0))) (ao (bG T.aL T.mO (ad 0) (gl T.TB (YT T) hr.m T.RH T.vk.b .nil ay (aa (aa7<$>T.sd (aa (io (rK (K:=K) rfl) (am T.aL T.qP (ad 0)) (pA (jB _U PySem.F.type_list_index (JZ (K:=K) rfl) (am T.aL T.qP (ad 0)) (aa (ad 1) ae))) vt) ae)) ae)))) (ao (aY (bw gj (am T.aL T.ER (ad 0)) (dL (.int 40) T.ac3 #[_,rfl])) (ao (aP (bx T.aL T.ie.h (uX T) hr.m T.ie.b .nil ay (ad 0) (aa ap ae)))) (ao (aP (bx T.aL T.uz.h (Si T) hr.m T.uz.b .nil ay (ad 0) (aa (ad 1) ae))))))))) ?_;exists 0;let⟨fs,pv,hx,aU,sf⟩:=v.fld;left;show(fI hx sf rfl #[_,.inl (aI.of v.od),rfl,by simp[cH],?_]);rw[ua];cases hR with
 | many hk hm =>
  rw[Mu hk];show aW (fI hx sf rfl ?_);show fb (ul ∅) (mI hx sf #[c,S,lf,rfl,v,q])
 | read hk hm hR =>
  rw[Mu hk];show aW (fI hx sf rfl ?_);show eF (mo ∅) (mI hx sf #[c,S,lf,k,_,rfl,rfl,v,hl,∅,hR,q.n rfl])
 | ring hk =>
  rw[aby hk];show bE (fI hx sf rfl (fI hx sf rfl ?_));simp only[v.od];show#[_,aI.of (by rw[v.od,K9]),mem_cast hk,nV S.bQ,aI.of v.od,fun p hp=>?_];rw[Ci,LN];have e1:List.drop (S.bQ.idxOf k) (nV S.bQ)=nV (S.bQ.drop (S.bQ.idxOf k)):=by unfold nV;rw[Jas]
  rw[e1];show eP hp fun H1 s1 b1=>?_;have hj:S.bQ.idxOf k < S.bQ.length:=List.idxOf_lt_length_iff.mpr hk;show#[_,b1,fun e=>by have:=KM List.length e;simp at this;omega,by simp;omega,fun l2 H2 s2 l20 dk=>?_];intro fd bu aS hdfd nfd;have v2:=(v.same s1).same s2;have s4:=(aj.upd (o:=.own fd) hdfd).trans (aj.upd (p:=fd) (o:=.ins T.gd bu []) (by rw[ag (pp nfd)];show aS));have b4:upd (upd H2 bu (.own fd)) fd (.ins T.gd bu []) fd=!.ins T.gd bu []:=aw;generalize upd (upd H2 bu (.own fd)) fd (.ins T.gd bu [])=H4 at s4 b4 ⊢;show#[bu,_,b4,s4 _ _ dk,fun rl fG=>?_];have s5:=s4.trans (aj.upd (o:=.lst (nV (ng (S.bQ.drop (S.bQ.idxOf k))))) fG);have b5:upd H4 rl (.lst (nV (ng (S.bQ.drop (S.bQ.idxOf k))))) fd=!.ins T.gd bu []:=by rw[ag (bj b4 fG)];show b4
  have c5:upd H4 rl (.lst (nV (ng (S.bQ.drop (S.bQ.idxOf k))))) rl=!.lst (nV (ng (S.bQ.drop (S.bQ.idxOf k)))):=aw;have nr:=bj b4 fG;generalize upd H4 rl (.lst (nV (ng (S.bQ.drop (S.bQ.idxOf k)))))=H5 at s5 b5 c5 ⊢;let⟨zR,pG,iD,v6,f0,nx⟩:=v2.tells (t:=.ring []) (F:=az "leads" (-rl) []) aS s5 b5;have nrx:rl≠c.x:=fun e=>by rw[e]at c5;let⟨fs7,pv7,HR,_⟩:=(v2.same s5).fld;rw[HR]at c5;cases c5
  show#[rfl,c.x,_,_,rfl,pG,iD,q.y _ rfl fd _ v6 #[f0,bu,rl,by rw[ag (pp nx),aw],by rw[ag nrx,ag (pp nr)];show c5]]
inductive qM(c:Wd)(S:Ws)(t:Th)(p:Str):Ws->Option Tl->Prop
 | no:aH (sD t.aG) (.inr p)=none->qM c S t p { S with look:=S.look+1 } (!.fail "none")
 | folder {k a tc b r}:aH (sD t.aG) (.inr p)=!.int ((k:Nat):Int)->c.L[k]?=!a->c.M.ts[k]?=!tc->tc.kd=("folder":Str)->dH c.M k b r->qM c S t p { S with look:=S.look+1,here:=dQ b r } none
 | fin {k a tc}:aH (sD t.aG) (.inr p)=!.int ((k:Nat):Int)->c.L[k]?=!a->c.M.ts[k]?=!tc->tc.kd≠("folder":Str)->(tc.kd=("file":Str)\/S.left=[]/\c.last=false)->qM c S t p { S with look:=S.look+1,place:=!(S.here,p),here:=k } none
 | lead {k a tc S' o}:aH (sD t.aG) (.inr p)=!.int ((k:Nat):Int)->c.L[k]?=!a->c.M.ts[k]?=!tc->tc.kd≠("folder":Str)->tc.kd≠("file":Str)->¬ (S.left=[]/\c.last=false)->tS c { S with look:=S.look+1 } k S' o->qM c S t p S' o
def Bx{T:Tx K mg}{c:Wc}{S:Ws}{H:Hp}{lf:ϋ}{k:Nat}{nm:Str}{v3:Option V}{R:Hp->Prop}{Q:VK}(v2:bg T.cn c S H lf .au)(q:∀ H',bg T.cn c { S with place:=!(S.here,nm),here:=k } H' lf .au->R H') :
  pE (oY T.bC "place" (fX 0) (xt (oF (yw T.bC "here" (fX 0)) (oF (fX 1) lA)))) (oY T.bC "here" (fX 0) (fX 2)) { nx:=fun _ H'=>R H',rt:=Q } [!V.ref c.x,!V.str nm,!V.int (k:Int),v3] H:=by
 let⟨jo,pV,cx,iH,cu⟩:=v2.fld;right;show(fI cx cu rfl #[fits (),fun p hp=>?_]);have w3:=v2.same (aj.upd (o:=.tup [V.int (S.here:Int),V.str nm]) hp);have b3:upd H p (.tup [V.int (S.here:Int),V.str nm]) p=!.tup [V.int (S.here:Int),V.str nm]:=aw;have p0:=v2.fresh hp;generalize upd H p (.tup [V.int (S.here:Int),V.str nm])=H3 at w3 b3 ⊢;let⟨iE,dB,iu,v4⟩:=w3.placed p0 b3;show#[c.x,_,_,rfl,dB,iu,?_];generalize upd H3 c.x _=H4 at v4 ⊢;let⟨sT,jM,pR,_,v5⟩:=v4.put "here" (.int (k:Int)) { S with place:=!(S.here,nm),here:=k } .au _;show#[c.x,_,_,rfl,jM,pR,q _ v5]
def  acU(N:Cn):Sp:=kg fun x nm H Q _=>X7 fun c S lf a t S' o=>B4 (c.x=x) (bg N c S H lf .au) (c.L[S.here]?=!a) (c.M.ts[S.here]?=!t) (fV (.str nm)=true) (nm.length<=1000) (S.left.length<=8000) (S.bQ.length<=400) (qM c.toWd S t nm S' o) (ub N c S' lf o (Q .au))
def Rv:T.uk.k P w mg base 9 (acU T.cn):=by
 exists T.uk,D8,eY,fun x nm h=>?_;let⟨c,S,lf,a,t,S',o,rfl,v,ha,aE,hn,eE,vX,g9,hb,q⟩:=h;show bt (b:=aO BZ) ((al (iT T.aL T.OY iR (ad 0) bi)
 (al (aQ 2 D8.nd (OB<*T.og (am T.aL T.fY (ad 0)) (aa (am T.aL T.fZ (ad 0)) (aa (ad 1) ae))))
 (al (aY (bw uD (ad 2) au) (al (aP (bx T.aL T.ie.h (uX T) hr.m T.ie.b .nil ay (ad 0) (aa ap ae)))
 (ao OR)) bv)
 (al (aQ 3 D8.nd (uM<*T.ij (am T.aL T.fY (ad 0)) (aa (ad 2) ae)))
 (ao (aY (bw gj (ad 3) (dL (.str "folder") T.uH #[_,rfl])) (ao (bG T.aL T.fZ (ad 0) (yF<$>T.gr (aa (am T.aL T.fY (ad 0)) (aa (ad 2) ae))))) (ao (aY (fM (ge (bw gj (ad 3) (dL (.str "file") T.Br #[_,rfl])) (km (fM (im (bw (Nc (K:=K) rfl hr.nA) (am T.aL T.oO (ad 0)) (cr ae)) (qF (dS (cN (am T.aL T.MR (ad 0)))))))))) (al (bG T.aL T.xR (ad 0) (dl (aa (am T.aL T.fZ (ad 0)) (aa (ad 1) ae))))
 (ao (bG T.aL T.fZ (ad 0) (ad 2)))) (ao (aP (bx T.aL T.tO.h (T2 T) hr.m T.tO.b .nil ay (ad 0) (aa (ad 2) ae))))))))))))) ?_
 exists 2;let⟨fs,hx,aU,mH,v1⟩:=v.put "looked_up" (.int ((S.look:Int)+1)) { S with look:=S.look+1 } .au _;right;show#[c.x,_,_,_,rfl,hx,mH,_,_,rfl,rfl,_,_,hx,aU,ai ?_];generalize upd H c.x (.ins T.bC c.dx (az "looked_up" (.int ((S.look:Int)+1)) fs))=H1 at v1 ⊢;let⟨gW,zB,bJ,iF,c8⟩:=v1.fld;let⟨kZ,hc,hh,sU,iy⟩:=v1.m.h;left;show(fI bJ c8 rfl (mI hh iy (fI bJ c8 rfl #[c.A,c.L,c.M,S.here,a,t,v1.m,rfl,rfl,ha,aE,hn,eE,fun H2 s2=>?_])));have v2:=v1.same s2;let⟨jo,pV,cx,iH,cu⟩:=v2.fld;let⟨hfs2,sQ,Qk,hhl2,hsf2⟩:=v2.m.h;by_cases jK:aH (sD t.aG) (.inr nm)=none
 ·have he:S'={ S with look:=S.look+1 }/\o=!.fail "none":=by
   cases hb with
   | no _=>show#[rfl,rfl]
   | folder h1=>rw[jK]at h1;cases h1
   | fin h1=>rw[jK]at h1;cases h1
   | lead h1=>rw[jK]at h1;cases h1
  let⟨rfl,rfl⟩:=he;rw[jK];right;show#[by trivial,bE ?_];right;show(mI cx cu #[c,_,lf,rfl,v2,q])
 let⟨k,ak,tc,hv,dC,bT⟩:∃ k a tc,aH (sD t.aG) (.inr nm)=!.int ((k:Nat):Int)/\c.L[k]?=!a/\c.M.ts[k]?=!tc:=by
  cases hb with
  | no h=>show absurd h jK
  | folder h1 h2 h3=>show#[_,_,_,h1,h2,h3]
  | fin h1 h2 h3=>show#[_,_,_,h1,h2,h3]
  | lead h1 h2 h3=>show#[_,_,_,h1,h2,h3]
 rw[hv];right;show#[by trivial,?_];rw[mo (by nofun)];show aW ?_;right;show(fI cx cu rfl (mI Qk hsf2 #[c.A,c.L,c.M,k,ak,tc,v2.m,rfl,rfl,dC,bT,?_]));simp only[xK];cases hb with
 | no h=>show absurd h jK
 | folder h1 h2 h3 b9 aX =>
  rw[hv]at h1;cases vx h1;rw[bT]at h3;cases h3;simp only[b9,decide_true];left;show(fI cx cu rfl #[c.A,c.L,c.M,k,_,_,ak,_,v2.m,rfl,rfl,dC,bT,aX,fun H3 s3=>?_]);let⟨iE,dB,iu,_,v3⟩:=(v2.same s3).put "here" _ { S with look:=S.look+1,here:=dQ _ _ } .au _;show#[c.x,_,_,rfl,dB,iu,q.n rfl _ v3]
 | fin h1 h2 h3 b9 hf =>
  rw[hv]at h1;cases vx h1;rw[bT]at h3;cases h3;rw[mo b9];show aW ?_;left;rcases hf with hf | ⟨hle,hla⟩
  ·show fb (ul hf) ((xL trivial).mpr (Bx v2 (q.n rfl)))
  ·by_cases hf:tc.kd=("file":Str)
   ·show fb (ul hf) ((xL trivial).mpr (Bx v2 (q.n rfl)))
   show eF (mo hf) (fI cx cu rfl #[fits (),fun d hd=>?_]);have v3:=v2.same (aj.upd (o:=.lst []) hd);have b3:upd H2 d (.lst []) d=!.lst []:=aw;generalize upd H2 d (.lst [])=H3 at v3 b3 ⊢;let⟨iE,qb,dB,iu,dO⟩:=v3.fld;show#[_,[],aI.of v3.ol,aI.of b3,.inl #[rfl,?_]];show fb (by rw[show({ S with look:=S.look+1 }:Ws).left=[] from hle];rfl) (fI dB dO rfl (fb (by rw[hla];rfl) (Bx v3 (q.n rfl))))
 | lead h1 h2 h3 b9 gY eE hm =>
  rw[hv]at h1;cases vx h1;rw[bT]at h3;cases h3;rw[mo b9];show aW ?_;left;show eF (mo gY) (fI cx cu rfl #[fits (),fun d hd=>?_]);have v3:=v2.same (aj.upd (o:=.lst []) hd);have b3:upd H2 d (.lst []) d=!.lst []:=aw;generalize upd H2 d (.lst [])=H3 at v3 b3 ⊢;let⟨iE,qb,dB,iu,dO⟩:=v3.fld;show#[_,[],aI.of v3.ol,aI.of b3,.inl #[rfl,?_]];by_cases hle:S.left=[]
  ·show fb (by rw[show({ S with look:=S.look+1 }:Ws).left=[] from hle];rfl) (fI dB dO rfl ?_);show eF (by cases hb:c.last with | false=>show absurd #[hle,hb] eE | true=>rfl) ?_;show(mI dB dO #[c,_,lf,k,S',o,rfl,rfl,v3,vX,g9,hm,q])
  ·show eF (by cases h:S.left with | nil=>show absurd h hle | cons _ _=>rfl) (aW ?_);show(mI dB dO #[c,_,lf,k,S',o,rfl,rfl,v3,vX,g9,hm,q])
structure wY(c:Wd)(S:Ws)(t:Th):Prop where
 l:∃ a,c.L[S.here]?=!a
 e:c.M.ts[S.here]?=!t
 k:t.kd=("folder":Str)
 g:aV ("g":Str) (cf t c.z)=true
def  ej(S:Ws):Ws:={ S with step:=S.step+1,asked:=S.asked++[S.here] }
inductive eT(c:Wd)(S:Ws)(p:Str):Ws->Option Tl->Prop
 | flat {a t}:c.L[S.here]?=!a->c.M.ts[S.here]?=!t->t.kd≠("folder":Str)->eT c S p { S with step:=S.step+1 } (!.fail "flat")
 | oi {a t}:c.L[S.here]?=!a->c.M.ts[S.here]?=!t->t.kd=("folder":Str)->aV ("g":Str) (cf t c.z)=false->eT c S p (ej S) (!.fail "shut")
 | dot {t}:wY c S t->p=(".":Str)->eT c S p (ej S) none
 | up {t h}:wY c S t->p=("..":Str)->xP c S.here h->eT c S p { ej S with here:=h } none
 | go {t S' o}:wY c S t->p≠("..":Str)->p≠(".":Str)->fV (.str p)=true->p.length<=1000->qM c (ej S) t p S' o->eT c S p S' o
def  Zq(N:Cn):Sp:=kg fun x p H Q _=>X5 fun c S lf S' o=>A7 (c.x=x) (bg N c S H lf .au) (S.asked.length<=8000) (S.left.length<=8000) (S.bQ.length<=400) (eT c.toWd S p S' o) (ub N c S' lf o (Q .au))
def adi:T.uE.k P w mg base 10 (Zq T.cn):=by
 exists T.uE,aex,eY,fun x p h=>?_;let⟨c,S,lf,S',o,rfl,v,hn,vX,g9,hp,q⟩:=h;let⟨a,t,ha,aE⟩:∃ a t,c.L[S.here]?=!a/\c.M.ts[S.here]?=!t:=by
  cases hp with
  | flat h1 h2=>show#[_,_,h1,h2]
  | oi h1 h2=>show#[_,_,h1,h2]
  | dot h=>let⟨a,e⟩:=h.l;show#[a,_,e,h.e]
  | up h=>let⟨a,e⟩:=h.l;show#[a,_,e,h.e]
  | go h=>let⟨a,e⟩:=h.l;show#[a,_,e,h.e]
 show bt (b:=aO El) ((al (iT T.aL T.DK iR (ad 0) bi)
 (al (aY (bw mq (uM<*T.ij (am T.aL T.fY (ad 0)) (aa (am T.aL T.fZ (ad 0)) ae)) (dL (.str "folder") T.uH #[_,rfl])) (al (aP (bx T.aL T.ie.h (uX T) hr.m T.ie.b .nil ay (ad 0) (aa ap ae)))
 (ao OR)) bv)
 (al (aP (jB IN IO m7 (am T.aL T.OD (ad 0)) (aa (am T.aL T.fZ (ad 0)) ae)))
 (ao (aY (dS (cN (cW T.aJ T.jE.h (ye T) hr.m T.jE.b .nil cO (am T.aL T.fY (ad 0)) (aa (am T.aL T.u0 (ad 0)) (aa (am T.aL T.fZ (ad 0)) (aa ap ae)))))) (ao (aP (bx T.aL T.ie.h (uX T) hr.m T.ie.b .nil ay (ad 0) (aa ap ae)))) (ao (aY (bw gj (ad 1) ap) (ao (aP (tQ T.aL T.vg.h (adZ T) hr.m T.vg.b .nil ay (ad 0)))) (ao (aY (bw mq (ad 1) ap) (ao (aP (bx T.aL T.uk.h (Rv T) hr.m T.uk.b .nil ay (ad 0) (aa (ad 1) ae)))) bv)))))))))) ?_
 exists 0;let⟨fs,hx,aU,mH,v1⟩:=v.put "step" (.int ((S.step:Int)+1)) { S with step:=S.step+1 } .au _;right;show#[c.x,_,_,_,rfl,hx,mH,_,_,rfl,rfl,_,_,hx,aU,ai ?_];generalize upd H c.x (.ins T.bC c.dx (az "step" (.int ((S.step:Int)+1)) fs))=H1 at v1 ⊢;let⟨gW,zB,bJ,iF,c8⟩:=v1.fld;let⟨kZ,hc,hh,sU,iy⟩:=v1.m.h;left;show(fI bJ c8 rfl (mI hh iy (fI bJ c8 rfl #[c.A,c.L,c.M,S.here,a,t,v1.m,rfl,rfl,ha,aE,?_])));simp only[xK];by_cases b9:t.kd=("folder":Str)
 ·simp only[b9,decide_true];show aW ?_;right;show(fI bJ c8 rfl ?_);simp only[v1.oa];show(fI bJ c8 rfl ?_);have v2:=v1.UN S.here;show#[wf (LE _) (Eu (by simp;omega)),?_];dsimp only at v2;generalize upd H1 c.av (.lst (nV S.asked++[.int (S.here:Int)]))=H2 at v2 ⊢;let⟨jo,pV,cx,iH,cu⟩:=v2.fld;let⟨kX,gc,gh,mC,en⟩:=v2.m.h;show(fI cx cu rfl (mI gh en (fI cx cu rfl (fI cx cu rfl (yC v2.m (by rw[v2.hz];rfl) (by symm) aE ?_)))));cases hp with
  | flat h1 h2 h3=>rw[aE]at h2;cases h2;show absurd b9 h3
  | oi h1 h2 h3 h4 =>
   rw[aE]at h2;cases h2;rw[h4];show bE (mI cx cu #[c,_,lf,rfl,v2,q])
  | dot hA h5 =>
   have h2:=hA.e;rw[aE]at h2;cases h2;subst h5;rw[hA.g];show aW (eF (mo (by symm)) (eF (by rw[ul rfl];rfl) (q.n rfl _ v2)))
  | up hA h5 hu =>
   have h2:=hA.e;rw[aE]at h2;cases h2;subst h5;rw[hA.g];show aW (fb (ul rfl) (mI cx cu #[c,_,lf,_,rfl,v2,hu,q.n rfl]))
  | go hA h5 h6 h7 h8 hb =>
   have h2:=hA.e;rw[aE]at h2;cases h2;rw[hA.g];show aW (eF (mo h5) (fb (by rw[mo h6];rfl) (mI cx cu #[c,_,lf,a,_,_,_,rfl,v2,ha,aE,h7,h8,vX,g9,hb,q])))
 ·show fb (by rw[mo b9];rfl) ?_;right;have hf:S'={ S with step:=S.step+1 }/\o=!.fail "flat":=by
   cases hp with
   | flat h1 h2 h3=>show#[rfl,rfl]
   | oi h1 h2 h3 h4=>rw[aE]at h2;cases h2;show absurd h3 b9
   | dot hA=>have h2:=hA.e;rw[aE]at h2;cases h2;show absurd hA.k b9
   | up hA=>have h2:=hA.e;rw[aE]at h2;cases h2;show absurd hA.k b9
   | go hA=>have h2:=hA.e;rw[aE]at h2;cases h2;show absurd hA.k b9
  let⟨rfl,rfl⟩:=hf;show(mI bJ c8 #[c,_,lf,rfl,v1,q])
def FL(c:Nat):∀ (ns:List Str) (n:Nat),(∀ s∈ns,s.length<=8)->ns.foldl (fun n z=>n+z.length+c) n<=n+(8+c) * ns.length
 | [],n,_=>by simp
 | y::r,n,h=>by
  have h1:=h y ();have h2:=FL c r (n+y.length+c) fun s hs=>h s (by simp[hs]);rw[List.foldl_cons,Fa,Nat.mul_add];omega
def Ua{ns:List Str}(h:∀ s∈ns,s.length<=8)(hl:ns.length<=100):ns.foldl (fun n z=>n+z.length+(ώ "/").length) 0<=900/\(Str.join (ώ "/") ns).length<=900:=by
 have lj:(ώ "/").length=1:=by symm
 have h1:=FL 1 ns 0 h;have h2:=StrLaws.join_length_le (ώ "/") ns;have h3:(ns.map (·.length)).sum<=8 * ns.length:=by
  clear h1 h2 hl
  induction ns with
  | nil=>simp
  | cons y r ih =>
   have:=ih fun s hs=>h s (by simp[hs]);have h4:=h y ();rw[wS,List.sum_cons,Fa];omega
 rw[lj]at h2 ⊢;omega
def  BV(ns:List Str):Str:=ώ "/" ++ Str.join (ώ "/") ns
def  Te(N:Cn):Sp:=jy fun x H Q _=>X9 fun c S lf (f:Nat) (a:Ta) (t:Th) (ns:List Str) (c7:List Str) (told:V)=>A9 (c.x=x) (bg N c S H lf told) (c.L[S.here]?=!a) (c.M.ts[S.here]?=!t) (t.kd=("folder":Str)/\f=S.here/\c7=[]\/t.kd≠("folder":Str)/\∃ nm:Str,S.place=!(f,nm)/\c7=[nm]/\nm.length<=8) (∃ m,kH c.M c.L c.root m f ns) (ns.length<=99) (∀ s∈ns,s.length<=8) (∀ H',aj H H'->Q (.str (BV (ns++c7))) H')
def aaG:T.vA.k P w mg base 7 (Te T.cn):=by
 exists T.vA,tD,ee,fun x h=>?_;let⟨c,S,lf,f,a,t,ns,c7,told,rfl,v,ha,aE,hk,eR,hl100,hn8,q⟩:=h;show bt (b:=aO CV) ((al (aQ 1 tD.nd (cr ae))
 (al (aQ 2 tD.nd (am T.aL T.fZ (ad 0)))
 (al (aY (bw mq (uM<*T.ij (am T.aL T.fY (ad 0)) (aa (am T.aL T.fZ (ad 0)) ae)) (dL (.str "folder") T.uH #[_,rfl])) (al (aQ 2 tD.nd (ce (bP (K:=K) rfl) (am T.aL T.xR (ad 0)) bi))
 (ao (aQ 1 tD.nd (cr (aa (ce (bP (K:=K) rfl) (am T.aL T.xR (ad 0)) bi) ae))))) bv)
 (ao (aM (db gO ap (uZ PySem.F.slot_str_join PySem.F.type_str_join (IQ (K:=K) rfl) ap (aa (db gO (Zp<$>T.qY (aa (am T.aL T.fY (ad 0)) (aa (am T.aL T.u0 (ad 0)) (aa (ad 2) ae)))) (ad 1)) ae))))))))) ?_
 exists 2;right;show#[fits (),fun ln zP=>?_];show eP zP fun H1 s1 b1=>?_;have v1:=v.same s1;let⟨fs,pv,hx,aU,Qy,sf⟩:=v1.o;let⟨kZ,hc,hh,sU,iy⟩:=v1.m.h;right;show(fI hx sf rfl ?_);show iS (fun σ' H'=>∃ ln',σ'=[!V.ref c.x,!V.ref ln',!V.int (f:Int)]/\aj H H'/\H' ln'=!.lst (c7.map V.str)/\c7.length<=1/\∀ s∈c7,s.length<=8) ?_ ?_
 ·left;show(fI hx sf rfl (mI hh iy (fI hx sf rfl #[c.A,c.L,c.M,S.here,a,t,v1.m,rfl,rfl,ha,aE,?_])));simp only[xK];rcases hk with ⟨b9,rfl,rfl⟩ | ⟨b9,nm,bD,rfl,cB⟩
  ·show eF (by rw[ul b9];rfl) ?_;show#[ln,rfl,s1,b1,(),fun s hs=>(by cases hs)]
  ·show fb (by rw[mo b9];rfl) ?_;rw[bD]at Qy;let⟨p,rfl,p0,hp⟩:=Qy;right;show(fI hx sf rfl ?_);simp only[bO,hp,gy];show(fI hx sf rfl ?_);simp only[hp,xc];show#[fits (),fun p2 fj=>#[p2,rfl,s1.trans (aj.upd fj),by rw[aw];rfl,(),fun s hs=>by rw[ut.mp hs];show cB]]
 rintro σ' H2 ⟨l2,rfl,s2,b2,nN,h8⟩;have v2:=v.same s2;let⟨jo,pV,cx,iH,cu⟩:=v2.fld;left;show(fI cx cu rfl (fI cx cu rfl #[c.A,c.L,c.M,f,c.root,ns,v2.m,rfl,rfl,v2.hz,eR,∅,fun l H3 s3 hl=>?_]));have c3:=s3 _ _ b2;simp only[hl,c3];have hn8':∀ s∈ns++c7,s.length<=8:=fun s hs=>by
  rcases Fr.mp hs with hs | hs
  ·show hn8 s hs
  ·show h8 s hs
 let⟨sX,zW⟩:=Ua hn8' (by rw[sK];omega);have lj:(ώ "/").length=1:=by symm
 show#[fits (by simp only[lv];omega),fun p hp=>?_];show#[_,aI.of aw,ns++c7,(),?_];show#[fits ∅,fits ∅,q _ ((s2.trans s3).trans (aj.upd hp))]
structure Bd(S:Ws):Prop where
 a:S.asked.length<=S.step
 p:S.step+S.left.length+125 * (40 - S.read)<=8000
 r:S.bQ.length<=S.read
 q:S.read<=40
def Cy(ps:List Str):(dN ps).length=ps.length:=by unfold dN;simp
def tH.bd{c:Wd}{S S':Ws}{k:Nat}(h:tH c S k S')(a:S.asked.length<=S.step)(p:S.step+S.left.length+125 * (40 - S.read)<=8000)(r:S.bQ.length<=S.read)(q:S.read < 40):Bd S':=by
 cases h with
 | @mk _ _ t _ _ _ _ h1 h2 h3 h4 h5 h6 h7 _ _ _ =>
  have e:=Cy (fT t);show#[a,?_,by unfold jc;simp;omega,by unfold jc;simp;omega];unfold jc;simp only[sK,Fa,_N,e];omega
def eT.Wq{c:Wd}{S S1:Ws}{p:Str}{o:Option Tl}(ba:S.asked.length<=S.step)(bp:S.step+1+S.left.length+125 * (40 - S.read)<=8000)(br:S.bQ.length<=S.read)(bq:S.read<=40)(h:eT c S p S1 o):Bd S1:=by
 cases h with
 | flat=>show#[by dsimp only;omega,by dsimp only;omega,br,bq]
 | oi=>show#[by unfold ej;simp;omega,by unfold ej;dsimp only;omega,br,bq]
 | dot=>show#[by unfold ej;simp;omega,by unfold ej;dsimp only;omega,br,bq]
 | up=>show#[by unfold ej;simp;omega,by unfold ej;dsimp only;omega,br,bq]
 | go _ _ _ _ _ hb =>
  have a2:(ej S).asked.length<=(ej S).step:=by unfold ej;simp;omega
  have p2:(ej S).step+(ej S).left.length+125 * (40 - (ej S).read)<=8000:=by unfold ej;dsimp only;omega
  cases hb with
  | no=>show#[a2,p2,br,bq]
  | folder=>show#[a2,p2,br,bq]
  | fin=>show#[a2,p2,br,bq]
  | lead _ _ _ _ _ _ hm =>
   cases hm with
   | ring=>show#[a2,p2,br,bq]
   | many=>show#[a2,p2,br,bq]
   | read _ h40 hr=>show hr.bd a2 p2 br (Nat.lt_of_le_of_ne bq h40)
def eT.bd{c:Wd}{S S1:Ws}{l:List (Sum Nat Str)}{p:Str}{o:Option Tl}(b:Bd S)(e:S.left=l++[.inr p])(h:eT c { S with left:=l } p S1 o):Bd S1:=by
 have bp:=b.p;rw[e,sK]at bp;have e1:[Sum.inr (α:=Nat) p].length=1:=rfl;show eT.Wq (S:={ S with left:=l }) b.a (by dsimp only;omega) b.r b.q h
inductive fN(c:Wd):Nat->Ws->Ws->Option Tl->Prop
 | done {S}:S.left=[]->fN c 0 S S none
 | pop {n S k l r j S' o}:S.left=l++[.inl k]->S.bQ=r++[j]->fN c n { S with left:=l,bQ:=r } S' o->fN c (n+1) S S' o
 | step {n S p l S1 S' o}:S.left=l++[.inr p]->eT c { S with left:=l } p S1 none->fN c n S1 S' o->fN c (n+1) S S' o
 | fail {S p l S1 y}:S.left=l++[.inr p]->eT c { S with left:=l } p S1 (!y)->fN c 0 S S1 (!y)
abbrev rq(k:Nat)(ns:List Str):List (Str×V):=az "way" (.str (BV ns)) (az "number" (.int (k:Int)) [])
def  xg(M:Hs)(L:List Ta)(root:Nat)(S:Ws)(ns c7:List Str):Prop:=∃ (f:Nat) (a:Ta) (t:Th),L[S.here]?=!a/\M.ts[S.here]?=!t /\
   (t.kd=("folder":Str)/\f=S.here/\c7=[]\/t.kd≠("folder":Str)/\∃ nm:Str,S.place=!(f,nm)/\c7=[nm]/\nm.length<=8)/\(∃ m,kH M L root m f ns)/\ns.length<=99/\(∀ s∈ns,s.length<=8)
def  ad2(N:Cn):Sp:=jy fun x H Q _=>X6 fun c S lf n S' o=>A6 (c.x=x) (bg N c S H lf .au) (Bd S) (fN c.toWd n S S' o) (∀ y,o=!y->∀ fd H',bg N c S' H' lf (-fd)->tJ N c.H0 H' S'.step fd y->Q .au H') (o=none->∃ ns c7,xg c.M c.L c.root S' ns c7/\∀ fd bu H',bg N c S' H' lf (-fd)->c.H0 fd=none->H' fd=!.ins N.CG bu (rq S'.here (ns++c7))->Q .au H')
def abM:T.vC.k P w mg base 11 (ad2 T.cn):=by
 exists T.vC,Kw,ee,fun x h=>?_;let⟨c,S,lf,n,S',o,rfl,v,f9,la,q1,q2⟩:=h;show bt (b:=aO Et) ((al (u9 _w (fM (im (bw uD (am T.aL T.mO (ad 0)) au) (qF (bw (Jz (K:=K) rfl hr.nA) (am T.aL T.oO (ad 0)) (cr ae))))) (al (aQ 1 Kw.nd (Mx PySem.F.slot_list_pop PySem.F.type_list_pop Kq (am T.aL T.oO (ad 0))))
 (ao (aY (cN (Di<$>T.iM (aa (ad 1) ae))) (ao (aP (Mx PySem.F.slot_list_pop PySem.F.type_list_pop Kq (am T.aL T.qP (ad 0))))) (ao (aP (bx T.aL T.uE.h (adi T) hr.m T.uE.b .nil ay (ad 0) (aa (ad 1) ae))))))))
 (ao (aY (bw uD (am T.aL T.mO (ad 0)) au) (ao (bG T.aL T.mO (ad 0) (gl T.TZ (Zx T) hr.m T.xT T.tw.b .nil ay (aa (am T.aL T.fZ (ad 0)) (aa (tQ T.aL T.vA.h (aaG T) hr.m T.vA.b .nil ay (ad 0)) ae))))) bv)))) ?_
 exists 1;let⟨PV,my⟩:∃ PV:Nat->St->Hp->Prop,PV=fun m σ' H'=>∃ pv:Option V,σ'=[!V.ref c.x,pv] /\
   ((∃ n S,m=n+1/\bg T.cn c S H' lf .au/\Bd S/\fN c.toWd n S S' o) \/
     (∃ y fd,m=0/\o=!y/\bg T.cn c S' H' lf (-fd)/\tJ T.cn c.H0 H' S'.step fd y)):=#[_,rfl]
 show ai ?_;show#[PV,#[n+1,by rw[my];show#[none,rfl,.inl #[n,S,rfl,v,f9,la]]],?_];clear v f9 la;intro m σ' H' hI;rw[my]at hI;obtain⟨pv,rfl,⟨n,S,hm,v1,f9,la⟩ | ⟨y,fd,hm,ho,v1,aS⟩⟩:=hI
 ·left;let⟨gW,zB,bJ,iF,c8⟩:=v1.fld;show(fI bJ c8 rfl #[by trivial,bE ?_]);show(fI bJ c8 rfl #[fits (),fun d hd=>?_]);have v2:=v1.same (aj.upd (o:=.lst []) hd);have b2:upd H' d (.lst []) d=!.lst []:=aw;generalize upd H' d (.lst [])=H2 at v2 b2 ⊢;let⟨jo,pV,cx,iH,cu⟩:=v2.fld;show#[_,[],aI.of v2.ol,aI.of b2,.inl #[rfl,?_]];cases la with
  | done hle =>
   show eF (by rw[hle];rfl) ?_;show(fI cx cu rfl #[by trivial,bE ?_]);let⟨ns,c7,⟨f,a,t,h1,h2,h3,h4,h5,h6⟩,q⟩:=q2 rfl;show(fI cx cu rfl (mI cx cu #[c,_,lf,f,a,t,ns,c7,_,rfl,v2,h1,h2,h3,h4,h5,h6,fun H3 s3=>?_]));intro fd bu aS hdfd nfd;have s4:=(aj.upd (o:=.own fd) hdfd).trans (aj.upd (p:=fd) (o:=.ins T.dX bu []) (by rw[ag (pp nfd)];show aS));have b4:upd (upd H3 bu (.own fd)) fd (.ins T.dX bu []) fd=!.ins T.dX bu []:=aw;generalize upd (upd H3 bu (.own fd)) fd (.ins T.dX bu [])=H4 at s4 b4 ⊢;show#[bu,b4,rfl,?_];let⟨zR,pG,iD,v6,f0,nx⟩:=(v2.same s3).tells (t:=.ring []) (F:=rq S'.here (ns++c7)) aS s4 b4;show#[c.x,_,_,rfl,pG,iD,q fd bu _ v6 f0 (by rw[ag (pp nx)];show aw)]
  | @pop n _ k l r j _ _ hle kT la =>
   show fb (by rw[hle];cases l <;> rfl) #[_,fun _ _ h=>h,?_];right;show(fI cx cu rfl ?_);simp only[v2.ol];show#[l.map dR,V.int (k:Int),by rw[hle,Go];rfl,?_];have v3:=v2.uv l;generalize upd H2 lf (.lst (l.map dR))=H3 at v3 ⊢;let⟨iE,qb,dB,iu,dO⟩:=v3.fld;show#[#[_,rfl],bE ?_];show(fI dB dO rfl ?_);simp only[v3.od];show#[nV r,V.int (j:Int),by rw[kT,oy];rfl,n+1,∅,?_];have v4:=v3.OU r;dsimp only at v4;rw[my];have ba:=f9.a;have bp:=f9.p;have br:=f9.r;have bq:=f9.q;rw[hle,sK]at bp;rw[kT,sK]at br;show#[_,rfl,.inl #[n,_,rfl,v4,#[ba,by dsimp only;omega,by dsimp only;omega,bq],la]]
  | @step n _ p l S1 _ _ hle aX la =>
   show fb (by rw[hle];cases l <;> rfl) #[_,fun _ _ h=>h,?_];right;show(fI cx cu rfl ?_);simp only[v2.ol];show#[l.map dR,V.str p,by rw[hle,Go];rfl,?_];have v3:=v2.uv l;generalize upd H2 lf (.lst (l.map dR))=H3 at v3 ⊢;let⟨iE,qb,dB,iu,dO⟩:=v3.fld;show#[#[_,rfl],aW ?_];have ba:=f9.a;have bp:=f9.p;have br:=f9.r;have bq:=f9.q;rw[hle,sK]at bp;show(mI dB dO #[c,_,lf,_,_,rfl,v3,by dsimp only;omega,by dsimp only;omega,by dsimp only;omega,aX,fun _ H4 v4=>#[n+1,∅,?_],fun y hy=>by cases hy]);rw[my];show#[_,rfl,.inl #[n,S1,rfl,v4,aX.bd f9 hle,la]]
  | @fail _ p l _ y hle aX =>
   show fb (by rw[hle];cases l <;> rfl) #[_,fun _ _ h=>h,?_];right;show(fI cx cu rfl ?_);simp only[v2.ol];show#[l.map dR,V.str p,by rw[hle,Go];rfl,?_];have v3:=v2.uv l;generalize upd H2 lf (.lst (l.map dR))=H3 at v3 ⊢;let⟨iE,qb,dB,iu,dO⟩:=v3.fld;show#[#[_,rfl],aW ?_];have ba:=f9.a;have bp:=f9.p;have br:=f9.r;have bq:=f9.q;rw[hle,sK]at bp;show(mI dB dO #[c,_,lf,_,_,rfl,v3,by dsimp only;omega,by dsimp only;omega,by dsimp only;omega,aX,(fun z=>by cases z),fun y' hy fd H4 v4 hf=>#[0,∅,?_]]);cases hy;rw[my];show#[_,rfl,.inr #[y,fd,rfl,rfl,v4,hf]]
 ·left;let⟨gW,zB,bJ,iF,c8⟩:=v1.fld;show(fI bJ c8 rfl #[by trivial,?_]);show eF (mo (by nofun)) ?_
  first
   | show(fI bJ c8 rfl #[by trivial,eF (mo (by nofun)) (q1 y ho fd _ v1 aS)])
   | show aW (fI bJ c8 rfl #[by trivial,eF (mo (by nofun)) (q1 y ho fd _ v1 aS)])
   | (left;show(fI bJ c8 rfl #[by trivial,eF (mo (by nofun)) (q1 y ho fd _ v1 aS)]))
inductive Res
 | found (k:Nat)(ns:List Str)
 | failed (k:Nat)(y:Str)
 | ring (ns:List Nat)
structure End where
 asked:List Nat
 res:Res
def  jq(N:Cn)(H:Hp)(fd:ϋ):Res->Prop
 | .found k ns=>∃ bu,H fd=!.ins N.CG bu (rq k ns)
 | .failed k y=>∃ bu,H fd=!.ins N.CF bu (DQ k y)
 | .ring ns=>∃ bu rl,H fd=!.ins N.CR bu (az "leads" (-rl) [])/\H rl=!.lst (nV ns)
def jq.same{N:Cn}{H H':Hp}{fd:ϋ}(s:aj H H'):∀ {r:Res},jq N H fd r->jq N H' fd r
 | .found _ _,⟨d,e⟩=>#[d,s _ _ e]
 | .failed _ _,⟨d,e⟩=>#[d,s _ _ e]
 | .ring _,⟨d,l,e,f⟩=>#[d,l,s _ _ e,s _ _ f]
def  E2(step:Nat):Tl->Res
 | .fail y=>.failed step y
 | .ring ns=>.ring ns
def tJ.r{N:Cn}{H0 H:Hp}{k:Nat}{fd:ϋ}:∀ {t:Tl},tJ N H0 H k fd t->jq N H fd (E2 k t)
 | .fail _,⟨_,d,e⟩=>#[d,e]
 | .ring _,⟨_,d,l,e,f⟩=>#[d,l,e,f]
structure xA(d:Wd)(fr:Bool)(h:Nat):Prop where
 z:aH (sD d.M.ro) (.inr d.z)=!.int (d.root:Int)
 ex:∃ (st b:Nat) (r:List Nat) (a:Ta) (t:Th),(fr=true/\st=d.root\/fr=false/\aH (sD d.M.st) (.inr d.z)=!.int (st:Int))/\d.L[st]?=!a/\d.M.ts[st]?=!t/\dH d.M st b r/\(∃ m,lE d.M d.L d.root m (dQ b r) true)/\h=dQ b r
inductive nv(d:Wd)(fr:Bool)(ps:List Str):End->Prop
 | told {h n S' t}:xA d fr h->ps.length<=2500->fN d n #[h,none,0,[],dN ps,[],0,0] S' (!t)->nv d fr ps #[S'.asked,E2 S'.step t]
 | found {h n S' ns c7}:xA d fr h->ps.length<=2500->fN d n #[h,none,0,[],dN ps,[],0,0] S' none->xg d.M d.L d.root S' ns c7->nv d fr ps #[S'.asked,.found S'.here (ns++c7)]
def  tU(N:Cn)(H H':Hp)(e:End)(x:ϋ):Prop:=aj H H'/\∃ dx gs fd av,H' x=!.ins N.CW dx gs/\gs.lookup ("told":Str)=!-fd/\jq N H' fd e.res/\gs.lookup ("asked":Str)=!-av/\H' av=!.lst (nV e.asked)
def tU.of{N:Cn}{H H1 H2:Hp}{e:End}{x:ϋ}(s:aj H H1)(h:tU N H1 H2 e x):tU N H H2 e x:=#[s.trans h.1,h.2]
def  aaO(N:Cn):Sp:=Nk fun h z fr lp last H Q _=>X6 fun A L M root ps e=>A5 (aF N.CH N.CS N.CT H A L M) (A.a=h) (H lp=!.lst (ps.map V.str)) (nv #[L,M,z,last,root] fr ps e) (∀ x H',tU N H H' e x->Q (-x) H')
def JU:T.lY.k P w base 12 (aaO T.cn):=by
 exists T.lY,Iz,Iu,fun hh z fr lp last h=>?_;let⟨AA,L,M,root,ps,e,i,rfl,pW,g,q⟩:=h;let⟨n6,bz,hb,jN,n,S',o,la,f1,f2⟩:∃ h,aH (sD M.ro) (.inr z)=!.int (root:Int)/\xA ⟨L,M,z,last,root⟩ fr h/\ps.length<=2500/\∃ n S' o,fN ⟨L,M,z,last,root⟩ n ⟨h,none,0,[],dN ps,[],0,0⟩ S' o/\(∀ y,o=!y->e=⟨S'.asked,E2 S'.step y⟩)/\(o=none->∃ ns c7,xg M L root S' ns c7/\e=⟨S'.asked,.found S'.here (ns++c7)⟩):=by
  cases g with
  | told b hp hr=>show#[_,b.z,b,hp,_,_,_,hr,fun y hy=>(by cases hy;rfl),fun z=>(by cases z)]
  | found b hp hr ht=>show#[_,b.z,b,hp,_,_,_,hr,fun y hy=>(by cases hy),fun _=>#[_,_,ht,rfl]]
 let⟨st,b,r,a,t,aX,ha,ht,vT,zZ,rfl⟩:=hb.ex;show bt (b:=aO Ez) ((al (aQ 5 Iz.nd (gl T.ac7 (Xz T) hr.m T.ads T.tu.b .nil ay (aa (ad 0) (aa (ad 1) (aa (ad 4) ae)))))
 (al (aP (bx T.aL T.vm.h (abK T) hr.m T.vm.b .nil ay (ad 5) (aa (ad 2) (aa (ad 3) ae))))
 (al (aP (tQ T.aL T.vC.h (abM T) hr.m T.vC.b .nil ay (ad 5)))
 (ao (aM (ad 5))))))) ?_
 exists 1;right;intro x dx hx mz ndx;have s1:=(aj.upd (o:=.own x) mz).trans (aj.upd (p:=x) (o:=.ins T.bC dx []) (by rw[ag (pp ndx)];show hx));have b1:upd (upd H dx (.own x)) x (.ins T.bC dx []) x=!.ins T.bC dx []:=aw;generalize upd (upd H dx (.own x)) x (.ins T.bC dx [])=H1 at s1 b1 ⊢;show#[AA,L,M,dx,H,root,i,rfl,b1,s1,hx,bz,fun av lf rd H2 v2=>?_];show#[rfl,ai ?_];left;let⟨jo,pV,cx,iH,cu⟩:=v2.fld;show(mI cx cu #[_,_,lf,st,b,ps,r,a,t,true,rfl,v2,v2.s _ _ pW,aX,ha,ht,vT,zZ,fun _ lf' H3 v3=>ai ?_,fun z=>by cases z]);left;let⟨iE,qb,dB,iu,dO⟩:=v3.fld;show(mI dB dO #[_,_,lf',n,S',o,rfl,v3,#[At _,by have:=Cy ps;dsimp only;omega,At _,At _],la,fun y hy fd H4 v4 aS=>?_,fun ho=>?_])
 ·let⟨sT,Pl,jM,pR,pI⟩:=v4.fld;have he:=f1 y hy;show q x H4 #[v4.s,dx,sT,fd,av,jM,(pI _).trans rfl,by rw[he];show aS.r,(pI _).trans rfl,by rw[he];show v4.oa]
 ·let⟨ns,c7,ht,he⟩:=f2 ho;show#[ns,c7,ht,fun fd bu H4 v4 f0 aS=>?_];let⟨sT,Pl,jM,pR,pI⟩:=v4.fld;show q x H4 #[v4.s,dx,sT,fd,av,jM,(pI _).trans rfl,by rw[he];show#[bu,aS],(pI _).trans rfl,by rw[he];show v4.oa]
structure eD(d:Wd)(t:List Nat)(e:End):Prop where
 l1:1<=t.length
 l2:t.length<=2000
 all:(Tx.words 47 t).all cZ=true
 g:nv d (ed t) (fT t) e
def eD.hz{d:Wd}{t:List Nat}{e:End}(p:eD d t e):(aH (sD d.M.ro) (.inr d.z)).isSome=true:=by
 cases p.g with
 | told b=>rw[b.z];rfl
 | found b=>rw[b.z];rfl
def  aal(N:Cn):Sp:=AE fun h z pt last H Q _=>X6 fun A L M root t e=>A5 (pt=Tx.S t) (aF N.CH N.CS N.CT H A L M) (A.a=h) (eD #[L,M,z,last,root] t e) (∀ x H',tU N H H' e x->Q (-x) H')
def ady:T.qr.k P w base 13 (aal T.cn):=by
 exists T.qr,NO,yY,fun hh z pt last h=>?_;let⟨AA,L,M,root,t,e,rfl,i,rfl,pg,q⟩:=h;let⟨kZ,hc,hh,sU,iy⟩:=i.h;show bt (b:=aO Ao) ((al (aP (cW T.aJ T.dD.h (jD T) hr.m T.dD.b .nil cO (ad 0) (aa (ad 1) ae)))
 (al (aQ 4 NO.nd (jI<$>T.cz (aa (ad 2) ae)))
 (ao (aM (JU<$>T.lY (aa (ad 0) (aa (ad 1) (aa (ce (bP (K:=K) rfl) (ad 4) bi) (aa (ce (bP (K:=K) rfl) (ad 4) bi) (aa (ad 3) ae))))))))))) ?_
 exists 1;right;show(mI hh iy (kS i pg.hz (ai ?_)));left;show#[t,rfl,pg.l1,pg.l2,pg.all,fun H1 l p s1 _ hl hp=>?_];simp only[bO,hp];left;rw[show cJ [V.bl (ed t),V.ref l] 0=some (V.bl (ed t)) from rfl,show cJ [V.bl (ed t),V.ref l] 1=some (V.ref l) from rfl];rw[OS]at hl;show#[AA,L,M,root,_,e,i.same s1,rfl,hl,pg.g,fun x H2 f=>q x H2 (f.of s1)]
def  S9(N:Cn):Sp:=AE fun h z pt last H Q _=>X6 fun A L M root t e=>A5 (pt=Tx.S t) (aF N.CH N.CS N.CT H A L M) (A.a=h) (eD #[L,M,z,last,root] t e) (∀ fd H',aj H H'->jq N H' fd e.res->Q (-fd) H')
def xw:aB P w K mg base aN 14 T.HH T.zy ["house","asker","path","last"] (S9 T.cn):=by
 show T.oX.ok S2 (fun vs H Q E h=>?_) (fun ah A _ s H vs Q E hr h=>?_)
 ·show yY h fun _ _ _ _ _=>rfl
 ·show yY h fun hh z pt last h=>?_;let⟨AA,L,M,root,t,e,rfl,i,rfl,pg,q⟩:=h;show bt (b:=aO ui) ((ao (aM (am T.aL T.mO (ady<$>T.qr (aa (ad 0) (aa (ad 1) (aa (ad 2) (aa (ad 3) ae))))))))) ?_;exists 0;left;show#[AA,L,M,root,t,e,rfl,i,rfl,pg,fun x H1 #[s1,dx,gs,fd,av,hx,FR,aS,xW,sv]=>?_];show#[x,_,_,_,rfl,hx,FR,q fd H1 s1 aS]
inductive Rf
 | bR (y:Str)
 | way (r:Res)
def  da(N:Cn)(H:Hp)(E:XK):Rf->Prop
 | .bR y=>∀ d H',aj H H'->H' d=!.xd [("reason",.str y)]->E (-N.CD) (!d) H'
 | .way r=>∀ fd d H',aj H H'->jq N H' fd r->H' d=!.xd [("told",-fd)]->E (-N.CN) (!d) H'
def da.of{N:Cn}{H H1:Hp}{E:XK}{r:Rf}(s:aj H H1)(h:da N H E r):da N H1 E r:=by
 cases r with
 | bR y=>show fun d H' s' e=>h d H' (s.trans s') e
 | way k=>show fun fd d H' s' e1 e2=>h fd d H' (s.trans s') e1 e2
def da.raise{N:Cn}{H H1:Hp}{E:XK}{y:Str}{d:ϋ}(h:da N H E (.bR y))(s:aj H H1)(hd:H1 d=none):E (-N.CD) (!d) (upd H1 d (.xd [("reason",.str y)])):=h d _ (s.trans (aj.upd hd)) aw
def jH:T.gF.k P w mg base 1 (nJ T.fk "reason"):=by
 show T.gF.F.ok Zl (fun vs H Q E h=>?_) (fun ah A _ s H vs Q E hr h=>?_)
 ·unfold nJ at h;split at h
  ·rfl
  ·show h.elim
 ·unfold nJ at h;split at h
  ·rename_i ea y;let⟨he,q⟩:=h;show#[_,((ao (Nz T.hV (ad 0) (ad 1)))).h,?_];exists 0;walk_at "rd";show#[ea,rfl,he,q]
  ·show h.elim
def Ye:T.vq.k P w mg base 1 (nJ T.fo "told"):=by
 show T.vq.F.ok VR (fun vs H Q E h=>?_) (fun ah A _ s H vs Q E hr h=>?_)
 ·unfold nJ at h;split at h
  ·rfl
  ·show h.elim
 ·unfold nJ at h;split at h
  ·rename_i ea y;let⟨he,q⟩:=h;show#[_,((ao (Nz T.AX (ad 0) (ad 1)))).h,?_];exists 0;walk_at "rd";show#[ea,rfl,he,q]
  ·show h.elim
def  Rx(N:Cn):Sp:=jy fun fd H Q E=>X1 fun r=>A3 (jq N H fd r) (∀ k ns,r=.found k ns->Q (.int (k:Int)) H) ((∀ k ns,r≠.found k ns)->da N H E (.way r))
def KJ:aB P w K mg base (bc P w) 3 T.lP.f T.lP.d ["told"] (Rx T.cn):=by
 show T.lP.F.cS YE (fun _ _ _ _ h=>ee h fun _ _=>rfl) fun ah A _ s H vs Q E hr h=>ee h fun fd h=>?_;let⟨r,aS,q1,q2⟩:=h;show bt (b:=aO D2) ((al (aY (dS (cN (df (wQ (K:=K) rfl) T.i8 iX (aa (ad 0) (aa (dL (-T.dX) T.xT rfl) ae))))) (ao (iY iQ rfl rfl T.MB T.AX T.Tj (Ye T) hr.m T.vq.b (aa (ad 0) ae))) bv)
 (ao (aM (am T.ig T.m9 (ad 0)))))) ?_
 exists 0;right;cases r with
 | found k ns =>
  let⟨bu,hf⟩:=aS;show#[_,_,_,.of (.ins hf T.ig T.q1 T.q2 T.q3 T.q4),.cls T.q5,aW #[fd,bu,_,_,rfl,hf,rfl,q1 k ns rfl]]
 | failed k y =>
  let⟨bu,hf⟩:=id aS;show#[_,_,_,.of (.ins hf T.mW T.q6 T.q2 T.q3 T.q7),.cls T.q8,bE #[_,rfl,fun d hd=>q2 (by nofun) fd d _ (aj.upd hd) (aS.same (aj.upd hd)) aw]]
 | ring ns =>
  let⟨bu,rl,hf,hl⟩:=id aS;show#[_,_,_,.of (.ins hf T.rB T.yy T.q2 T.q3 T.yV),.cls T.AD,bE #[_,rfl,fun d hd=>q2 (by nofun) fd d _ (aj.upd hd) (aS.same (aj.upd hd)) aw]]
def  XX(N:Cn):Sp:=rE fun h z pt H Q E=>X6 fun A L M root t e=>A6 (pt=Tx.S t) (aF N.CH N.CS N.CT H A L M) (A.a=h) (eD #[L,M,z,true,root] t e) (∀ k ns,e.res=.found k ns->∀ H',aj H H'->Q (.int (k:Int)) H') ((∀ k ns,e.res≠.found k ns)->da N H E (.way e.res))
def Mq:aB P w K mg base (bc P w) 15 T.l9.f T.l9.d ["house","asker","path"] (XX T.cn):=by
 show T.l9.F.cS RX (fun _ _ _ _ h=>kj h fun _ _ _ _=>rfl) fun ah A _ s H vs Q E hr h=>kj h fun hh z pt h=>?_;let⟨AA,L,M,root,t,e,rfl,i,rfl,pg,q1,q2⟩:=h;show bt (b:=aO CI) ((ao (aM (KJ<*>T.lP (aa (bn (xw T) hr.m T.zj T.oX.kp T.rL (.cons (show RelV (.bl true) _ from rfl) .nil) ay (aa (ad 0) (aa (ad 1) (aa (ad 2) ae)))) ae))))) ?_;exists 0;left;show#[AA,L,M,root,t,e,rfl,i,rfl,pg,fun fd H1 s1 aS=>?_];show#[e.res,aS,fun k ns he=>q1 k ns he H1 s1,fun hn=>(q2 hn).of s1]
def Oo:T.mj.k P w base 4 (jS T.aK T.aR T.bb Ad.a fun _ _ _ _ _ t H Q=>Q (.bl (decide (t.kd=("folder":Str)))) H):=by
 exists T.mj,acY,cy,fun x n h=>?_;let⟨AA,L,M,k,a,t,i,rfl,rfl,ha,aE,q⟩:=h;let⟨fs,c,hx,aU,sf⟩:=i.h;show#[_,((ao (aM (em gj (uM<*T.ij (ad 0) (aa (ad 1) ae)) (dL (.str "folder") T.uH #[_,rfl]))))).h,?_];exists 0;left;show(mI hx sf #[AA,L,M,k,a,t,i,rfl,rfl,ha,aE,q])
inductive ki(ps:List (List Nat)):Option (List (List Nat)×List Nat)->Prop
 | nil:ps=[]->ki ps none
 | tm {q nm}:ps=q++[nm]->isNm nm=false->nm.length<=8->ki ps none
 | Oh {q nm}:ps=q++[nm]->isNm nm=true->ki ps (!(q,nm))
structure fg(t:List Nat):Prop where
 l1:1<=t.length
 l2:t.length<=2000
 all:(Tx.words 47 t).all cZ=true
def  VE(N:Cn):Sp:=lB fun pt H Q E=>X2 fun t r=>A5 (pt=Tx.S t) (fg t) (ki (told (Tx.words 47 t) t) r) (∀ x,r=!x->∀ H',aj H H'->Q .au H') (r=none->da N H E (.bR "dots"))
def zo{w:List Nat}(h:isNm w=true):47 ∉ w/\w≠[]/\1<=w.length/\w.length<=8:=by
 have hp:cZ w=true:=by unfold cZ;rw[h];simp
 let⟨h1,h2,_⟩:=Oe h;show#[(qj hp).1,(qj hp).2.1,h1,h2]
def OL{w:List Nat}{b:Bool}(h:isNm w=b):fV (.str (Tx.S w))=b:=by
 change isNm (Tx.S w).cps.toList=b;rw[Tx.nQ];show h
def Dk{w:List Nat}(h:isNm w=true):fV (.str (Tx.S w))=true:=OL h
def adQ:aB P w K mg base (bc P w) 4 T.rA.f T.rA.d ["path"] (VE T.cn):=by
 show T.rA.F.cS Kl (fun _ _ _ _ h=>f6 h fun _ _=>rfl) fun ah A _ s H vs Q E hr h=>f6 h fun pt h=>?_;let⟨t,r,rfl,sp,hs,q1,q2⟩:=h;show bt (b:=aO Fx) ((al (aQ 1 Kl.nd (ce (bP (K:=K) rfl) (jI<$>T.cz (aa (ad 0) ae)) bi))
 (ao (aY (fM (ge (bw (Zc hr.nA) (ad 1) (cr ae)) (km (dS (cN (Dx<$>T.ji (aa (ce (bP (K:=K) rfl) (ad 1) (Dv.un oS bi)) ae))))))) (ao (iY iQ rfl rfl T.iU T.hV T.jr (jH T) hr.m T.gF.b (aa ap ae))) bv)))) ?_
 exists 1;right;show#[t,rfl,sp.l1,sp.l2,sp.all,fun H1 l p s1 _ hl hp=>?_];simp only[bO,hp];rw[show cJ [V.bl (ed t),V.ref l] 1=some (V.ref l) from rfl];show#[fits (),fun d hd=>?_];show eP hd fun H2 s2 b2=>?_;have dk:=s2 _ _ hl;cases hs with
 | nil e =>
  rw[e]at dk;show#[[],[],dk,b2,fb (ul rfl) #[_,rfl,fun d' hd'=>(q2 rfl).raise (s1.trans s2) hd']]
 | @tm qs nm e hn vX =>
  rw[e]at dk;have jW:H2 l=!.lst (PV qs++[V.str (Tx.S nm)]):=by rw[dk];simp[PV]
  show#[qs.map Tx.S++[Tx.S nm],[],by rw[jW];simp[PV],b2,?_];rw[mo ()];show aW ?_;simp only[jW,qy];show#[#[_,rfl],by change(Tx.S nm).length<=1000;rw[Tx.dE];omega,fun H3 s3=>?_];rw[OL hn];show bE #[_,rfl,fun d' hd'=>(q2 rfl).raise ((s1.trans s2).trans s3) hd']
 | @Oh qs nm e hn =>
  rw[e]at dk;let⟨h1,h2,h3,h4⟩:=zo hn;have jW:H2 l=!.lst (PV qs++[V.str (Tx.S nm)]):=by rw[dk];simp[PV]
  show#[qs.map Tx.S++[Tx.S nm],[],by rw[jW];simp[PV],b2,?_];rw[mo ()];show aW ?_;simp only[jW,qy];show#[#[_,rfl],by change(Tx.S nm).length<=1000;rw[Tx.dE];omega,fun H3 s3=>?_];rw[Dk hn];show aW (q1 _ rfl _ ((s1.trans s2).trans s3))
def rP{H H':Hp}{x:ϋ}(s:aj H H')(h:H' x=none):H x=none:=by
 cases e:H x with
 | none=>rfl
 | some o=>rw[s _ _ e]at h;cases h
abbrev xl(f:Nat)(nm:List Nat):List (Str×V):=az "name" (.str (Tx.S nm)) (az "folder" (.int (f:Int)) [])
inductive kD(d:Wd)(t:List Nat):Sum Rf (Nat×List Nat)->Prop
 | tm:ki (told (Tx.words 47 t) t) none->kD d t (.inl (.bR "dots"))
 | way {q nm e}:ki (told (Tx.words 47 t) t) (!(q,nm))->q.length<=900->nv d (ed t) (q.map Tx.S++[(".":Str)]) e->(∀ k ns,e.res≠.found k ns)->kD d t (.inl (.way e.res))
 | Nj {q nm e f ns}:ki (told (Tx.words 47 t) t) (!(q,nm))->q.length<=900->nv d (ed t) (q.map Tx.S++[(".":Str)]) e->e.res=.found f ns->kD d t (.inr (f,nm))
def  Rz(N:Cn):Sp:=rE fun h z pt H Q E=>X6 fun A L M root t r=>A7 (pt=Tx.S t) (fg t) (aF N.CH N.CS N.CT H A L M) (A.a=h) (kD #[L,M,z,true,root] t r) (∀ x,r=.inl x->da N H E x) (∀ f nm,r=.inr (f,nm)->∀ x dx H',H x=none->aj H H'->H' x=!.ins N.CE dx (xl f nm)->Q (-x) H')
def L7:aB P w K mg base (bc P w) 13 T.l7.f T.l7.d ["house","asker","path"] (Rz T.cn):=by
 show T.l7.F.cS Em (fun _ _ _ _ h=>kj h fun _ _ _ _=>rfl) fun ah A _ s H vs Q E hr h=>kj h fun hh z pt h=>?_;let⟨AA,L,M,root,t,r,rfl,sp,i,rfl,g,q1,q2⟩:=h;show bt (b:=aO AJ) ((al (aP (adQ<*>T.rA (aa (ad 2) ae)))
 (al (aQ 3 Em.nd (jI<$>T.cz (aa (ad 2) ae)))
 (al (aQ 4 Em.nd (JU<$>T.lY (aa (ad 0) (aa (ad 1) (aa (ce (bP (K:=K) rfl) (ad 3) bi) (aa (db gO (io (rK (K:=K) rfl) (ce (bP (K:=K) rfl) (ad 3) bi) vt (pA (Dv.un oS bi))) (cr (aa ap ae))) (aa f8 ae)))))))
 (ao (aM (gl T.aeb (SN T) hr.m T.S7 T.uq.b .nil ay (aa (KJ<*>T.lP (aa (am T.aL T.mO (ad 4)) ae)) (aa (ce (bP (K:=K) rfl) (ce (bP (K:=K) rfl) (ad 3) bi) (Dv.un oS bi)) ae))))))))) ?_
 exists 2;right;have hs:(r=.inl (.bR "dots")/\ki (told (Tx.words 47 t) t) none)\/∃ qs nm e,ki (told (Tx.words 47 t) t) (!(qs,nm))/\qs.length<=900/\nv #[L,M,z,true,root] (ed t) (qs.map Tx.S++[(".":Str)]) e/\((∀ k ns,e.res≠.found k ns)->r=.inl (.way e.res))/\∀ f ns,e.res=.found f ns->r=.inr (f,nm):=by
  cases g with
  | tm h=>show .inl #[rfl,h]
  | way h1 h2 h3 h4=>show .inr #[_,_,_,h1,h2,h3,fun _=>rfl,fun f ns e=>absurd e (h4 f ns)]
  | Nj h1 h2 h3 h4=>show .inr #[_,_,_,h1,h2,h3,fun k=>absurd h4 (k _ _),fun f ns e=>by rw[h4]at e;cases e;rfl]
 rcases hs with ⟨rfl,hs⟩ | ⟨qs,nm,e,hs,hq,g,r1,r2⟩
 ·show#[t,none,rfl,sp,hs,(fun x e=>by cases e),fun _=>q1 _ rfl]
 show#[t,_,rfl,sp,hs,fun x _ H1 s1=>ai ?_,fun e=>by cases e];have he:told (Tx.words 47 t) t=qs++[nm]:=by cases hs;assumption
 left;show#[t,rfl,sp.l1,sp.l2,sp.all,fun H2 l p s2 _ hl hp=>ai ?_];rw[he,show PV (qs++[nm])=PV qs++[V.str (Tx.S nm)] from by simp[PV]]at hl;left;simp only[bO,hp];rw[show cJ [V.bl (ed t),V.ref l] 1=some (V.ref l) from rfl,show cJ [V.bl (ed t),V.ref l] 0=some (V.bl (ed t)) from rfl]
 try dsimp only
 show#[_,aI.of hl,fun p1 tj=>?_];rw[TH];show#[fits (),fun p2 fj=>?_];have s3:=(aj.upd (o:=.lst (PV qs)) tj).trans (aj.upd (o:=.lst [V.str "."]) fj);have n12:p1≠p2:=bj (aw (o:=.lst (PV qs))) fj;have b3:upd (upd H2 p1 (.lst (PV qs))) p2 (.lst [V.str "."]) p1=!.lst (PV qs):=by rw[ag n12,aw]
 have b4:upd (upd H2 p1 (.lst (PV qs))) p2 (.lst [V.str "."]) p2=!.lst [V.str "."]:=aw;generalize upd (upd H2 p1 (.lst (PV qs))) p2 (.lst [V.str "."])=H3 at s3 b3 b4 ⊢;simp only[b3,b4];show#[fits (by simp;omega),fun p3 jP=>?_];have s4:=s3.trans (aj.upd (o:=.lst (PV qs++[V.str "."])) jP);have b5:upd H3 p3 (.lst (PV qs++[V.str "."])) p3=!.lst (PV qs++[V.str "."]):=aw;generalize upd H3 p3 (.lst (PV qs++[V.str "."]))=H4 at s4 b5 ⊢;show#[AA,L,M,root,qs.map Tx.S++[(".":Str)],e,i.same ((s1.trans s2).trans s4),rfl,by rw[b5];simp[PV],g,?_];rintro x H5 ⟨s5,dx,gs,fd,av,hx,FR,aS,xW,sv⟩;have mF:=((s1.trans s2).trans s4).trans s5;show#[x,_,_,_,rfl,hx,FR,_,aS,fun k ns hk=>?_,fun hk=>(q1 _ (r1 hk)).of mF]
 ·have pJ:=(s4.trans s5) _ _ hp;have iD:=(s4.trans s5) _ _ hl;simp only[pJ];rw[show cJ [V.bl (ed t),V.ref l] 1=some (V.ref l) from rfl];simp only[iD,qy]
  try dsimp only
  intro y dy hy hdy ndy;show#[dy,aw,rfl,?_];rw[ku];show q2 _ _ (r2 _ _ hk) y dy _ (rP mF hy) (mF.trans ((aj.upd (o:=.own y) hdy).trans (aj.upd (p:=y) (by rw[ag (pp ndy)];show hy)))) aw
def  Xn(N:Cn):Sp:=ON fun h z n r y H Q E=>X5 fun A L M t (k:Nat)=>A8 (n=(k:Int)) (aF N.CH N.CS N.CT H A L M) (A.a=h) ((aH (sD M.ro) (.inr z)).isSome=true) (j5 (.str r)=true) (M.ts[k]?=!t) (aV r (cf t z)=true->Q .au H) (aV r (cf t z)=false->da N H E (.bR y))
def xH:aB P w K mg base (bc P w) 4 T.gg.f T.gg.d ["house","asker","number","right","reason"] (Xn T.cn):=by
 show T.gg.F.cS aa6 (fun _ _ _ _ h=>Ox h fun _ _ _ _ _ _=>rfl) fun ah A _ s H vs Q E hr h=>Ox h fun hh z n r rs h=>?_;let⟨AA,L,M,t,k,rfl,i,rfl,hz,iq,ht,q1,q2⟩:=h;let⟨kX,gc,gh,mC,en⟩:=i.h;show bt (b:=aO Eg) ((ao (aY (dS (cN (cW T.aJ T.jE.h (ye T) hr.m T.jE.b .nil cg (ad 0) (aa (ad 1) (aa (ad 2) (aa (ad 3) ae)))))) (ao (iY iQ rfl rfl T.iU T.hV T.jr (jH T) hr.m T.gF.b (aa (ad 4) ae))) bv))) ?_;exists 0;left;show(mI gh en (yC i hz iq ht ?_));cases hm:aV r (cf t z) with
 | true=>show aW (q1 hm)
 | false=>show bE #[_,rfl,fun d hd=>(q2 hm).raise (fun _ _ e=>e) hd]
def  ad3(N:Cn):Sp:=u6 fun h z n H Q E=>X5 fun A L M t (k:Nat)=>A7 (n=(k:Int)) (aF N.CH N.CS N.CT H A L M) (A.a=h) ((aH (sD M.ro) (.inr z)).isSome=true) (M.ts[k]?=!t) (aV ("w":Str) (cf t z)=true->Q .au H) (aV ("w":Str) (cf t z)=false->da N H E (.bR "kept"))
def OH:aB P w K mg base (bc P w) 5 T.lV.f T.lV.d ["house","asker","folder"] (ad3 T.cn):=by
 show T.lV.F.cS abX (fun _ _ _ _ h=>kP h fun _ _ _ _=>rfl) fun ah A _ s H vs Q E hr h=>kP h fun hh z n h=>?_;let⟨AA,L,M,t,k,rfl,i,rfl,hz,ht,q1,q2⟩:=h;show bt (b:=aO BL) ((ao (aP (xH<*>T.gg (aa (ad 0) (aa (ad 1) (aa (ad 2) (aa ap (aa ap ae))))))))) ?_;exists 0;left;show#[AA,L,M,t,k,rfl,i,rfl,hz,by symm,ht,q1,q2]
def  acW(N:Cn):Sp:=qk fun h x H Q _=>X8 fun A L M a t dx nm (k:Nat)=>A7 (aF N.CH N.CS N.CT H A L M) (A.a=h) (H x=!.ins N.CE dx (xl k nm)) (isNm nm=true) (L[k]?=!a) (M.ts[k]?=!t) (∀ H',aj H H'->Q ((aH (sD t.aG) (.inr (Tx.S nm))).getD .au) H')
def J5:T.lS.k P w base 5 (acW T.cn):=by
 exists T.lS,WC,kG,fun hh x h=>?_;let⟨AA,L,M,a,t,dx,nm,k,i,rfl,hx,hn,ha,ht,q⟩:=h;let⟨kX,gc,gh,mC,en⟩:=i.h;let⟨h1,h2,h3,h4⟩:=zo hn;show bt (b:=aO Dh) ((ao (aM (OB<*T.og (ad 0) (aa (am T.jZ T.rN (ad 1)) (aa (am T.jZ T.y4 (ad 1)) ae)))))) ?_;exists 0;left;show(mI gh en #[x,_,_,_,rfl,hx,rfl,x,_,_,_,rfl,hx,rfl,AA,L,M,k,a,t,i,rfl,rfl,ha,ht,Dk hn,by rw[Tx.dE];omega,q])
def  Up(N:Cn):Sp:=qk fun h x H Q E=>X8 fun A L M a t dx nm (k:Nat)=>A8 (aF N.CH N.CS N.CT H A L M) (A.a=h) (H x=!.ins N.CE dx (xl k nm)) (isNm nm=true) (L[k]?=!a) (M.ts[k]?=!t) (aH (sD t.aG) (.inr (Tx.S nm))=none->∀ H',aj H H'->Q .au H') (∀ c:Int,aH (sD t.aG) (.inr (Tx.S nm))=!.int c->da N H E (.bR "there"))
def Fu{l:List (Str×Nat)}{z:Key}{v:V}(h:aH (sD l) z=!v):∃ c:Nat,v=.int (c:Int):=by
 unfold aH at h;let⟨kv,h1,rfl⟩:=SC.mp h;let⟨e,_,rfl⟩:=zn.mp (_H h1);show#[_,rfl]
def TK:aB P w K mg base (bc P w) 6 T.qC.f T.qC.d ["house","seat"] (Up T.cn):=by
 show T.qC.F.cS UD (fun _ _ _ _ h=>kG h fun _ _ _=>rfl) fun ah A _ s H vs Q E hr h=>kG h fun hh x h=>?_;let⟨AA,L,M,a,t,dx,nm,k,i,rfl,hx,hn,ha,ht,q1,q2⟩:=h;show bt (b:=aO C9) ((ao (aY (bw O6 (J5<$>T.lS (aa (ad 0) (aa (ad 1) ae))) au) (ao (iY iQ rfl rfl T.iU T.hV T.jr (jH T) hr.m T.gF.b (aa ap ae))) bv))) ?_;exists 0;left;show#[AA,L,M,a,t,dx,nm,k,i,rfl,hx,hn,ha,ht,fun H1 s1=>?_];cases hv:aH (sD t.aG) (.inr (Tx.S nm)) with
 | none=>show#[by trivial,aW (q1 hv H1 s1)]
 | some v =>
  let⟨c,rfl⟩:=Fu hv;show#[by trivial,bE #[_,rfl,fun d hd=>(q2 _ hv).raise s1 hd]]
inductive oZ(d:Wd)(t:List Nat):Sum Rf (Nat×List Nat)->Prop
 | no {x}:kD d t (.inl x)->oZ d t (.inl x)
 | kept {f nm tf}:kD d t (.inr (f,nm))->d.M.ts[f]?=!tf->aV ("w":Str) (cf tf d.z)=false->oZ d t (.inl (.bR "kept"))
 | there {f nm a tf c}:kD d t (.inr (f,nm))->isNm nm=true->d.L[f]?=!a->d.M.ts[f]?=!tf->aV ("w":Str) (cf tf d.z)=true->aH (sD tf.aG) (.inr (Tx.S nm))=!.int (c:Int)->oZ d t (.inl (.bR "there"))
 | free {f nm a tf}:kD d t (.inr (f,nm))->isNm nm=true->d.L[f]?=!a->d.M.ts[f]?=!tf->aV ("w":Str) (cf tf d.z)=true->aH (sD tf.aG) (.inr (Tx.S nm))=none->oZ d t (.inr (f,nm))
def  aey(N:Cn):Sp:=rE fun h z pt H Q E=>X6 fun A L M root t r=>A8 (pt=Tx.S t) (fg t) (aF N.CH N.CS N.CT H A L M) (A.a=h) ((aH (sD M.ro) (.inr z)).isSome=true) (oZ #[L,M,z,true,root] t r) (∀ x,r=.inl x->da N H E x) (∀ f nm,r=.inr (f,nm)->∀ x dx H',H x=none->aj H H'->H' x=!.ins N.CE dx (xl f nm)->Q (-x) H')
def DY:aB P w K mg base (bc P w) 14 T.iV.f T.iV.d ["house","asker","path"] (aey T.cn):=by
 show T.iV.F.cS J6 (fun _ _ _ _ h=>kj h fun _ _ _ _=>rfl) fun ah A _ s H vs Q E hr h=>kj h fun hh z pt h=>?_;let⟨AA,L,M,root,t,r,rfl,sp,i,rfl,Gr,g,q1,q2⟩:=h;show bt (b:=aO C8) ((al (aQ 3 J6.nd (L7<*>T.l7 (aa (ad 0) (aa (ad 1) (aa (ad 2) ae)))))
 (al (aP (OH<*>T.lV (aa (ad 0) (aa (ad 1) (aa (am T.jZ T.rN (ad 3)) ae)))))
 (al (aP (TK<*>T.qC (aa (ad 0) (aa (ad 3) ae))))
 (ao (aM (ad 3))))))) ?_
 exists 1;right;cases g with
 | no g=>show#[AA,L,M,root,t,_,rfl,sp,i,rfl,g,fun x e=>(by cases e;show q1 _ rfl),fun f nm e=>by cases e]
 | kept g pT hw =>
  show#[AA,L,M,root,t,_,rfl,sp,i,rfl,g,fun x e=>(by cases e),fun f nm e=>?_];cases e;intro x dx H1 fx s1 hx;right;show#[x,_,_,_,rfl,hx,rfl,AA,L,M,_,_,rfl,i.same s1,rfl,Gr,pT,fun e=>(by rw[hw]at e;cases e),fun _=>(q1 _ rfl).of s1]
 | there g hn G0 pT hw hv =>
  show#[AA,L,M,root,t,_,rfl,sp,i,rfl,g,fun x e=>(by cases e),fun f nm e=>?_];cases e;intro x dx H1 fx s1 hx;right;show#[x,_,_,_,rfl,hx,rfl,AA,L,M,_,_,rfl,i.same s1,rfl,Gr,pT,fun _=>ai ?_,fun e=>by rw[hw]at e;cases e];left;show#[AA,L,M,_,_,dx,_,_,i.same s1,rfl,hx,hn,G0,pT,fun e=>(by rw[hv]at e;cases e),fun _ _=>(q1 _ rfl).of s1]
 | free g hn G0 pT hw hv =>
  show#[AA,L,M,root,t,_,rfl,sp,i,rfl,g,fun x e=>(by cases e),fun f nm e=>?_];cases e;intro x dx H1 fx s1 hx;right;show#[x,_,_,_,rfl,hx,rfl,AA,L,M,_,_,rfl,i.same s1,rfl,Gr,pT,fun _=>ai ?_,fun e=>by rw[hw]at e;cases e];left;show#[AA,L,M,_,_,dx,_,_,i.same s1,rfl,hx,hn,G0,pT,fun _ H2 s2=>q2 _ _ rfl x dx H2 fx (s1.trans s2) (s2 _ _ hx),fun _ e=>by rw[hv]at e;cases e]
def  Vt:Sp:=lB fun z H Q _=>z.length<=60/\Q (.bl true) H
def  abJ:Sp:=lB fun z H Q _=>z.length<=60/\Q .au H
def Y3:T.rT.k P w base 1 Vt:=by
 exists T.rT,acg,f6,fun z h=>?_;let⟨hz,q⟩:=h;show#[_,((ao (aM (xk (df mQ T.i8 iX (aa (ad 0) (aa (ny (.ty "str") T.ph pC rfl) ae))) (Dv.one (em qS (df (nR (K:=K) rfl) T.lR T0 (aa (ad 0) ae)) (dL (.int 60) T.R6 #[_,rfl]))))))).h,?_];exists 0;left;show#[⋯,bE #[fits ∅,?_]];rw[ul (show(z.length:Int)<=60 by omega)];show q
def CP:T.je.k P w base 2 abJ:=by
 exists T.je,T9,f6,fun z h=>?_;let⟨hz,q⟩:=h;show#[_,((ao (aY (dS (cN (Y3<$>T.rT (aa (ad 0) ae)))) (ao nK) bv))).h,?_];exists 0;left;show#[hz,aW q]
def UX:T.vw.k P w mg base 4 (Xk T.aR T.bb):=by
 exists T.vw,US,Nv,fun x ow tx mi re h=>?_;let⟨dt,ml,rs,at',fG,q⟩:=h;let⟨fs,c,hx,aU,sf⟩:=at'.o;show#[_,((ao (aM (Ea*>T.mf (ad 0) (aa (dL (.str "file") T.Br #[_,rfl]) (aa (ad 1) (aa (ad 3) (aa (ad 4) (aa (ad 2) ae))))))))).h,?_];exists 0;left;show#[x,dt,fs,rfl,hx,(sf _).trans rfl,dt,ml,rs,at',fG,q]
def XC:T.tT.k P w mg base 3 (jS T.aK T.aR T.bb Ad.a acQ):=by
 exists T.tT,aaF,cy,fun x n h=>?_;let⟨AA,L,M,k,a,t,i,rfl,rfl,ha,aE,q⟩:=h;let⟨fs,c,hx,aU,sf⟩:=i.h;let⟨gs,c2,ht,cK,sg⟩:=i.t;have cA:=eG i ha aE;let⟨ks,ho,gZ,so⟩:=cA.o;show#[_,((ao (aM (am T.di T.A0 (gM<&>T.cR (am T.aJ T.eO (ad 0)) (aa (ad 1) ae)))))).h,?_];exists 0;left;show#[AA.a,_,_,-AA.t,rfl,hx,(sf _).trans rfl,AA.t,_,_,rfl,ht,(sg _).trans rfl,ic i ha aE (fI ho so rfl q)]
def  abA(CH CS CT:ϋ):Sp:=J7 fun x n m r H Q _=>X6 fun A L M (k:Nat) a t=>A6 (aF CH CS CT H A L M) (A.t=x) (n=(k:Int)) (L[k]?=!a) (M.ts[k]?=!t) (∀ H',aF CH CS CT H' A L { M with ts:=M.ts.set k { t with mi:=m,re:=r } }->Kp [A.t,a.th] H H'->Q .au H')
def aef:T.vd.k P w mg base 3 (abA T.aK T.aR T.bb):=by
 exists T.vd,Lr,K4,fun x n m r h=>?_;let⟨AA,L,M,k,a,t,i,rfl,rfl,ha,aE,q⟩:=h;let⟨fs,c,hx,aU,sf⟩:=i.h;let⟨gs,c2,ht,cK,sg⟩:=i.t;have cA:=eG i ha aE;let⟨ks,ho,gZ,so⟩:=cA.o;have off:=i.nz ha;have n1:AA.t≠a.th:=off _ (by simp[Ad.w]) _ (by simp[Ta.l]);have n2:AA.a≠a.th:=off _ (by simp[Ad.w]) _ (by simp[Ta.l]);have n3:=i.own ha;show#[_,((al (aQ 4 Lr.nd (gM<&>T.cR (ad 0) (aa (ad 1) ae)))
 (al (iT T.b8 T.qz iR (ad 0) bi)
 (al (bG T.di T.FJ (ad 4) (ad 2))
 (ao (bG T.di T.Fh (ad 4) (ad 3))))))).h,?_]
 exists 1;right;show(mI ht sg (ic i ha aE ?_));right;show#[AA.t,_,_,.int c2,rfl,ht,(sg _).trans rfl,_,_,rfl,rfl,_,_,ht,∅,ai ?_];left;show#[a.th,_,_,rfl,by rw[ag (pp n1)];show ho,∅,?_];left;show#[a.th,_,_,rfl,aw,by rw[eX (u:=.str t.mi) ((so _).trans rfl)];omega,?_];show q _ (i.write (t':={ t with mi:=m,re:=r }) ha #[fs,c,by rw[ag n2,ag n2,ag i.aT];show hx,aU,sf] #[_,c2+1,by rw[ag n1,ag n1,aw],by rw[eX (u:=.int c2) ((sg _).trans rfl)];show cK,fun f=>by rw[(sg.put "changes" (.int (c2+1))) f];rfl] #[#[_,aw,?_,fun f=>((so.put "mine" (.str m)).put "rest" (.str r) f).trans rfl],?_,?_] (fun b o hb e=>?_)) (fun b o hb e=>?_)
 ·rw[eX (u:=.str t.re) (by rw[eB,wP ⋯];show(so _).trans rfl),eX (u:=.str t.mi) ((so _).trans rfl)];show gZ
 ·rw[ag (pp n3.1),ag (pp n3.1),ag (pp (off _ (by simp[Ad.w]) _ (by simp[Ta.l])))];show cA.nm
 ·rw[ag (pp n3.2.1),ag (pp n3.2.1),ag (pp (off _ (by simp[Ad.w]) _ (by simp[Ta.l])))];show cA.pl
 ·simp only[jp,kt,ww,Re]at hb;rw[ag hb.2.2.1,ag hb.2.2.1,ag hb.2.1];show e
 ·simp only[jp,kt,ww,Re]at hb;rw[ag hb.2,ag hb.2,ag hb.1];show e
section
variable {CH CS CT:ϋ}{H H':Hp}{A:Ad}{L:List Ta}{M:Hs}
def aF.some(i:aF CH CS CT H A L M):∀ b∈A.w++L.flatMap Ta.l,∃ o,H b=.some o:=fun b hb=>by
 rcases Fr.mp hb with h | h
 ·simp only[Ad.w,jp,kt,ww]at h;rcases h with rfl | rfl | rfl | rfl | rfl | rfl | rfl | rfl
  ·let⟨_,_,e,_⟩:=i.h;show#[_,e]
  ·let⟨_,_,e,_⟩:=i.t;show#[_,e]
  ·show#[_,i.ml]
  ·show#[_,i.ro]
  ·show#[_,i.st]
  ·show#[_,i.tr]
  ·show#[_,i.ov]
  ·show#[_,i.un]
 ·let⟨a,ha,hb⟩:=List.mem_flatMap.mp h;let⟨k,hk⟩:=List.getElem?_of_mem ha;have bS:k < M.ts.length:=by rw[<- i.len];show(lm.mp hk).1
  let⟨a',e1,t⟩:=i.th k _ (sw bS);rw[hk]at e1;cases e1;simp only[Ta.l,jp,kt,ww]at hb;rcases hb with rfl | rfl | rfl
  ·let⟨_,e,_⟩:=t.o;show#[_,e]
  ·show#[_,t.nm]
  ·show#[_,t.pl]
def aF.add{th dG nm pl:ϋ}{ks:List (Str×V)}{kd ow mi re tx:Str}(i:aF CH CS CT H A L M)(f1:H th=none)(f2:H nm=none)(f3:H pl=none)(at':lH CS H' A.t A.dt A.ml ((L.map fun a=>V.ref a.th)++[-th]))(aE:H' th=Option.some (.ins CT dG ks))(kl:ks.length<=40)(sk:dg ks (vv (.int (L.length:Nat)) (.str kd) (.str ow) (.str mi) (.str re) (.str tx) (-nm) (-pl)))(cB:H' nm=Option.some (.dK []))(bD:H' pl=Option.some (.dT []))(kp:Kp [A.t,A.ml] H H') :
  aF CH CS CT H' A (L++[#[th,dG,nm,pl]]) { M with ts:=M.ts++[#[kd,ow,mi,re,tx,[],[]]] }:=by
 have nd:=i.nd;have sm:=i.some;have nw:∀ b∈A.w++L.flatMap Ta.l,b≠th/\b≠nm/\b≠pl:=fun b hb=>by
  let⟨o,e⟩:=sm b hb;show#[bj e f1,bj e f2,bj e f3]
 have h12:th≠nm:=cC aE cB (by nofun);have h13:th≠pl:=cC aE bD (by nofun);have h23:nm≠pl:=cC cB bD (by nofun);have n0:=nd;rw[Id]at n0;let⟨n1,n2,n3⟩:=n0;simp only[Ad.w,Ch,jp,kt,ww,Re]at n1;have kA:∀ b∈[A.a,A.ro,A.st,A.tr,A.ov,A.un],b ∉ [A.t,A.ml]:=by
  intro b hb hm;simp only[jp,kt,ww]at hb hm;rcases hb with rfl | rfl | rfl | rfl | rfl | rfl <;> rcases hm with h | h
  ·show n1.1.1 h
  ·show n1.1.2.1 h
  ·show n1.2.1.2.1 h.symm
  ·show n1.2.2.1.1 h.symm
  ·show n1.2.1.2.2.1 h.symm
  ·show n1.2.2.1.2.1 h.symm
  ·show n1.2.1.2.2.2.1 h.symm
  ·show n1.2.2.1.2.2.1 h.symm
  ·show n1.2.1.2.2.2.2.1 h.symm
  ·show n1.2.2.1.2.2.2.1 h.symm
  ·show n1.2.1.2.2.2.2.2 h.symm
  ·show n1.2.2.1.2.2.2.2 h.symm
 show#[?_,at'.o,?_,by simp[i.len],fun j t e=>?_,kp _ _ (kA _ ()) i.ro,kp _ _ (kA _ ()) i.st,kp _ _ (kA _ ()) i.tr,kp _ _ (kA _ ()) i.ov,kp _ _ (kA _ ()) i.un,?_]
 ·let⟨fs,c,e,r⟩:=i.h;show#[fs,c,kp _ _ (kA _ ()) e,r]
 ·rw[at'.ml];simp
 ·have e':(M.ts++[(#[kd,ow,mi,re,tx,[],[]]:Th)])[j]?=.some t:=e;by_cases hj:j < M.ts.length
  ·rw[Gc hj]at e';let⟨a,e1,h1⟩:=i.th j t e';show#[a,by rw[Gc (by rw[i.len];show hj)];show e1,h1.keep kp fun b hb hm=>?_];have gI:=fU e1 hb;simp only[jp,kt,ww]at hm;rcases hm with rfl | rfl
   ·show n3 _ (by simp[Ad.w]) _ gI rfl
   ·show n3 _ (by simp[Ad.w]) _ gI rfl
  ·rw[FS ∅]at e';have hj0:j - M.ts.length=0:=by
    rcases Nat.eq_zero_or_pos (j - M.ts.length) with h | h
    ·show h
    ·rw[_4 (by simp;omega)]at e';cases e'
   rw[hj0]at e';cases e';have GV:j=L.length:=by rw[i.len];omega
   subst GV;show#[_,by rw[FS (pi _),Nat.sub_self];rfl,#[#[ks,aE,kl,sk],cB,bD]]
 ·rw[List.flatMap_append,<- _X,Id];show#[nd,?_,fun b hb c hc e=>?_]
  ·simp only[Uf,List.flatMap_nil,_u,Ta.l,Ch,jp,kt,ww,Re,not_false_eq_true,Jah,and_true];show#[#[h12,h13],h23]
  ·let⟨q1,q2,q3⟩:=nw b hb;simp only[Uf,List.flatMap_nil,_u,Ta.l,jp,kt,ww]at hc;rcases hc with h | h | h
   ·show q1 (e.trans h)
   ·show q2 (e.trans h)
   ·show q3 (e.trans h)
end
def  JW(CH CS CT CE:ϋ):Sp:=LL fun h x n H Q _=>LF fun A L M (f:Nat) (k:Nat) af tf ak tk dx nm=>Du (aF CH CS CT H A L M) (A.a=h) (H x=!.ins CE dx (az "name" (.str nm) (az "folder" (.int (f:Int)) []))) (n=(k:Int)) (L[f]?=!af) (M.ts[f]?=!tf) (L[k]?=!ak) (M.ts[k]?=!tk) (f≠k) (aH (sD tf.aG) (.inr nm)=none) (tf.aG.length<=500) (tk.bK=[]) (∀ H',aF CH CS CT H' A L { M with ts:=(M.ts.set f { tf with aG:=tf.aG++[(nm,k)] }).set k { tk with bK:=[(f,nm)] } }->Kp [A.t,af.nm,ak.pl] H H'->Q (.int (k:Int)) H')
def BC:T.i9.k P w base 6 (JW T.aK T.aR T.bb T.mD):=by
 exists T.i9,Uc,Kc,fun hh x n h=>?_;let⟨AA,L,M,f,k,af,tf,ak,tk,dx,nm,i,rfl,hx,rfl,eI,bo,gT,fq,cL,hv,hl,bD,q⟩:=h;let⟨kX,gc,gh,mC,en⟩:=i.h;let⟨gs,c2,ht,cK,sg⟩:=i.t;show bt (b:=aO Cd) ((al (aP (Uh*>T.vf (am T.aJ T.eO (ad 0)) (aa (am T.jZ T.rN (ad 1)) (aa (am T.jZ T.y4 (ad 1)) (aa (ad 2) ae)))))
 (ao (aM (ad 2))))) ?_
 exists 0;right;show(fI gh en rfl (mI ht sg #[x,_,_,_,rfl,hx,rfl,x,_,_,_,rfl,hx,rfl,AA,L,M,f,k,af,tf,ak,tk,i,rfl,rfl,rfl,eI,bo,gT,fq,cL,hv,hl,bD,q]))
def  uJ(CH CS CT:ϋ)(A:Ad)(L:List Ta)(M:Hs)(f:Nat)(t0:Th)(a0:Ta)(nm kd ow mi re tx:Str)(H:Hp)(Q:VK):Prop :=
 ∀ a H',(∀ b∈a.l,H b=none)->aF CH CS CT H' A (L++[a]) { M with ts:=M.ts.set f { t0 with aG:=t0.aG++[(nm,M.ts.length)] }++[#[kd,ow,mi,re,tx,[],[(f,nm)]]] }->Kp [A.t,A.ml,a0.nm] H H'->Q (.int (M.ts.length:Nat)) H'
def IS{α:Type}{y b:α}:∀ r:List α,(r++[y]).set r.length b=r++[b]
 | []=>rfl
 | c::r=>by simp only[List.cons_append,Fa,List.set_cons_succ];rw[IS r]
def U7{α:Type}:∀ {xs:List α}{f:Nat}{y a b:α},f < xs.length->((xs++[y]).set f a).set xs.length b=xs.set f a++[b]:=fun {xs f y a b} h=>by
 rw[List.set_append_left _ _ h];have:=IS (y:=y) (b:=b) (xs.set f a)
 rwa [Ja4]at this
def EW{CH CS CT CE:ϋ}{H:Hp}{A:Ad}{L:List Ta}{M:Hs}{f:Nat}{z nm kd mi re tx:Str}{a0:Ta}{t0:Th}{x dx:ϋ}{Q:VK}{E:XK}(i:aF CH CS CT H A L M)(jn:L[f]?=!a0)(hJ:M.ts[f]?=!t0)(hx:H x=!.ins CE dx (az "name" (.str nm) (az "folder" (.int (f:Int)) [])))(hv:aH (sD t0.aG) (.inr nm)=none)(hl:t0.aG.length<=400)(nx1:x≠A.t)(mp:uJ CH CS CT A L M f t0 a0 nm kd z mi re tx H Q):vD CS CT A.t A.dt A.ml (L.map fun a=>V.ref a.th) (.str kd) (.str z) (.str mi) (.str re) (.str tx) H (fun v H'=>JW CH CS CT CE [-A.a,-x,v] H' Q E):=by
 intro th dG nm' pl ks H' f1 f2 f3 at' aE kl sk cB bD kp;have nx2:x≠A.ml:=cC hx i.ml (by nofun);have hlen:(L.map fun a=>V.ref a.th).length=L.length:=lv _;rw[hlen]at sk ⊢;have i2:=i.add f1 f2 f3 at' aE kl sk cB bD kp;have h0:f < M.ts.length:=(lm.mp hJ).1;have Ia:=i.len;have e0:(M.ts++[(#[kd,z,mi,re,tx,[],[]]:Th)])[f]?=!t0:=by rw[Gc h0];show hJ
 have ek:(M.ts++[(#[kd,z,mi,re,tx,[],[]]:Th)])[L.length]?=!#[kd,z,mi,re,tx,[],[]]:=by rw[Ia,FS (pi _),Nat.sub_self];rfl
 show#[A,L++[#[th,dG,nm',pl]],_,f,L.length,a0,t0,#[th,dG,nm',pl],#[kd,z,mi,re,tx,[],[]],dx,nm,i2,rfl,kp _ _ (by simp[nx1,nx2]) hx,rfl,by rw[Gc ∅];show jn,e0,by rw[FS (pi _),Nat.sub_self];rfl,ek,∅,hv,∅,rfl,fun H2 i3 k3=>?_];have:=mp #[th,dG,nm',pl] H2 (fun b hb=>by simp only[Ta.l,jp,kt,ww]at hb;rcases hb with rfl | rfl | rfl <;> assumption) (by
  have e:=i3;dsimp only at e;rw[Ia]at e;rw[U7 h0]at e;show e) (fun b o hb e=>?_)
 ·rw[Ia];show this
 ·simp only[jp,kt,ww,Re]at hb;have nbp:b≠pl:=bj e f3;show k3 _ _ (by simp[hb.1,hb.2.2,nbp]) (kp _ _ (by simp[hb.1,hb.2.1]) e)
def BR{CH CS CT:ϋ}{H:Hp}{A:Ad}{L:List Ta}{M:Hs}(i:aF CH CS CT H A L M):lH CS H A.t A.dt A.ml (L.map fun a=>V.ref a.th):=#[i.t,i.ml]
def uJ.of{CH CS CT:ϋ}{H H1:Hp}{A:Ad}{L:List Ta}{M:Hs}{f:Nat}{t0:Th}{a0:Ta}{nm kd ow mi re tx:Str}{Q:VK}(s:aj H H1)(m:uJ CH CS CT A L M f t0 a0 nm kd ow mi re tx H Q):uJ CH CS CT A L M f t0 a0 nm kd ow mi re tx H1 Q:=fun a H' fr i k=>m a H' (fun b hb=>rP s (fr b hb)) i ((Kp.of s).trans k)
def  Ww(K:ν):Sp:=lB fun pt H Q _=>X1 fun t=>A4 (pt=Tx.S t) (fg t) (t.length<=120) (∀ H',aj H H'->Q .au H')
def Vy:T.rF.k P w base 4 (Ww K):=by
 exists T.rF,XO,f6,fun pt h=>?_;let⟨t,rfl,pt,hl,q⟩:=h;show bt (b:=aO AV) ((al (aP (jI<$>T.cz (aa (ad 0) ae)))
 (ao (aY (bw DM (df (nR (K:=K) rfl) T.lR T0 (aa (ad 0) ae)) (dL (.int 120) T.aeK #[_,rfl])) (ao nK) bv)))) ?_
 exists 0;right;show#[t,rfl,pt.l1,pt.l2,pt.all,fun H1 l p s1 _ _ _=>?_];left;show#[by rw[Tx.dE];show fits ∅,?_];rw[Tx.dE,mo (show ¬ (t.length:Int) > 120 by omega)];show aW (q _ s1)
def VX:T.uB.k P w mg base 4 (SA T.aR T.bb):=by
 exists T.uB,Vn,kx,fun x ow tx h=>?_;let⟨dt,ml,rs,at',fG,q⟩:=h;let⟨fs,c,hx,aU,sf⟩:=at'.o;show#[_,((ao (aM (Ea*>T.mf (ad 0) (aa (dL (.str "lead") T.V2 #[_,rfl]) (aa (ad 1) (aa ap (aa ap (aa (ad 2) ae))))))))).h,?_];exists 0;left;show#[x,dt,fs,rfl,hx,(sf _).trans rfl,dt,ml,rs,at',fG,q]
structure zr(N:Cn)(H:Hp)(A:Ad)(L:List Ta)(M:Hs)(z:Str)(t:List Nat)(kd mi re tx:Str)(Q:VK)(E:XK):Prop where
 i:aF N.CH N.CS N.CT H A L M
 p:fg t
 hz:(aH (sD M.ro) (.inr z)).isSome=true
 oR:mi∈gQ
 kT:re∈gQ
 hL:L.length<=400
 hl:∀ (f:Nat) t0,M.ts[f]?=!t0->t0.aG.length<=400
 r:∃ root r,oZ #[L,M,z,true,root] t r/\(∀ x,r=.inl x->da N H E x)/\∀ f nm a0 t0,r=.inr (f,nm)->L[f]?=!a0->M.ts[f]?=!t0->uJ N.CH N.CS N.CT A L M f t0 a0 (Tx.S nm) kd z mi re tx H Q
def  IF(N:Cn):Sp:=AY fun h z pt mi re H Q E=>X4 fun A L M t=>A3 (pt=Tx.S t) (zr N H A L M z t "folder" mi re "" Q E) (A.a=h)
def  LR(N:Cn):Sp:=Jv fun h z pt tx mi re H Q E=>X4 fun A L M t=>A4 (pt=Tx.S t) (zr N H A L M z t "file" mi re tx Q E) (A.a=h) (tx.length<=60)
def Xv:aB P w K mg base (bc P w) 15 T.HE T.wt ["house","asker","path","mine","rest"] (IF T.cn):=by
 show T.xG.cS KS (fun vs H Q E h=>?_) (fun ah A _ s H vs Q E hr h=>?_)
 ·show w8 h fun _ _ _ _ _ _=>rfl
 ·show w8 h fun hh z pt mi re h=>?_;let⟨AA,L,M,t,rfl,pr,rfl⟩:=h;let⟨kX,gc,gh,mC,en⟩:=pr.i.h;let⟨root,r,iq,q1,q2⟩:=pr.r;show bt (b:=aO rJ) ((al (aP (cW T.aJ T.dD.h (jD T) hr.m T.dD.b .nil cg (ad 0) (aa (ad 1) ae)))
  (al (aP (jI<$>T.cz (aa (ad 2) ae)))
  (al (aP (pq<$>T.dJ (aa (ad 3) ae)))
  (al (aP (pq<$>T.dJ (aa (ad 4) ae)))
  (al (aQ 5 KS.nd (DY<*>T.iV (aa (ad 0) (aa (ad 1) (aa (ad 2) ae)))))
  (ao (aM (BC<$>T.i9 (aa (ad 0) (aa (ad 5) (aa (IT*>T.oJ (am T.aJ T.eO (ad 0)) (aa (ad 1) (aa (ad 3) (aa (ad 4) ae)))) ae)))))))))))) ?_
  exists 1;right;show(mI gh en (kS pr.i pr.hz (ai ?_)));left;show#[t,rfl,pr.p.l1,pr.p.l2,pr.p.all,fun H1 l p s1 _ hl hp=>ai ?_];left;show#[pr.oR,ai ?_];left;show#[pr.kT,ai ?_];left;show#[AA,L,M,root,t,r,rfl,pr.p,pr.i.same s1,rfl,pr.hz,iq,fun x e=>(q1 x e).of s1,fun f nm e x dx H2 fx s2 hx=>?_];left;have i2:=pr.i.same (s1.trans s2);let⟨z8,zD,lh,GN,kY⟩:=i2.h;let⟨gs,c2,ht,cK,sg⟩:=i2.t;let⟨_,_,gH,_⟩:=(pr.i.same s1).t;subst e;cases iq with
  | free g hn jn hJ hw hv =>
   show(fI lh kY rfl (mI ht sg #[AA.dt,AA.ml,_,BR i2,by rw[lv];have:=pr.hL;omega,EW i2 jn hJ hx hv (pr.hl _ _ hJ) (pp (bj gH fx)) ((q2 _ _ _ _ rfl jn hJ).of (s1.trans s2))]))
def XW:aB P w K mg base (bc P w) 15 T.Gu T.wm ["house","asker","path","text","mine","rest"] (LR T.cn):=by
 show T.xy.cS K0 (fun vs H Q E h=>?_) (fun ah A _ s H vs Q E hr h=>?_)
 ·show OG h fun _ _ _ _ _ _ _=>rfl
 ·show OG h fun hh z pt tx mi re h=>?_;let⟨AA,L,M,t,rfl,pr,rfl,lb⟩:=h;let⟨kX,gc,gh,mC,en⟩:=pr.i.h;let⟨root,r,iq,q1,q2⟩:=pr.r;show bt (b:=aO qp) ((al (aP (cW T.aJ T.dD.h (jD T) hr.m T.dD.b .nil cg (ad 0) (aa (ad 1) ae)))
  (al (aP (jI<$>T.cz (aa (ad 2) ae)))
  (al (aP (pq<$>T.dJ (aa (ad 4) ae)))
  (al (aP (pq<$>T.dJ (aa (ad 5) ae)))
  (al (aP (CP<$>T.je (aa (ad 3) ae)))
  (al (aQ 6 K0.nd (DY<*>T.iV (aa (ad 0) (aa (ad 1) (aa (ad 2) ae)))))
  (ao (aM (BC<$>T.i9 (aa (ad 0) (aa (ad 6) (aa (UX*>T.vw (am T.aJ T.eO (ad 0)) (aa (ad 1) (aa (ad 3) (aa (ad 4) (aa (ad 5) ae))))) ae))))))))))))) ?_
  exists 1;right;show(mI gh en (kS pr.i pr.hz (ai ?_)));left;show#[t,rfl,pr.p.l1,pr.p.l2,pr.p.all,fun H1 l p s1 _ hl hp=>ai ?_];left;show#[pr.oR,ai ?_];left;show#[pr.kT,ai ?_];left;show#[lb,ai ?_];left;show#[AA,L,M,root,t,r,rfl,pr.p,pr.i.same s1,rfl,pr.hz,iq,fun x e=>(q1 x e).of s1,fun f nm e x dx H2 fx s2 hx=>?_];left;have i2:=pr.i.same (s1.trans s2);let⟨z8,zD,lh,GN,kY⟩:=i2.h;let⟨gs,c2,ht,cK,sg⟩:=i2.t;let⟨_,_,gH,_⟩:=(pr.i.same s1).t;subst e;cases iq with
  | free g hn jn hJ hw hv =>
   show(fI lh kY rfl (mI ht sg #[AA.dt,AA.ml,_,BR i2,by rw[lv];have:=pr.hL;omega,EW i2 jn hJ hx hv (pr.hl _ _ hJ) (pp (bj gH fx)) ((q2 _ _ _ _ rfl jn hJ).of (s1.trans s2))]))
def  Ni(N:Cn):Sp:=D6 fun h z pt tx H Q E=>X5 fun A L M t tl=>A6 (pt=Tx.S t) (tx=Tx.S tl) (zr N H A L M z t "lead" "" "" tx Q E) (A.a=h) (fg tl) (tl.length<=120)
def ZD:aB P w K mg base (bc P w) 15 T.qK.f T.qK.d ["house","asker","path","lead"] (Ni T.cn):=by
 show T.qK.F.cS O3 (fun _ _ _ _ h=>yT h fun _ _ _ _ _=>rfl) fun ah A _ s H vs Q E hr h=>yT h fun hh z pt tx h=>?_;let⟨AA,L,M,t,tl,rfl,rfl,pr,rfl,zS,hl120⟩:=h;let⟨kX,gc,gh,mC,en⟩:=pr.i.h;let⟨root,r,iq,q1,q2⟩:=pr.r;show bt (b:=aO ET) ((al (aP (cW T.aJ T.dD.h (jD T) hr.m T.dD.b .nil cg (ad 0) (aa (ad 1) ae)))
 (al (aP (jI<$>T.cz (aa (ad 2) ae)))
 (al (aP (Vy<$>T.rF (aa (ad 3) ae)))
 (al (aQ 4 O3.nd (DY<*>T.iV (aa (ad 0) (aa (ad 1) (aa (ad 2) ae)))))
 (ao (aM (BC<$>T.i9 (aa (ad 0) (aa (ad 4) (aa (VX*>T.uB (am T.aJ T.eO (ad 0)) (aa (ad 1) (aa (ad 3) ae))) ae))))))))))) ?_
 exists 1;right;show(mI gh en (kS pr.i pr.hz (ai ?_)));left;show#[t,rfl,pr.p.l1,pr.p.l2,pr.p.all,fun H1 l p s1 _ hl hp=>ai ?_];left;show#[tl,rfl,zS,hl120,fun H1' s1'=>ai ?_]
 replace s1:=s1.trans s1'
 clear hl hp;generalize H1'=H1 at s1 ⊢;left;show#[AA,L,M,root,t,r,rfl,pr.p,pr.i.same s1,rfl,pr.hz,iq,fun x e=>(q1 x e).of s1,fun f nm e x dx H2 fx s2 hx=>?_];left;have i2:=pr.i.same (s1.trans s2);let⟨z8,zD,lh,GN,kY⟩:=i2.h;let⟨gs,c2,ht,cK,sg⟩:=i2.t;let⟨_,_,gH,_⟩:=(pr.i.same s1).t;subst e;cases iq with
 | free g hn jn hJ hw hv =>
  show(fI lh kY rfl (mI ht sg #[AA.dt,AA.ml,_,BR i2,by rw[lv];have:=pr.hL;omega,EW i2 jn hJ hx hv (pr.hl _ _ hJ) (pp (bj gH fx)) ((q2 _ _ _ _ rfl jn hJ).of (s1.trans s2))]))
inductive Bm(d:Wd)(t:List Nat):Sum Rf Nat->Prop
 | way {e}:eD d t e->(∀ k ns,e.res≠.found k ns)->Bm d t (.inl (.way e.res))
 | file {e k ns a th}:eD d t e->e.res=.found k ns->d.L[k]?=!a->d.M.ts[k]?=!th->th.kd≠("folder":Str)->Bm d t (.inl (.bR "file"))
 | ok {e k ns a th}:eD d t e->e.res=.found k ns->d.L[k]?=!a->d.M.ts[k]?=!th->th.kd=("folder":Str)->Bm d t (.inr k)
inductive uY(d:Wd)(t:List Nat):Sum Rf Nat->Prop
 | way {e}:eD d t e->(∀ k ns,e.res≠.found k ns)->uY d t (.inl (.way e.res))
 | JN {e k ns a th}:eD d t e->e.res=.found k ns->d.L[k]?=!a->d.M.ts[k]?=!th->th.ow≠d.z->uY d t (.inl (.bR "mine"))
 | ok {e k ns a th}:eD d t e->e.res=.found k ns->d.L[k]?=!a->d.M.ts[k]?=!th->th.ow=d.z->uY d t (.inr k)
def  IH(N:Cn):Sp:=AY fun h z pt m r H Q E=>X6 fun A L M root t x=>A8 (pt=Tx.S t) (aF N.CH N.CS N.CT H A L M) (A.a=h) (uY #[L,M,z,true,root] t x) (m∈gQ) (r∈gQ) (∀ y,x=.inl y->da N H E y) (∀ k a th,x=.inr k->L[k]?=!a->M.ts[k]?=!th ->
   ∀ H',aF N.CH N.CS N.CT H' A L { M with ts:=M.ts.set k { th with mi:=m,re:=r } }->Kp [A.t,a.th] H H'->Q .au H')
def abc:aB P w K mg base (bc P w) 16 T.qh.f T.qh.d ["house","asker","path","mine","rest"] (IH T.cn):=by
 show T.qh.F.cS Nt (fun _ _ _ _ h=>w8 h fun _ _ _ _ _ _=>rfl) fun ah A _ s H vs Q E hr h=>w8 h fun hh z pt m r h=>?_;let⟨AA,L,M,root,tt,x,rfl,i,rfl,hx,hm,hr',q1,q2⟩:=h;let⟨e,pa,g1,g2⟩:∃ e,eD ⟨L,M,z,true,root⟩ tt e/\((∀ k ns,e.res≠.found k ns)->x=.inl (.way e.res))/\∀ k ns,e.res=.found k ns->∃ a th,L[k]?=!a/\M.ts[k]?=!th/\(th.ow=z->x=.inr k)/\(th.ow≠z->x=.inl (.bR "mine")):=by
  cases hx with
  | way h1 h2=>show#[_,h1,fun _=>rfl,fun k ns e=>absurd e (h2 k ns)]
  | JN h1 h2 h3 h4 h5=>show#[_,h1,fun k=>absurd h2 (k _ _),fun k ns e=>by rw[h2]at e;cases e;show#[_,_,h3,h4,fun z=>absurd z h5,fun _=>rfl]]
  | ok h1 h2 h3 h4 h5=>show#[_,h1,fun k=>absurd h2 (k _ _),fun k ns e=>by rw[h2]at e;cases e;show#[_,_,h3,h4,fun _=>rfl,fun z=>absurd h5 z]]
 let⟨kX,gc,gh,mC,en⟩:=i.h;show bt (b:=aO AO) ((al (aP (cW T.aJ T.dD.h (jD T) hr.m T.dD.b .nil cg (ad 0) (aa (ad 1) ae)))
 (al (aP (jI<$>T.cz (aa (ad 2) ae)))
 (al (aP (pq<$>T.dJ (aa (ad 3) ae)))
 (al (aP (pq<$>T.dJ (aa (ad 4) ae)))
 (al (aQ 5 Nt.nd (Mq<*>T.l9 (aa (ad 0) (aa (ad 1) (aa (ad 2) ae)))))
 (al (aY (bw mq (XC<*T.tT (ad 0) (aa (ad 5) ae)) (ad 1)) (ao (iY iQ rfl rfl T.iU T.hV T.jr (jH T) hr.m T.gF.b (aa ap ae))) bv)
 (ao (aP (aef*>T.vd (am T.aJ T.eO (ad 0)) (aa (ad 5) (aa (ad 3) (aa (ad 4) ae))))))))))))) ?_
 exists 1;right;show(mI gh en (kS i pa.hz (ai ?_)));left;show#[tt,rfl,pa.l1,pa.l2,pa.all,fun H1 l p s1 _ hl hp=>ai ?_];left;show#[hm,ai ?_];left;show#[hr',ai ?_];left;show#[AA,L,M,root,tt,e,rfl,i.same s1,rfl,pa,fun k ns he H2 s2=>ai ?_,fun hn=>(q1 _ (g1 hn)).of s1]
 ·left;have i2:=i.same (s1.trans s2);let⟨z8,zD,lh,GN,kY⟩:=i2.h;let⟨gs,c2,pX,cK,sg⟩:=i2.t;let⟨a,t,ha,ht,g3,g4⟩:=g2 k ns he;show(mI lh kY #[AA,L,M,k,a,t,i2,rfl,rfl,ha,ht,?_]);change(if (Bool.not (decide (t.ow=z)))=true then _ else _);by_cases how:t.ow=z
  ·rw[ul how];show aW (fI lh kY rfl (mI pX sg #[AA,L,M,k,a,t,i2,rfl,rfl,ha,ht,fun H3 i3 k3=>q2 k a t (g3 how) ha ht H3 i3 ((Kp.of (s1.trans s2)).trans k3)]))
  ·rw[mo how];show bE #[_,rfl,fun d hd=>(q1 _ (g4 how)).raise (s1.trans s2) hd]
def  AS:List Str:=["own","guest"]
inductive gf(M:Hs)(r:Nat):Nat->Prop
 | refl:gf M r r
 | up {k f nm t}:M.ts[k]?=!t->t.bK=[(f,nm)]->gf M r f->gf M r k
structure qW(M:Hs)(k:Nat)(t:Th):Prop where
 nl:t.aG.length<=M.ts.length
 kd:t.kd=("folder":Str)\/t.kd=("file":Str)\/t.kd=("lead":Str)
 ld:t.kd=("lead":Str)->∃ tl,t.tx=Tx.S tl/\fg tl/\tl.length<=120
 pl:t.bK=[]\/∃ (f:Nat) (nm:Str) (tf:Th),f < k/\t.bK=[(f,nm)]/\nm.length<=8/\M.ts[f]?=!tf/\tf.kd=("folder":Str)
 ch:∀ z v,aH (sD t.aG) (.inr z)=!v->∃ (c:Nat) (tc:Th),v=.int (c:Int)/\M.ts[c]?=!tc/\tc.bK=[(k,z)]
structure VY(M:Hs)(z:Str)(r k:Nat):Prop where
 ro:aH (sD M.ro) (.inr z)=!.int (r:Int)
 st:aH (sD M.st) (.inr z)=!.int (k:Int)
 b:gf M r k
 tr:∃ t,M.ts[r]?=!t/\t.kd=("folder":Str)
 tk:∃ t,M.ts[k]?=!t/\t.kd=("folder":Str)
 rk:k=r
structure Gd(M:Hs):Prop where
 tr:M.tr=[(("main":Str),0)]
 ov:M.ov=[]
 un:M.un=[]
 as:∀ z∈AS,∃ r k,VY M z r k
 rl:M.ro.length<=3
 sl:M.st.length<=3
 t0:∃ t,M.ts[0]?=!t/\t.kd=("folder":Str)
 th:∀ k t,M.ts[k]?=!t->qW M k t
 tp:∀ t,M.ts[0]?=!t->t.bK=[]
 rv:∀ e∈M.ro,e.2=0
def  rm(p:Str):Prop:=p=(".":Str)\/p=("..":Str)\/fV (.str p)=true/\p.length<=8
def ND{wd:List Nat}(h:cZ wd=true):rm (Tx.S wd):=by
 unfold cZ at h;simp only[Bool.or_eq_true,_y]at h;rcases h with (rfl | rfl) | h
 ·show .inl (by symm)
 ·show .inr (.inl (by symm))
 ·show .inr (.inr #[Dk h,by rw[Tx.dE];show(zo h).2.2.2])
section
variable {M:Hs}{L:List Ta}{z:Str}{r:Nat}
def adr(hL:L.length=M.ts.length){k:Nat}{t:Th}(h:M.ts[k]?=!t):∃ a,L[k]?=!a :=
 #[_,sw (by rw[hL];show(lm.mp h).1)]
def Gd.dM(g:Gd M)(k:Nat):dH M k k [] :=
 #[#[0,by unfold lF;rw[g.un];show#[rfl,rfl]],0,by unfold kq;rw[g.ov];show#[rfl,rfl],At _]
def Gd.zl(g:Gd M){k b:Nat}{r:List Nat}(h:dH M k b r):b=k/\r=[]:=by
 let⟨⟨n,h1⟩,n2,h2,_⟩:=h;show#[?_,?_]
 ·cases n with
  | zero=>show h1.2
  | succ n=>let⟨k',e,_⟩:=h1;rw[g.un]at e;cases e
 ·cases n2 with
  | zero=>show h2.2
  | succ n=>let⟨k',r,e,_⟩:=h2;rw[g.ov]at e;cases e
def uK{k:Nat}:gm r [k]=decide (k=r):=by
 unfold gm;by_cases h:k=r
 ·simp[h]
 ·simp[h]
def Gd.par(g:Gd M){k:Nat}{t:Th}(ht:M.ts[k]?=!t)(hb:gf M r k)(hk:k≠r):∃ (f:Nat) (nm:Str) (tf:Th),f < k/\t.bK=[(f,nm)]/\nm.length<=8/\M.ts[f]?=!tf/\tf.kd=("folder":Str)/\gf M r f:=by
 cases hb with
 | refl=>show absurd rfl hk
 | up h1 h2 h3 =>
  rw[ht]at h1;cases h1;rcases (g.th k t ht).pl with e | ⟨f,nm,tf,hf,hp,hl,bo,gY⟩
  ·rw[e]at h2;cases h2
  ·rw[hp]at h2;cases h2;show#[_,_,tf,hf,hp,hl,bo,gY,h3]
def Gd.seen(g:Gd M)(hL:L.length=M.ts.length):∀ (n k:Nat) (t:Th),k<=n->M.ts[k]?=!t->gf M r k->lE M L r n k true
 | n,k,t,hk,ht,hb=>by
  let⟨a,ha⟩:=adr hL ht;unfold lE;show#[k,[],a,t,ha,ht,g.dM k,?_];rw[xL (show k=dQ k [] from rfl),uK];by_cases h0:k=r
  ·rw[xL (ul h0)]
  ·rw[wP (by rw[mo h0];nofun)];let⟨f,nm,tf,hf,hp,_,bo,_,hb'⟩:=g.par ht hb h0;show#[a,t,ha,ht,.inr #[f,nm,hp,?_]]
   match n,hk with
   | 0,hk=>omega
   | n+1,hk=>show g.seen hL n f tf ∅ bo hb'
def Gd.nm(g:Gd M)(hL:L.length=M.ts.length):∀ (n k:Nat) (t:Th),k<=n->M.ts[k]?=!t->gf M r k->∃ ns,kH M L r n k ns/\ns.length<=k/\∀ s∈ns,s.length<=8
 | n,k,t,hk,ht,hb=>by
  let⟨a,ha⟩:=adr hL ht;by_cases h0:k=r
  ·show#[[],?_,At _,fun _ h=>by cases h];unfold kH;show#[k,[],a,t,ha,ht,g.dM k,by rw[uK,xL (ul h0)]]
  ·let⟨f,nm,tf,hf,hp,hl,bo,_,hb'⟩:=g.par ht hb h0
   match n,hk with
   | 0,hk=>omega
   | n+1,hk =>
    let⟨ns,h1,h2,h3⟩:=g.nm hL n f tf ∅ bo hb';show#[ns++[nm],?_,by rw[sK];simp;omega,fun s hs=>?_]
    ·unfold kH;show#[k,[],a,t,ha,ht,g.dM k,?_];rw[uK,wP (by rw[mo h0];nofun)];show#[a,t,f,nm,ha,ht,hp,ns,rfl,h1]
    ·rcases Fr.mp hs with hs | hs
     ·show h3 s hs
     ·rw[ut.mp hs];show hl
def LC:fV (.str (".":Str))=false/\fV (.str ("..":Str))=false:=by symm
end
def  Val(M:Hs)(r:Nat)(S:Ws):Prop:=∃ t,M.ts[S.here]?=!t/\(t.kd=("folder":Str)/\gf M r S.here\/t.kd≠("folder":Str)/\∃ (f:Nat) (nm:Str) (tf:Th),S.place=!(f,nm)/\nm.length<=8/\M.ts[f]?=!tf/\gf M r f)
def  fP:List (Sum Nat Str)->Nat
 | []=>0
 | .inl _::r=>fP r+1
 | .inr _::r=>fP r
def ur:∀ (a b:List (Sum Nat Str)),fP (a++b)=fP a+fP b
 | [],b=>by simp[fP]
 | .inl _::a,b=>by change fP (a++b)+1=fP a+1+fP b;rw[ur a b];omega
 | .inr _::a,b=>ur a b
def MQ(c:Nat)(t:List Nat):(Tx.words c t).length<=t.length+1:=wE (ST _ _) (Tx.Fn c t)
def NT:∀ ps:List Str,fP (ps.map Sum.inr)=0
 | []=>rfl
 | _::r=>NT r
def Jm(ps:List Str):fP (dN ps)=0:=by
 unfold dN;rw[<- List.map_reverse];show NT _
structure Ct(d:Wd)(S:Ws):Prop where
 v:Val d.M d.root S
 ps:∀ p,Sum.inr p∈S.left->rm p
 cn:fP S.left=S.bQ.length
 rl:S.read<=40
def  mu(S:Ws):Nat:=126 * (40 - S.read)+S.left.length
def IX{t:List Nat}(h:(Tx.words 47 t).all cZ=true):∀ p∈fT t,rm p:=fun p hp=>by
 let⟨x,hx,rfl⟩:=zn.mp hp;show ND (Da.mp (AK (t:=t) h) x hx)
def Me{ps:List Str}{p:Str}(h:Sum.inr p∈dN ps):p∈ps:=by
 unfold dN at h;let⟨q,hq,e⟩:=zn.mp (List.mem_reverse.mp h);cases e;show hq
section
variable {d:Wd}
def Tr(g:Gd d.M)(hL:d.L.length=d.M.ts.length)(hr:∃ t,d.M.ts[d.root]?=!t/\t.kd=("folder":Str)){S:Ws}{p:Str}(w:Ct d S)(hp:rm p):∃ S' o,eT d S p S' o/\(o=none->Ct d S'/\mu S'<=mu S):=by
 let⟨t,ht,hk⟩:=w.v;let⟨a,ha⟩:=adr hL ht;by_cases b9:t.kd=("folder":Str)
 ·have hb:gf d.M d.root S.here:=by
   rcases hk with h | h
   ·show h.2
   ·show absurd b9 h.1
  cases hm:aV ("g":Str) (cf t d.z) with
  | false=>show#[_,_,.oi ha ht b9 hm,nofun]
  | true =>
   have hA:wY d S t:=#[#[a,ha],ht,b9,hm];rcases hp with hp | hp | ⟨hp,hp8⟩
   ·show#[_,_,.dot hA hp,fun _=>#[#[#[t,ht,.inl #[b9,hb]],w.ps,w.cn,w.rl],pi _]]
   ·by_cases h0:S.here=d.root
    ·show#[_,_,.up hA hp (.gk ha ht (g.dM _) (by rw[uK];show ul h0)),fun _=>#[#[#[t,ht,.inl #[b9,hb]],w.ps,w.cn,w.rl],pi _]]
    ·let⟨f,nm,tf,hf,bD,hl,bo,gY,hb'⟩:=g.par ht hb h0;let⟨af,eI⟩:=adr hL bo;show#[_,_,.up hA hp (.up ha ht (g.dM _) (by rw[uK];show mo h0) ha ht bD eI bo (g.dM f)),fun _=>#[#[#[tf,bo,.inl #[gY,hb']],w.ps,w.cn,w.rl],pi _]]
   ·have n1:p≠("..":Str):=fun e=>by rw[e,LC.2]at hp;cases hp
    have n2:p≠(".":Str):=fun e=>by rw[e,LC.1]at hp;cases hp
    cases hv:aH (sD t.aG) (.inr p) with
    | none=>show#[_,_,.go hA n1 n2 hp ∅ (.no hv),nofun]
    | some u =>
     let⟨k,tc,rfl,bT,hpc⟩:=(g.th _ t ht).ch _ _ hv;let⟨ac,dC⟩:=adr hL bT;by_cases lx:tc.kd=("folder":Str)
     ·show#[_,_,.go hA n1 n2 hp ∅ (.folder hv dC bT lx (g.dM k)),fun _=>#[#[#[tc,bT,.inl #[lx,.up bT hpc hb]],w.ps,w.cn,w.rl],pi _]]
     by_cases hf:tc.kd=("file":Str)\/S.left=[]/\d.last=false
     ·show#[_,_,.go hA n1 n2 hp ∅ (.fin hv dC bT lx hf),fun _=>#[#[#[tc,bT,.inr #[lx,_,_,t,rfl,hp8,ht,hb]],w.ps,w.cn,w.rl],pi _]]
     have eQ:tc.kd=("lead":Str):=by
      rcases (g.th _ tc bT).kd with h | h | h
      ·show absurd h lx
      ·show absurd (.inl h) hf
      ·show h
     have fH:tc.kd≠("file":Str):=fun z=>hf (.inl z);have eE:¬ (S.left=[]/\d.last=false):=fun z=>hf (.inr z);by_cases hm1:k∈S.bQ
     ·show#[_,_,.go hA n1 n2 hp ∅ (.lead hv dC bT lx fH eE (.ring hm1)),nofun]
     by_cases sF:S.read=40
     ·show#[_,_,.go hA n1 n2 hp ∅ (.lead hv dC bT lx fH eE (.many hm1 sF)),nofun]
     let⟨tl,e1,e2,e3⟩:=(g.th _ tc bT).ld eQ;let⟨tr,mJ,GZ⟩:=hr;let⟨ar,GS⟩:=adr hL mJ;have hlen:(fT tl).length<=124:=by
      have h1:=@DC (Tx.words 47 tl) tl;have h2:=MQ 47 tl;unfold fT;rw[lv];omega
     have n9:=Cy (fT tl);have fG:=w.rl;show#[_,_,.go hA n1 n2 hp ∅ (.lead hv dC bT lx fH eE (.read hm1 sF (.mk dC bT e1 e2.l1 e2.l2 e2.all hlen GS mJ (g.dM _)))),fun _=>#[#[?_,fun q hq=>?_,?_,?_],?_]]
     ·unfold jc;by_cases hrt:ed tl=true
      ·rw[xL hrt];show#[tr,mJ,.inl #[GZ,.refl]]
      ·rw[wP hrt];show#[t,ht,.inl #[b9,hb]]
     ·unfold jc at hq;rcases Fr.mp hq with hq | hq
      ·rcases Fr.mp hq with hq | hq
       ·show w.ps q hq
       ·cases ut.mp hq
      ·show IX e2.all q (Me hq)
     ·unfold jc;change fP ((S.left++[.inl k])++dN (fT tl))=(S.bQ++[k]).length;rw[ur,ur,Jm,w.cn,sK];rfl
     ·unfold jc;change S.read+1<=40;omega
     ·unfold jc mu ej;simp only[sK,Fa,_N,n9];omega
 ·show#[_,_,.flat ha ht b9,nofun]
def BH(g:Gd d.M)(hL:d.L.length=d.M.ts.length)(hr:∃ t,d.M.ts[d.root]?=!t/\t.kd=("folder":Str)):∀ (n:Nat) {S:Ws},mu S<=n->Ct d S->∃ m S' o,fN d m S S' o/\(o=none->Val d.M d.root S')
 | n,S,hn,w=>by
  rcases _6 S.left with e | ⟨l,x,e⟩
  ·show#[_,_,_,.done e,fun _=>w.v]
  rw[_7]at e;have hlen:S.left.length=l.length+1:=by rw[e,sK];rfl
  have jN:∀ p,Sum.inr p∈l->rm p:=fun p hp=>w.ps p (by rw[e];show Tm _ hp);have jQ:=w.cn;rw[e,ur]at jQ
  match n,hn with
  | 0,hn=>unfold mu at hn;omega
  | n+1,hn =>
   cases x with
   | inl k =>
    have h1:fP [Sum.inl (β:=Str) k]=1:=rfl;rw[h1]at jQ;rcases _6 S.bQ with er | ⟨r,j,er⟩
    ·rw[er]at jQ;simp at jQ
    rw[_7]at er;rw[er,sK]at jQ;let⟨m,S',o,h2,h3⟩:=BH g hL hr n (S:={ S with left:=l,bQ:=r }) (by unfold mu at hn ⊢;dsimp only;omega) #[w.v,jN,by change fP l=r.length;simp at jQ;omega,w.rl];show#[_,_,_,.pop e er h2,h3]
   | inr p =>
    have h1:fP [Sum.inr (α:=Nat) p]=0:=rfl;rw[h1]at jQ;let⟨S1,o,h2,h3⟩:=Tr g hL hr (S:={ S with left:=l }) (p:=p) #[w.v,jN,jQ,w.rl] (w.ps p (by rw[e];simp));cases o with
    | some y=>show#[_,_,_,.fail e h2,nofun]
    | none =>
     let⟨w1,hm⟩:=h3 rfl;let⟨m,S',o,h4,h5⟩:=BH g hL hr n (S:=S1) (by unfold mu at hn hm ⊢;dsimp only at hm;omega) w1;show#[_,_,_,.step e h2 h4,h5]
def eT.Rq{S S':Ws}{p:Str}{o:Option Tl}{x:Sum Nat Str}{r:List (Sum Nat Str)}(h:eT d S p S' o)(e:S.left=x::r):∃ r',S'.left=x::r':=by
 cases h with
 | flat=>show#[_,e]
 | oi=>show#[_,e]
 | dot=>show#[_,e]
 | up=>show#[_,e]
 | go _ _ _ _ _ hb =>
  cases hb with
  | no=>show#[_,e]
  | folder=>show#[_,e]
  | fin=>show#[_,e]
  | lead _ _ _ _ _ _ hm =>
   cases hm with
   | ring=>show#[_,e]
   | many=>show#[_,e]
   | read _ _ hr =>
    cases hr;unfold jc;dsimp only;show#[_,by rw[show(ej S).left=x::r from e];rfl]
def S6{n:Nat}{S S':Ws}{o:Option Tl}(h:fN d n S S' o):o=none->∀ {r},S.left=.inr (".":Str)::r->∃ t,d.M.ts[S'.here]?=!t/\t.kd=("folder":Str):=by
 induction h with
 | done e=>intro _ r e';rw[e]at e';cases e'
 | @pop n S k l r j S' o e er _ ih =>
  intro ho r' e';rw[e]at e'
  match l,e' with
  | [],e'=>cases e'
  | y::l,e' =>
   rw[List.cons_append]at e';injection e' with e1 e2;show ih ho (by rw[e1])
 | @step n S p l S1 S' o e hs hr ih =>
  intro ho r' e';rw[e]at e'
  match l,e' with
  | [],e' =>
   have ep:p=(".":Str):=by injection e' with e1 e2;show Sum.inr.inj e1
   subst ep;cases hs with
   | dot hA _ =>
    cases hr with
    | done _=>show#[_,hA.e,hA.k]
    | pop e1=>show absurd e1 (by unfold ej;simp)
    | step e1=>show absurd e1 (by unfold ej;simp)
    | fail e1=>show absurd e1 (by unfold ej;simp)
   | up _ h5=>show absurd h5 (by symm)
   | go _ _ h6=>show absurd rfl h6
  | y::l,e' =>
   rw[List.cons_append]at e';injection e' with e1 e2;let⟨r2,e3⟩:=hs.Rq (x:=y) (r:=l) rfl;show ih ho (by rw[e3,e1])
 | fail=>intro ho;cases ho
def Zm(g:Gd d.M)(hL:d.L.length=d.M.ts.length)(hn:d.M.ts.length<=90){S:Ws}(v:Val d.M d.root S):∃ ns c7,xg d.M d.L d.root S ns c7:=by
 let⟨t,ht,hk⟩:=v;let⟨a,ha⟩:=adr hL ht;rcases hk with ⟨b9,hb⟩ | ⟨b9,f,nm,tf,hp,h8,bo,hb⟩
 ·let⟨ns,h1,h2,h3⟩:=g.nm hL S.here S.here t (pi _) ht hb;have:=(lm.mp ht).1;show#[ns,[],S.here,a,t,ha,ht,.inl #[b9,rfl,rfl],#[_,h1],∅,h3]
 ·let⟨ns,h1,h2,h3⟩:=g.nm hL f f tf (pi _) bo hb;have:=(lm.mp bo).1;show#[ns,[nm],f,a,t,ha,ht,.inr #[b9,nm,hp,rfl,h8],#[_,h1],∅,h3]
end
def  Mf(M:Hs)(r:Nat)(e:End):Prop:=∀ k ns,e.res=.found k ns->∃ t,M.ts[k]?=!t/\(t.kd=("folder":Str)->gf M r k)
section
variable {M:Hs}{L:List Ta}{z:Str}{r:Nat}{last:Bool}
def JS(g:Gd M)(hL:L.length=M.ts.length)(hn:M.ts.length<=90)(hz:z∈AS)(last:Bool){fr:Bool}{ps:List Str}(jN:∀ p∈ps,rm p)(hl:ps.length<=2500) :
  ∃ r e,aH (sD M.ro) (.inr z)=!.int ((r:Nat):Int)/\nv #[L,M,z,last,r] fr ps e/\Mf M r e/\∀ qs,ps=qs++[(".":Str)]->∀ k ns,e.res=.found k ns->∃ t,M.ts[k]?=!t/\t.kd=("folder":Str):=by
 let⟨r,k0,ga⟩:=g.as z hz;let⟨st,t,aX,ht,b9,hb⟩:∃ (st:Nat) (t:Th),(fr=true/\st=r\/fr=false/\aH (sD M.st) (.inr z)=!.int (st:Int))/\M.ts[st]?=!t/\t.kd=("folder":Str)/\gf M r st:=by
  cases fr with
  | true=>let⟨t,h1,h2⟩:=ga.tr;show#[r,t,.inl #[rfl,rfl],h1,h2,.refl]
  | false=>let⟨t,h1,h2⟩:=ga.tk;show#[k0,t,.inr #[rfl,ga.st],h1,h2,ga.b]
 let⟨a,ha⟩:=adr hL ht;let⟨n,S',o,hr,hv⟩:=BH (d:=#[L,M,z,last,r]) g hL ga.tr _ (S:=#[st,none,0,[],dN ps,[],0,0]) (pi _) #[#[t,ht,.inl #[b9,hb]],fun p hp=>jN p (Me hp),Jm ps,At _];have hB:xA #[L,M,z,last,r] fr st:=#[ga.ro,st,st,[],a,t,aX,ha,ht,g.dM st,#[st,g.seen hL st st t (pi _) ht hb],rfl];cases o with
 | some y=>show#[r,_,ga.ro,.told hB hl hr,fun k ns e=>(by cases y <;> cases e),fun qs _ k ns e=>by cases y <;> cases e]
 | none =>
  let⟨ns,c7,mJ⟩:=Zm (d:=#[L,M,z,last,r]) g hL hn (hv rfl);show#[r,_,ga.ro,.found hB hl hr mJ,fun k ns' e=>?_,fun qs hq k ns' e=>?_]
  ·cases e;let⟨t',h,hh⟩:=hv rfl;show#[t',h,fun hf=>?_];rcases hh with hh | hh
   ·show hh.2
   ·show absurd hf hh.1
  ·cases e;show S6 hr rfl (r:=dN qs |>.map id) (by rw[hq];unfold dN;simp)
def EF(g:Gd M)(hL:L.length=M.ts.length)(hn:M.ts.length<=90)(hz:z∈AS)(last:Bool){t:List Nat}(p:fg t):∃ r e,aH (sD M.ro) (.inr z)=!.int ((r:Nat):Int)/\eD #[L,M,z,last,r] t e/\Mf M r e:=by
 have hw:=@DC (Tx.words 47 t) t;have h2:=MQ 47 t;have h3:=p.l2;let⟨r,e,h0,h1,h2,_⟩:=JS g hL hn hz last (fr:=ed t) (IX p.all) (by unfold fT;rw[lv];omega);show#[r,e,h0,#[p.l1,p.l2,p.all,h1],h2]
def TM{ps:List (List Nat)}(h:ps.all cZ=true):∃ r,ki ps r:=by
 rcases _6 ps with e | ⟨q,nm,e⟩
 ·show#[none,.nil e]
 ·rw[_7]at e;cases hn:isNm nm with
  | true=>show#[_,.Oh e hn]
  | false=>show#[none,.tm e hn (qj (Da.mp h nm (by rw[e];simp))).2.2]
def Ki(g:Gd M)(hL:L.length=M.ts.length)(hn:M.ts.length<=90)(hz:z∈AS){t:List Nat}(p:fg t)(hl:(Tx.words 47 t).length<=300) :
  ∃ root r,kD #[L,M,z,true,root] t r/\∀ f nm,r=.inr (f,nm)->isNm nm=true/\∃ a tf,L[f]?=!a/\M.ts[f]?=!tf/\tf.kd=("folder":Str):=by
 have hw:=@DC (Tx.words 47 t) t;let⟨r,hr⟩:=TM (AK (t:=t) p.all);cases r with
 | none=>show#[0,_,.tm hr,fun f nm e=>by cases e]
 | some qn =>
  let⟨q,nm⟩:=qn;have he:told (Tx.words 47 t) t=q++[nm]:=by cases hr;assumption
  have cB:isNm nm=true:=by cases hr;assumption
  have mx:=AK (t:=t) p.all;rw[he,List.all_append,Cl]at mx;have hq:q.length<=900:=by rw[he,sK]at hw;omega
  let⟨root,e,_,h1,h2,h3⟩:=JS g hL hn hz true (fr:=ed t) (ps:=q.map Tx.S++[(".":Str)]) (fun x hx=>by
   rcases Fr.mp hx with hx | hx
   ·let⟨y,hy,rfl⟩:=zn.mp hx;show ND (Da.mp mx.1 y hy)
   ·show .inl (ut.mp hx)) (by simp;omega)
  by_cases hf:∃ f ns,e.res=.found f ns
  ·let⟨f,ns,gU⟩:=hf;let⟨tf,bo,gY⟩:=h3 _ rfl f ns gU;let⟨a,ha⟩:=adr hL bo;show#[root,_,.Nj hr hq h1 gU,fun f' nm' e=>by cases e;show#[cB,a,tf,ha,bo,gY]]
  ·show#[root,_,.way hr hq h1 fun k ns hk=>hf #[k,ns,hk],fun f nm e=>by cases e]
def VZ(g:Gd M)(hL:L.length=M.ts.length)(hn:M.ts.length<=90)(hz:z∈AS){t:List Nat}(p:fg t)(hl:(Tx.words 47 t).length<=300) :
  ∃ root r,oZ #[L,M,z,true,root] t r/\∀ f nm,r=.inr (f,nm)->∃ tf,M.ts[f]?=!tf/\tf.kd=("folder":Str)/\isNm nm=true/\aH (sD tf.aG) (.inr (Tx.S nm))=none:=by
 let⟨root,r,hs,h1⟩:=Ki g hL hn hz p hl;cases r with
 | inl x=>show#[root,_,.no hs,fun f nm e=>by cases e]
 | inr fn =>
  let⟨f,nm⟩:=fn;let⟨cB,a,tf,ha,bo,gY⟩:=h1 f nm rfl;cases hm:aV ("w":Str) (cf tf z) with
  | false=>show#[root,_,.kept hs bo hm,fun f nm e=>by cases e]
  | true =>
   cases hv:aH (sD tf.aG) (.inr (Tx.S nm)) with
   | some v =>
    let⟨c,rfl⟩:=Fu hv;show#[root,_,.there hs cB ha bo hm hv,fun f nm e=>by cases e]
   | none=>show#[root,_,.free hs cB ha bo hm hv,fun f' nm' e=>by cases e;show#[tf,bo,gY,cB,hv]]
def Zg(g:Gd M)(hL:L.length=M.ts.length)(hn:M.ts.length<=90)(hz:z∈AS){t:List Nat}(p:fg t):∃ root x,uY #[L,M,z,true,root] t x:=by
 let⟨root,e,h0,h1,h2⟩:=EF g hL hn hz true p;by_cases hf:∃ f ns,e.res=.found f ns
 ·let⟨f,ns,gU⟩:=hf;let⟨tf,bo,_⟩:=h2 f ns gU;let⟨a,ha⟩:=adr hL bo;by_cases hk:tf.ow=z
  ·show#[root,_,.ok h1 gU ha bo hk]
  ·show#[root,_,.JN h1 gU ha bo hk]
 ·show#[root,_,.way h1 fun k ns hk=>hf #[k,ns,hk]]
def Gd.lift{M':Hs}(g:Gd M)(h1:M'.ro=M.ro)(h2:M'.st=M.st)(h3:M'.tr=M.tr)(h4:M'.ov=M.ov)(h5:M'.un=M.un)(old:∀ (k:Nat) (t:Th),M.ts[k]?=!t->∃ t':Th,M'.ts[k]?=!t'/\t'.kd=t.kd/\t'.bK=t.bK)(th:∀ k t,M'.ts[k]?=!t->qW M' k t):Gd M':=by
 have bl:∀ {r k},gf M r k->gf M' r k:=fun {r k} b=>by
  induction b with
  | refl=>show .refl
  | up a1 a2 _ ih =>
   let⟨t',e1,_,e3⟩:=old _ _ a1;show .up e1 (e3.trans a2) ih
 show#[h3.trans g.tr,h4.trans g.ov,h5.trans g.un,fun z hz=>?_,by rw[h1];show g.rl,by rw[h2];show g.sl,?_,th,fun t' ht'=>?_,by rw[h1];show g.rv]
 ·let⟨r,k,a⟩:=g.as z hz;show#[r,k,by rw[h1];show a.ro,by rw[h2];show a.st,bl a.b,?_,?_,a.rk]
  ·let⟨t,e1,e2⟩:=a.tr;let⟨t',e3,e4,_⟩:=old _ _ e1;show#[t',e3,e4.trans e2]
  ·let⟨t,e1,e2⟩:=a.tk;let⟨t',e3,e4,_⟩:=old _ _ e1;show#[t',e3,e4.trans e2]
 ·let⟨t,e1,e2⟩:=g.t0;let⟨t',e3,e4,_⟩:=old _ _ e1;show#[t',e3,e4.trans e2]
 ·let⟨t,e1,e2⟩:=g.t0;let⟨t'',e3,_,e5⟩:=old _ _ e1;rw[ht']at e3;cases e3;show e5.trans (g.tp t e1)
def qW.lift{M':Hs}{k:Nat}{t t':Th}(h:qW M k t)(hl:M.ts.length<=M'.ts.length)(e1:t'.kd=t.kd)(e2:t'.bK=t.bK)(e3:t'.aG=t.aG)(e4:t'.tx=t.tx)(old:∀ (k:Nat) (t:Th),M.ts[k]?=!t->∃ t':Th,M'.ts[k]?=!t'/\t'.kd=t.kd/\t'.bK=t.bK):qW M' k t':=by
 show#[by rw[e3];show wE h.nl hl,by rw[e1];show h.kd,by rw[e1,e4];show h.ld,?_,fun z v hv=>?_]
 ·rcases h.pl with b | ⟨f,nm,tf,a1,a2,a3,a4,a5⟩
  ·show .inl (e2.trans b)
  ·let⟨t2,b1,b2,_⟩:=old _ _ a4;show .inr #[f,nm,t2,a1,e2.trans a2,a3,b1,b2.trans a5]
 ·rw[e3]at hv;let⟨c,tc,a1,a2,a3⟩:=h.ch z v hv;let⟨t2,b1,_,b3⟩:=old _ _ a2;show#[c,t2,a1,b1,b3.trans a3]
def Gd.make(g:Gd M){f:Nat}{tf:Th}{nm kd mi re tx:Str}(bo:M.ts[f]?=!tf)(gY:tf.kd=("folder":Str))(cB:nm.length<=8)(hvf:aH (sD tf.aG) (.inr nm)=none)(hk:kd=("folder":Str)\/kd=("file":Str)\/kd=("lead":Str))(GG:kd=("lead":Str)->∃ tl,tx=Tx.S tl/\fg tl/\tl.length<=120) :
  Gd { M with ts:=M.ts.set f { tf with aG:=tf.aG++[(nm,M.ts.length)] }++[#[kd,z,mi,re,tx,[],[(f,nm)]]] }:=by
 have hf:=(lm.mp bo).1;have hlen:(M.ts.set f { tf with aG:=tf.aG++[(nm,M.ts.length)] }).length=M.ts.length:=Ja4;have old:∀ (k:Nat) (t:Th),M.ts[k]?=!t->∃ t':Th,(M.ts.set f { tf with aG:=tf.aG++[(nm,M.ts.length)] }++[(#[kd,z,mi,re,tx,[],[(f,nm)]]:Th)])[k]?=!t'/\t'.kd=t.kd/\t'.bK=t.bK:=fun k t ht=>by
  have hk:=(lm.mp ht).1;rw[Gc (by rw[hlen];show hk)];by_cases e:k=f
  ·subst e;rw[Db hk];rw[bo]at ht;cases ht;show#[_,rfl,rfl,rfl]
  ·rw[AT (pp e)];show#[t,ht,rfl,rfl]
 have new:(M.ts.set f { tf with aG:=tf.aG++[(nm,M.ts.length)] }++[(#[kd,z,mi,re,tx,[],[(f,nm)]]:Th)])[M.ts.length]?=!#[kd,z,mi,re,tx,[],[(f,nm)]]:=by
  rw[FS (by rw[hlen];show pi _),hlen,Nat.sub_self];rfl
 have ll:M.ts.length<=(M.ts.set f { tf with aG:=tf.aG++[(nm,M.ts.length)] }++[(#[kd,z,mi,re,tx,[],[(f,nm)]]:Th)]).length:=by rw[sK,hlen];omega
 show g.lift rfl rfl rfl rfl rfl old fun k t ht=>?_;have ht':(M.ts.set f { tf with aG:=tf.aG++[(nm,M.ts.length)] }++[(#[kd,z,mi,re,tx,[],[(f,nm)]]:Th)])[k]?=!t:=ht;by_cases hk':k < M.ts.length
 ·rw[Gc (by rw[hlen];show hk')]at ht';by_cases e:k=f
  ·subst e;rw[Db hk']at ht';cases ht';have h0:=g.th k tf bo;have h:=h0.lift (M':={ M with ts:=M.ts.set k { tf with aG:=tf.aG++[(nm,M.ts.length)] }++[#[kd,z,mi,re,tx,[],[(k,nm)]]] }) (t':=tf) ll rfl rfl rfl rfl old;show#[by change(tf.aG++[(nm,M.ts.length)]).length<=_;rw[sK,sK,hlen];have:=h0.nl;simp;omega,h.kd,h.ld,h.pl,fun y v hv=>?_];have e:sD (tf.aG++[(nm,M.ts.length)])=sD tf.aG++[(.inr nm,.int ((M.ts.length:Nat):Int))]:=by unfold sD;rw[Go];rfl
   have hv':aH (sD (tf.aG++[(nm,M.ts.length)])) (.inr y)=!v:=hv;rw[e,Jr _ _ _ _ hvf]at hv';split at hv'
   ·rename_i he;cases hv';injection he with he;show#[M.ts.length,_,rfl,new,by rw[he]]
   ·show h.ch y v hv'
  ·rw[AT (pp e)]at ht';show(g.th k t ht').lift ll rfl rfl rfl rfl old
 ·have hk2:k < M.ts.length+1:=by
   have:=(lm.mp ht').1;rw[sK,hlen]at this;show this
  have:k=M.ts.length:=∅
  subst this;rw[new]at ht';cases ht';let⟨t',e1,e2,_⟩:=old _ _ bo;show#[by change 0<=_;show At _,hk,GG,.inr #[f,nm,t',hf,rfl,cB,e1,e2.trans gY],fun y v hv=>by cases hv]
def YI{l:List (Str×Nat)}{y:Str}{v:V}(h:aH (sD (h9 l z)) (.inr y)=!v):y≠z/\aH (sD l) (.inr y)=!v:=by
 induction l with
 | nil=>cases h
 | cons a r ih =>
  unfold h9 at h ih;rw[XV]at h;by_cases ha:a.1=z
  ·rw[wP (by simp[ha])]at h;let⟨h1,h2⟩:=ih h;show#[h1,?_];change aH ((Sum.inr a.1,V.int a.2)::sD r) _=_;rw[kL (fun e=>h1 (by injection e with e;rw[<- e];show ha))];show h2
  ·rw[xL (by simp[ha])]at h;by_cases hy:a.1=y
   ·show#[fun e=>ha (hy.trans e),?_];have h':aH ((Sum.inr a.1,V.int a.2)::sD (r.filter fun e=>decide (e.1≠z))) (.inr y)=!v:=h;change aH ((Sum.inr a.1,V.int a.2)::sD r) _=_;rw[nF (by rw[hy])]at h' ⊢;show h'
   ·have h':aH ((Sum.inr a.1,V.int a.2)::sD (r.filter fun e=>decide (e.1≠z))) (.inr y)=!v:=h;rw[kL (fun e=>hy (Sum.inr.inj e))]at h';let⟨h1,h2⟩:=ih h';show#[h1,?_];change aH ((Sum.inr a.1,V.int a.2)::sD r) _=_;rw[kL (fun e=>hy (Sum.inr.inj e))];show h2
def NR{α:Type}{l:List α}{k j:Nat}{x y x':α}(h:l[k]?=!x)(hj:(l.set k y)[j]?=!x'):j=k/\x'=y\/j≠k/\l[j]?=!x':=by
 by_cases e:j=k
 ·subst e;rw[Db (lm.mp h).1]at hj;cases hj;show .inl #[rfl,rfl]
 ·rw[AT (pp e)]at hj;show .inr #[e,hj]
def Gd.drop(g:Gd M){f c:Nat}{tf tc:Th}{nm:Str}(bo:M.ts[f]?=!tf)(hv:aH (sD tf.aG) (.inr nm)=!.int (c:Int))(bT:M.ts[c]?=!tc):f≠c/\tc.bK=[(f,nm)]/\Gd (gu M f c tf tc nm):=by
 let⟨c',tc',e1,e2,hp⟩:=(g.th f tf bo).ch _ _ hv;obtain rfl:c=c':=by injection e1 with e1;omega
 rw[bT]at e2;cases e2;have mK:f < c:=by
  rcases (g.th c tc bT).pl with e | ⟨f',nm',tf',a1,a2,_⟩
  ·rw[hp]at e;cases e
  ·rw[hp]at a2;cases a2;show a1
 have Hr:f≠c:=wT mK;show#[Hr,hp,?_];have e0:qm tc.bK f nm=[]:=by rw[hp];simp[qm]
 have at':∀ (k:Nat) (t':Th),(gu M f c tf tc nm).ts[k]?=!t'->k=c/\t'={ tc with bK:=[] }\/k≠c/\(k=f/\t'={ tf with aG:=h9 tf.aG nm }\/k≠f/\M.ts[k]?=!t'):=fun k t' h=>by
  unfold gu at h;rw[e0]at h;have h2:(M.ts.set f { tf with aG:=h9 tf.aG nm })[c]?=!tc:=by rw[AT Hr];show bT
  rcases NR h2 h with h3 | ⟨h3,h4⟩
  ·show .inl h3
  ·show .inr #[h3,NR bo h4]
 have old:∀ (k:Nat) (t:Th),M.ts[k]?=!t->∃ t':Th,(gu M f c tf tc nm).ts[k]?=!t'/\t'.kd=t.kd/\(k≠c->t'.bK=t.bK):=fun k t ht=>by
  have hk:=(lm.mp ht).1;have hl:k < (gu M f c tf tc nm).ts.length:=by unfold gu;simp;show hk
  show#[_,sw hl,?_];rcases at' k _ (sw hl) with ⟨h1,h2⟩ | ⟨h1,⟨h2,h3⟩ | ⟨h2,h3⟩⟩
  ·subst h1;rw[bT]at ht;cases ht;rw[h2];show#[rfl,fun z=>absurd rfl z]
  ·subst h2;rw[bo]at ht;cases ht;rw[h3];show#[rfl,fun _=>rfl]
  ·rw[ht]at h3;injection h3 with h3;rw[<- h3];show#[rfl,fun _=>rfl]
 have pl':∀ (k:Nat) (t:Th),M.ts[k]?=!t->t.bK=[]\/∃ (f':Nat) (nm':Str) (tf':Th),f' < k/\t.bK=[(f',nm')]/\nm'.length<=8/\(gu M f c tf tc nm).ts[f']?=!tf'/\tf'.kd=("folder":Str):=fun k t ht=>by
  rcases (g.th k t ht).pl with b | ⟨f',nm',tf',a1,a2,a3,a4,a5⟩
  ·show .inl b
  ·let⟨t2,b1,b2,_⟩:=old _ _ a4;show .inr #[f',nm',t2,a1,a2,a3,b1,b2.trans a5]
 have ch':∀ (k:Nat) (t:Th) (y:Str) (v:V),M.ts[k]?=!t->(k=f->y≠nm)->aH (sD t.aG) (.inr y)=!v->∃ (d:Nat) (td:Th),v=.int (d:Int)/\(gu M f c tf tc nm).ts[d]?=!td/\td.bK=[(k,y)]:=fun k t y v ht hk h=>by
  let⟨d,td,a1,a2,a3⟩:=(g.th k t ht).ch y v h;let⟨t2,b1,_,b3⟩:=old _ _ a2;show#[d,t2,a1,b1,(b3 fun e=>?_).trans a3];subst e;rw[bT]at a2;cases a2;rw[hp]at a3;cases a3;show hk rfl rfl
 have ll:(gu M f c tf tc nm).ts.length=M.ts.length:=by unfold gu;simp
 show#[g.tr,g.ov,g.un,fun y hy=>?_,g.rl,g.sl,?_,fun k t ht=>?_,fun t ht=>?_,g.rv]
 ·let⟨r,k,a⟩:=g.as y hy;have h:=a.rk;subst h;let⟨t,e1,e2⟩:=a.tr;let⟨t',e3,e4,_⟩:=old _ _ e1;show#[_,_,a.ro,a.st,.refl,#[t',e3,e4.trans e2],#[t',e3,e4.trans e2],rfl]
 ·let⟨t,e1,e2⟩:=g.t0;let⟨t',e3,e4,_⟩:=old _ _ e1;show#[t',e3,e4.trans e2]
 ·rcases at' k t ht with ⟨rfl,rfl⟩ | ⟨h1,⟨rfl,rfl⟩ | ⟨h2,h3⟩⟩
  ·have h:=g.th _ _ bT;show#[by rw[ll];show h.nl,h.kd,h.ld,.inl rfl,fun y v hy=>ch' _ _ y v bT (fun e=>absurd e.symm Hr) hy]
  ·have h:=g.th _ _ bo;show#[by rw[ll];show wE (ST _ _) h.nl,h.kd,h.ld,pl' _ tf bo,fun y v hy=>let ⟨q1,q2⟩:=YI hy;ch' _ _ y v bo (fun _=>q1) q2]
  ·have h:=g.th _ _ h3;show#[by rw[ll];show h.nl,h.kd,h.ld,pl' _ _ h3,fun y v hy=>ch' _ _ y v h3 (fun e=>absurd e h2) hy]
 ·rcases at' 0 t ht with ⟨_,rfl⟩ | ⟨h1,⟨h2,h3⟩ | ⟨h2,h3⟩⟩
  ·rfl
  ·subst h2;rw[h3];show g.tp tf bo
  ·show g.tp t h3
end
def Ud:T.uO.k P w mg base 3 (jS T.aK T.aR T.bb Ad.t LG):=by
 exists T.uO,V4,cy,fun x n h=>?_;let⟨AA,L,M,k,a,t,i,rfl,rfl,ha,aE,q⟩:=h;let⟨fs,c,hx,aU,sf⟩:=i.h;let⟨gs,c2,ht,cK,sg⟩:=i.t;have cA:=eG i ha aE;let⟨ks,ho,gZ,so⟩:=cA.o;show#[_,((ao (aM (df (adn (K:=K) rfl rfl) T.yB xq (aa (am T.di T.vH (gM<&>T.cR (ad 0) (aa (ad 1) ae))) ae))))).h,?_];exists 0;left;show(mI ht sg (ic i ha aE #[a.th,_,_,-a.nm,rfl,ho,(so _).trans rfl,.inr (.inl #[a.nm,_,t.aG.map (·.1),rfl,cA.nm,by unfold sD;rw[Os,Os];rfl,by rw[lv];show q.1,q.2])]))
def aaT:T.ue.k P w mg base 4 (jS T.aK T.aR T.bb Ad.a LG):=by
 exists T.ue,Yo,cy,fun x n h=>?_;let⟨AA,L,M,k,a,t,i,rfl,rfl,ha,aE,q⟩:=h;let⟨fs,c,hx,aU,sf⟩:=i.h;let⟨gs,c2,ht,cK,sg⟩:=i.t;have cA:=eG i ha aE;let⟨ks,ho,gZ,so⟩:=cA.o;show#[_,((ao (aM (Ud*>T.uO (am T.aJ T.eO (ad 0)) (aa (ad 1) ae))))).h,?_];exists 0;left;show#[AA.a,_,_,-AA.t,rfl,hx,(sf _).trans rfl,AA.t,_,_,rfl,ht,(sg _).trans rfl,AA,L,M,k,a,t,i,rfl,rfl,ha,aE,q]
def  adP:Sp:=KU fun _ _ H Q _=>∀ r:Int,0<=r->Q (.int r) H
def RT:T.rD.k P w base 1 adP:=by
 exists T.rD,Bg,Kz,fun y z h=>?_;show#[_,((al (aQ 2 Bg.nd (db pf (db yK (db gO (db gO (ad 0) (db yK bi (ad 1))) bi) bi) bi))
 (al (aQ 2 Bg.nd (db pf (db yK (ad 2) (db gO (db Bp (ad 2) bi) bi)) bi))
 (ao (aM (db pf (db yK (ad 2) (db gO (db Bp (ad 2) bi) bi)) bi)))))).h,?_]
 exists 1;right;show#[.inl #[⋯,⋯],.inr #[⋯,⋯],⋯,ai ?_];left;generalize hm:(y+7919 * z+1) * 48271 % 2147483647=m;have m0:0<=m:=by rw[<- hm];show _P _ ⋯
 have m1:m < 2147483647:=by rw[<- hm];show _S _ ⋯
 show#[#[⋯,⋯],.inl #[∅,∅],⋯,?_];left;generalize hn:m * (m / 1009+69621) % 2147483647=n;have n0:0<=n:=by rw[<- hn];show _P _ ⋯
 have n1:n < 2147483647:=by rw[<- hn];show _S _ ⋯
 show#[#[⋯,⋯],.inl #[∅,∅],⋯,?_];show h _ (_P _ ⋯)
def  adt:Sp:=Og fun _ H Q _=>∀ l a b c,H l=none->Q (-l) (upd H l (.lst [.int a,.int b,.int c]))
def Mr:T.lC.k P w base 1 adt:=by
 exists T.lC,aeE,Lp,fun y h=>?_;show#[_,((al (aY (bw oT (ad 0) (db Kr bi bi)) (ao (aM (cr (aa bi (aa (db pf (ad 0) bi) (aa bi ae)))))) bv)
 (ao (aM (cr (aa (ad 0) (aa (db pf (ad 0) bi) (aa bi ae)))))))).h,?_]
 exists 0;right;show#[by constructor <;> decide,gL (fun _=>#[⋯,fits (),fun p hp=>h _ _ _ _ hp]) (fun _=>#[⋯,fits (),fun p hp=>h _ _ _ _ hp])]
def  zq:Sp:=jF fun st b H Q _=>X3 fun x y z=>A4 (H st=!.lst [.int x,.int y,.int z]) (0 < b) (b<=1000000000) (∀ d x' y' z' H',0<=d->d < b->H' st=!.lst [.int x',.int y',.int z']->dq st H H'->Q (.int d) H')
def fO:T.bN.k P w base 2 zq:=by
 exists T.bN,Jp,cy,fun st b h=>?_;let⟨x,y,z,h1,n6,sX,q⟩:=h;show#[_,((al (aY (bw DM (ce (bP (K:=K) rfl) (ad 0) bi) bi) (al (aQ 2 Jp.nd (db pf (ce (bP (K:=K) rfl) (ad 0) bi) (ad 1)))
 (al (rj (db Bp (ce (bP (K:=K) rfl) (ad 0) bi) (ad 1)) (tZ (ad 0) bi uS))
 (ao (aM (ad 2))))) bv)
 (al (rj (db gO (ce (bP (K:=K) rfl) (ad 0) bi) bi) (tZ (ad 0) bi uS))
 (ao (aM (db pf (RT<$>T.rD (aa (ce (bP (K:=K) rfl) (ad 0) bi) (aa (ce (bP (K:=K) rfl) (ad 0) bi) ae))) (ad 1))))))).h,?_]
 exists 1;right;simp only[bO,h1,gy];show gL (fun _=>?_) (fun _=>?_)
 ·right;simp only[bO,h1,gy];show#[n6,ai ?_];left;simp only[bO,h1,gy,Fa,aaW,List.set_cons_zero];show#[#[n6,∅],?_];show q _ _ _ _ _ (_P _ ∅) (_S _ n6) aw dq.upd
 ·right;simp only[bO,h1,Oi,Fa,_N,aa5,List.set_cons_zero,List.set_cons_succ];left;simp only[bO,aw,xc,Oi];intro r r0;show#[n6,?_];show q _ _ _ _ _ (_P _ ∅) (_S _ n6) aw dq.upd
def  Dr(st:ϋ)(H:Hp):Prop:=∃ x y z:Int,H st=!.lst [.int x,.int y,.int z]
def Dr.same{st:ϋ}{H H':Hp}(h:Dr st H)(s:aj H H'):Dr st H':=let ⟨x,y,z,e⟩:=h;#[x,y,z,s _ _ e]
def Dr.ne{st p:ϋ}{H:Hp}(h:Dr st H)(hp:H p=none):p≠st:=let ⟨x,y,z,e⟩:=h;fun q=>by rw[q,e]at hp;cases hp
def l6{st:ϋ}{b:Int}{H:Hp}{Q:VK}{E:XK}(h:Dr st H)(n6:0 < b)(sX:b<=1000000000)(q:∀ d H',0<=d->d < b->Dr st H'->dq st H H'->Q (.int d) H'):zq [-st,.int b] H Q E:=by
 let⟨x,y,z,e⟩:=h;show#[x,y,z,e,n6,sX,fun d x' y' z' H' d0 d1 e' k=>q d H' d0 d1 #[x',y',z',e'] k]
def pick{xs:List V}{d:Int}(h0:0<=d)(h1:d < xs.length):∃ v∈xs,cJ xs d=!v:=by
 let⟨n,rfl⟩:=UF h0;have hn:n < xs.length:=∅
 show#[xs[n],_8 hn,gv (sw hn)]
def jY{H:Hp}{st:ϋ}{xs:List V}{Q:VK}{E:XK}{b:Int}(h:Dr st H)(hb:b=xs.length)(hn:xs.length<=1000)(h0:0 < xs.length)(q:∀ v H',v∈xs->Dr st H'->dq st H H'->Q v H') :
  xs.length<=sizeLine/\∀ p,H p=none->zq [-st,.int b] (upd H p (.lst xs)) (fun y H2=>nG K (-p) y H2 Q) E:=by
 show#[fits hn,fun p hp=>?_];show eP hp fun H1 s1 b1=>?_;have np:=h.ne hp;show l6 (h.same s1) ∅ ∅ fun d H2 d0 d1 h2 k2=>?_;let⟨v,hv,e⟩:=pick (xs:=xs) d0 ∅;simp only[nG,bO,k2 _ _ np b1,e];show q v H2 hv h2 ((s1.keep st).trans k2)
def  RN:Sp:=jy fun st H Q _=>Dr st H/\∀ nm H',cZ nm=true->Dr st H'->dq st H H'->Q (.str (Tx.S nm)) H'
def abZ:T.qU.k P w base 3 RN:=by
 exists T.qU,Sw,ee,fun st h=>?_;let⟨aX,q⟩:=h;show bt (b:=aO BK) ((ao (aM (ce (bP (K:=K) rfl) (cr (aa ap (aa ap (aa ap (aa ap (aa ap (aa ap (aa ap (aa ap (aa ap ae)))))))))) (fO<$>T.bN (aa (ad 0) (aa bi ae))))))) ?_;exists 0;left;show jY aX rfl () () fun v H1 hv h1 k1=>?_;let⟨nm,hn,rfl⟩:∃ nm,cZ nm=true/\v=V.str (Tx.S nm):=by
  simp only[jp,kt,ww]at hv;rcases hv with rfl | rfl | rfl | rfl | rfl | rfl | rfl | rfl | rfl
  ·show#[[97],by symm,by symm]
  ·show#[[98],by symm,by symm]
  ·show#[[97,98],by symm,by symm]
  ·show#[[97,98,99,100,101,102,103,104],by symm,by symm]
  ·show#[[46,46],by symm,by symm]
  ·show#[[46],by symm,by symm]
  ·show#[[99],by symm,by symm]
  ·show#[[97],by symm,by symm]
  ·show#[[98],by symm,by symm]
 show q nm H1 hn h1 k1
def  joinR(n:Nat):List (List Nat)->List Nat
 | []=>[]
 | [x]=>x
 | x::y::r=>x++List.replicate n 47++joinR n (y::r)
def ra(n:Nat):∀ ps:List (List Nat),Str.join (Tx.S (List.replicate n 47)) (ps.map Tx.S)=Tx.S (joinR n ps)
 | []=>rfl
 | [x]=>rfl
 | x::y::r=>by
  have ih:=ra n (y::r);change Tx.S x++Tx.S (List.replicate n 47)++Str.join (Tx.S (List.replicate n 47)) ((y::r).map Tx.S)=Tx.S (x++List.replicate n 47++joinR n (y::r));rw[ih,Tx.lG,Tx.lG]
def Bv(n:Nat):∀ ps:List (List Nat),(∀ w∈ps,47 ∉ w/\w≠[])->Tx.words 47 (joinR (n+1) ps)=ps
 | [],_=>rfl
 | [x],h=>Tx.JO 47 x (h x ()).1 (h x ()).2
 | x::y::r,h=>by
  have ih:=Bv n (y::r) (fun w hw=>h w (AC _ hw));change Tx.words 47 (x++List.replicate (n+1) 47++joinR (n+1) (y::r))=_;rw[WF,_X,List.cons_append,Tx.B8,Tx.Mb,ih,Tx.JO 47 x (h x ()).1 (h x ()).2];rfl
def Jg(n k:Nat):∀ ps:List (List Nat),(∀ w∈ps,w.length<=k)->(joinR n ps).length<=ps.length * (k+n)
 | [],_=>At _
 | [x],h=>by
  have:=h x ();change x.length<=1 * (k+n);omega
 | x::y::r,h=>by
  have ih:=Jg n k (y::r) (fun w hw=>h w (AC _ hw));have:=h x ();change(x++List.replicate n 47++joinR n (y::r)).length<=((y::r).length+1) * (k+n);rw[sK,sK,_2,Nat.add_mul,Nat.one_mul];omega
def Y7{t:List Nat}{w:List Nat}(h:w∈Tx.words 47 t):1<=t.length:=by
 cases t with
 | nil=>cases h
 | cons a r=>simp
structure rQ(t:List Nat):Prop where
 l1:1<=t.length
 l2:t.length<=80
 all:(Tx.words 47 t).all cZ=true
 n:(Tx.words 47 t).length<=6
def  ZL:Sp:=jF fun st n H Q _=>A4 (Dr st H) (0<=n) (n<=6) (∀ t H',rQ t->Dr st H'->dq st H H'->Q (.str (Tx.S t)) H')
def Bl:T.iZ.k P w base 4 ZL:=by
 exists T.iZ,vz,cy,fun st n h=>?_;let⟨aX,hn0,Pd,q⟩:=h;show bt (b:=aO Ei) ((al (aQ 2 vz.nd (fO<$>T.bN (aa (ad 0) (aa (db gO (ad 1) bi) ae))))
 (al (MU 3 rfl vz.nd (TN:=["_law_k"]) (caps:=["_law_source_here"]) (ix:=[0]) (EZ T.Fy (aa (ad 2) ae)) (fun _ _ _ _=>by show xh) (fun _ _ _ _=>by show(il 0 (show List.Nodup (["_law_k","_law_source_here"]:List Str) by decide))) (fun _ _ _ _=>by show(abZ<$>T.qU (aa (ad 1) ae))) (.of rfl (by show#[rfl,trivial]) (by walk_at "c") rfl (by show#[#[rfl,rfl,rfl,rfl],trivial])))
 (al (aQ 4 vz.nd (ce (bP (K:=K) rfl) (cr (aa ap (aa ap (aa ap (aa ap ae))))) (fO<$>T.bN (aa (ad 0) (aa bi ae)))))
 (al (aQ 5 vz.nd (db gO (ce (bP (K:=K) rfl) (cr (aa ap (aa ap ae))) (qw Dg T.yr wO (aa (xk (em gj (fO<$>T.bN (aa (ad 0) (aa bi ae))) bi) (Dv.one (em DM (ad 2) bi))) ae))) (uZ PySem.F.slot_str_join PySem.F.type_str_join (IQ (K:=K) rfl) (ad 4) (aa (ad 3) ae))))
 (ao (aM (db gO (ad 5) (ce (bP (K:=K) rfl) (cr (aa ap (aa ap (aa ap (aa ap (aa ap (aa ap ae))))))) (fO<$>T.bN (aa (ad 0) (aa bi ae)))))))))))) ?_
 exists 4;right;show l6 aX ∅ ∅ fun d H1 d0 d1 h1 k1=>?_;let⟨m,rfl⟩:=UF d0;right;show#[[-st],#[rfl,fun i j v h1 h2=>?_],#[∅,∅],Lz m (fun i ys H'=>dq st H H'/\Dr st H'/\∃ ps:List (List Nat),ys=PV ps/\ps.all cZ=true/\ps.length=i) ∅ #[k1,h1,[],rfl,rfl,rfl] (fun i ys H1 h=>?_) (fun k ys H2 hk h R r=>?_) (fun ys H2 l h hl=>?_)]
 ·match i,h1,h2 with
  | 0,h1,h2=>cases h1;cases h2;rfl
 ·let⟨_,_,ps,rfl,_,e⟩:=h;rw[<- e];simp[PV]
 ·let⟨k2,d2,ps,rfl,hp,e⟩:=h;show#[d2,fun nm H3 hn d3 k3=>r _ _ #[k2.trans k3,d3,ps++[nm],by simp[PV],by rw[List.all_append,hp];simp[hn],by rw[sK,e];rfl]]
 ·let⟨k2,d2,ps,rfl,jN,e⟩:=h;show eP hl fun H3 s3 b3=>?_;have nl:=d2.ne hl;have d3:=d2.same s3;have k3:=k2.trans (s3.keep st);have hw:∀ w'∈ps,47 ∉ w'/\w'≠[]:=fun w' hw'=>let q:=qj (Da.mp jN w' hw');#[q.1,q.2.1]
  have h8:∀ w'∈ps,w'.length<=8:=fun w' hw'=>(qj (Da.mp jN w' hw')).2.2;have bD:ps.length<=6:=∅
  right;show jY d3 rfl () () fun v H4 hv d4 k4=>?_;let⟨j,hj,rfl⟩:∃ j:Nat,j<=1/\v=V.str (Tx.S (List.replicate (j+1) 47)):=by
   simp only[jp,kt,ww]at hv;rcases hv with rfl | rfl | rfl | rfl
   ·show#[0,⋯,by symm]
   ·show#[0,⋯,by symm]
   ·show#[0,⋯,by symm]
   ·show#[1,⋯,by symm]
  have b4:=k4 _ _ nl b3;right;have k9:ώ "/" = Tx.S [47]:=by symm
  have e0:ώ "" = Tx.S []:=by symm
  show#[fits (),fun p hp=>?_];show eP hp fun H5 s5 b5=>?_;have np:=d4.ne hp;show l6 (d4.same s5) ⋯ ⋯ fun d H6 _ _ d6 k6=>?_;have b6:=k6 _ _ np b5;have Hj:=k6 _ _ nl (s5 _ _ b4);have k36:=((k3.trans k4).trans (s5.keep st)).trans k6;have GV:=Jg (j+1) 8 ps h8;have hjb:(joinR (j+1) ps).length<=60:=wE GV (by have:ps.length * (8+(j+1))<=6 * 10:=Nat.mul_le_mul bD ∅;show this);have HW:List.foldl (fun n z=>n+z.length+(Tx.S (List.replicate (j+1) 47)).length) 0 (ps.map Tx.S)<=sizeLine:=by
   have:=FL (Tx.S (List.replicate (j+1) 47)).length (ps.map Tx.S) 0 (fun s hs=>by
    let⟨x,hx,rfl⟩:=zn.mp hs;rw[Tx.dE];show h8 x hx)
   show fits (wE this ?_);rw[Tx.dE,_2,lv];have:(8+(j+1)) * ps.length<=10 * 6:=Nat.mul_le_mul ∅ bD;omega
  have ends:∀ {v:V},v∈[V.str "",V.str "",V.str "",V.str "",V.str "",V.str "/"]->∃ sl:List Nat,(sl=[]\/sl=[47])/\v=V.str (Tx.S sl):=fun hv=>by
   simp only[jp,kt,ww]at hv;rcases hv with rfl | rfl | rfl | rfl | rfl | rfl
   ·show#[[],.inl rfl,by rw[e0]]
   ·show#[[],.inl rfl,by rw[e0]]
   ·show#[[],.inl rfl,by rw[e0]]
   ·show#[[],.inl rfl,by rw[e0]]
   ·show#[[],.inl rfl,by rw[e0]]
   ·show#[[47],.inr rfl,by rw[k9]]
  have HZ:∀ (pre:List Nat),pre.length<=1->∀ {z:Str},z=Tx.S pre->z.length+(Str.join (Tx.S (List.replicate (j+1) 47)) (ps.map Tx.S)).length<=sizeLine:=fun pre hp z e=>by
   rw[e,ra,Tx.dE,Tx.dE];show fits ∅
  have Gz:∀ (pre sl:List Nat),pre.length<=1->(sl=[]\/sl=[47])->∀ {z:Str},z=Tx.S pre->(z++Str.join (Tx.S (List.replicate (j+1) 47)) (ps.map Tx.S)).length+(Tx.S sl).length<=sizeLine:=fun pre sl hp hs z e=>by
   have:sl.length<=1:=by rcases hs with rfl | rfl <;> simp
   rw[e,ra,Tx.lG,Tx.dE,Tx.dE,sK];show fits ∅
  have fin:∀ (pre sl:List Nat) H7,(pre=[47]\/pre=[]/\0 < m)->(sl=[]\/sl=[47])->Dr st H7->dq st H6 H7->Q (V.str (Tx.S (pre++joinR (j+1) ps++sl))) H7:=fun pre sl H7 nT iK d7 k7=>by
   have zC:Tx.words 47 (pre++joinR (j+1) ps)=ps:=by
    rcases nT with rfl | ⟨rfl,_⟩
    ·show(Tx.Ks 47 _).trans (Bv j ps hw)
    ·show Bv j ps hw
   have G6:Tx.words 47 (pre++joinR (j+1) ps++sl)=ps:=by
    rcases iK with rfl | rfl
    ·rw[_u];show zC
    ·show(Tx.B8 47 _ []).trans (by rw[zC];show _u _)
   have tj:pre.length<=1:=by rcases nT with rfl | ⟨rfl,_⟩ <;> simp
   have FU:sl.length<=1:=by rcases iK with rfl | rfl <;> simp
   show q _ _ #[?_,by rw[sK,sK];omega,by rw[G6];show jN,by rw[G6];show bD] d7 (k36.trans k7);rcases nT with rfl | ⟨rfl,hm⟩
   ·simp
   ·cases Hv:ps with
    | nil=>rw[Hv]at e;simp at e;omega
    | cons x r=>show Y7 (w:=x) (by rw[<- Hv,G6,Hv];simp)
  dsimp only;show gL (fun _=>?_) (fun _=>?_)
  ·simp only[bO,b6];by_cases hm:0 < m
   ·rw[ul (by omega:(0:Int) < (m:Int)),xL rfl,show cJ [V.str "/",V.str ""] 1=some (V.str "") from gv (j:=1) rfl];show#[_,aI.of Hj,ps.map Tx.S,rfl,HW,HZ [] () e0,jY d6 rfl () () fun v H7 hv d7 k7=>?_];let⟨sl,iK,rfl⟩:=ends hv;have:=fin [] sl H7 (.inr #[rfl,hm]) iK d7 k7;rw[<- Tx.lG,<- Tx.lG,<- ra,<- e0]at this;show#[Gz [] sl () iK e0,this]
   ·rw[mo (by omega:¬ (0:Int) < (m:Int)),wP (by nofun),show cJ [V.str "/",V.str ""] 0=some (V.str "/") from gv (j:=0) rfl];show#[_,aI.of Hj,ps.map Tx.S,rfl,HW,HZ [47] () k9,jY d6 rfl () () fun v H7 hv d7 k7=>?_];let⟨sl,iK,rfl⟩:=ends hv;have:=fin [47] sl H7 (.inl rfl) iK d7 k7;rw[<- Tx.lG,<- Tx.lG,<- ra,<- k9]at this;show#[Gz [47] sl () iK k9,this]
  ·simp only[bO,b6,show cJ [V.str "/",V.str ""] 0=some (V.str "/") from gv (j:=0) rfl];show#[_,aI.of Hj,ps.map Tx.S,rfl,HW,HZ [47] () k9,jY d6 rfl () () fun v H7 hv d7 k7=>?_];let⟨sl,iK,rfl⟩:=ends hv;have:=fin [47] sl H7 (.inl rfl) iK d7 k7;rw[<- Tx.lG,<- Tx.lG,<- ra,<- k9]at this;show#[Gz [47] sl () iK k9,this]
def  gS(H:Hp)(p:ϋ):Res->Prop
 | .found k ns=>H p=!.tup [.str "found",.int (k:Int),.str (BV ns)]
 | .failed k y=>H p=!.tup [.str "failed",.int (k:Int),.str y]
 | .ring ns=>∃ rl,H p=!.tup [.str "ring",-rl]/\H rl=!.lst (nV ns)
def gS.same{H H':Hp}{p:ϋ}(s:aj H H'):∀ {r:Res},gS H p r->gS H' p r
 | .found _ _,e=>s _ _ e
 | .failed _ _,e=>s _ _ e
 | .ring _,⟨l,e,f⟩=>#[l,s _ _ e,s _ _ f]
def  Y9(N:Cn):Sp:=jy fun fd H Q _=>X1 fun r=>A2 (jq N H fd r) (∀ p H',aj H H'->H p=none->gS H' p r->Q (-p) H')
def ME:T.lJ.k P w base 1 (Y9 T.cn):=by
 exists T.lJ,aeL,ee,fun fd h=>?_;let⟨e,aS,q⟩:=h;show bt (b:=aO Ds) ((al (aY (cN (df (wQ (K:=K) rfl) T.i8 iX (aa (ad 0) (aa (dL (-T.dX) T.xT rfl) ae)))) (ao (aM (dl (aa ap (aa (am T.ig T.m9 (ad 0)) (aa (am T.ig T.Lk (ad 0)) ae)))))) bv)
 (al (aY (cN (df (wQ (K:=K) rfl) T.i8 iX (aa (ad 0) (aa (dL (-T.eJ) T.N7 rfl) ae)))) (ao (aM (dl (aa ap (aa (am T.mW T.Iv (ad 0)) (aa (am T.mW T.LI (ad 0)) ae)))))) bv)
 (ao (aM (dl (aa ap (aa (am T.rB T.Jo (ad 0)) ae)))))))) ?_
 exists 0;right;cases e with
 | found k ns =>
  let⟨bu,aS⟩:=aS;show#[_,_,_,.of (.ins aS T.ig T.q1 T.q2 T.q3 T.q4),.cls T.q5,bE ?_];show#[fd,_,_,_,rfl,aS,rfl,fd,_,_,_,rfl,aS,rfl,fits (),fun p hp=>?_];show q p _ (aj.upd hp) hp aw
 | failed k y =>
  let⟨bu,aS⟩:=aS;show#[_,_,_,.of (.ins aS T.mW T.q6 T.q2 T.q3 T.q7),.cls T.q8,aW (ai ?_)];left;show#[_,_,_,.of (.ins aS T.mW T.q6 T.q2 T.q3 T.q7),.cls T.q12,bE ?_];show#[fd,_,_,_,rfl,aS,rfl,fd,_,_,_,rfl,aS,rfl,fits (),fun p hp=>?_];show q p _ (aj.upd hp) hp aw
 | ring ns =>
  let⟨bu,rl,aS,fG⟩:=aS;show#[_,_,_,.of (.ins aS T.rB T.yy T.q2 T.q3 T.yV),.cls T.AD,aW (ai ?_)];left;show#[_,_,_,.of (.ins aS T.rB T.yy T.q2 T.q3 T.yV),.cls T.q18,aW ?_];left;show#[fd,_,_,_,rfl,aS,rfl,fits (),fun p hp=>?_];show q p _ (aj.upd hp) hp #[rl,aw,(aj.upd hp) _ _ fG]
def DE.flat{K:ν}{H:Hp}{v:V}(h:cH v=true):∀ n,DE K H n v v
 | 0=>#[h,h,NN h]
 | _+1=>.inl #[h,h,NN h]
def DE.pj{K:ν}{H:Hp}{xs:List V}{n:Nat}(h:xs.all cH=true):∀ i (h1:i < xs.length) (h2:i < xs.length),DE K H n xs[i] xs[i]:=fun i h1 _=>DE.flat (Da.mp h _ (_8 h1)) n
def abw(ns:List Nat):(nV ns).all cH=true:=by
 rw[Da];intro v hv;let⟨k,_,rfl⟩:=zn.mp hv;rfl
def gS.de{K:ν}{H:Hp}{p p2:ϋ}{n:Nat}:∀ {r:Res},gS H p r->gS H p2 r->DE K H (n+2) (-p) (-p2)
 | .found k ns,e,f=>.inr #[_,_,_,_,rfl,rfl,.inr #[bH.of e,bH.of f],rfl,DE.pj rfl]
 | .failed k y,e,f=>.inr #[_,_,_,_,rfl,rfl,.inr #[bH.of e,bH.of f],rfl,DE.pj rfl]
 | .ring ns,⟨l,e,el⟩,⟨l2,f,fl⟩=>.inr #[_,_,_,_,rfl,rfl,.inr #[bH.of e,bH.of f],rfl,fun i h1 h2=>by
   match i,h1 with
   | 0,_=>show DE.flat (v:=.str "ring") rfl _
   | 1,_=>show .inr #[l,l2,_,_,rfl,rfl,.inl #[aI.of el,aI.of fl],rfl,DE.pj (abw ns)]]
def  aeG(N:Cn):Sp:=qk fun f d H Q _=>((∃ fd p r,H f=!.tup [.str "way",-fd]/\jq N H fd r/\H d=!.tup [.str "way",-p]/\gS H p r)\/∃ y v,y≠("way":Str)/\cH v=true/\H f=!.tup [.str y,v]/\H d=!.tup [.str y,v])/\∀ H',aj H H'->Q (.bl true) H'
def adV:T.r6.k P w base 2 (aeG T.cn):=by
 exists T.r6,ac5,kG,fun f d h=>?_;let⟨h,q⟩:=h;show bt (b:=aO Df) ((al (aY (bw gj (ce (bP (K:=K) rfl) (ad 0) bi) ap) (ao (aM (em (qO (K:=K) 4 rfl hr.mX) (ad 1) (dl (aa ap (aa (ME<$>T.lJ (aa (ce (bP (K:=K) rfl) (ad 0) bi) ae)) ae)))))) bv)
 (ao (aM (em (qO (K:=K) 4 rfl hr.mX) (ad 0) (ad 1)))))) ?_
 exists 0;right;rcases h with ⟨fd,p,r,hf,hr',hd,ht⟩ | ⟨y,v,hy,hv,hf,hd⟩
 ·simp only[bO,hf,gy];show fb (ul (by trivial)) ?_;rw[show cJ [V.str "way",V.ref fd] 1=some (V.ref fd) from gv (j:=1) rfl];show#[r,hr',fun p2 H2 s2 fj fh=>#[fits (),fun p3 jP=>?_]];have s3:=aj.upd (o:=.tup [V.str "way",V.ref p2]) jP;show#[_,_,.inr #[bH.of (s3 _ _ (s2 _ _ hd)),bH.of aw],rfl,fun i h1 h2=>?_,q _ (s2.trans s3)]
  match i,h1 with
  | 0,_=>show DE.flat (v:=.str "way") rfl _
  | 1,_=>show gS.de (n:=2) ((ht.same s2).same s3) (fh.same s3)
 ·simp only[bO,hf,gy];show eF (mo hy) ?_;left;show#[_,_,.inr #[bH.of hf,bH.of hd],rfl,DE.pj (by change(true && (cH v && true))=true;rw[hv];rfl),q H fun _ _ e=>e]
def  ab2(CH CS CT:ϋ):Sp:=u7 fun x n m H Q _=>X6 fun A L M (k:Nat) a t=>A6 (aF CH CS CT H A L M) (A.t=x) (n=(k:Int)) (L[k]?=!a) (M.ts[k]?=!t) (∀ H',aF CH CS CT H' A L { M with ts:=M.ts.set k { t with tx:=m } }->Kp [A.t,a.th] H H'->Q .au H')
def K2:T.oC.k P w mg base 3 (ab2 T.aK T.aR T.bb):=by
 exists T.oC,Ms,ni,fun x n m h=>?_;let⟨AA,L,M,k,a,t,i,rfl,rfl,ha,aE,q⟩:=h;let⟨fs,c,hx,aU,sf⟩:=i.h;let⟨gs,c2,ht,cK,sg⟩:=i.t;have cA:=eG i ha aE;let⟨ks,ho,gZ,so⟩:=cA.o;have off:=i.nz ha;have n1:AA.t≠a.th:=off _ (by simp[Ad.w]) _ (by simp[Ta.l]);have n2:AA.a≠a.th:=off _ (by simp[Ad.w]) _ (by simp[Ta.l]);have n3:=i.own ha;show bt (b:=aO DV) ((al (aQ 3 Ms.nd (gM<&>T.cR (ad 0) (aa (ad 1) ae)))
 (al (iT T.b8 T.qz iR (ad 0) bi)
 (ao (bG T.di T.AW (ad 3) (ad 2)))))) ?_
 exists 1;right;show mI ht sg (ic i ha aE ?_);right;show#[AA.t,_,_,.int c2,rfl,ht,(sg _).trans rfl,_,_,rfl,rfl,_,_,ht,∅,?_];left;show#[a.th,_,_,rfl,by rw[ag (pp n1)];show ho,∅,?_];show q _ (i.write (t':={ t with tx:=m }) ha #[fs,c,by rw[ag n2,ag i.aT];show hx,aU,sf] #[_,c2+1,by rw[ag n1,aw],by rw[eX (u:=.int c2) ((sg _).trans rfl)];show cK,fun f=>by rw[(sg.put "changes" (.int (c2+1))) f];rfl] #[#[_,aw,?_,fun f=>(so.put "text" (.str m) f).trans rfl],?_,?_] (fun b o hb e=>?_)) (fun b o hb e=>?_)
 ·rw[eX (u:=.str t.tx) ((so _).trans rfl)];show gZ
 ·rw[ag (pp n3.1),ag (pp (off _ (by simp[Ad.w]) _ (by simp[Ta.l])))];show cA.nm
 ·rw[ag (pp n3.2.1),ag (pp (off _ (by simp[Ad.w]) _ (by simp[Ta.l])))];show cA.pl
 ·simp only[jp,kt,ww,Re]at hb;rw[ag hb.2.2.1,ag hb.2.1];show e
 ·simp only[jp,kt,ww,Re]at hb;rw[ag hb.2,ag hb.1];show e
inductive lN(d:Wd)(t:List Nat)(kd bad sg wd:Str):Sum Rf Nat->Prop
 | way {e}:eD d t e->(∀ k ns,e.res≠.found k ns)->lN d t kd bad sg wd (.inl (.way e.res))
 | kind {e k ns a th}:eD d t e->e.res=.found k ns->d.L[k]?=!a->d.M.ts[k]?=!th->th.kd≠kd->th.kd=bad->lN d t kd bad sg wd (.inl (.bR bad))
 | may {e k ns a th}:eD d t e->e.res=.found k ns->d.L[k]?=!a->d.M.ts[k]?=!th->th.kd=kd->aV sg (cf th d.z)=false->lN d t kd bad sg wd (.inl (.bR wd))
 | ok {e k ns a th}:eD d t e->e.res=.found k ns->d.L[k]?=!a->d.M.ts[k]?=!th->th.kd=kd->aV sg (cf th d.z)=true->lN d t kd bad sg wd (.inr k)
def  Iy(N:Cn):Sp:=rE fun h z pt H Q E=>X6 fun A L M root t e=>A6 (pt=Tx.S t) (aF N.CH N.CS N.CT H A L M) (A.a=h) (eD #[L,M,z,true,root] t e) (∀ k ns,e.res=.found k ns->∃ a t,L[k]?=!a/\M.ts[k]?=!t/\(t.kd≠("folder":Str)->∀ H',aj H H'->Q (.int (k:Int)) H')/\(t.kd=("folder":Str)->da N H E (.bR "folder"))) ((∀ k ns,e.res≠.found k ns)->da N H E (.way e.res))
def NU:aB P w K mg base (bc P w) 16 T.lO.f T.lO.d ["house","asker","path"] (Iy T.cn):=by
 show T.lO.F.cS MH (fun _ _ _ _ h=>kj h fun _ _ _ _=>rfl) fun ah A _ s H vs Q E hr h=>kj h fun hh z pt h=>?_;let⟨AA,L,M,root,t,e,rfl,i,rfl,pg,q1,q2⟩:=h;show bt (b:=aO CZ) ((al (aQ 3 MH.nd (Mq<*>T.l9 (aa (ad 0) (aa (ad 1) (aa (ad 2) ae)))))
 (al (aY (cN (Oo<$>T.mj (aa (ad 0) (aa (ad 3) ae)))) (ao (iY iQ rfl rfl T.iU T.hV T.jr (jH T) hr.m T.gF.b (aa ap ae))) bv)
 (ao (aM (ad 3)))))) ?_
 exists 1;right;show#[AA,L,M,root,t,e,rfl,i,rfl,pg,fun k ns he H1 s1=>?_,q2];let⟨a,t',ha,ht,r1,r2⟩:=q1 k ns he;right;show#[AA,L,M,k,a,t',i.same s1,rfl,rfl,ha,ht,?_];dsimp only;by_cases hk:t'.kd=("folder":Str)
 ·rw[ul hk];show bE #[_,rfl,fun d hd=>(r2 hk).raise s1 hd]
 ·rw[mo hk];show aW (r1 hk _ s1)
def lN.fi{N:Cn}{H:Hp}{A:Ad}{L:List Ta}{M:Hs}{z sg wd:Str}{root:Nat}{t:List Nat}{x:Sum Rf Nat}{Q:VK}{E:XK}(i:aF N.CH N.CS N.CT H A L M)(hx:lN #[L,M,z,true,root] t "file" "folder" sg wd x)(r:∀ y,x=.inl y->da N H E y)(q:∀ k a th H',aj H H'->L[k]?=!a->M.ts[k]?=!th->(aV sg (cf th z)=true->x=.inr k)->(aV sg (cf th z)=false->x=.inl (.bR wd))->(aH (sD M.ro) (.inr z)).isSome=true->Q (.int (k:Nat)) H'):Iy N [-A.a,.str z,.str (Tx.S t)] H Q E:=by
 have f1:("file":Str) ≠ "folder" := by symm
 cases hx with
 | way pw hn=>show#[A,L,M,root,t,_,rfl,i,rfl,pw,fun k ns h=>absurd h (hn k ns),fun _=>r _ rfl]
 | kind pw hf ha ht h1 h2=>show#[A,L,M,root,t,_,rfl,i,rfl,pw,fun k ns h=>by rw[hf]at h;cases h;show#[_,_,ha,ht,fun z=>absurd h2 z,fun _=>r _ rfl],fun hn=>absurd hf (hn _ _)]
 | may pw hf ha ht h1 h2=>show#[A,L,M,root,t,_,rfl,i,rfl,pw,fun k ns h=>by rw[hf]at h;cases h;show#[_,_,ha,ht,fun _ H' s=>q _ _ _ _ s ha ht (fun e=>by rw[h2]at e;cases e) (fun _=>rfl) pw.hz,fun z=>absurd (h1.symm.trans z) f1],fun hn=>absurd hf (hn _ _)]
 | ok pw hf ha ht h1 h2=>show#[A,L,M,root,t,_,rfl,i,rfl,pw,fun k ns h=>by rw[hf]at h;cases h;show#[_,_,ha,ht,fun _ H' s=>q _ _ _ _ s ha ht (fun _=>rfl) (fun e=>by rw[h2]at e;cases e) pw.hz,fun z=>absurd (h1.symm.trans z) f1],fun hn=>absurd hf (hn _ _)]
def  O1(N:Cn):Sp:=D6 fun h z pt tx H Q E=>X6 fun A L M root t x=>A9 (pt=Tx.S t) (tx.length<=60) (aF N.CH N.CS N.CT H A L M) (A.a=h) (fg t) (lN #[L,M,z,true,root] t "file" "folder" "w" "write" x) ((aH (sD M.ro) (.inr z)).isSome=true) (∀ y,x=.inl y->da N H E y) (∀ k a th,x=.inr k->L[k]?=!a->M.ts[k]?=!th ->
   ∀ H',aF N.CH N.CS N.CT H' A L { M with ts:=M.ts.set k { th with tx:=tx } }->Kp [A.t,a.th] H H'->Q .au H')
def aas:aB P w K mg base (bc P w) 17 T.rH.f T.rH.d ["house","asker","path","text"] (O1 T.cn):=by
 show T.rH.F.cS MS (fun _ _ _ _ h=>yT h fun _ _ _ _ _=>rfl) fun ah A _ s H vs Q E hr h=>yT h fun hh z pt tx h=>?_;let⟨AA,L,M,root,t,x,rfl,Al,i,rfl,hp,hx,hz,r,q⟩:=h;show bt (b:=aO Fw) ((al (aP (cW T.aJ T.dD.h (jD T) hr.m T.dD.b .nil cg (ad 0) (aa (ad 1) ae)))
 (al (aP (jI<$>T.cz (aa (ad 2) ae)))
 (al (aP (CP<$>T.je (aa (ad 3) ae)))
 (al (aQ 4 MS.nd (NU<*>T.lO (aa (ad 0) (aa (ad 1) (aa (ad 2) ae)))))
 (al (aP (xH<*>T.gg (aa (ad 0) (aa (ad 1) (aa (ad 4) (aa ap (aa ap ae)))))))
 (ao (aP (K2*>T.oC (am T.aJ T.eO (ad 0)) (aa (ad 4) (aa (ad 3) ae))))))))))) ?_
 exists 1;let⟨kX,gc,gh,_,en⟩:=i.h;right;show mI gh en (kS i hz (ai ?_));left;show#[t,rfl,hp.l1,hp.l2,hp.all,fun H1 l p s1 _ hl hp=>ai ?_];left;show#[Al,ai ?_];left;show lN.fi (i.same s1) hx (fun y e=>(r y e).of s1) fun k a th H2 s2 ha ht o1 o2 hz=>ai ?_;left;have dZ:=s1.trans s2;have i2:=i.same dZ;show#[AA,L,M,th,k,rfl,i2,rfl,hz,by symm,ht,fun hm=>?_,fun hm=>(r _ (o2 hm)).of dZ];left;let⟨z8,zD,lh,_,kY⟩:=i2.h;let⟨gs,c2,pX,cK,sg⟩:=i2.t;show fI lh kY rfl (mI pX sg #[AA,L,M,k,a,th,i2,rfl,rfl,ha,ht,fun H3 i3 k3=>q k a th (o1 hm) ha ht H3 i3 ((Kp.of dZ).trans k3)])
def acZ:T.uj.k P w mg base 1 (fun vs H Q _=>∃ A L M,∃ k:Nat,vs=[-A.a,.int (k:Int)]/\aF T.aK T.aR T.bb H A L M/\M.ov=[]/\Q (.bl false) H):=by
 exists T.uj,Zo,⟨_,_,_,_,e,_⟩;let⟨AA,L,M,k,e,i,ho,q⟩:=h;subst e;let⟨fs,c,hx,aU,sf⟩:=i.h;show bt (b:=aO DR) ((ao (aM (XS (ei hr) (ad 1) (am T.aJ T.wK (ad 0)))))) ?_;exists 0;left;show(fI hx sf rfl #[AA.ov,none,rfl,.inl #[_,.inl (k:Int),.inl i.ov,rfl,by rw[ho];rfl],q])
def aau:T.vo.k P w mg base 1 (fun vs H Q _=>∃ A L M,∃ k:Nat,vs=[-A.a,.int (k:Int)]/\aF T.aK T.aR T.bb H A L M/\(∀ e∈M.ro,e.2≠k)/\∀ H',aj H H'->Q (.bl false) H'):=by
 exists T.vo,Xd,⟨_,_,_,_,e,_⟩;let⟨AA,L,M,k,e,i,ho,q⟩:=h;subst e;let⟨fs,c,hx,aU,sf⟩:=i.h;show bt (b:=aO Bc) ((ao (aM (em (yX (K:=K) rfl) (ad 1) (VG rfl T.rC (am T.aJ T.qg (ad 0))))))) ?_;exists 0;left;show(fI hx sf rfl #[AA.ro,_,rfl,.inl i.ro,fun l hl=>?_]);have e:gE (V.int (k:Int)) ((sD M.ro).map (·.2))=false:=by
  unfold gE;rw[List.any_eq_false];intro v hv;let⟨p,hp,rfl⟩:=zn.mp hv;let⟨e,he,rfl⟩:=zn.mp hp;have h:=ho e he;change ¬ eV (.int (e.2:Int)) (.int (k:Int))=true;simp[eV];omega
 show#[_,.inl (aI.of aw),rfl,?_,?_]
 ·rw[Da];intro v hv;let⟨p,hp,rfl⟩:=zn.mp hv;let⟨e,he,rfl⟩:=zn.mp hp;rfl
 ·rw[e];show q _ (aj.upd hl)
def  ZC(N:Cn):Sp:=fun vs H Q E=>∃ A L M,∃ k:Nat,∃ a t,vs=[-A.a,.int (k:Int)]/\aF N.CH N.CS N.CT H A L M/\L[k]?=!a/\M.ts[k]?=!t/\M.ov=[]/\(∀ e∈M.ro,e.2≠k)/\t.aG.length < 64/\((t.kd=("folder":Str)->t.aG=[])->∀ H',aj H H'->Q .au H')/\(t.kd=("folder":Str)->t.aG≠[]->da N H E (.bR "full"))
def acj:aB P w K mg base (bc P w) 3 T.rn.f T.rn.d ["house","number"] (fun vs H Q _=>∃ A L M,∃ k:Nat,vs=[-A.a,.int (k:Int)]/\aF T.aK T.aR T.bb H A L M/\M.ov=[]/\Q .au H):=by
 show T.rn.F.cS XT (fun vs H Q E h=>by let⟨_,_,_,_,e,_⟩:=h;rw[e];rfl) (fun ah A _ s H vs Q E hr h=>?_);let⟨AA,L,M,k,e,i,ho,q⟩:=h;subst e;let⟨fs,c,hx,aU,sf⟩:=i.h;show bt (b:=aO Ek) ((ao (aY (cN (acZ<*T.uj (ad 0) (aa (ad 1) ae))) (ao (iY iQ rfl rfl T.iU T.hV T.jr (jH T) hr.m T.gF.b (aa ap ae))) bv))) ?_;exists 0;left;show mI hx sf #[AA,L,M,k,rfl,i,ho,aW q]
def Uw:aB P w K mg base (bc P w) 5 T.se.f T.se.d ["house","number"] (ZC T.cn):=by
 show T.se.F.cS T1 (fun vs H Q E h=>by let⟨_,_,_,_,_,_,e,_⟩:=h;rw[e];rfl) (fun ah A _ s H vs Q E hr h=>?_);let⟨AA,L,M,k,a,t,e,i,ha,ht,ho,n8,iG,q1,q2⟩:=h;subst e;show bt (b:=aO Cg) ((ao (aY (cN (Oo<$>T.mj (aa (ad 0) (aa (ad 1) ae)))) (al (aP (acj<*>T.rn (aa (ad 0) (aa (ad 1) ae))))
   (al (aY (cN (aau<*T.vo (ad 0) (aa (ad 1) ae))) (ao (iY iQ rfl rfl T.iU T.hV T.jr (jH T) hr.m T.gF.b (aa ap ae))) bv)
   (ao (aY (bw (Ll hr.nA) (aaT<*T.ue (ad 0) (aa (ad 1) ae)) (cr ae)) (ao (iY iQ rfl rfl T.iU T.hV T.jr (jH T) hr.m T.gF.b (aa ap ae))) bv)))) bv))) ?_
 exists 0;left;show#[AA,L,M,k,a,t,i,rfl,rfl,ha,ht,?_];dsimp only;by_cases hk:t.kd=("folder":Str)
 ·rw[ul hk];show bE (ai ?_);left;show#[AA,L,M,k,rfl,i,ho,ai ?_];let⟨fs,c,hx,aU,sf⟩:=i.h;left;show mI hx sf #[AA,L,M,k,rfl,i,n8,fun H1 s1=>aW ?_];have i1:=i.same s1;let⟨gW,c1,bJ,iF,c8⟩:=i1.h;left;show mI bJ c8 #[AA,L,M,k,a,t,i1,rfl,rfl,ha,ht,iG,fun l hl=>?_];show#[fits (),fun p hp=>#[_,[],by rw[ag (bj aw hp)];show aw,aw,?_]];have s2:=s1.trans ((aj.upd (o:=.lst (List.map V.str (gP (List.map (fun x=>x.fst) t.aG)))) hl).trans (aj.upd (o:=.lst []) hp));by_cases he:t.aG=[]
  ·rw[ul (by rw[he];show YQ)];show aW (q1 (fun _=>he) _ s2)
  ·rw[mo fun z=>he (Rs.mp (by rw[<- lv (f:=fun x=>x.fst),<- DT,z];rfl))];show bE #[_,rfl,fun d hd=>(q2 hk he).raise s2 hd]
 ·rw[mo hk];show aW (q1 (fun z=>absurd z hk) H (aj.refl H))
def  yH(d:Wd)(t:List Nat)(r:Sum Rf (Nat×List Nat))(x:Sum Rf (Nat×List Nat×Nat)):Prop :=
 kD d t r/\(∀ y,r=.inl y->x=.inl y)/\∀ f nm,r=.inr (f,nm)->isNm nm=true/\∃ a tf,d.L[f]?=!a/\d.M.ts[f]?=!tf/\(aV ("w":Str) (cf tf d.z)=false->x=.inl (.bR "kept")) /\
  (aV ("w":Str) (cf tf d.z)=true->(aH (sD tf.aG) (.inr (Tx.S nm))=none->x=.inl (.bR "none"))/\∀ c:Nat,aH (sD tf.aG) (.inr (Tx.S nm))=!.int (c:Int)->∃ ac tc,d.L[c]?=!ac/\d.M.ts[c]?=!tc/\f≠c/\(f,Tx.S nm)∈tc.bK/\(∀ e∈d.M.ro,e.2≠c)/\tc.aG.length < 64/\(tc.kd=("folder":Str)->tc.aG≠[]->x=.inl (.bR "full"))/\((tc.kd=("folder":Str)->tc.aG=[])->x=.inr (f,nm,c)))
def  Kf(N:Cn):Sp:=fun vs H Q E=>∃ A L M z root t r x,vs=[-A.a,.str z,.str (Tx.S t)]/\fg t/\aF N.CH N.CS N.CT H A L M/\(aH (sD M.ro) (.inr z)).isSome=true/\M.ov=[]/\yH #[L,M,z,true,root] t r x/\(∀ y,x=.inl y->da N H E y) /\
 ∀ f nm c af tf ac tc,x=.inr (f,nm,c)->L[f]?=!af->M.ts[f]?=!tf->L[c]?=!ac->M.ts[c]?=!tc->aH (sD tf.aG) (.inr (Tx.S nm))=!.int ((c:Nat):Int)->∀ H',aF N.CH N.CS N.CT H' A L (gu M f c tf tc (Tx.S nm))->Kp [A.t,af.nm,ac.pl] H H'->Q .au H'
def SX:aB P w K mg base (bc P w) 14 T.qT.f T.qT.d ["house","asker","path"] (Kf T.cn):=by
 show T.qT.F.cS D4 (fun vs H Q E h=>by let⟨_,_,_,_,_,_,_,_,e,_⟩:=h;rw[e];rfl) (fun ah A _ s H vs Q E hr h=>?_);let⟨AA,L,M,z,root,t,r,x,e,pt,i,hz,hov,⟨hs,g1,g2⟩,q1,q2⟩:=h;subst e;let⟨kX,gc,gh,mC,en⟩:=i.h;show bt (b:=aO Az) ((al (aP (cW T.aJ T.dD.h (jD T) hr.m T.dD.b .nil cg (ad 0) (aa (ad 1) ae)))
   (al (aQ 3 D4.nd (L7<*>T.l7 (aa (ad 0) (aa (ad 1) (aa (ad 2) ae)))))
   (al (aP (OH<*>T.lV (aa (ad 0) (aa (ad 1) (aa (am T.jZ T.rN (ad 3)) ae)))))
   (al (aQ 4 D4.nd (J5<$>T.lS (aa (ad 0) (aa (ad 3) ae))))
   (al (aY (bw uD (ad 4) au) (ao (iY iQ rfl rfl T.iU T.hV T.jr (jH T) hr.m T.gF.b (aa ap ae))) bv)
   (al (aP (Uw<*>T.se (aa (ad 0) (aa (ad 4) ae))))
   (ao (aP (MJ*>T.ot (am T.aJ T.eO (ad 0)) (aa (am T.jZ T.rN (ad 3)) (aa (am T.jZ T.y4 (ad 3)) ae)))))))))))) ?_
 exists 2;right;show mI gh en (kS i hz (ai ?_));left;show#[AA,L,M,root,t,r,rfl,pt,i,rfl,hs,fun y e=>q1 y (g1 y e),fun f nm e y dy H1 hy s1 pM=>ai ?_];let⟨cB,af,tf,eI,bo,g3,g4⟩:=g2 f nm e;have i1:=i.same s1;left;show#[y,_,_,_,rfl,pM,rfl,AA,L,M,tf,f,rfl,i1,rfl,hz,bo,fun hw=>ai ?_,fun hw=>(q1 _ (g3 hw)).of s1];let⟨g5,g6⟩:=g4 hw;left;show#[AA,L,M,af,tf,dy,nm,f,i1,rfl,pM,cB,eI,bo,fun H2 s2=>ai ?_];have dZ:=s1.trans s2;cases hv:aH (sD tf.aG) (.inr (Tx.S nm)) with
 | none =>
  left;show#[by trivial,bE #[_,rfl,fun d hd=>(q1 _ (g5 hv)).raise dZ hd]]
 | some v =>
  let⟨c,rfl⟩:=Fu hv;let⟨ac,tc,dC,bT,mK,bD,n8,iG,g7,g8⟩:=g6 c hv;left;show#[by trivial,aW (ai ?_)];left;show#[AA,L,M,c,ac,tc,rfl,i.same dZ,dC,bT,hov,n8,iG,fun hk H3 s3=>?_,fun h1 h2=>(q1 _ (g7 h1 h2)).of dZ];have qa:=dZ.trans s3;have i3:=i.same qa;let⟨iE,c3,dB,_,dO⟩:=i3.h;let⟨gs3,c4,vO,_,sg3⟩:=i3.t;have Q5:=s3 _ _ (s2 _ _ pM);left;show(fI dB dO rfl (mI vO sg3 #[y,_,_,_,rfl,Q5,rfl,y,_,_,_,rfl,Q5,rfl,AA,L,M,f,af,tf,i3,rfl,rfl,eI,bo,.inr #[c,ac,tc,hv,dC,bT,mK,bD,fun H4 i4 k4=>q2 f nm c af tf ac tc (g8 hk) eI bo dC bT hv H4 i4 ((Kp.of qa).trans k4)]]))
structure Hw where
 no:Nat
 x:ϋ
 dx:ϋ
 th:Nat
 rg:Str
def  gq(hs:List Hw):List (Key×V):=hs.map fun e=>(.inl (e.no:Int),-e.x)
def  K8(e:Hw):List (Str×V):=az "rights" (.str e.rg) (az "thing" (.int e.th) [])
structure fv(CO:ϋ)(H:Hp)(A:Ad)(L:List Ta)(hs:List Hw):Prop where
 d:H A.ho=!.dK (gq hs)
 n:A.ho ∉ A.w++L.flatMap Ta.l
 o:∀ e∈hs,H e.x=!.ins CO e.dx (K8 e)
 f:∀ e∈hs,e.x ∉ A.w++L.flatMap Ta.l
 lt:∀ e∈hs,e.no < A.hg
 pw:hs.Pairwise fun a b=>a.no < b.no
def Xa:T.uG.k P w mg base 1 (yN T.ck "thing" "rights"):=by
 exists T.uG,Y5,kx,fun x v1 v2 h=>?_;let⟨dx,hx,q⟩:=h;show#[_,((al (bG T.m5 T.xC (ad 0) (ad 1))
 (ao (bG T.m5 T.yk (ad 0) (ad 2))))).h,?_]
 exists 0;right;show#[x,dx,_,rfl,hx,⋯,?_];show#[x,dx,_,rfl,aw,by walk_at "f",?_];rw[ku];show q
def aeF{hs:List Hw}{n:Nat}(h:∀ e∈hs,e.no≠n):aH (gq hs) (.inl (n:Int))=none:=by
 unfold aH gq;rw[Option.map_eq_none_iff,Jan];intro x hx;let⟨e,he,rfl⟩:=zn.mp hx;intro z;have z':(e.no:Int)=n:=by simpa using z
 show h e he ∅
def nw'{CO:ϋ}{H:Hp}{A:Ad}{L:List Ta}{hs:List Hw}{e:Hw}(h:fv CO H A L hs)(he:e∈hs):e.x ∉ [A.a,A.ho]:=by
 simp only[jp,kt,ww,Re];show#[fun z=>h.f e he (by rw[z];simp[Ad.w]),cC (h.o e he) h.d (by nofun)]
def W2{CH CS CT:ϋ}{H H':Hp}{A:Ad}{L:List Ta}{M:Hs}{W:List ϋ}{fs:List (Str×V)}{c:Int}{n:Nat}(i:aF CH CS CT H A L M)(k:Kp W H H')(hx:H' A.a=!.ins CH A.dx (az "holds_given" (.int ((n:Int)+1)) fs))(hl:(az "holds_given" (.int ((n:Int)+1)) fs).length<=40)(sf:dg fs (px c A))(nw:∀ b∈A.w++L.flatMap Ta.l,b≠A.a->b ∉ W):aF CH CS CT H' { A with hg:=n+1 } L M:=by
 have nd:=i.nd;have na:∀ b∈A.w.tail++L.flatMap Ta.l,b≠A.a:=fun b hb e=>(Ch.mp (show(A.a::(A.w.tail++L.flatMap Ta.l)).Nodup from nd)).1 (e ▸ hb);have k':∀ b∈A.w.tail++L.flatMap Ta.l,b ∉ W:=fun b hb=>nw b (AC A.a hb) (na b hb);show#[#[_,c,hx,hl,fun f=>by rw[(sf.put "holds_given" (.int ((n:Int)+1))) f];rfl],?_,k _ _ (k' _ (by simp[Ad.w])) i.ml,i.len,fun j t e=>?_,k _ _ (k' _ (by simp[Ad.w])) i.ro,k _ _ (k' _ (by simp[Ad.w])) i.st,k _ _ (k' _ (by simp[Ad.w])) i.tr,k _ _ (k' _ (by simp[Ad.w])) i.ov,k _ _ (k' _ (by simp[Ad.w])) i.un,i.nd]
 ·let⟨fs,c,e,r⟩:=i.t;show#[fs,c,k _ _ (k' _ (by simp[Ad.w])) e,r]
 ·let⟨a,e1,h⟩:=i.th j t e;show#[a,e1,h.keep k fun b hb=>k' b (u8 _ (fU e1 hb))]
def  ZX(CH CS CT CO:ϋ):Sp:=qk fun x y H Q _=>X7 fun A L M hs dy th rg=>A7 (A.a=x) (aF CH CS CT H A L M) (fv CO H A L hs) (hs.length<=1000) (H y=!.ins CO dy (K8 #[A.hg,y,dy,th,rg])) (y ∉ A.w++L.flatMap Ta.l) (∀ H',aF CH CS CT H' { A with hg:=A.hg+1 } L M->fv CO H' { A with hg:=A.hg+1 } L (hs++[#[A.hg,y,dy,th,rg]])->Kp [A.a,A.ho] H H'->Q (.int A.hg) H')
def UK:T.uw.k P w mg base 1 (ZX T.aK T.aR T.bb T.ck):=by
 exists T.uw,Jb,kG,fun x y h=>?_;let⟨AA,L,M,hs,dy,th,rg,rfl,i,ho,hn,hy,Pm,q⟩:=h;let⟨fs,c,hx,aU,sf⟩:=i.h;show bt (b:=aO Av) ((al (aQ 2 Jb.nd (am T.aJ T.Fq (ad 0)))
 (al (iT T.aJ T.Fq iR (ad 0) bi)
 (al (oM (ei hr) (am T.aJ T.qJ (ad 0)) (ad 2) (ad 1))
 (ao (aM (ad 2))))))) ?_
 exists 1;right;show(fI hx sf rfl (ai ?_));left;show#[AA.a,_,_,.int AA.hg,rfl,hx,(sf _).trans rfl,_,_,rfl,rfl,_,_,hx,∅,ai ?_];have nh:AA.ho≠AA.a:=fun e=>ho.n (by rw[e];simp[Ad.w]);have nya:y≠AA.a:=fun e=>Pm (by rw[e];simp[Ad.w]);have nyh:y≠AA.ho:=cC hy ho.d (by nofun);left;show#[AA.a,_,_,-AA.ho,rfl,aw,by rw[eB,wP ⋯];show(sf _).trans rfl,AA.ho,_,rfl,hU.k (k:=.inl (AA.hg:Int)) (by rw[ag nh];show ho.d) (ju (by unfold gq;rw[lv];omega)),?_];left;have kp:Kp [AA.a,AA.ho] H (upd (upd H AA.a (.ins T.aK AA.dx (az "holds_given" (.int ((AA.hg:Int)+1)) fs))) AA.ho (.dK (putK (gq hs) (.inl (AA.hg:Int)) (-y)))):=fun b o hb e=>by
  simp only[jp,kt,ww,Re]at hb;rw[ag hb.2,ag hb.1];show e
 have nw:∀ b∈AA.w++L.flatMap Ta.l,b≠AA.a->b ∉ [AA.a,AA.ho]:=fun b hb h1=>by
  simp only[jp,kt,ww,Re];show#[h1,fun e=>ho.n (e ▸ hb)]
 have e1:putK (gq hs) (.inl (AA.hg:Int)) (-y)=gq (hs++[#[AA.hg,y,dy,th,rg]]):=by
  rw[Oz _ (aeF fun e he=>wT (ho.lt e he))];unfold gq;rw[Go];rfl
 show q _ (W2 i kp (by rw[ag (pp nh),aw]) (by rw[eX (u:=.int AA.hg) ((sf _).trans rfl)];show aU) sf nw) #[by rw[aw,e1],ho.n,fun e he=>?_,fun e he=>?_,fun e he=>?_,?_] kp
 ·rcases Fr.mp he with he | he
  ·show kp _ _ (nw' ho he) (ho.o e he)
  ·rw[ut.mp he];show kp _ _ (by simp[nya,nyh]) hy
 ·rcases Fr.mp he with he | he
  ·show ho.f e he
  ·rw[ut.mp he];show Pm
 ·rcases Fr.mp he with he | he
  ·show _z (ho.lt e he)
  ·rw[ut.mp he];show LE _
 ·rw[List.pairwise_append];show#[ho.pw,(),fun a ha b hb=>by rw[ut.mp hb];show ho.lt a ha]
def  cF(N:Cn)(CO:ϋ)(H:Hp)(A:Ad)(L:List Ta)(M:Hs)(hs:List Hw):Prop:=aF N.CH N.CS N.CT H A L M/\fv CO H A L hs
def  S8(CH CS CT CO:ϋ):Sp:=jF fun x n H Q _=>X5 fun A L M hs e=>A6 (A.a=x) (aF CH CS CT H A L M) (fv CO H A L hs) (e∈hs) (n=(e.no:Int)) (∀ H',aF CH CS CT H' A L M->fv CO H' A L (hs.filter fun u=>u.no != e.no)->Kp [A.ho] H H'->Q .au H')
def LY{hs:List Hw}(h:hs.Pairwise fun a b=>a.no < b.no){e u:Hw}(he:e∈hs)(hu:u∈hs)(hn:e.no=u.no):e=u:=by
 induction hs with
 | nil=>cases he
 | cons a r ih =>
  rw[_R]at h;rcases jp.mp he with e1 | e1 <;> rcases jp.mp hu with e2 | e2
  ·rw[e1,e2]
  ·have:=h.1 u e2;rw[e1]at hn;omega
  ·have:=h.1 e e1;rw[e2]at hn;omega
  ·show ih h.2 e1 e2
def Iq{hs:List Hw}(h:hs.Pairwise fun a b=>a.no < b.no){e:Hw}(he:e∈hs):aH (gq hs) (.inl (e.no:Int))=!-e.x:=by
 unfold aH gq;rw[SC]
 induction hs with
 | nil=>cases he
 | cons a r ih =>
  rw[wS,SL];by_cases hn:a.no=e.no
  ·rw[LY h (SZ) he hn,ul rfl];show#[_,rfl,rfl]
  ·rw[mo fun z=>hn (by injection z;omega)];rcases jp.mp he with e1 | he
   ·show absurd (by rw[e1]) hn
   ·show ih (_R.mp h).2 he
def Ul{hs:List Hw}{n:Nat}:fw (gq hs) (.inl (n:Int))=gq (hs.filter fun u=>u.no != n):=by
 unfold fw gq;rw[_O]
 congr 1
 show _B fun u _=>?_;change decide ((Sum.inl (u.no:Int):Key)≠.inl (n:Int))=(u.no != n);by_cases h:u.no=n
 ·subst h;simp
 ·have h':¬ ((u.no:Int)=n):=∅
  simp[h,h']
def fv.get{CO:ϋ}{H:Hp}{A:Ad}{L:List Ta}{hs:List Hw}{e:Hw}(h:fv CO H A L hs)(he:e∈hs):eC H A.ho (.int (e.no:Int)) (!-e.x):=.inl #[_,.inl (e.no:Int),.inl h.d,rfl,(Iq h.pw he).symm]
def ZQ:T.tK.k P w mg base 1 (S8 T.aK T.aR T.bb T.ck):=by
 exists T.tK,Z3,cy,fun x n h=>?_;let⟨AA,L,M,hs,e,rfl,i,ho,he,rfl,q⟩:=h;let⟨fs,c,hx,aU,sf⟩:=i.h;show bt (b:=aO Fi) ((ao (aP (C0 (am T.aJ T.qJ (ad 0)) (ad 1))))) ?_;exists 0;left;show(fI hx sf rfl #[AA.ho,rfl,.inl #[_,.inl ho.d],_,.inl (e.no:Int),_,ho.d,rfl,Iq ho.pw he,?_]);have kp:Kp [AA.ho] H (upd H AA.ho (.dK (fw (gq hs) (.inl (e.no:Int))))):=fun b o hb e=>by
  rw[ag (by simpa using hb)];show e
 show q _ (i.keep kp fun b hb=>by rw[ut];show fun z=>ho.n (z ▸ hb)) #[by rw[aw,Ul],ho.n,fun u hu=>?_,fun u hu=>ho.f u (UV.mp hu).1,fun u hu=>ho.lt u (UV.mp hu).1,ho.pw.filter _] kp;have hu':=(UV.mp hu).1;show kp _ _ (by simpa using (cC (ho.o u hu') ho.d (by nofun))) (ho.o u hu')
def fv.keep{CO:ϋ}{H H':Hp}{A:Ad}{L:List Ta}{hs:List Hw}{W:List ϋ}(h:fv CO H A L hs)(k:Kp W H H')(hw:∀ b∈W,b∈A.w++L.flatMap Ta.l):fv CO H' A L hs :=
 #[k _ _ (fun z=>h.n (hw _ z)) h.d,h.n,fun e he=>k _ _ (fun z=>h.f e he (hw _ z)) (h.o e he),h.f,h.lt,h.pw]
def  yv(N:Cn)(CO:ϋ)(q:Hs->Hw->Hp->VK->XK->Prop):Sp:=fun vs H Q E=>∃ A L M hs e,vs=[-A.a,.int ((e:Hw).no:Int)]/\cF N CO H A L M hs/\e∈hs/\q M e H Q E
def u3:aB P w K mg base (bc P w) 2 T.ff.f T.ff.d ["house","number"] (yv T.cn T.ck fun _ e H Q _=>Q (-e.x) H):=by
 show T.ff.F.cS aeD (fun vs H Q E h=>by let⟨_,_,_,_,_,e,_⟩:=h;rw[e];rfl) (fun ah A _ s H vs Q E hr h=>?_);let⟨AA,L,M,hs,e,ev,⟨i,ho⟩,he,q⟩:=h;subst ev;let⟨fs,c,hx,aU,sf⟩:=i.h;show bt (b:=aO EB) ((al (aY (fM (ge (dS (cN (Di<$>T.iM (aa (ad 1) ae)))) (km (Lh (ei hr) (ad 1) (am T.aJ T.qJ (ad 0)))))) (ao (xN zk rfl T.UU T.ace (aa ap ae))) bv)
   (ao (aM (oA (ei hr) (am T.aJ T.qJ (ad 0)) (ad 1)))))) ?_
 exists 0;right;show#[#[_,rfl],aW (fI hx sf rfl #[AA.ho,_,rfl,ho.get he,aW (fI hx sf rfl #[AA.ho,_,rfl,ho.get he,q])])]
def MY:aB P w K mg base (bc P w) 3 T.lU.f T.lU.d ["house","number"] (yv T.cn T.ck fun _ e H Q _=>Q (.int (e.th:Int)) H):=by
 show T.lU.F.cS TL (fun vs H Q E h=>by let⟨_,_,_,_,_,e,_⟩:=h;rw[e];rfl) (fun ah A _ s H vs Q E hr h=>?_);let⟨AA,L,M,hs,e,ev,i,he,q⟩:=h;subst ev;show bt (b:=aO Eo) ((ao (aM (am T.m5 T.xC (u3<*>T.ff (aa (ad 0) (aa (ad 1) ae))))))) ?_;exists 0;left;show#[AA,L,M,hs,e,rfl,i,he,_,_,_,_,rfl,i.2.o e he,rfl,q]
def MP:aB P w K mg base (bc P w) 3 T.lX.f T.lX.d ["house","number"] (yv T.cn T.ck fun _ e H Q _=>Q (.str e.rg) H):=by
 show T.lX.F.cS Vw (fun vs H Q E h=>by let⟨_,_,_,_,_,e,_⟩:=h;rw[e];rfl) (fun ah A _ s H vs Q E hr h=>?_);let⟨AA,L,M,hs,e,ev,i,he,q⟩:=h;subst ev;show bt (b:=aO Fc) ((ao (aM (am T.m5 T.yk (u3<*>T.ff (aa (ad 0) (aa (ad 1) ae))))))) ?_;exists 0;left;show#[AA,L,M,hs,e,rfl,i,he,_,_,_,_,rfl,i.2.o e he,rfl,q]
def U3:aB P w K mg base (bc P w) 5 T.qH.f T.qH.d ["house","number"] (yv T.cn T.ck fun M e H Q E=>∃ t,M.ts[e.th]?=!t/\(aV ("l":Str) e.rg=true->Q (.str t.tx) H)/\(aV ("l":Str) e.rg=false->da T.cn H E (.bR "look"))):=by
 show T.qH.F.cS OV (fun vs H Q E h=>by let⟨_,_,_,_,_,e,_⟩:=h;rw[e];rfl) (fun ah A _ s H vs Q E hr h=>?_);let⟨AA,L,M,hs,e,ev,i,he,t,ht,q1,q2⟩:=h;subst ev;let⟨fs,c,hx,aU,sf⟩:=i.1.h;let⟨a,ha⟩:=adr i.1.len ht;show bt (b:=aO FF) ((al (aQ 2 OV.nd (u3<*>T.ff (aa (ad 0) (aa (ad 1) ae))))
   (al (aY (bw Kg ap (am T.m5 T.yk (ad 2))) (ao (iY iQ rfl rfl T.iU T.hV T.jr (jH T) hr.m T.gF.b (aa ap ae))) bv)
   (ao (aM (yD<*T.jv (ad 0) (aa (am T.m5 T.xC (ad 2)) ae))))))) ?_
 exists 1;right;show#[AA,L,M,hs,e,rfl,i,he,ai ?_];left;show#[_,_,_,_,rfl,i.2.o e he,rfl,?_];change(if (Bool.not (aV ("l":Str) e.rg))=true then _ else _);cases hl:aV ("l":Str) e.rg with
 | false=>show bE #[_,rfl,fun d hd=>(q2 hl).raise (aj.refl _) hd]
 | true =>
  show aW ?_;left;show mI hx sf #[_,_,_,_,rfl,i.2.o e he,rfl,AA,L,M,e.th,a,t,i.1,rfl,rfl,ha,ht,q1 hl]
def  Jd(N:Cn)(CO:ϋ):Sp:=fun vs H Q E=>∃ A L M hs e z a t,vs=[-A.a,.int ((e:Hw).no:Int),.str z]/\cF N CO H A L M hs/\e∈hs/\z.length<=60/\L[e.th]?=!a/\M.ts[e.th]?=!t/\(aV ("w":Str) e.rg=false->da N H E (.bR "write")) /\
 (aV ("w":Str) e.rg=true->∀ H',aF N.CH N.CS N.CT H' A L { M with ts:=M.ts.set e.th { t with tx:=z } }->fv CO H' A L hs->Kp [A.t,a.th] H H'->Q .au H')
def WY:aB P w K mg base (bc P w) 5 T.qi.f T.qi.d ["house","number","text"] (Jd T.cn T.ck):=by
 show T.qi.F.cS K5 (fun vs H Q E h=>by let⟨_,_,_,_,_,_,_,_,e,_⟩:=h;rw[e];rfl) (fun ah A _ s H vs Q E hr h=>?_);let⟨AA,L,M,hs,e,z,a,t,ev,i,he,hz,ha,ht,q1,q2⟩:=h;subst ev;let⟨fs,c,hx,aU,sf⟩:=i.1.h;let⟨gs,c2,pX,cK,sg⟩:=i.1.t;show bt (b:=aO Er) ((al (aQ 3 K5.nd (u3<*>T.ff (aa (ad 0) (aa (ad 1) ae))))
   (al (aP (CP<$>T.je (aa (ad 2) ae)))
   (al (aY (bw Kg ap (am T.m5 T.yk (ad 3))) (ao (iY iQ rfl rfl T.iU T.hV T.jr (jH T) hr.m T.gF.b (aa ap ae))) bv)
   (ao (aP (K2*>T.oC (am T.aJ T.eO (ad 0)) (aa (am T.m5 T.xC (ad 3)) (aa (ad 2) ae))))))))) ?_
 exists 1;right;show#[AA,L,M,hs,e,rfl,i,he,ai ?_];left;show#[hz,ai ?_];left;show#[e.x,_,_,_,rfl,i.2.o e he,rfl,?_];change(if (Bool.not (aV ("w":Str) e.rg))=true then _ else _);cases hl:aV ("w":Str) e.rg with
 | false=>show bE #[_,rfl,fun d hd=>(q1 hl).raise (aj.refl _) hd]
 | true =>
  show aW (fI hx sf rfl (mI pX sg #[e.x,_,_,_,rfl,i.2.o e he,rfl,AA,L,M,e.th,a,t,i.1,rfl,rfl,ha,ht,fun H' i' k'=>q2 hl H' i' (i.2.keep k' fun b hb=>?_) k']));simp only[jp,kt,ww]at hb;rcases hb with rfl | rfl
  ·simp[Ad.w]
  ·show u8 _ (fU ha (by simp[Ta.l]))
def  J4(N:Cn)(CO:ϋ):Sp:=fun vs H Q _=>∃ A L M hs e,vs=[-A.a,.int ((e:Hw).no:Int)]/\cF N CO H A L M hs/\e∈hs/\∀ H',cF N CO H' A L M (hs.filter fun u=>u.no != e.no)->Kp [A.ho] H H'->Q .au H'
def aaZ:aB P w K mg base (bc P w) 3 T.qo.f T.qo.d ["house","number"] (J4 T.cn T.ck):=by
 show T.qo.F.cS ad0 (fun vs H Q E h=>by let⟨_,_,_,_,_,e,_⟩:=h;rw[e];rfl) (fun ah A _ s H vs Q E hr h=>?_);let⟨AA,L,M,hs,e,ev,i,he,q⟩:=h;subst ev;let⟨fs,c,hx,aU,sf⟩:=i.1.h;show bt (b:=aO Eh) ((al (aP (u3<*>T.ff (aa (ad 0) (aa (ad 1) ae))))
   (ao (aP (ZQ<*T.tK (ad 0) (aa (ad 1) ae)))))) ?_
 exists 0;right;show#[AA,L,M,hs,e,rfl,i,he,mI hx sf #[AA,L,M,hs,e,rfl,i.1,i.2,he,rfl,fun H' i' o' k'=>q H' #[i',o'] k']]
def  Vz(N:Cn)(CO:ϋ):Sp:=fun vs H Q _=>∃ A L M hs,vs=[-A.a]/\cF N CO H A L M hs/\hs.length < 64/\∀ l H',aj H H'->H l=none->H' l=!.lst (hs.map fun e=>V.int (e.no:Int))->Q (-l) H'
def W9:T.qI.k P w base 2 (Vz T.cn T.ck):=by
 exists T.qI,Z1,⟨_,_,_,_,e,_⟩;let⟨AA,L,M,hs,e,i,hn,q⟩:=h;subst e;let⟨fs,c,hx,aU,sf⟩:=i.1.h;show bt (b:=aO DO) ((ao (aM (df (Bq rfl) T.yB xq (aa (am T.aJ T.qJ (ad 0)) ae))))) ?_;exists 0;left;show(fI hx sf rfl #[AA.ho,_,hs.map fun e=>(e.no:Int),rfl,i.2.d,by unfold gq;simp,by rw[lv];omega,?_,fun l hl=>q l _ (aj.upd hl) hl ?_])
 ·rw[List.pairwise_map];show i.2.pw.imp fun h=>by omega
 ·rw[aw,Os];rfl
def  xE(d:Wd)(t:List Nat)(y:Str)(e:End)(x:Sum Rf Nat):Prop :=
 eD d t e/\((∀ k ns,e.res≠.found k ns)->x=.inl (.way e.res))/\∀ k ns,e.res=.found k ns->∃ a th,d.L[k]?=!a/\d.M.ts[k]?=!th/\(th.kd=("folder":Str)->x=.inl (.bR "folder")) /\
  (th.kd≠("folder":Str)->(aV ("l":Str) y=true->aV ("l":Str) (cf th d.z)=false->x=.inl (.bR "look"))/\((aV ("l":Str) y=true->aV ("l":Str) (cf th d.z)=true)->(aV ("w":Str) y=true->aV ("w":Str) (cf th d.z)=false->x=.inl (.bR "write"))/\((aV ("w":Str) y=true->aV ("w":Str) (cf th d.z)=true)->x=.inr k)))
def  Ou(N:Cn)(CO:ϋ):Sp:=fun vs H Q E=>∃ A L M hs z t y root e x,vs=[-A.a,.str z,.str (Tx.S t),.str y]/\cF N CO H A L M hs/\hs.length<=1000/\y∈gQ/\xE #[L,M,z,true,root] t y e x/\(∀ r,x=.inl r->da N H E r) /\
 ∀ k,x=.inr k->∀ u du H',H u=none->cF N CO H' { A with hg:=A.hg+1 } L M (hs++[#[A.hg,u,du,k,y]])->Kp [A.a,A.ho] H H'->Q (.int A.hg) H'
def R5:aB P w K mg base (bc P w) 17 T.qf.f T.qf.d ["house","asker","path","rights"] (Ou T.cn T.ck):=by
 show T.qf.F.cS L9 (fun vs H Q E h=>by let⟨_,_,_,_,_,_,_,_,_,_,e,_⟩:=h;rw[e];rfl) (fun ah A _ s H vs Q E hr h=>?_);let⟨AA,L,M,hs,z,t,y,root,e,x,ev,i,hn,hy,⟨pw,g1,g2⟩,q1,q2⟩:=h;subst ev;let⟨fs,c,hx,aU,sf⟩:=i.1.h;show bt (b:=aO Fe) ((al (aP (cW T.aJ T.dD.h (jD T) hr.m T.dD.b .nil cg (ad 0) (aa (ad 1) ae)))
   (al (aP (jI<$>T.cz (aa (ad 2) ae)))
   (al (aP (pq<$>T.dJ (aa (ad 3) ae)))
   (al (aQ 4 L9.nd (NU<*>T.lO (aa (ad 0) (aa (ad 1) (aa (ad 2) ae)))))
   (al (aY (bw (jU (K:=K) rfl) ap (ad 3)) (ao (aP (xH<*>T.gg (aa (ad 0) (aa (ad 1) (aa (ad 4) (aa ap (aa ap ae)))))))) bv)
   (al (aY (bw (jU (K:=K) rfl) ap (ad 3)) (ao (aP (xH<*>T.gg (aa (ad 0) (aa (ad 1) (aa (ad 4) (aa ap (aa ap ae)))))))) bv)
   (ao (aM (UK<*T.uw (ad 0) (aa (gl T.aec (Xa T) hr.m T.adM T.uG.b .nil ay (aa (ad 4) (aa (ad 3) ae))) ae))))))))))) ?_
 exists 1;right;show mI hx sf (kS i.1 pw.hz (ai ?_));left;show#[t,rfl,pw.l1,pw.l2,pw.all,fun H1 l p s1 _ _ _=>ai ?_];left;show#[hy,ai ?_];left;show#[AA,L,M,root,t,e,rfl,i.1.same s1,rfl,pw,fun k ns h=>?_,fun h=>(q1 _ (g1 h)).of s1];let⟨a,th,ha,aE,g3,g4⟩:=g2 k ns h;show#[_,_,ha,aE,fun hk H2 s2=>?_,fun hk=>(q1 _ (g3 hk)).of s1];let⟨g5,g6⟩:=g4 hk;have dZ:=s1.trans s2;have i2:=i.1.same dZ;have o2:fv T.ck H2 AA L hs:=i.2.keep (W:=[]) (.of dZ) nofun;show iS (fun σ' H'=>σ'=[!V.ref AA.a,!V.str z,!V.str (Tx.S t),!V.str y,!V.int (k:Int)]/\H'=H2/\(aV ("l":Str) y=true->aV ("l":Str) (cf th z)=true)) ?_ ?_
 ·left;change(if aV ("l":Str) y=true then _ else _);cases pM:aV ("l":Str) y with
  | true=>show bE #[AA,L,M,th,k,rfl,i2,rfl,pw.hz,by symm,aE,fun h=>#[rfl,rfl,fun _=>h],fun h=>(q1 _ (g5 pM h)).of dZ]
  | false=>show aW #[rfl,rfl,nofun]
 rintro σ' H' ⟨e1,e2,hl⟩;subst e1;subst e2;let⟨g7,g8⟩:=g6 hl;show iS (fun σ' H''=>σ'=[!V.ref AA.a,!V.str z,!V.str (Tx.S t),!V.str y,!V.int (k:Int)]/\H''=H'/\(aV ("w":Str) y=true->aV ("w":Str) (cf th z)=true)) ?_ ?_
 ·left;change(if aV ("w":Str) y=true then _ else _);cases pM:aV ("w":Str) y with
  | true=>show bE #[AA,L,M,th,k,rfl,i2,rfl,pw.hz,by symm,aE,fun h=>#[rfl,rfl,fun _=>h],fun h=>(q1 _ (g7 pM h)).of dZ]
  | false=>show aW #[rfl,rfl,nofun]
 rintro σ' H'' ⟨e1,e2,hw⟩;subst e1;subst e2;let⟨jo,c2,cx,iH,cu⟩:=i2.h;left;show mI cx cu fun u du hxn jL cL=>#[du,aw,rfl,?_];rw[ku];have s3:aj H'' (upd (upd H'' du (.own u)) u (.ins T.ck du (az "rights" (.str y) (az "thing" (.int (k:Int)) [])))):=(aj.upd jL).trans (aj.upd (by rw[ag (pp cL)];show hxn));have fm:u ∉ AA.w++L.flatMap Ta.l:=fun hb=>by
  let⟨o,ho⟩:=i2.some u hb;rw[hxn]at ho;cases ho
 show#[AA,L,M,hs,du,k,y,rfl,i2.same s3,o2.keep (W:=[]) (.of s3) nofun,hn,aw,fm,fun H3 i4 o4 k4=>q2 k (g8 hw) u du H3 (rP dZ hxn) #[i4,o4] ((Kp.of (dZ.trans s3)).trans k4)]
def  NL(d:Wd)(S:Ws):Prop:=∃ t,d.M.ts[S.here]?=!t/\t.kd≠("lead":Str)
def tY{t:Th}(h:t.kd=("folder":Str)):t.kd≠("lead":Str):=by rw[h];symm
def eT.nl{d:Wd}(g:Gd d.M)(hl:d.last=true)(hr:∃ t,d.M.ts[d.root]?=!t/\t.kd=("folder":Str)){S S':Ws}{p:Str}{o:Option Tl}(h:eT d S p S' o)(n:NL d S):o=none->NL d S':=by
 cases h with
 | flat=>nofun
 | oi=>nofun
 | dot=>show fun _=>n
 | up _ _ u =>
  intro _;cases u with
  | gk=>show n
  | up _ _ _ _ _ ht hp _ hf hs =>
   let⟨rfl,rfl⟩:=g.zl hs;show#[_,hf,?_];rcases (g.th _ _ ht).pl with e | ⟨f',nm',tf',_,e,_,e2,e3⟩
   ·rw[hp]at e;cases e
   ·rw[hp]at e;cases e;rw[hf]at e2;cases e2;show tY e3
 | go _ _ _ _ _ b =>
  cases b with
  | no=>nofun
  | folder _ _ ht hk hs =>
   let⟨rfl,rfl⟩:=g.zl hs;show fun _=>#[_,ht,tY hk]
  | fin _ _ ht _ hf =>
   show fun _=>#[_,ht,?_];rcases hf with e | ⟨_,e⟩
   ·rw[e];symm
   ·rw[hl]at e;cases e
  | lead _ _ _ _ _ _ m =>
   cases m with
   | ring=>nofun
   | many=>nofun
   | read _ _ r =>
    cases r with
    | @mk _ _ t _ _ _ _ _ _ _ _ _ _ _ _ _ hs =>
     let⟨rfl,rfl⟩:=g.zl hs;intro _;unfold NL jc;dsimp only;split
     ·let⟨t,h1,h2⟩:=hr;show#[t,h1,tY h2]
     ·show n
def fN.nl{d:Wd}(g:Gd d.M)(hl:d.last=true)(hr:∃ t,d.M.ts[d.root]?=!t/\t.kd=("folder":Str)){n:Nat}{S S':Ws}{o:Option Tl}(h:fN d n S S' o):NL d S->o=none->NL d S':=by
 induction h with
 | done=>show fun n _=>n
 | pop _ _ _ ih=>show ih
 | step _ s _ ih=>show fun n=>ih (s.nl g hl hr n rfl)
 | fail=>show fun _=>nofun
def eD.nl{M:Hs}{L:List Ta}{z:Str}{root k:Nat}{t:List Nat}{e:End}{ns:List Str}(g:Gd M)(hz:z∈AS)(p:eD #[L,M,z,true,root] t e)(h:e.res=.found k ns):∃ t,M.ts[k]?=!t/\t.kd≠("lead":Str):=by
 let⟨r,k0,ga⟩:=g.as z hz;cases p.g with
 | @told _ _ _ y _ _ r=>cases y <;> cases h
 | found b _ hr _ =>
  cases h;have e1:=b.z;dsimp only at e1;rw[ga.ro]at e1;obtain rfl:r=root:=by injection e1 with e1;injection e1 with e1;omega
  let⟨st,b2,rr,a,t,aX,ha,ht,vT,zZ,rfl⟩:=b.ex;let⟨rfl,rfl⟩:=g.zl vT;show fN.nl (d:=#[L,M,z,true,r]) g rfl ga.tr hr ?_ rfl;rcases aX with ⟨_,rfl⟩ | ⟨_,e2⟩
  ·let⟨t,h1,h2⟩:=ga.tr;show#[t,h1,tY h2]
  ·dsimp only at e2;rw[ga.st]at e2;obtain rfl:k0=b2:=by injection e2 with e2;injection e2 with e2;omega
   let⟨t,h1,h2⟩:=ga.tk;show#[t,h1,tY h2]
def Xe:kf K T.fo:=#[T.XU,T.abT,T.V3,T.aew,T.acR,T.acm,T.WQ]
def Sj:kf K T.fk:=#[T.Y4,T.adT,T.Uz,T.XH,T.Zr,T.Y0,T.ac9]
def  rX(N:Cn)(Q:VK):XK:=fun C od H' =>
 (C=-N.CN/\∃ d fd,od=!d/\H' d=!.xd [("told",-fd)]/\∀ p H2,aj H' H2->H' p=none->H2 p=!.tup [.str "way",-fd]->Q (-p) H2) \/
 (C=-N.CD/\∃ d y,od=!d/\H' d=!.xd [("reason",.str y)]/\∀ p H2,aj H' H2->H' p=none->H2 p=!.tup [.str "deed",.str y]->Q (-p) H2)
def  YM(N:Cn)(bW:dU):dU:=fun H Q _=>bW H (fun v H'=>∀ p H2,aj H' H2->H' p=none->H2 p=!.tup [.str "told",v]->Q (-p) H2) (rX N Q)
def kI:ve P w K mg base (bc P w) 19 T.cI.f T.cI.d ["_law_ask"] (Cz P w K mg base 18 (YM T.cn)):=by
 show T.cI.F.Zs lK (fun outer s vs H Q E h=>?_) (fun ah A outer s H vs Q E hr h=>?_)
 ·let⟨f,B,bW,rfl,_⟩:=h;rfl
 ·let⟨fl,B,bW,rfl,D0,hB,hf,gI,dF⟩:=h;have D:=D0.m;show bt (b:=aO BN) ((al (aQ 1 lK.nd au)
   (al (S3 #[rfl,rfl,rfl] (fun _ _=>by show(ao (aQ 1 lK.nd (dl (aa ap (aa (bR 0 D hB hf gI hr.m TX) ae)))))) (EL 2 (K:=K) rfl lK.nd T.MB T.UZ T.YU (fun _=>by show(ao (aQ 1 lK.nd (dl (aa ap (aa (OC T.AX (Xe T) (ad 2)) ae)))))) (EL 2 (K:=K) rfl lK.nd T.iU T.ZI T.adY (fun _=>by show(ao (aQ 1 lK.nd (dl (aa ap (aa (OC T.hV (Sj T) (ad 2)) ae)))))) (EL 2 (K:=K) rfl lK.nd T.Y6 T.Uq T.VN (fun _=>by show(ao (aQ 1 lK.nd (dl (aa ap (aa (ad 2) ae)))))) aeg))))
   (ao (aM (ad 1)))))) ?_
  exists 2;right;show iS (fun σ' H'=>∃ p t,σ'=[!-fl,!-p,t]/\Q (-p) H') ?_ ?_
  ·show#[fun σ' C od H'=>σ'=[!-fl,!.au,none]/\rX T.cn Q C od H',?_,?_]
   ·left;show#[by trivial,_,_,dF,fun v H' z=>#[fits (),fun p hp=>#[p,_,rfl,z p _ (aj.upd hp) hp aw]],fun C od H' z=>#[rfl,z]]
   ·rintro σ' C od H' ⟨rfl,z⟩;rcases z with ⟨e,d,fd,rfl,hd,q⟩ | ⟨e,d,y,rfl,hd,q⟩
    ·cases e;show#[true,T.ZF,?_];rw[xL rfl];intro ea hea;left;have s1:=aj.upd (o:=lW ea T.fo (!d)) hea;show#[ea,d,_,_,rfl,aw,s1 _ _ hd,rfl,fits (),fun p hp=>#[p,_,rfl,q p _ (s1.trans (aj.upd hp)) (rP s1 hp) aw]]
    ·cases e;show#[false,T.adg,?_];rw[wP (by nofun)];show#[true,T.abB,?_];rw[xL rfl];intro ea hea;left;have s1:=aj.upd (o:=lW ea T.fk (!d)) hea;show#[ea,d,_,_,rfl,aw,s1 _ _ hd,rfl,fits (),fun p hp=>#[p,_,rfl,q p _ (s1.trans (aj.upd hp)) (rP s1 hp) aw]]
  ·rintro σ' H' ⟨p,t,rfl,z⟩;left;show z
def  ze:Nat->Stmt->Expr
 | 0,.If _ (.Return (!.Call _ (e::_) _ _) _::_) _ _=>e
 | 0,.If _ (.Assign _ (.Call _ (e::_) _ _) _::_) _ _=>e
 | 0,.If _ (.Expr (.Call _ (e::_) _ _) _::_) _ _=>e
 | 1,.If _ _ (.If _ (.Expr (.Call _ (e::_) _ _) _::_) _ _::_) _=>e
 | 2,.If _ _ (.If _ _ (_::.If (.Compare (.Call _ (e::_) _ _) _ _ _) _ _ _::_) _::_) _=>e
 | 0,.Return (!.Call _ (e::_) _ _) _=>e
 | 0,.Return (!.Compare (.Call _ (e::_) _ _) _ _ _) _=>e
 | 0,.Assign _ (.Call _ (e::_) _ _) _=>e
 | _,_=>.Constant .none 0 #[0,0,0,0]
def  eh:Expr->Scope
 | .Lambda _ _ sc _=>sc
 | _=>ax vE
def  kE:Expr->Arguments
 | .Lambda a _ _ _=>a
 | _=>eZ vE
def  adH:Expr->Expr
 | .Lambda _ b _ _=>b
 | e=>e
abbrev pk:List Str:=["_law_house","_law_cell","_law_source_here","_law_asker","_law_path_here","_law_way","_law_lead","_law_mine","_law_rest"]
abbrev iO:Str := "_law_built.<locals>.<lambda>"
abbrev jk(k j:Nat):Expr:=ze j ((aO kK).getD k (.Pass #[0,0,0,0]))
abbrev wU(n:Nat):List (Str×ϋ):=[("_law_rest",n+6),("_law_path_here",n+5),("_law_mine",n+4),("_law_house",n+1),("_law_asker",n+2)]
abbrev yG(n:Nat):List (Str×ϋ):=[("_law_rest",n+6),("_law_path_here",n+5),("_law_mine",n+4),("_law_house",n+1),("_law_asker",n+2)]
abbrev yu(n:Nat):List (Str×ϋ):=[("_law_path_here",n+5),("_law_lead",n+3),("_law_house",n+1),("_law_asker",n+2)]
section
variable {f c Pt:ϋ}{ah:ϊ}{A:Around}{outer:List Env}{s:ό}{H:Hp}{E:XK}
def Wx(hc:ah=-c)(C:W.CodeHd base c Pt)(hb:base.BuiltinsAt mg Pt):hX (cj (bc P w) P w K mg base pk "_law_built" (ax kK) f ah A outer s H E) Pt (kE (jk 7 0)) (eh (jk 7 0)) (wU s.heap.objs.size) iO:=#[rfl,rfl,#[c,hc,C],hb,by kernel_rfl]
def S4(n:Nat):eU ["_law_house","_law_asker","_law_path_here","_law_mine","_law_rest"] (eh (jk 7 0)) (wU n):=.of rfl rfl rfl (by symm) (by symm) #[fun _=>#[_,rfl],fun _=>#[_,rfl],fun _=>#[_,rfl],fun _=>#[_,rfl],fun _=>#[_,rfl],(fun z=>nomatch z),trivial] ()
def Us:gB (cj (bc P w) P w K mg base pk "_law_built" (ax kK) f ah A outer s H E) ["_law_house","_law_asker","_law_path_here","_law_mine","_law_rest"] [0,3,4,7,8] (wU s.heap.objs.size):=.of rfl rfl #[#[rfl,rfl,rfl],#[rfl,rfl,rfl],#[rfl,rfl,rfl],#[rfl,rfl,rfl],#[rfl,rfl,rfl],trivial] #[rfl,rfl,rfl,rfl,rfl,trivial]
def VJ(hc:ah=-c)(C:W.CodeHd base c Pt)(hb:base.BuiltinsAt mg Pt):hX (cj (bc P w) P w K mg base pk "_law_built" (ax kK) f ah A outer s H E) Pt (kE (jk 8 0)) (eh (jk 8 0)) (yG s.heap.objs.size) iO:=#[rfl,rfl,#[c,hc,C],hb,by kernel_rfl]
def ab9(n:Nat):eU ["_law_house","_law_asker","_law_path_here","_law_mine","_law_rest"] (eh (jk 8 0)) (yG n):=.of rfl rfl rfl (by symm) (by symm) #[fun _=>#[_,rfl],fun _=>#[_,rfl],fun _=>#[_,rfl],fun _=>#[_,rfl],fun _=>#[_,rfl],(fun z=>nomatch z),trivial] ()
def T3:gB (cj (bc P w) P w K mg base pk "_law_built" (ax kK) f ah A outer s H E) ["_law_house","_law_asker","_law_path_here","_law_mine","_law_rest"] [0,3,4,7,8] (yG s.heap.objs.size):=.of rfl rfl #[#[rfl,rfl,rfl],#[rfl,rfl,rfl],#[rfl,rfl,rfl],#[rfl,rfl,rfl],#[rfl,rfl,rfl],trivial] #[rfl,rfl,rfl,rfl,rfl,trivial]
def YN(hc:ah=-c)(C:W.CodeHd base c Pt)(hb:base.BuiltinsAt mg Pt):hX (cj (bc P w) P w K mg base pk "_law_built" (ax kK) f ah A outer s H E) Pt (kE (jk 9 0)) (eh (jk 9 0)) (yu s.heap.objs.size) iO:=#[rfl,rfl,#[c,hc,C],hb,by kernel_rfl]
def abm(n:Nat):eU ["_law_house","_law_asker","_law_path_here","_law_lead"] (eh (jk 9 0)) (yu n):=.of rfl rfl rfl (by symm) (by symm) #[fun _=>#[_,rfl],fun _=>#[_,rfl],fun _=>#[_,rfl],fun _=>#[_,rfl],(fun z=>nomatch z),trivial] ()
def Yv:gB (cj (bc P w) P w K mg base pk "_law_built" (ax kK) f ah A outer s H E) ["_law_house","_law_asker","_law_path_here","_law_lead"] [0,3,4,6] (yu s.heap.objs.size):=.of rfl rfl #[#[rfl,rfl,rfl],#[rfl,rfl,rfl],#[rfl,rfl,rfl],#[rfl,rfl,rfl],trivial] #[rfl,rfl,rfl,rfl,trivial]
end
abbrev DX:List Str:=["_law_house","_law_kept","_law_count","_law_asker","_law_path_here","_law_rights","_law_due_here","_law_told_here","_law_found"]
abbrev oK:Str := "_law_held.<locals>.<lambda>"
abbrev y6(k j:Nat):Expr:=ze j ((aO rR).getD k (.Pass #[0,0,0,0]))
abbrev wX(n:Nat):List (Str×ϋ):=[("_law_rights",n+4),("_law_path_here",n+3),("_law_house",n+1),("_law_asker",n+2)]
section
variable {f c Pt:ϋ}{ah:ϊ}{A:Around}{outer:List Env}{s:ό}{H:Hp}{E:XK}
def aar(hc:ah=-c)(C:W.CodeHd base c Pt)(hb:base.BuiltinsAt mg Pt):hX (cj (bc P w) P w K mg base DX "_law_held" (ax rR) f ah A outer s H E) Pt (kE (y6 2 0)) (eh (y6 2 0)) (wX s.heap.objs.size) oK:=#[rfl,rfl,#[c,hc,C],hb,by kernel_rfl]
def Uk(n:Nat):eU ["_law_house","_law_asker","_law_path_here","_law_rights"] (eh (y6 2 0)) (wX n):=.of rfl rfl rfl (by symm) (by symm) #[fun _=>#[_,rfl],fun _=>#[_,rfl],fun _=>#[_,rfl],fun _=>#[_,rfl],(fun z=>nomatch z),trivial] ()
def adU:gB (cj (bc P w) P w K mg base DX "_law_held" (ax rR) f ah A outer s H E) ["_law_house","_law_asker","_law_path_here","_law_rights"] [0,3,4,5] (wX s.heap.objs.size):=.of rfl rfl #[#[rfl,rfl,rfl],#[rfl,rfl,rfl],#[rfl,rfl,rfl],#[rfl,rfl,rfl],trivial] #[rfl,rfl,rfl,rfl,trivial]
end
abbrev oV:List Str:=["_law_house","_law_kept","_law_texts","_law_held_here","_law_way","_law_text","_law_number","_law_rights","_law_found"]
abbrev gz:Str := "_law_used.<locals>.<lambda>"
abbrev jf(k j:Nat):Expr:=ze j ((aO kQ).getD k (.Pass #[0,0,0,0]))
abbrev yO(n:Nat):List (Str×ϋ):=[("_law_house",n+1),("_law_held_here",n+2)]
abbrev y8(n:Nat):List (Str×ϋ):=[("_law_text",n+3),("_law_house",n+1),("_law_held_here",n+2)]
abbrev zd(n:Nat):List (Str×ϋ):=[("_law_house",n+1),("_law_held_here",n+2)]
section
variable {f c Pt:ϋ}{ah:ϊ}{A:Around}{outer:List Env}{s:ό}{H:Hp}{E:XK}
def ZG(hc:ah=-c)(C:W.CodeHd base c Pt)(hb:base.BuiltinsAt mg Pt):hX (cj (bc P w) P w K mg base oV "_law_used" (ax kQ) f ah A outer s H E) Pt (kE (jf 2 0)) (eh (jf 2 0)) (yO s.heap.objs.size) gz:=#[rfl,rfl,#[c,hc,C],hb,by kernel_rfl]
def YZ(n:Nat):eU ["_law_house","_law_held_here"] (eh (jf 2 0)) (yO n):=.of rfl rfl rfl (by symm) (by symm) #[fun _=>#[_,rfl],fun _=>#[_,rfl],(fun z=>nomatch z),trivial] ()
def RS:gB (cj (bc P w) P w K mg base oV "_law_used" (ax kQ) f ah A outer s H E) ["_law_house","_law_held_here"] [0,3] (yO s.heap.objs.size):=.of rfl rfl #[#[rfl,rfl,rfl],#[rfl,rfl,rfl],trivial] #[rfl,rfl,trivial]
def R0(hc:ah=-c)(C:W.CodeHd base c Pt)(hb:base.BuiltinsAt mg Pt):hX (cj (bc P w) P w K mg base oV "_law_used" (ax kQ) f ah A outer s H E) Pt (kE (jf 3 0)) (eh (jf 3 0)) (y8 s.heap.objs.size) gz:=#[rfl,rfl,#[c,hc,C],hb,by kernel_rfl]
def ado(n:Nat):eU ["_law_house","_law_held_here","_law_text"] (eh (jf 3 0)) (y8 n):=.of rfl rfl rfl (by symm) (by symm) #[fun _=>#[_,rfl],fun _=>#[_,rfl],fun _=>#[_,rfl],(fun z=>nomatch z),trivial] ()
def aap:gB (cj (bc P w) P w K mg base oV "_law_used" (ax kQ) f ah A outer s H E) ["_law_house","_law_held_here","_law_text"] [0,3,5] (y8 s.heap.objs.size):=.of rfl rfl #[#[rfl,rfl,rfl],#[rfl,rfl,rfl],#[rfl,rfl,rfl],trivial] #[rfl,rfl,rfl,trivial]
def adJ(hc:ah=-c)(C:W.CodeHd base c Pt)(hb:base.BuiltinsAt mg Pt):hX (cj (bc P w) P w K mg base oV "_law_used" (ax kQ) f ah A outer s H E) Pt (kE (jf 5 0)) (eh (jf 5 0)) (zd s.heap.objs.size) gz:=#[rfl,rfl,#[c,hc,C],hb,by kernel_rfl]
def acB(n:Nat):eU ["_law_house","_law_held_here"] (eh (jf 5 0)) (zd n):=.of rfl rfl rfl (by symm) (by symm) #[fun _=>#[_,rfl],fun _=>#[_,rfl],(fun z=>nomatch z),trivial] ()
def Uu:gB (cj (bc P w) P w K mg base oV "_law_used" (ax kQ) f ah A outer s H E) ["_law_house","_law_held_here"] [0,3] (zd s.heap.objs.size):=.of rfl rfl #[#[rfl,rfl,rfl],#[rfl,rfl,rfl],trivial] #[rfl,rfl,trivial]
end
abbrev oU:List Str:=["_law_house","_law_texts","_law_asker","_law_path_here","_law_way","_law_text","_law_told_here"]
abbrev gR:Str := "_law_stirred.<locals>.<lambda>"
abbrev ja(k j:Nat):Expr:=ze j ((aO ky).getD k (.Pass #[0,0,0,0]))
abbrev xi(n:Nat):List (Str×ϋ):=[("_law_path_here",n+3),("_law_house",n+1),("_law_asker",n+2)]
abbrev xS(n:Nat):List (Str×ϋ):=[("_law_path_here",n+3),("_law_house",n+1),("_law_asker",n+2)]
abbrev xZ(n:Nat):List (Str×ϋ):=[("_law_text",n+4),("_law_path_here",n+3),("_law_house",n+1),("_law_asker",n+2)]
section
variable {f c Pt:ϋ}{ah:ϊ}{A:Around}{outer:List Env}{s:ό}{H:Hp}{E:XK}
def ZW(hc:ah=-c)(C:W.CodeHd base c Pt)(hb:base.BuiltinsAt mg Pt):hX (cj (bc P w) P w K mg base oU "_law_stirred" (ax ky) f ah A outer s H E) Pt (kE (ja 0 0)) (eh (ja 0 0)) (xi s.heap.objs.size) gR:=#[rfl,rfl,#[c,hc,C],hb,by kernel_rfl]
def SY(n:Nat):eU ["_law_house","_law_asker","_law_path_here"] (eh (ja 0 0)) (xi n):=.of rfl rfl rfl (by symm) (by symm) #[fun _=>#[_,rfl],fun _=>#[_,rfl],fun _=>#[_,rfl],(fun z=>nomatch z),trivial] ()
def SJ:gB (cj (bc P w) P w K mg base oU "_law_stirred" (ax ky) f ah A outer s H E) ["_law_house","_law_asker","_law_path_here"] [0,2,3] (xi s.heap.objs.size):=.of rfl rfl #[#[rfl,rfl,rfl],#[rfl,rfl,rfl],#[rfl,rfl,rfl],trivial] #[rfl,rfl,rfl,trivial]
def We(hc:ah=-c)(C:W.CodeHd base c Pt)(hb:base.BuiltinsAt mg Pt):hX (cj (bc P w) P w K mg base oU "_law_stirred" (ax ky) f ah A outer s H E) Pt (kE (ja 0 1)) (eh (ja 0 1)) (xS s.heap.objs.size) gR:=#[rfl,rfl,#[c,hc,C],hb,by kernel_rfl]
def acE(n:Nat):eU ["_law_house","_law_asker","_law_path_here"] (eh (ja 0 1)) (xS n):=.of rfl rfl rfl (by symm) (by symm) #[fun _=>#[_,rfl],fun _=>#[_,rfl],fun _=>#[_,rfl],(fun z=>nomatch z),trivial] ()
def T5:gB (cj (bc P w) P w K mg base oU "_law_stirred" (ax ky) f ah A outer s H E) ["_law_house","_law_asker","_law_path_here"] [0,2,3] (xS s.heap.objs.size):=.of rfl rfl #[#[rfl,rfl,rfl],#[rfl,rfl,rfl],#[rfl,rfl,rfl],trivial] #[rfl,rfl,rfl,trivial]
def Yh(hc:ah=-c)(C:W.CodeHd base c Pt)(hb:base.BuiltinsAt mg Pt):hX (cj (bc P w) P w K mg base oU "_law_stirred" (ax ky) f ah A outer s H E) Pt (kE (ja 0 2)) (eh (ja 0 2)) (xZ s.heap.objs.size) gR:=#[rfl,rfl,#[c,hc,C],hb,by kernel_rfl]
def Sn(n:Nat):eU ["_law_house","_law_asker","_law_path_here","_law_text"] (eh (ja 0 2)) (xZ n):=.of rfl rfl rfl (by symm) (by symm) #[fun _=>#[_,rfl],fun _=>#[_,rfl],fun _=>#[_,rfl],fun _=>#[_,rfl],(fun z=>nomatch z),trivial] ()
def XF:gB (cj (bc P w) P w K mg base oU "_law_stirred" (ax ky) f ah A outer s H E) ["_law_house","_law_asker","_law_path_here","_law_text"] [0,2,3,5] (xZ s.heap.objs.size):=.of rfl rfl #[#[rfl,rfl,rfl],#[rfl,rfl,rfl],#[rfl,rfl,rfl],#[rfl,rfl,rfl],trivial] #[rfl,rfl,rfl,rfl,trivial]
end
def rO{H H':Hp}{Pt:ϋ}{q:Str}{es:List Ent}(t:dv H Pt q es)(k:∀ b φ,H b=!.ext φ->H' b=!.ext φ):dv H' Pt q es:=#[k _ _ t.tab,fun e he=>k _ _ (t.code e he)]
def  NX(H H':Hp):Prop:=∀ b o,(∀ φ,o≠.ext φ)->H b=!o->H' b=!o
def mP{Pt:ϋ}{q:Str}{c:ϋ}{H H1:Hp}{es:List Ent}(L:kR Pt q c H H1)(t:dv H Pt q es):NX H H1:=fun b o no e=>L.MF b o (fun z=>by rw[z,t.tab]at e;cases e;show no _ rfl) e
def j0.eg{CT:ϋ}{H H':Hp}{a:Ta}{i:Nat}{t:Th}(h:j0 CT H a i t)(k:NX H H'):j0 CT H' a i t where
 o:=let ⟨fs,e,r⟩:=h.o;#[fs,k _ _ (by nofun) e,r]
 nm:=k _ _ (by nofun) h.nm
 pl:=k _ _ (by nofun) h.pl
def aF.eg{CH CS CT:ϋ}{H H':Hp}{A:Ad}{L:List Ta}{M:Hs}(i:aF CH CS CT H A L M)(k:NX H H'):aF CH CS CT H' A L M where
 h:=let ⟨fs,c,e,r⟩:=i.h;#[fs,c,k _ _ (by nofun) e,r]
 t:=let ⟨fs,c,e,r⟩:=i.t;#[fs,c,k _ _ (by nofun) e,r]
 ml:=k _ _ (by nofun) i.ml
 len:=i.len
 th:=fun j t e=>let ⟨a,e1,h⟩:=i.th j t e;#[a,e1,h.eg k]
 ro:=k _ _ (by nofun) i.ro
 st:=k _ _ (by nofun) i.st
 tr:=k _ _ (by nofun) i.tr
 ov:=k _ _ (by nofun) i.ov
 un:=k _ _ (by nofun) i.un
 nd:=i.nd
def  wW(xs:List V):Prop:=∀ v∈xs,∀ a,v≠V.ref a
def l8(zs:List Int):wW (zs.map V.int):=fun v hv a=>by let⟨z,_,rfl⟩:=zn.mp hv;nofun
def  kC:HO->Prop
 | .lst xs=>wW xs
 | .cD _ _=>True
 | .tup _=>True
 | .ext _=>True
 | _=>False
def  jj(st:ϋ)(H H':Hp):Prop:=∀ c o,c≠st->kC o->H c=!o->H' c=!o
def  bI(H H':Hp):Prop:=∀ c o,kC o->H c=!o->H' c=!o
def bI.l{st:ϋ}{H H':Hp}(k:bI H H'):jj st H H':=fun c o _ h e=>k c o h e
def jj.trans{st:ϋ}{H H1 H2:Hp}(a:jj st H H1)(b:jj st H1 H2):jj st H H2:=fun c o n h e=>b c o n h (a c o n h e)
def bI.trans{H H1 H2:Hp}(a:bI H H1)(b:bI H1 H2):bI H H2:=fun c o h e=>b c o h (a c o h e)
def bI.of{H H':Hp}(s:aj H H'):bI H H':=fun c o _ e=>s _ _ e
def bI.tab{H H':Hp}{Pt:ϋ}{q:Str}{es:List Ent}(k:bI H H')(t:dv H Pt q es):dv H' Pt q es:=rO t fun _ _ e=>k _ _ trivial e
def tL{Pt:ϋ}{q:Str}{c:ϋ}{H H1:Hp}(L:kR Pt q c H H1):jj Pt H H1:=fun b o n _ e=>L.MF b o n e
section
variable {CH CS CT:ϋ}{H H':Hp}{A:Ad}{L:List Ta}{M:Hs}
def aF.yn(i:aF CH CS CT H A L M)(h0:M.ts≠[]){b:ϋ}{o:HO}(hb:b∈A.w++L.flatMap Ta.l)(hx:kC o)(e:H b=Option.some o):False:=by
 rcases Fr.mp hb with h | h
 ·simp only[Ad.w,jp,kt,ww]at h;rcases h with rfl | rfl | rfl | rfl | rfl | rfl | rfl | rfl
  ·let⟨_,_,e',_⟩:=i.h;rw[e']at e;cases e;show hx
  ·let⟨_,_,e',_⟩:=i.t;rw[e']at e;cases e;show hx
  ·rw[i.ml]at e;cases e;cases L with
   | nil=>show h0 (Rs.mp i.len.symm)
   | cons a r=>show hx (-a.th) () a.th rfl
  ·rw[i.ro]at e;cases e;show hx
  ·rw[i.st]at e;cases e;show hx
  ·rw[i.tr]at e;cases e;show hx
  ·rw[i.ov]at e;cases e;show hx
  ·rw[i.un]at e;cases e;show hx
 ·let⟨a,ha,h⟩:=List.mem_flatMap.mp h;let⟨j,ha⟩:=List.getElem?_of_mem ha;have bS:j < M.ts.length:=by rw[<- i.len];show(lm.mp ha).1
  let⟨a',e1,t⟩:=i.th j _ (sw bS);rw[ha]at e1;cases e1;simp only[Ta.l,jp,kt,ww]at h;rcases h with rfl | rfl | rfl
  ·let⟨_,e',_⟩:=t.o;rw[e']at e;cases e;show hx
  ·rw[t.nm]at e;cases e;show hx
  ·rw[t.pl]at e;cases e;show hx
def aF.off(i:aF CH CS CT H A L M)(h0:M.ts≠[]){W:List ϋ}(hW:∀ b∈W,b∈A.w++L.flatMap Ta.l)(k:Kp W H H'):bI H H':=fun c o ho e=>k c _ (fun hc=>i.yn h0 (hW c hc) ho e) e
def aF.drawn{st:ϋ}(i:aF CH CS CT H A L M)(h0:M.ts≠[])(d:Dr st H)(k:dq st H H'):aF CH CS CT H' A L M:=by
 show i.keep (W:=[st]) (fun b o hb e=>k b o (by simpa using hb) e) fun b hb hm=>?_;obtain rfl:b=st:=by simpa using hm
 let⟨x,y,z,e⟩:=d;show i.yn h0 hb (show kC (.lst [.int x,.int y,.int z]) from l8 [x,y,z]) e
end
def Gd.ne{M:Hs}(g:Gd M):M.ts≠[]:=fun e=>by let⟨t,h,_⟩:=g.t0;rw[e]at h;cases h
structure kN(M:Hs)(n:Nat):Prop where
 g:Gd M
 n:M.ts.length<=n
def  Hz(N:Cn)(CO:ϋ)(A:Ad)(n:Nat)(H:Hp):Prop:=∃ L M,cF N CO H A L M []/\kN M n
def fv.eg{CO:ϋ}{H H':Hp}{A:Ad}{L:List Ta}{hs:List Hw}(h:fv CO H A L hs)(k:NX H H'):fv CO H' A L hs:=#[k _ _ (by nofun) h.d,h.n,fun e he=>k _ _ (by nofun) (h.o e he),h.f,h.lt,h.pw]
def cF.eg{N:Cn}{CO:ϋ}{H H':Hp}{A:Ad}{L:List Ta}{M:Hs}{hs:List Hw}(h:cF N CO H A L M hs)(k:NX H H'):cF N CO H' A L M hs:=#[h.1.eg k,h.2.eg k]
def cF.same{N:Cn}{CO:ϋ}{H H':Hp}{A:Ad}{L:List Ta}{M:Hs}{hs:List Hw}(h:cF N CO H A L M hs)(s:aj H H'):cF N CO H' A L M hs:=h.eg fun b o _ e=>s b o e
def cF.drawn{N:Cn}{CO:ϋ}{H H':Hp}{A:Ad}{L:List Ta}{M:Hs}{hs:List Hw}{st:ϋ}(i:cF N CO H A L M hs)(h0:M.ts≠[])(d:Dr st H)(k:dq st H H'):cF N CO H' A L M hs:=by
 have n2:∀ {b:ϋ}{o:HO},(∀ xs,o≠.lst xs)->H b=!o->H' b=!o:=fun {b o} no e=>k _ _ (fun z=>by
  let⟨x,y,z',d⟩:=d;rw[z,d]at e;cases e;show no _ rfl) e
 show#[i.1.drawn h0 d k,n2 (by nofun) i.2.d,i.2.n,fun e he=>n2 (by nofun) (i.2.o e he),i.2.f,i.2.lt,i.2.pw]
def Gd.chg{M:Hs}(g:Gd M){k:Nat}{t t':Th}(ht:M.ts[k]?=!t)(h1:t'.kd=t.kd)(h2:t'.bK=t.bK)(h3:t'.aG=t.aG)(h4:t.kd≠("lead":Str)):Gd { M with ts:=M.ts.set k t' }:=by
 have old:∀ (j:Nat) (u:Th),M.ts[j]?=!u->∃ u':Th,(M.ts.set k t')[j]?=!u'/\u'.kd=u.kd/\u'.bK=u.bK:=fun j u hu=>by
  have hj:=(lm.mp hu).1;by_cases e:j=k
  ·subst e;rw[Db hj];rw[ht]at hu;cases hu;show#[_,rfl,h1,h2]
  ·rw[AT (pp e)];show#[u,hu,rfl,rfl]
 show g.lift rfl rfl rfl rfl rfl old fun j u hu=>?_;have hu':(M.ts.set k t')[j]?=!u:=hu;have ll:M.ts.length<=(M.ts.set k t').length:=by rw[Ja4];show pi _
 by_cases e:j=k
 ·subst e;rw[Db (lm.mp ht).1]at hu';cases hu';have q:qW { M with ts:=M.ts.set j t' } j { t' with tx:=t.tx }:=(g.th j t ht).lift ll h1 h2 h3 rfl old;show#[q.nl,q.kd,fun e=>absurd (h1.symm.trans e) h4,q.pl,q.ch]
 ·rw[AT (pp e)]at hu';show(g.th j u hu').lift ll rfl rfl rfl rfl old
def kN.chg{M:Hs}{n k:Nat}(h:kN M n){t t':Th}(ht:M.ts[k]?=!t)(h1:t'.kd=t.kd)(h2:t'.bK=t.bK)(h3:t'.aG=t.aG)(h4:t.kd≠("lead":Str)):kN { M with ts:=M.ts.set k t' } n:=#[h.g.chg ht h1 h2 h3 h4,by have:=h.n;simp;omega]
def EY{N:Cn}{H:Hp}{Q:VK}(h:∀ v H2,aj H H2->Q v H2):∀ r:Rf,da N H (rX N Q) r
 | .bR y=>fun d H' s e=>.inr #[rfl,d,y,rfl,e,fun p H2 s2 _ _=>h _ H2 (s.trans s2)]
 | .way r=>fun fd d H' s _ e=>.inl #[rfl,d,fd,rfl,e,fun p H2 s2 _ _=>h _ H2 (s.trans s2)]
def Aq{N:Cn}{CO:ϋ}{H:Hp}{A:Ad}{L:List Ta}{M:Hs}{n:Nat}{z kd mi re tx:Str}{t:List Nat}{Q:VK}(i:cF N CO H A L M [])(g:kN M n)(An:n<=80)(hz:z∈AS)(hp:rQ t)(oR:mi∈gQ)(kT:re∈gQ)(b9:kd=("folder":Str)\/kd=("file":Str)\/kd=("lead":Str))(GG:kd=("lead":Str)->∃ tl,tx=Tx.S tl/\fg tl/\tl.length<=120)(q:∀ v H',Hz N CO A (n+1) H'->bI H H'->Q v H') :
  zr N H A L M z t kd mi re tx (fun v H'=>∀ p H2,aj H' H2->H' p=none->H2 p=!.tup [.str "told",v]->Q (-p) H2) (rX N Q):=by
 have pP:fg t:=#[hp.l1,by have:=hp.l2;omega,hp.all];have hw:=hp.n;have hn:=g.n;let⟨root,r,hr,hf⟩:=VZ (L:=L) g.g i.1.len ∅ hz pP ∅;let⟨r0,k0,ga⟩:=g.g.as z hz;show#[i.1,pP,by rw[ga.ro];rfl,oR,kT,by rw[i.1.len];omega,fun f t0 h=>by have:=(g.g.th f t0 h).nl;omega,root,r,hr,fun x e=>EY (fun v H2 s=>q v H2 #[L,M,i.same s,g.g,∅] (bI.of s)) x,fun f nm a0 t0 e jn sE a H' fr i' k' p H2 s2 _ _=>?_];let⟨tf,bo,gY,cB,hv⟩:=hf f nm e;rw[sE]at bo;cases bo;have hW:∀ b∈[A.t,A.ml,a0.nm],b∈A.w++L.flatMap Ta.l:=fun b hb=>by
  simp only[jp,kt,ww]at hb;rcases hb with rfl | rfl | rfl
  ·simp[Ad.w]
  ·simp[Ad.w]
  ·show u8 _ (fU jn (by simp[Ta.l]))
 have kA:=i.1.off g.g.ne hW k';have no':A.ho ∉ A.w++(L++[a]).flatMap Ta.l:=fun z=>by
  rw[List.flatMap_append,<- _X]at z;rcases Fr.mp z with z | z
  ·show i.2.n z
  ·have:=fr _ (by simpa using z);rw[i.2.d]at this;cases this
 have o':fv CO H' A (L++[a]) []:=#[k' _ _ (fun z=>i.2.n (hW _ z)) i.2.d,no',nofun,nofun,nofun,.nil];show q _ H2 #[_,_,cF.same #[i',o'] s2,g.g.make sE gY (by rw[Tx.dE];show(zo cB).2.2.2) hv b9 GG,by simp;omega] (kA.trans (bI.of s2))
def ib{σ:St}:pb [] σ []:=#[rfl,nofun]
def cm{j:Nat}{ix:List Nat}{σ:St}{v:V}{vs:List V}(h:σ[j]?=!(!v))(c:pb ix σ vs):pb (j::ix) σ (v::vs):=#[KM (· + 1) c.1,fun i k u h1 h2=>by
 cases i with
 | zero=>cases h1;cases h2;show h
 | succ i=>show c.2 i k u h1 h2]
abbrev jT(P:ύ)(w:World)(K:ν)(mg:Str->Option ϊ)(base:Heap)(N:List Str)(q:Str)(e:Expr)(cl:List (Str×ϋ))(W:List V->dU):Prop:=∀ (f:ϋ) (ah:ϊ) (vs:List V) (A:Around) (outer:List Env) (s:ό) (H:Hp) (Q:VK) (E:XK),bh 17 (A.deeper (PySem.W.envX q (eh e) s.heap.objs.size f ah cl))->W vs H Q E->∃ t,PE (jA P w K mg base N q (eh e) f ah cl A outer s H E) (adH e) t/\t (vs.map some) H Q
def  acw(N:Cn)(CO Pe:ϋ):Sp:=jF fun x _ H Q _=>X3 fun A n es=>A5 (Hz N CO A n H) (A.a=x) (n<=80) (dv H Pe iO es) (∀ v es' H',Hz N CO A (n+1) H'->dv H' Pe iO es'->jj Pe H H'->Q v H')
def  O4:List V->List V
 | [a,b,c,d,e]=>[a,b,c,d,e]
 | _=>[]
def  si:List V->List V
 | [a,b,c,d]=>[a,b,c,d]
 | _=>[]
def  MO:List V->List V
 | [h,z,p,m,r]=>[h,z,p,.str "text",m,r]
 | _=>[]
def abP{Pe:ϋ}(C:W.CodeHd base T.pQ Pe)(iI:base.BuiltinsAt mg Pe):aB P w K mg base (bc P w) 20 T.HX T.zx ["_law_house","_law_cell"] (acw T.cn T.ck Pe):=by
 show T.wL.yq mV (fun vs H Q E h=>?_) (fun ah A outer s H vs Q E bM hr h=>?_)
 ·show cy h fun _ _ _=>rfl
 ·show cy h fun x cell h=>?_;let⟨AA,n,es,⟨L,M,i,g⟩,rfl,An,tab,q⟩:=h;have LB_l_built0:jT P w K mg base ["_law_house","_law_asker","_law_path_here","_law_mine","_law_rest"] iO (jk 7 0) (wU s.heap.objs.size) (fun vs=>IF T.cn (O4 vs)):=by
   intro f ah vs A outer s' H Q E hr hw;unfold O4 at hw;split at hw
   ·show#[_,(bY (Xv T) hr.m T.XQ T.xG.kp T.En .nil kF (aa (ad 0) (aa (ad 1) (aa (ad 2) (aa (ad 3) (aa (ad 4) ae)))))).h,?_];simp only[wS,NE];left;show hw
   ·show hw.elim
  have LB_l_built1:jT P w K mg base ["_law_house","_law_asker","_law_path_here","_law_mine","_law_rest"] iO (jk 8 0) (yG s.heap.objs.size) (fun vs=>LR T.cn (MO vs)):=by
   intro f ah vs A outer s' H Q E hr hw;unfold MO at hw;split at hw
   ·show#[_,(bY (XW T) hr.m T.Yu T.xy.kp T.Ey .nil kF (aa (ad 0) (aa (ad 1) (aa (ad 2) (aa ap (aa (ad 3) (aa (ad 4) ae))))))).h,?_];simp only[wS,NE];left;show hw
   ·show hw.elim
  have LB_l_built2:jT P w K mg base ["_law_house","_law_asker","_law_path_here","_law_lead"] iO (jk 9 0) (yu s.heap.objs.size) (fun vs=>Ni T.cn (si vs)):=by
   intro f ah vs A outer s' H Q E hr hw;unfold si at hw;split at hw
   ·show#[_,(bY (ZD T) hr.m T.qK.m T.qK.F.kp T.qK.b .nil kF (aa (ad 0) (aa (ad 1) (aa (ad 2) (aa (ad 3) ae))))).h,?_];simp only[wS,NE];left;show hw
   ·show hw.elim
  show bt (b:=aO kK) ((al (aQ 2 mV.nd (Mr<$>T.lC (aa (ad 1) ae)))
  (al (aQ 3 mV.nd (ce (bP (K:=K) rfl) (cr (aa ap (aa ap (aa ap ae)))) (fO<$>T.bN (aa (ad 2) (aa bi ae)))))
  (al (aQ 4 mV.nd (Bl<$>T.iZ (aa (ad 2) (aa bi ae))))
  (al (aQ 5 mV.nd (fO<$>T.bN (aa (ad 2) (aa bi ae))))
  (al (aQ 6 mV.nd (Bl<$>T.iZ (aa (ad 2) (aa bi ae))))
  (al (aQ 7 mV.nd (ce (bP (K:=K) rfl) (cr (aa ap (aa ap (aa ap (aa ap (aa ap ae)))))) (fO<$>T.bN (aa (ad 2) (aa bi ae)))))
  (al (aQ 8 mV.nd (ce (bP (K:=K) rfl) (cr (aa ap (aa ap (aa ap (aa ap (aa ap (aa ap ae))))))) (fO<$>T.bN (aa (ad 2) (aa bi ae)))))
  (al (aY (bw oT (ad 5) bi) (ao (aM (kO (kI T) hr.m T.cI.m T.cI.F.kp T.cI.b cO LB_l_built0 (Wx (bM.symm.trans T.EN) C iI) (S4 _) Us))) bv)
  (al (aY (bw oT (ad 5) bi) (ao (aM (kO (kI T) hr.m T.cI.m T.cI.F.kp T.cI.b cO LB_l_built1 (VJ (bM.symm.trans T.EN) C iI) (ab9 _) T3))) bv)
  (ao (aM (kO (kI T) hr.m T.cI.m T.cI.F.kp T.cI.b cO LB_l_built2 (YN (bM.symm.trans T.EN) C iI) (abm _) Yv))))))))))))) ?_
  rw[show start pk [V.ref AA.a,V.int cell]=[!V.ref AA.a,!V.int cell,none,none,none,none,none,none,none] from rfl];right;intro st a b c aX;have s1:=aj.upd (o:=.lst [.int a,.int b,.int c]) aX;have d1:Dr st (upd H st (.lst [.int a,.int b,.int c])):=#[a,b,c,aw];generalize upd H st (.lst [.int a,.int b,.int c])=H1 at s1 d1 ⊢;right;show jY d1 rfl () () fun v H2 hv d2 k2=>?_;let⟨z,hz,rfl⟩:∃ z,z∈AS/\v=V.str z:=by
   simp only[jp,kt,ww]at hv;rcases hv with rfl | rfl | rfl <;> show#[_,by symm,rfl]
  right;show#[d2,⋯,⋯,fun t H3 hp d3 k3=>ai ?_];left;show l6 d3 ⋯ ⋯ fun way H4 _ _ d4 k4=>ai ?_;left;show#[d4,⋯,⋯,fun tl H5 bD d5 k5=>ai ?_];left;show jY d5 rfl () () fun v H6 hv d6 k6=>?_;let⟨mi,oR,rfl⟩:∃ z,z∈gQ/\v=V.str z:=by
   simp only[jp,kt,ww]at hv;rcases hv with rfl | rfl | rfl | rfl | rfl <;> show#[_,by symm,rfl]
  right;show jY d6 rfl () () fun v H7 hv d7 k7=>?_;let⟨re,kT,rfl⟩:∃ z,z∈gQ/\v=V.str z:=by
   simp only[jp,kt,ww]at hv;rcases hv with rfl | rfl | rfl | rfl | rfl | rfl <;> show#[_,by symm,rfl]
  have kk:dq st H1 H7:=((((k2.trans k3).trans k4).trans k5).trans k6).trans k7;have i7:=(i.same s1).drawn g.g.ne d1 kk;have kA:bI H H7:=fun c o ho e=>kk c o (fun z=>by rw[z,aX]at e;cases e) (s1 _ _ e);have sZ:=kA.tab tab;clear d1 d2 d3 d4 d5 d6 d7 k2 k3 k4 k5 k6 k7 kk s1;have fin:∀ {c:ϋ}{H8:Hp},kR Pe iO c H7 H8->∀ v H',Hz T.cn T.ck AA (n+1) H'->bI H8 H'->Q v H':=fun L8 v H' hh k=>by
   let⟨es8,t8⟩:=L8.tab;show q v es8 H' hh (k.tab t8) (kA.l.trans ((tL L8).trans k.l))
  right;show gL (fun _=>?_) (fun _=>ai ?_)
  ·show#[es,[-AA.a,.str z,.str (Tx.S t),.str mi,.str re],sZ,cm rfl (cm rfl (cm rfl (cm rfl (cm rfl ib)))),fun c H8 L8=>#[L8.code,AA,L,M,t,rfl,Aq (i7.eg (mP L8 sZ)) g An hz hp oR kT (.inl rfl) (fun e=>absurd e (by symm)) (fin L8),rfl]]
  ·left;show gL (fun _=>?_) (fun _=>?_)
   ·show#[es,[-AA.a,.str z,.str (Tx.S t),.str mi,.str re],sZ,cm rfl (cm rfl (cm rfl (cm rfl (cm rfl ib)))),fun c H8 L8=>#[L8.code,AA,L,M,t,rfl,Aq (i7.eg (mP L8 sZ)) g An hz hp oR kT (.inr (.inl rfl)) (fun e=>absurd e (by symm)) (fin L8),rfl,by symm]]
   ·have hl:=bD.l2;have zS:fg tl:=#[bD.l1,∅,bD.all];left;show#[es,[-AA.a,.str z,.str (Tx.S t),.str (Tx.S tl)],sZ,cm rfl (cm rfl (cm rfl (cm rfl ib))),fun c H8 L8=>#[L8.code,AA,L,M,t,tl,rfl,rfl,Aq (i7.eg (mP L8 sZ)) g An hz hp (by symm) (by symm) (.inr (.inr rfl)) (fun _=>#[tl,rfl,zS,∅]) (fin L8),rfl,zS,∅]]
def  kJ(H H':Hp):Prop:=∀ b o,((∃ xs,o=.lst xs)\/∃ xs,o=.tup xs)->H b=!o->H' b=!o
def NX.s{H H':Hp}(k:NX H H'):kJ H H':=fun b o h e=>k b o (by rcases h with ⟨_,rfl⟩ | ⟨_,rfl⟩ <;> nofun) e
def kJ.l{H H':Hp}(k:kJ H H'){b:ϋ}{xs:List V}(e:H b=!.lst xs):H' b=!.lst xs:=k _ _ (.inl #[_,rfl]) e
def kJ.t{H H':Hp}(k:kJ H H'){b:ϋ}{xs:List V}(e:H b=!.tup xs):H' b=!.tup xs:=k _ _ (.inr #[_,rfl]) e
def gS.wV{H H':Hp}{p:ϋ}(s:kJ H H'):∀ {r:Res},gS H p r->gS H' p r
 | .found _ _,e=>s.t e
 | .failed _ _,e=>s.t e
 | .ring _,⟨l,e,f⟩=>#[l,s.t e,s.l f]
def kJ.of{H H':Hp}(s:aj H H'):kJ H H':=fun _ _ _ e=>s _ _ e
def xQ{K:ν}{H:Hp}{p r:ϋ}{xs:List V}{Q:VK}(e:H p=!.tup xs)(f:H r=!.tup xs)(h:xs.all cH=true)(q:Q (.bl true) H):rp K 4 (-p) (-r) H Q:=#[_,_,.inr #[bH.of e,bH.of f],rfl,DE.pj h,q]
def  uR(H:Hp)(p:ϋ)(g:Nat):Sum Rf Nat->Prop
 | .inl (.way r)=>∃ p2,H p=!.tup [.str "way",-p2]/\gS H p2 r
 | .inl (.bR y)=>H p=!.tup [.str "deed",.str y]
 | .inr _=>H p=!.tup [.str "told",.int (g:Nat)]
def uR.wV{H H':Hp}{p:ϋ}{g:Nat}(s:kJ H H'):∀ {x:Sum Rf Nat},uR H p g x->uR H' p g x
 | .inl (.way _),⟨p2,e,f⟩=>#[p2,s.t e,f.wV s]
 | .inl (.bR _),e=>s.t e
 | .inr _,e=>s.t e
def  adA(N:Cn):Sp:=fun vs H Q _=>∃ A L M z t y root e x,∃ g:Nat,vs=[-A.a,.str z,.str (Tx.S t),.str y,.int (g:Int)]/\aF N.CH N.CS N.CT H A L M/\xE #[L,M,z,true,root] t y e x/\∀ p H',aj H H'->uR H' p g x->Q (-p) H'
def R8:T.qV.k P w base 15 (adA T.cn):=by
 exists T.qV,Im,⟨_,_,_,_,_,_,_,_,_,_,e,_⟩;let⟨AA,L,M,z,t,y,root,e,x,g,ev,i,⟨pw,g1,g2⟩,q⟩:=h;subst ev;show bt (b:=aO EG) ((al (aQ 5 Im.nd (bn (xw T) hr.m T.zj T.oX.kp T.rL (.cons (show RelV (.bl true) _ from rfl) .nil) ay (aa (ad 0) (aa (ad 1) (aa (ad 2) ae)))))
   (al (aY (dS (cN (df (wQ (K:=K) rfl) T.i8 iX (aa (ad 5) (aa (dL (-T.dX) T.xT rfl) ae))))) (ao (aM (dl (aa ap (aa (ME<$>T.lJ (aa (ad 5) ae)) ae))))) bv)
   (al (aY (bw gj (uM<*T.ij (ad 0) (aa (am T.ig T.m9 (ad 5)) ae)) ap) (ao (aM (dl (aa ap (aa ap ae))))) bv)
   (al (aY (fM (im (bw (jU (K:=K) rfl) ap (ad 3)) (qF (dS (cN (cW T.aJ T.jE.h (ye T) hr.m T.jE.b .nil cO (ad 0) (aa (ad 1) (aa (am T.ig T.m9 (ad 5)) (aa ap ae))))))))) (ao (aM (dl (aa ap (aa ap ae))))) bv)
   (al (aY (fM (im (bw (jU (K:=K) rfl) ap (ad 3)) (qF (dS (cN (cW T.aJ T.jE.h (ye T) hr.m T.jE.b .nil cO (ad 0) (aa (ad 1) (aa (am T.ig T.m9 (ad 5)) (aa ap ae))))))))) (ao (aM (dl (aa ap (aa ap ae))))) bv)
   (ao (aM (dl (aa ap (aa (ad 4) ae))))))))))) ?_
 exists 1;right;show#[AA,L,M,root,t,e,rfl,i,rfl,pw,fun fd H1 s1 aS=>ai ?_];have i1:=i.same s1;let⟨kfs,kc,kh,_,sL⟩:=i1.h;left;by_cases hfound:∃ k ns,e.res=.found k ns
 ·let⟨k,ns,hk⟩:=hfound;let⟨a,th,ha,aE,g3,g4⟩:=g2 k ns hk;rw[hk]at aS;let⟨bu,aS⟩:=aS;show#[_,_,_,.of (.ins aS T.ig T.q1 T.q2 T.q3 T.q4),.cls T.q5,aW (ai ?_)];left;show mI kh sL #[fd,_,_,_,rfl,aS,rfl,AA,L,M,k,a,th,i1,rfl,rfl,ha,aE,?_];by_cases b9:th.kd=("folder":Str)
  ·show fb (ul b9) #[fits (),fun p hp=>q p _ (s1.trans (aj.upd hp)) (by rw[g3 b9];show aw)]
  let⟨g5,g6⟩:=g4 b9;show eF (mo b9) ?_;have fin:∀ {y':Str}{xs:List V},xs=[.str "deed",.str y']->x=.inl (.bR y')->xs.length<=sizeLine/\∀ p,H1 p=none->Q (V.ref p) (upd H1 p (.tup xs)):=fun e hx=>by
   subst e;show#[fits (),fun p hp=>q p _ (s1.trans (aj.upd hp)) (by rw[hx];show aw)]
  show iS (fun σ' H'=>σ'=[!V.ref AA.a,!V.str z,!V.str (Tx.S t),!V.str y,!V.int (g:Int),!V.ref fd]/\H'=H1/\(aV ("l":Str) y=true->aV ("l":Str) (cf th z)=true)) ?_ ?_
  ·left;change(if aV ("l":Str) y=true then _ else _);cases hy:aV ("l":Str) y with
   | false=>show aW (aW #[rfl,rfl,nofun])
   | true =>
    show bE (mI kh sL #[fd,_,_,_,rfl,aS,rfl,yC i1 pw.hz (by symm) aE ?_]);cases hm:aV ("l":Str) (cf th z) with
    | true=>show aW #[rfl,rfl,fun _=>rfl]
    | false=>show bE (fin rfl (g5 hy hm))
  rintro σ' H' ⟨rfl,rfl,hl⟩;let⟨g7,g8⟩:=g6 hl;show iS (fun σ' H''=>σ'=[!V.ref AA.a,!V.str z,!V.str (Tx.S t),!V.str y,!V.int (g:Int),!V.ref fd]/\H''=H'/\(aV ("w":Str) y=true->aV ("w":Str) (cf th z)=true)) ?_ ?_
  ·left;change(if aV ("w":Str) y=true then _ else _);cases hy:aV ("w":Str) y with
   | false=>show aW (aW #[rfl,rfl,nofun])
   | true =>
    show bE (mI kh sL #[fd,_,_,_,rfl,aS,rfl,yC i1 pw.hz (by symm) aE ?_]);cases hm:aV ("w":Str) (cf th z) with
    | true=>show aW #[rfl,rfl,fun _=>rfl]
    | false=>show bE (fin rfl (g7 hy hm))
  rintro σ' H'' ⟨rfl,rfl,hw⟩;left;show#[fits (),fun p hp=>q p _ (s1.trans (aj.upd hp)) (by rw[g8 hw];show aw)]
 ·have jK:∀ k ns,e.res≠.found k ns:=fun k ns h=>hfound #[k,ns,h];let⟨t1,f1,h1,h2⟩:∃ t1 f1,tN K H1 (-fd) t1 f1/\qQ K H1 t1 f1 (-T.dX) false:=by
   cases gU:e.res with
   | found k ns=>show absurd gU (jK k ns)
   | failed k y =>
    rw[gU]at aS;let⟨_,h⟩:=aS;show#[_,_,.of (.ins h T.mW T.q6 T.q2 T.q3 T.q7),.cls T.q8]
   | ring ns =>
    rw[gU]at aS;let⟨_,_,h,_⟩:=aS;show#[_,_,.of (.ins h T.rB T.yy T.q2 T.q3 T.yV),.cls T.AD]
  show#[t1,f1,false,h1,h2,bE #[e.res,aS,fun p2 H2 s2 _ fh=>#[fits (),fun p hp=>?_]]];have s3:=aj.upd (o:=.tup [V.str "way",V.ref p2]) hp;show q p _ ((s1.trans s2).trans s3) (by rw[g1 jK];show#[p2,aw,fh.same s3])
abbrev SD(N:Cn)(H:Hp)(f d:ϋ):Prop:=(∃ fd p r,H f=!.tup [.str "way",-fd]/\jq N H fd r/\H d=!.tup [.str "way",-p]/\gS H p r)\/∃ y v,y≠("way":Str)/\cH v=true/\H f=!.tup [.str y,v]/\H d=!.tup [.str y,v]
def Vl{N:Cn}{H:Hp}{Q:VK}{p:ϋ}{g:Nat}{x:Sum Rf Nat}(hd:uR H p g x)(k:∀ f H',aj H H'->SD N H' f p->(∃ w v,H' p=!.tup [.str w,v]/\w≠("told":Str))->Q (-f) H'):∀ y,x=.inl y->da N H (rX N Q) y:=fun y e=>by
 subst e;cases y with
 | bR y=>show fun d H1 s1 e1=>.inr #[rfl,d,y,rfl,e1,fun f H2 s2 _ e2=>k f H2 (s1.trans s2) (.inr #["deed",.str y,by symm,rfl,e2,s2 _ _ (s1 _ _ hd)]) #[_,_,s2 _ _ (s1 _ _ hd),by symm]]
 | way r =>
  let⟨p2,e2,e3⟩:=hd;show fun fd d H1 s1 t1 e1=>.inl #[rfl,d,fd,rfl,e1,fun f H2 s2 _ e4=>k f H2 (s1.trans s2) (.inl #[fd,p2,r,e4,t1.same s2,s2 _ _ (s1 _ _ e2),(e3.same s1).same s2]) #[_,_,s2 _ _ (s1 _ _ e2),by symm]]
def ab8{M:Hs}{L:List Ta}{n:Nat}{z y:Str}{t:List Nat}(g:kN M n)(hn:n<=60)(hL:L.length=M.ts.length)(hz:z∈AS)(p:rQ t):∃ root e x,xE #[L,M,z,true,root] t y e x/\(∀ k,x=.inr k->(∃ ns,e.res=.found k ns)/\∃ t,M.ts[k]?=!t/\t.kd≠("lead":Str)):=by
 have hp:=p.l2;have pz:=g.n;let⟨r,e,_,pw,_⟩:=EF (L:=L) g.g hL ∅ hz true (t:=t) #[p.l1,∅,p.all];by_cases hf:∃ k ns,e.res=.found k ns
 ·let⟨k,ns,hk⟩:=hf;let⟨th,aE,eE⟩:=pw.nl g.g hz hk;let⟨a,ha⟩:=adr hL aE;have one:∀ {x:Sum Rf Nat},((th.kd=("folder":Str)->x=.inl (.bR "folder"))/\(th.kd≠("folder":Str)->(aV ("l":Str) y=true->aV ("l":Str) (cf th z)=false->x=.inl (.bR "look"))/\((aV ("l":Str) y=true->aV ("l":Str) (cf th z)=true)->(aV ("w":Str) y=true->aV ("w":Str) (cf th z)=false->x=.inl (.bR "write"))/\((aV ("w":Str) y=true->aV ("w":Str) (cf th z)=true)->x=.inr k))))->(∀ k',x=.inr k'->k'=k)->∃ root e x,xE #[L,M,z,true,root] t y e x/\(∀ k,x=.inr k->(∃ ns,e.res=.found k ns)/\∃ t,M.ts[k]?=!t/\t.kd≠("lead":Str)):=fun {x} h1 h2 =>
   #[r,e,x,#[pw,fun h=>absurd hk (h k ns),fun k' ns' h=>by rw[hk]at h;cases h;show#[a,th,ha,aE,h1]],fun k' hk'=>by cases h2 k' hk';show#[#[ns,hk],th,aE,eE]]
  by_cases h1:th.kd=("folder":Str)
  ·show one (x:=.inl (.bR "folder")) #[fun _=>rfl,fun z=>absurd h1 z] nofun
  by_cases h2:aV ("l":Str) y=true/\aV ("l":Str) (cf th z)=false
  ·show one (x:=.inl (.bR "look")) #[fun z=>absurd z h1,fun _=>#[fun _ _=>rfl,fun h=>by have:=h h2.1;rw[h2.2]at this;cases this]] nofun
  by_cases h3:aV ("w":Str) y=true/\aV ("w":Str) (cf th z)=false
  ·show one (x:=.inl (.bR "write")) #[fun z=>absurd z h1,fun _=>#[fun a b=>absurd #[a,b] h2,fun _=>#[fun _ _=>rfl,fun h=>by have:=h h3.1;rw[h3.2]at this;cases this]]] nofun
  ·show one (x:=.inr k) #[fun z=>absurd z h1,fun _=>#[fun a b=>absurd #[a,b] h2,fun _=>#[fun a b=>absurd #[a,b] h3,fun _=>rfl]]] fun k' h=>by cases h;rfl
 ·show#[r,e,.inl (.way e.res),#[pw,fun _=>rfl,fun k ns h=>absurd #[k,ns,h] hf],nofun]
def  cb(ts:List Th):List V:=ts.map fun t=>V.str t.tx
def oz(ts:List Th):wW (cb ts):=fun v hv a=>by let⟨t,_,rfl⟩:=zn.mp hv;nofun
def  cG(hs:List Hw)(pa:Nat->ϋ):List (Key×V):=hs.map fun e=>(.inl (e.no:Int),-(pa e.no))
structure cQ(N:Cn)(CO:ϋ)(A:Ad)(L:List Ta)(lt kd cl:ϋ)(n g:Nat)(hs:List Hw)(M:Hs)(pa:Nat->ϋ)(H:Hp):Prop where
 i:cF N CO H { A with hg:=g } L M hs
 z:kN M n
 tx:H lt=!.lst (cb M.ts)
 d:H kd=!.dK (cG hs pa)
 p:∀ e∈hs,H (pa e.no)=!.tup [.int (e.th:Int),.str e.rg]
 c:H cl=!.lst [.int (g:Int)]
 th:∀ e∈hs,∃ t,M.ts[e.th]?=!t/\t.kd≠("lead":Str)
 nk:kd ∉ A.w++L.flatMap Ta.l
 no:kd≠A.ho
 m:hs.length<=g
section
variable {N:Cn}{CO:ϋ}{A:Ad}{L:List Ta}{lt kd cl:ϋ}{n g:Nat}{hs:List Hw}{M:Hs}{pa:Nat->ϋ}{H H':Hp}
def cQ.eg(j:cQ N CO A L lt kd cl n g hs M pa H)(k:NX H H'):cQ N CO A L lt kd cl n g hs M pa H':=#[j.i.eg k,j.z,k _ _ (by nofun) j.tx,k _ _ (by nofun) j.d,fun e he=>k _ _ (by nofun) (j.p e he),k _ _ (by nofun) j.c,j.th,j.nk,j.no,j.m]
def cQ.same(j:cQ N CO A L lt kd cl n g hs M pa H)(s:aj H H'):cQ N CO A L lt kd cl n g hs M pa H':=j.eg fun b o _ e=>s b o e
def cQ.Cq(j:cQ N CO A L lt kd cl n g hs M pa H):lt≠cl:=fun e=>by
 have h:=j.tx;rw[e,j.c]at h;let⟨t,h0,_⟩:=j.z.g.t0;cases hm:M.ts with
 | nil=>rw[hm]at h0;cases h0
 | cons a r=>rw[hm]at h;cases h
def cQ.drawn{st:ϋ}(j:cQ N CO A L lt kd cl n g hs M pa H)(n1:lt≠st)(n2:cl≠st)(d:Dr st H)(k:dq st H H'):cQ N CO A L lt kd cl n g hs M pa H':=by
 have n3:∀ {b:ϋ}{o:HO},(∀ xs,o≠.lst xs)->H b=!o->H' b=!o:=fun {b o} no e=>k _ _ (fun z=>by
  let⟨x,y,z',d⟩:=d;rw[z,d]at e;cases e;show no _ rfl) e
 show#[j.i.drawn j.z.g.ne d k,j.z,k _ _ n1 j.tx,n3 (by nofun) j.d,fun e he=>n3 (by nofun) (j.p e he),k _ _ n2 j.c,j.th,j.nk,j.no,j.m]
def cQ.off{W:List ϋ}(j:cQ N CO A L lt kd cl n g hs M pa H)(hW:∀ b∈W,b∈A.ho::(A.w++L.flatMap Ta.l))(k:Kp W H H'):bI H H'/\H' kd=!.dK (cG hs pa) :=
 #[fun c o ho e=>k c _ (fun hc=>by
  rcases jp.mp (hW c hc) with z | z
  ·rw[z,j.i.2.d]at e;cases e;show ho
  ·show j.i.1.yn j.z.g.ne z ho e) e,k _ _ (fun hc=>by
  rcases jp.mp (hW _ hc) with z | z
  ·show j.no z
  ·show j.nk z) j.d]
def Bh(h:hs.Pairwise fun a b=>a.no < b.no){e:Hw}(he:e∈hs):aH (cG hs pa) (.inl (e.no:Int))=!-(pa e.no):=by
 unfold aH cG;rw[SC]
 induction hs with
 | nil=>cases he
 | cons a r ih =>
  rw[wS,SL];by_cases hn:a.no=e.no
  ·rw[LY h (SZ) he hn,ul rfl];show#[_,rfl,rfl]
  ·rw[mo fun z=>hn (by injection z;omega)];rcases jp.mp he with e1 | he
   ·show absurd (by rw[e1]) hn
   ·show ih (_R.mp h).2 he
def Y8{n:Nat}:fw (cG hs pa) (.inl (n:Int))=cG (hs.filter fun u=>u.no != n) pa:=by
 unfold fw cG;rw[_O]
 congr 1
 show _B fun u _=>?_;change decide ((Sum.inl (u.no:Int):Key)≠.inl (n:Int))=(u.no != n);by_cases h:u.no=n
 ·subst h;simp
 ·have h':¬ ((u.no:Int)=n):=∅
  simp[h,h']
def ad7{e:Hw}{p:ϋ}(h:∀ u∈hs,u.no < e.no):putK (cG hs pa) (.inl (e.no:Int)) (-p)=cG (hs++[e]) fun m=>if m=e.no then p else pa m:=by
 have e1:cG hs pa=cG hs fun m=>if m=e.no then p else pa m:=by
  unfold cG;show List.map_congr_left fun u hu=>?_;have:=h u hu;simp[show u.no≠e.no by omega]
 rw[Oz _ (by
  unfold aH cG;rw[Option.map_eq_none_iff,Jan];intro x hx;let⟨u,hu,rfl⟩:=zn.mp hx;intro z;have z':(u.no:Int)=e.no:=by simpa using z
  have:=h u hu;omega),e1]
 unfold cG;rw[Go];simp
end
def cF.keep{N:Cn}{CO:ϋ}{A:Ad}{L:List Ta}{hs:List Hw}{M:Hs}{H H':Hp}{W:List ϋ}(i:cF N CO H A L M hs)(k:Kp W H H')(h1:∀ b∈A.w++L.flatMap Ta.l,b ∉ W)(h2:A.ho ∉ W)(h3:∀ e∈hs,e.x ∉ W):cF N CO H' A L M hs:=#[i.1.keep k h1,k _ _ h2 i.2.d,i.2.n,fun e he=>k _ _ (h3 e he) (i.2.o e he),i.2.f,i.2.lt,i.2.pw]
def cF.lst{N:Cn}{CO:ϋ}{A:Ad}{L:List Ta}{hs:List Hw}{M:Hs}{H:Hp}{l:ϋ}{xs:List V}{o:HO}(i:cF N CO H A L M hs)(h0:M.ts≠[])(e:H l=!.lst xs)(hx:wW xs):cF N CO (upd H l o) A L M hs :=
 i.keep (W:=[l]) (fun b o hb e=>by rw[ag (by simpa using hb)];show e) (fun b hb z=>by
  rw[ut.mp z]at hb;show i.1.yn (o:=.lst xs) h0 hb hx e) (by rw[ut];show cC i.2.d e (by nofun)) fun u hu=>by rw[ut];show cC (i.2.o u hu) e (by nofun)
def cF.DZ{N:Cn}{CO:ϋ}{A:Ad}{L:List Ta}{hs:List Hw}{M:Hs}{H:Hp}{l:ϋ}{xs:List (Key×V)}{o:HO}(i:cF N CO H A L M hs)(e:H l=!.dK xs)(h1:l ∉ A.w++L.flatMap Ta.l)(h2:l≠A.ho):cF N CO (upd H l o) A L M hs :=
 i.keep (W:=[l]) (fun b o hb e=>by rw[ag (by simpa using hb)];show e) (fun b hb z=>by
  rw[ut.mp z]at hb;show h1 hb) (by rw[ut];show pp h2) fun u hu=>by rw[ut];show cC (i.2.o u hu) e (by nofun)
def  fA(P lt cl:ϋ)(H H':Hp):Prop:=∀ c o,c≠P->c≠lt->c≠cl->kC o->H c=!o->H' c=!o
def fA.trans{P lt cl:ϋ}{H H1 H2:Hp}(a:fA P lt cl H H1)(b:fA P lt cl H1 H2):fA P lt cl H H2:=fun c o n m l h e=>b c o n m l h (a c o n m l h e)
def jj.k3{P lt cl:ϋ}{H H':Hp}(k:jj P H H'):fA P lt cl H H':=fun c o n _ _ h e=>k c o n h e
def bI.k3{P lt cl:ϋ}{H H':Hp}(k:bI H H'):fA P lt cl H H':=k.l.k3
def ac1{C dx:ϋ}{A:Ad}{H:Hp}{fd CG bu:ϋ}{k:Nat}{ns:List Str}{fs:List (Str×V)}{c:Int}(h:H A.a=!.ins C dx fs)(sf:dg fs (px c A))(aS:H fd=!.ins CG bu (rq k ns)):fd≠A.a:=fun e=>by
 rw[e,h]at aS;cases aS;have:=sf "things";cases this
def  Z0(N:Cn)(CO Ph:ϋ):Sp:=fun vs H Q _=>∃ A L lt kd cl n g hs M pa z t y es,vs=[-A.a,-kd,-cl,.str z,.str (Tx.S t),.str y]/\cQ N CO A L lt kd cl n g hs M pa H/\n<=60/\g<=60/\z∈AS/\rQ t/\y∈gQ/\dv H Ph oK es /\
 ∀ g' hs' pa' es' H',g'<=g+1->cQ N CO A L lt kd cl n g' hs' M pa' H'->dv H' Ph oK es'->fA Ph lt cl H H'->Q (.bl true) H'
def aeI{Pe:ϋ}(C:PySem.W.CodeHd base T.pK Pe)(iI:base.BuiltinsAt mg Pe):aB P w K mg base (bc P w) 20 T.Gp T.Ab ["_law_house","_law_kept","_law_count","_law_asker","_law_path_here","_law_rights"] (Z0 T.cn T.ck Pe):=by
 show T.zm.yq zf (fun vs H Q E h=>by let⟨_,_,_,_,_,_,_,_,_,_,_,_,_,_,e,_⟩:=h;rw[e];rfl) (fun ah A outer s H vs Q E bM hr h=>?_);let⟨AA,L,lt,kd,cl,n,g,hs,M,pa,z,t,y,es,ev,j,Hf,hg,hz,hp,hy,tab,q⟩:=h;subst ev;have LB_l_held:jT P w K mg base ["_law_house","_law_asker","_law_path_here","_law_rights"] oK (y6 2 0) (wX s.heap.objs.size) (fun vs=>Ou T.cn T.ck (si vs)):=by
  intro f ah vs A outer s' H Q E hr hw;unfold si at hw;split at hw
  ·show#[_,(bY (R5 T) hr.m T.qf.m T.qf.F.kp T.qf.b .nil kF (aa (ad 0) (aa (ad 1) (aa (ad 2) (aa (ad 3) ae))))).h,?_];simp only[wS,NE];left;show hw
  ·let⟨_,_,_,_,_,_,_,_,_,_,e,_⟩:=hw;cases e
 let⟨root,e,x,hx,HC⟩:=ab8 (y:=y) j.z Hf j.i.1.len hz hp;show bt (b:=aO rR) ((al (aQ 6 zf.nd (R8<$>T.qV (aa (ad 0) (aa (ad 3) (aa (ad 4) (aa (ad 5) (aa (ce (bP (K:=K) rfl) (ad 2) bi) ae)))))))
   (al (aQ 7 zf.nd (bn (xw T) hr.m T.zj T.oX.kp T.rL (.cons (show RelV (.bl true) _ from rfl) .nil) ay (aa (ad 0) (aa (ad 3) (aa (ad 4) ae)))))
   (al (aQ 8 zf.nd (kO (kI T) hr.m T.cI.m T.cI.F.kp T.cI.b cO LB_l_held (aar (bM.symm.trans T.WN) C iI) (Uk _) adU))
   (al (aY (bw gj (ce (bP (K:=K) rfl) (ad 6) bi) ap) (al (oM (ei hr) (ad 1) (ce (bP (K:=K) rfl) (ad 2) bi) (dl (aa (am T.ig T.m9 (ad 7)) (aa (ad 5) ae))))
   (ao (rj (db gO (ce (bP (K:=K) rfl) (ad 2) bi) bi) (tZ (ad 2) bi uS)))) bv)
   (ao (aM (adV<$>T.r6 (aa (ad 8) (aa (ad 6) ae)))))))))) ?_
 rw[show start DX [V.ref AA.a,V.ref kd,V.ref cl,V.str z,V.str (Tx.S t),V.str y]=[!V.ref AA.a,!V.ref kd,!V.ref cl,!V.str z,!V.str (Tx.S t),!V.str y,none,none,none] from rfl];right;simp only[bO,j.c];rw[show cJ [V.int (g:Int)] 0=some (V.int (g:Int)) from gv (j:=0) rfl];show#[{ AA with hg:=g },L,M,z,t,y,root,e,x,g,rfl,j.i.1,hx,fun p H1 s1 hd=>ai ?_];left;show#[{ AA with hg:=g },L,M,root,t,e,rfl,j.i.1.same s1,rfl,hx.1,fun fd H2 s2 aS=>ai ?_];have dZ:=s1.trans s2;have j2:=j.same dZ;have hd2:=hd.wV (kJ.of s2);have sI:=(bI.of dZ).tab tab;left;show#[es,[-AA.a,.str z,.str (Tx.S t),.str y],sI,cm rfl (cm rfl (cm rfl (cm rfl ib))),fun c H3 L3=>#[L3.code,?_]];have nx:=mP L3 sI;let⟨Pa,wo⟩:=L3.tab;have j3:=j2.eg nx;have wa:=hd2.wV nx.s;have Hl:fA Pe lt cl H H3:=((bI.of dZ).l.trans (tL L3)).k3;show#[{ AA with hg:=g },L,M,hs,z,t,y,root,e,x,rfl,j3.i,by have:=j.m;omega,hy,hx,Vl wa fun f H4 s4 ok hn=>ai ?_,fun k hk u du H4 hu i4 k4 f H5 s5 _ hf=>ai ?_]
 ·let⟨w,v,ep,hw⟩:=hn;left;simp only[bO,ep,gy];show eF (mo hw) ?_;left;show#[ok,fun H5 s5=>q g hs pa Pa H5 ∅ (j3.same (s4.trans s5)) ((bI.of (s4.trans s5)).tab wo) (Hl.trans (bI.of (s4.trans s5)).k3)]
 ·subst hk;let⟨⟨ns,gU⟩,tk,fq,eE⟩:=HC k rfl;rw[gU]at aS;let⟨bu,aS⟩:=aS;let⟨kA,d4⟩:=j3.off (W:=[AA.a,AA.ho]) (fun b hb=>by
   simp only[jp,kt,ww]at hb;rcases hb with rfl | rfl <;> simp[Ad.w]) k4
  have zM:=nx _ _ (by nofun) aS;let⟨iE,c3,dB,_,dO⟩:=j3.i.1.h;have zV:=s5 _ _ (k4 _ _ (by
   simp only[jp,kt,ww,Re];show#[ac1 (A:={ AA with hg:=g }) dB dO zM,cC zM j3.i.2.d (by nofun)]) zM)
  have kB:=kA.trans (bI.of s5);have pJ:=kB _ _ (by trivial) (show H3 p=some (.tup [.str "told",.int (g:Nat)]) from wa);have c5:=kB cl (.lst [.int (g:Int)]) (l8 [(g:Int)]) j3.c;have t5:=kB lt (.lst (cb M.ts)) (oz _) j3.tx;have d5:=s5 _ _ d4;have i5:=i4.same s5;have p5:∀ e∈hs,H5 (pa e.no)=!.tup [.int (e.th:Int),.str e.rg]:=fun e he=>kB _ _ (by trivial) (j3.p e he);have zT:=kB.tab wo;have k05:=Hl.trans kB.k3;have Rn:=j3.i.2.lt;clear kB kA i4 k4 s5 d4 zM dB dO wa hd2 wo sI Hl dZ s1 s2;left;simp only[bO,pJ,gy];show fb (ul (by trivial)) (ai ?_);left;show#[fd,_,_,_,rfl,zV,rfl,fits (),fun p6 zI=>?_];show eP zI fun H6 s6 b6=>?_;have a0:∀ {m:Int},cJ [V.int m] 0=!V.int m:=gv (j:=0) rfl;simp only[bO,s6 _ _ c5,a0];show#[kd,_,rfl,hU.k (k:=.inl (g:Int)) (s6 _ _ d5) (ju (by unfold cG;rw[lv];have:=j.m;omega)),?_];rw[show(g:Int)=((#[g,u,du,k,y]:Hw).no:Int) from rfl,ad7 Rn];have nc:cl≠kd:=cC c5 d5 (by nofun);have nlt:lt≠kd:=cC t5 d5 (by nofun);have i6:=i5.same s6;simp only[bO,ag nc,s6 _ _ c5,a0];rw[show fD [V.int ((#[g,u,du,k,y]:Hw).no:Int)].length 0=some 0 from rfl];have i7:=i6.DZ (o:=.dK (cG (hs++[#[g,u,du,k,y]]) fun m=>if m=(#[g,u,du,k,y]:Hw).no then p6 else pa m)) (s6 _ _ d5) j.nk j.no;have tp:∀ {b:ϋ}{o:HO},(∀ xs,o≠.lst xs)->(∀ xs,o≠.dK xs)->H6 b=!o->upd (upd H6 kd (.dK (cG (hs++[#[g,u,du,k,y]]) fun m=>if m=(#[g,u,du,k,y]:Hw).no then p6 else pa m))) cl (.lst ([V.int ((#[g,u,du,k,y]:Hw).no:Int)].set 0 (V.int (((#[g,u,du,k,y]:Hw).no:Int)+1)))) b=!o:=fun {b o} n1 n2 e=>by
   rw[ag (fun z=>by rw[z,s6 _ _ c5]at e;cases e;show n1 _ rfl),ag (fun z=>by rw[z,s6 _ _ d5]at e;cases e;show n2 _ rfl)];show e
  show#[.inr #["told",.int (g:Nat),by symm,rfl,tp (by nofun) (by nofun) (s6 _ _ hf),tp (by nofun) (by nofun) (s6 _ _ pJ)],fun H9 s9=>q (g+1) (hs++[#[g,u,du,k,y]]) (fun m=>if m=(#[g,u,du,k,y]:Hw).no then p6 else pa m) Pa H9 (pi _) (cQ.same #[i7.lst j.z.g.ne (by rw[ag nc];show s6 _ _ c5) (l8 [(g:Int)]),j.z,by rw[ag j.Cq,ag nlt];show s6 _ _ t5,by rw[ag (pp nc),aw],fun e he=>?_,aw,fun e he=>?_,j.nk,j.no,by rw[sK];show Nat.succ_le_succ j.m] s9) ((bI.of s9).tab (rO ((bI.of s6).tab zT) fun b φ e=>tp (by nofun) (by nofun) e)) (k05.trans fun c o n1 n2 n3 ho e=>s9 _ _ ?_)]
  ·rcases Fr.mp he with he | he
   ·have:=Rn e he;rw[wP (show e.no≠g by show wT this)];show tp (by nofun) (by nofun) (s6 _ _ (p5 e he))
   ·rw[ut.mp he,xL rfl];show tp (by nofun) (by nofun) b6
  ·rcases Fr.mp he with he | he
   ·show j.th e he
   ·rw[ut.mp he];show#[tk,fq,eE]
  ·rw[ag n3,ag (fun z=>by rw[z,d5]at e;cases e;show ho)];show s6 _ _ e
def Co{ts:List Th}{k:Nat}{t:Th}:(cb ts).set k (.str t.tx)=cb (ts.set k t):=by unfold cb;rw[List.map_set]
def LU{n k:Nat}(h:k < n):fD n (k:Int)=!k:=by
 unfold fD;rw[xL ∅,xL ∅];rfl
def BQ{K:ν}{H:Hp}{f p:ϋ}{Gx xs1:List V}{b:Bool}{Q:VK}(h0:H p=!.tup Gx)(hf:H f=!.tup (if b=true then xs1 else Gx))(l1:xs1.length<=sizeLine)(f0:Gx.all cH=true)(f1:xs1.all cH=true)(q:∀ H',aj H H'->Q (.bl true) H') :
  xs1.length<=sizeLine/\∀ p1,H p1=none->[V.ref p,V.ref p1].length<=sizeLine/\∀ p2,upd H p1 (.tup xs1) p2=none->bO K (upd (upd H p1 (.tup xs1)) p2 (.lst [-p,-p1])) p2 fun xs=>match cJ xs (if b=true then 1 else 0) with
   | some v=>rp K 4 (-f) v (upd (upd H p1 (.tup xs1)) p2 (.lst [-p,-p1])) Q
   | none=>False:=by
 show#[l1,fun p1 tj=>#[fits (),fun p2 fj=>?_]];have s1:=aj.upd (o:=.tup xs1) tj;have s2:=s1.trans (aj.upd (o:=.lst [-p,-p1]) fj);have e1:upd (upd H p1 (.tup xs1)) p2 (.lst [-p,-p1]) p1=!.tup xs1:=(aj.upd fj) _ _ aw;simp only[bO,aw];cases b with
 | true =>
  rw[show cJ [V.ref p,V.ref p1] (if true=true then 1 else 0)=some (V.ref p1) from gv (j:=1) rfl];show xQ (s2 _ _ hf) e1 f1 (q _ s2)
 | false =>
  rw[show cJ [V.ref p,V.ref p1] (if false=true then 1 else 0)=some (V.ref p) from gv (j:=0) rfl];show xQ (s2 _ _ hf) (s2 _ _ h0) f0 (q _ s2)
def  JF:List V->List V
 | [a,b]=>[a,b]
 | _=>[]
def  w6:List V->List V
 | [a,b,c]=>[a,b,c]
 | _=>[]
def  aeJ(N:Cn)(CO Pu:ϋ):Sp:=fun vs H Q _=>∃ A L lt kd cl n g hs M pa e wy tx es,vs=[-A.a,-kd,-lt,.int ((e:Hw).no:Int),.int wy,.str tx]/\cQ N CO A L lt kd cl n g hs M pa H/\e∈hs/\tx.length<=60/\dv H Pu gz es /\
 ∀ hs' M' es' H',cQ N CO A L lt kd cl n g hs' M' pa H'->dv H' Pu gz es'->fA Pu lt cl H H'->Q (.bl true) H'
def aaE{Pe:ϋ}(C:PySem.W.CodeHd base T.pS Pe)(iI:base.BuiltinsAt mg Pe):aB P w K mg base (bc P w) 20 T.Gk T.Am ["_law_house","_law_kept","_law_texts","_law_held_here","_law_way","_law_text"] (aeJ T.cn T.ck Pe):=by
 show T.xJ.yq uf (fun vs H Q E h=>by let⟨_,_,_,_,_,_,_,_,_,_,_,_,_,_,e,_⟩:=h;rw[e];rfl) (fun ah A outer s H vs Q E bM hr h=>?_);let⟨AA,L,lt,kd,cl,n,g,hs,M,pa,e,wy,tx,es,ev,j,he,lb,tab,q⟩:=h;subst ev;have LB_l_used0:jT P w K mg base ["_law_house","_law_held_here"] gz (jf 2 0) (yO s.heap.objs.size) (fun vs H Q E=>∃ M' e t,∃ A L hs,vs=[-A.a,.int ((e:Hw).no:Int)]/\cF T.cn T.ck H A L M' hs/\e∈hs/\M'.ts[e.th]?=!t/\(aV ("l":Str) e.rg=true->Q (.str t.tx) H)/\(aV ("l":Str) e.rg=false->da T.cn H E (.bR "look"))):=by
  intro f ah vs A outer s' H Q E hr hw;let⟨M',e,t,A',L,hs,ev,i,he,ht,q1,q2⟩:=hw;subst ev;show#[_,(bY (U3 T) hr.m T.qH.m T.qH.F.kp T.qH.b .nil kF (aa (ad 0) (aa (ad 1) ae))).h,?_];simp only[wS,NE];left;show#[A',L,M',hs,e,rfl,i,he,t,ht,q1,q2]
 have LB_l_used1:jT P w K mg base ["_law_house","_law_held_here","_law_text"] gz (jf 3 0) (y8 s.heap.objs.size) (fun vs=>Jd T.cn T.ck (w6 vs)):=by
  intro f ah vs A outer s' H Q E hr hw;unfold w6 at hw;split at hw
  ·show#[_,(bY (WY T) hr.m T.qi.m T.qi.F.kp T.qi.b .nil kF (aa (ad 0) (aa (ad 1) (aa (ad 2) ae)))).h,?_];simp only[wS,NE];left;show hw
  ·let⟨_,_,_,_,_,_,_,_,e,_⟩:=hw;cases e
 have LB_l_used2:jT P w K mg base ["_law_house","_law_held_here"] gz (jf 5 0) (zd s.heap.objs.size) (fun vs=>J4 T.cn T.ck (JF vs)):=by
  intro f ah vs A outer s' H Q E hr hw;unfold JF at hw;split at hw
  ·show#[_,(bY (aaZ T) hr.m T.qo.m T.qo.F.kp T.qo.b .nil kF (aa (ad 0) (aa (ad 1) ae))).h,?_];simp only[wS,NE];left;show hw
  ·let⟨_,_,_,_,_,e,_⟩:=hw;cases e
 let⟨t,ht,eE⟩:=j.th e he;let⟨a,ha⟩:=adr j.i.1.len ht;show bt (b:=aO kQ) ((al (rj (oA (ei hr) (ad 1) (ad 3)) (Je (K:=K) (n:=2) rfl rfl (w9 (il 6 uf.nd) (w9 (il 7 uf.nd) MW))))
   (al (aY (fM (ge (bw mq (MY<*>T.lU (aa (ad 0) (aa (ad 3) ae))) (ad 6)) (km (bw mq (MP<*>T.lX (aa (ad 0) (aa (ad 3) ae))) (ad 7))))) (ao (aM f8)) bv)
   (al (aY (bw gj (ad 4) bi) (al (aQ 8 uf.nd (kO (kI T) hr.m T.cI.m T.cI.F.kp T.cI.b cO LB_l_used0 (ZG (bM.symm.trans T.Bn) C iI) (YZ _) RS))
   (ao (aM (em (qO (K:=K) 4 rfl hr.mX) (ad 8) (ce (bP (K:=K) rfl) (cr (aa (dl (aa ap (aa ap ae))) (aa (dl (aa ap (aa (ce (bP (K:=K) rfl) (ad 2) (ad 6)) ae))) ae))) (qw Dg T.yr wO (aa (em (jU (K:=K) rfl) ap (ad 7)) ae))))))) bv)
   (al (aY (bw gj (ad 4) bi) (al (aQ 8 uf.nd (kO (kI T) hr.m T.cI.m T.cI.F.kp T.cI.b cO LB_l_used1 (R0 (bM.symm.trans T.Bn) C iI) (ado _) aap))
   (al (aY (bw (jU (K:=K) rfl) ap (ad 7)) (ao (rj (ad 5) (tZ (ad 2) (ad 6) uS))) bv)
   (ao (aM (em (qO (K:=K) 4 rfl hr.mX) (ad 8) (ce (bP (K:=K) rfl) (cr (aa (dl (aa ap (aa ap ae))) (aa (dl (aa ap (aa au ae))) ae))) (qw Dg T.yr wO (aa (em (jU (K:=K) rfl) ap (ad 7)) ae)))))))) bv)
   (al (aP (C0 (ad 1) (ad 3)))
   (ao (aM (em (qO (K:=K) 4 rfl hr.mX) (kO (kI T) hr.m T.cI.m T.cI.F.kp T.cI.b cO LB_l_used2 (adJ (bM.symm.trans T.Bn) C iI) (acB _) Uu) (dl (aa ap (aa au ae)))))))))))) ?_
 rw[show start oV [V.ref AA.a,V.ref kd,V.ref lt,V.int (e.no:Int),V.int wy,V.str tx]=[!V.ref AA.a,!V.ref kd,!V.ref lt,!V.int (e.no:Int),!V.int wy,!V.str tx,none,none,none] from rfl];right;show#[kd,-(pa e.no),rfl,.inl #[_,.inl (e.no:Int),.inl j.d,rfl,(Bh j.i.2.pw he).symm],?_];show#[pa e.no,_,rfl,bH.of (j.p e he),rfl,_,_,rfl,_,_,rfl,rfl,ai ?_];left;show#[{ AA with hg:=g },L,M,hs,e,rfl,j.i,he,eF (by rw[ul rfl];rfl) #[{ AA with hg:=g },L,M,hs,e,rfl,j.i,he,eF (by rw[ul rfl];rfl) (ai ?_)]];have k0:∀ {c H1},kR Pe gz c H H1->NX H H1/\(∃ es',dv H1 Pe gz es')/\cQ T.cn T.ck AA L lt kd cl n g hs M pa H1/\fA Pe lt cl H H1:=fun L1=>#[mP L1 tab,L1.tab,j.eg (mP L1 tab),(tL L1).k3];left;show gL (fun _=>ai ?_) (fun _=>ai ?_)
 ·left;show#[es,[-AA.a,.int (e.no:Int)],tab,cm rfl (cm rfl ib),fun c H1 L1=>#[L1.code,?_]];let⟨nx,⟨jJ,iA⟩,j1,k1⟩:=k0 L1;have fin:∀ {f H2},aj H1 H2->H2 f=!.tup (if aV ("l":Str) e.rg=true then [.str "told",.str t.tx] else [.str "deed",.str "look"])->[V.str "deed",V.str "look"].length<=sizeLine/\∀ p,H2 p=none->bO K (upd H2 p (.tup [V.str "deed",V.str "look"])) lt fun xs=>match cJ xs (e.th:Int) with
   | some v=>[V.str "told",v].length<=sizeLine/\∀ p1,upd H2 p (.tup [V.str "deed",V.str "look"]) p1=none->[V.ref p,V.ref p1].length<=sizeLine/\∀ p2,upd (upd H2 p (.tup [V.str "deed",V.str "look"])) p1 (.tup [V.str "told",v]) p2=none->bO K (upd (upd (upd H2 p (.tup [V.str "deed",V.str "look"])) p1 (.tup [V.str "told",v])) p2 (.lst [-p,-p1])) p2 fun xs=>match cJ xs (if aV ("l":Str) e.rg=true then 1 else 0) with
     | some v'=>rp K 4 (-f) v' (upd (upd (upd H2 p (.tup [V.str "deed",V.str "look"])) p1 (.tup [V.str "told",v])) p2 (.lst [-p,-p1])) Q
     | none=>False
   | none=>False:=fun {f H2} s2 hf=>by
   show#[fits (),fun p hp=>?_];show eP hp fun H3 s3 b3=>?_;have qa:=s2.trans s3;simp only[bO,qa _ _ j1.tx];rw[gv (j:=e.th) (v:=V.str t.tx) (by unfold cb;rw[xz,ht];rfl)];show BQ b3 (s3 _ _ hf) (fits ()) rfl rfl fun H4 s4=>q hs M jJ H4 (j1.same (qa.trans s4)) ((bI.of (qa.trans s4)).tab iA) (k1.trans (bI.of (qa.trans s4)).k3)
  show#[M,e,t,{ AA with hg:=g },L,hs,rfl,j1.i,he,ht,fun hl f H2 s2 _ hf=>fin s2 (by rw[xL hl];show hf),fun hl d H2 s2 e2=>.inr #[rfl,d,_,rfl,e2,fun f H3 s3 _ hf=>fin (s2.trans s3) (by rw[wP (by rw[hl];nofun)];show hf)]]
 ·left;show gL (fun _=>ai ?_) (fun _=>ai ?_)
  ·left;show#[es,[-AA.a,.int (e.no:Int),.str tx],tab,cm rfl (cm rfl (cm rfl ib)),fun c H1 L1=>#[L1.code,?_]];let⟨nx,⟨jJ,iA⟩,j1,k1⟩:=k0 L1;show#[{ AA with hg:=g },L,M,hs,e,tx,a,t,rfl,j1.i,he,lb,ha,ht,fun hl d H2 s2 e2=>.inr #[rfl,d,_,rfl,e2,fun f H3 s3 _ hf=>?_],fun hl H2 i2 o2 k2 f H3 s3 _ hf=>?_]
   ·right;change(if aV ("w":Str) e.rg=true then _ else _);show eF hl #[fits (),fun p hp=>?_];have s4:=aj.upd (o:=.tup [V.str "deed",V.str "write"]) hp;have Gq:=(s2.trans s3).trans s4;show BQ (b:=aV ("w":Str) e.rg) (xs1:=[.str "told",.au]) aw (by rw[wP (by rw[hl];nofun)];show s4 _ _ hf) (fits ()) rfl rfl fun H5 s5=>q hs M jJ H5 (j1.same (Gq.trans s5)) ((bI.of (Gq.trans s5)).tab iA) (k1.trans (bI.of (Gq.trans s5)).k3)
   ·let⟨kA,d2⟩:=j1.off (W:=[AA.t,a.th]) (fun b hb=>by
     simp only[jp,kt,ww]at hb;rcases hb with rfl | rfl
     ·simp[Ad.w]
     ·show AC _ (u8 _ (fU ha (by simp[Ta.l])))) k2
    have kB:=kA.trans (bI.of s3);have t3:=kB lt (.lst (cb M.ts)) (oz _) j1.tx;have c3:=kB cl (.lst [.int (g:Int)]) (l8 [(g:Int)]) j1.c;have i3:cF T.cn T.ck H3 { AA with hg:=g } L { M with ts:=M.ts.set e.th { t with tx:=tx } } hs:=cF.same #[i2,o2] s3;have p3:∀ e∈hs,H3 (pa e.no)=!.tup [.int (e.th:Int),.str e.rg]:=fun e he=>kB _ _ (by trivial) (j1.p e he);have d3:=s3 _ _ d2;have wo:=kB.tab iA;have k3:=k1.trans kB.k3 (lt:=lt) (cl:=cl) (P:=Pe);have z3:=j.z.chg (t':={ t with tx:=tx }) ht rfl rfl rfl eE;clear kB kA i2 o2 k2 s3 d2 j1 iA k1;right;change(if aV ("w":Str) e.rg=true then _ else _);show fb hl ?_;have eQ:e.th < (cb M.ts).length:=by unfold cb;rw[lv];show(lm.mp ht).1
    simp only[bO,t3,LU eQ];rw[show(cb M.ts).set e.th (.str tx)=cb (M.ts.set e.th { t with tx:=tx }) from Co (t:={ t with tx:=tx })];have j4:cQ T.cn T.ck AA L lt kd cl n g hs { M with ts:=M.ts.set e.th { t with tx:=tx } } pa (upd H3 lt (.lst (cb (M.ts.set e.th { t with tx:=tx })))) :=
     #[i3.lst z3.g.ne t3 (oz _),z3,aw,by rw[ag (cC d3 t3 (by nofun))];show d3,fun e he=>by rw[ag (cC (p3 e he) t3 (by nofun))];show p3 e he,by rw[ag (pp j.Cq)];show c3,fun u hu=>?_,j.nk,j.no,j.m]
    ·have O8:upd H3 lt (.lst (cb (M.ts.set e.th { t with tx:=tx }))) f=!.tup [.str "told",.au]:=by rw[ag (cC hf t3 (by nofun))];show hf
     have Pk:dv (upd H3 lt (.lst (cb (M.ts.set e.th { t with tx:=tx })))) Pe gz jJ:=rO wo fun b φ e=>by rw[ag (cC e t3 (by nofun))];show e
     have k4:fA Pe lt cl H (upd H3 lt (.lst (cb (M.ts.set e.th { t with tx:=tx })))):=k3.trans fun c o _ n2 _ _ e=>by rw[ag n2];show e
     generalize upd H3 lt (.lst (cb (M.ts.set e.th { t with tx:=tx })))=H4 at j4 O8 Pk k4 ⊢;show#[fits (),fun p hp=>?_];have s4:=aj.upd (o:=.tup [V.str "deed",V.str "write"]) hp;show BQ (b:=aV ("w":Str) e.rg) (xs1:=[.str "told",.au]) aw (by rw[xL hl];show s4 _ _ O8) (fits ()) rfl rfl fun H5 s5=>q hs _ jJ H5 (j4.same (s4.trans s5)) ((bI.of (s4.trans s5)).tab Pk) (k4.trans (bI.of (s4.trans s5)).k3)
    ·let⟨t',h1,h2⟩:=j.th u hu;by_cases hu':u.th=e.th
     ·rw[hu'];rw[hu',ht]at h1;cases h1;show#[_,Db (lm.mp ht).1,h2]
     ·show#[t',by change(M.ts.set e.th _)[u.th]?=_;rw[AT (pp hu')];show h1,h2]
  ·left;show#[kd,rfl,.inl #[_,.inl j.d],_,.inl (e.no:Int),_,j.d,rfl,Bh j.i.2.pw he,?_];rw[Y8];have i0:=j.i.DZ (o:=.dK (cG (hs.filter fun u=>u.no != e.no) pa)) j.d j.nk j.no;have ko:∀ {b:ϋ}{o:HO},(∀ xs,o≠.dK xs)->H b=!o->upd H kd (.dK (cG (hs.filter fun u=>u.no != e.no) pa)) b=!o:=fun {b o} n1 e=>by
    rw[ag (fun z=>by rw[z,j.d]at e;cases e;show n1 _ rfl)];show e
   have b0:upd H kd (.dK (cG (hs.filter fun u=>u.no != e.no) pa)) kd=!.dK (cG (hs.filter fun u=>u.no != e.no) pa):=aw;generalize upd H kd (.dK (cG (hs.filter fun u=>u.no != e.no) pa))=H0 at i0 ko b0 ⊢;have QF:dv H0 Pe gz es:=rO tab fun b φ e=>ko (by nofun) e;show#[es,[-AA.a,.int (e.no:Int)],QF,cm rfl (cm rfl ib),fun c H1 L1=>#[L1.code,?_]];have nx:=mP L1 QF;let⟨jJ,iA⟩:=L1.tab;have kk:fA Pe lt cl H H1:=fA.trans (fun c o _ _ _ ho e=>ko (fun xs z=>by subst z;show ho) e) (tL L1).k3;have i1:=i0.eg nx;show#[{ AA with hg:=g },L,M,hs,e,rfl,i1,he,fun H2 i2 k2 f H3 s3 _ hf=>#[fits (),fun p hp=>?_]];have s4:=s3.trans (aj.upd (o:=.tup [V.str "told",V.au]) hp);have kA:bI H1 H2:=fun b o ho e=>k2 _ _ (fun z=>by
    rw[ut.mp z,i1.2.d]at e;cases e;show ho) e
   have ka:∀ {b:ϋ}{o:HO},kC o->(∀ xs,o≠.dK xs)->(∀ φ,o≠.ext φ)->H b=!o->upd H3 p (.tup [V.str "told",V.au]) b=!o:=fun {b o} h1 h2 h3 e=>s4 _ _ (kA _ _ h1 (nx _ _ h3 (ko h2 e)));show xQ ((aj.upd hp) _ _ hf) aw rfl (q (hs.filter fun u=>u.no != e.no) M jJ _ #[i2.same s4,j.z,ka (show kC (.lst _) from oz _) (by nofun) (by nofun) j.tx,s4 _ _ (k2 _ _ (by rw[ut];show j.no) (nx _ _ (by nofun) b0)),fun u hu=>ka trivial (by nofun) (by nofun) (j.p u (UV.mp hu).1),ka (show kC (.lst _) from l8 [(g:Int)]) (by nofun) (by nofun) j.c,fun u hu=>j.th u (UV.mp hu).1,j.nk,j.no,wE (ST _ _) j.m] ((bI.of s4).tab (kA.tab iA)) (kk.trans (kA.trans (bI.of s4)).k3))
def V9{M:Hs}{L:List Ta}{n:Nat}{z:Str}{t:List Nat}(g:kN M n)(hn:n<=60)(hL:L.length=M.ts.length)(hz:z∈AS)(p:rQ t):∃ root r x,yH #[L,M,z,true,root] t r x:=by
 have hp:=p.l2;have pz:=g.n;have hpn:=p.n;let⟨root,r,hs,h1⟩:=Ki (L:=L) g.g hL ∅ hz (t:=t) #[p.l1,∅,p.all] ∅;cases r with
 | inl y=>show#[root,_,.inl y,hs,fun y' e=>by cases e;rfl,fun f nm e=>by cases e]
 | inr fn =>
  let⟨f,nm⟩:=fn;let⟨cB,a,tf,ha,bo,gY⟩:=h1 f nm rfl;have one:∀ {x:Sum Rf (Nat×List Nat×Nat)},((aV ("w":Str) (cf tf z)=false->x=.inl (.bR "kept")) /\
    (aV ("w":Str) (cf tf z)=true->(aH (sD tf.aG) (.inr (Tx.S nm))=none->x=.inl (.bR "none"))/\∀ c:Nat,aH (sD tf.aG) (.inr (Tx.S nm))=!.int (c:Int)->∃ ac tc,L[c]?=!ac/\M.ts[c]?=!tc/\f≠c/\(f,Tx.S nm)∈tc.bK/\(∀ e∈M.ro,e.2≠c)/\tc.aG.length < 64/\(tc.kd=("folder":Str)->tc.aG≠[]->x=.inl (.bR "full"))/\((tc.kd=("folder":Str)->tc.aG=[])->x=.inr (f,nm,c))))->∃ root r x,yH #[L,M,z,true,root] t r x :=
   fun {x} h=>#[root,_,x,hs,fun y e=>(by cases e),fun f' nm' e=>by cases e;show#[cB,a,tf,ha,bo,h]]
  cases hm:aV ("w":Str) (cf tf z) with
  | false=>show one (x:=.inl (.bR "kept")) #[fun _=>rfl,fun h=>by rw[hm]at h;cases h]
  | true =>
   have QU:¬ aV ("w":Str) (cf tf z)=false:=by rw[hm];nofun
   cases hv:aH (sD tf.aG) (.inr (Tx.S nm)) with
   | none=>show one (x:=.inl (.bR "none")) #[fun h=>absurd h QU,fun _=>#[fun _=>rfl,fun c h=>by rw[hv]at h;cases h]]
   | some v =>
    let⟨c,tc,rfl,bT,_⟩:=(g.g.th f tf bo).ch _ _ hv;let⟨mK,bD,_⟩:=g.g.drop bo hv bT;let⟨ac,dC⟩:=adr hL bT;have h0:∀ e∈M.ro,e.2≠c:=fun e he z=>by
     rw[g.g.rv e he]at z;subst z;have:=g.g.tp tc bT;rw[bD]at this;cases this
    have iG:tc.aG.length < 64:=by have:=(g.g.th c tc bT).nl;omega
    have two:∀ {x:Sum Rf (Nat×List Nat×Nat)},(tc.kd=("folder":Str)->tc.aG≠[]->x=.inl (.bR "full"))->((tc.kd=("folder":Str)->tc.aG=[])->x=.inr (f,nm,c))->∃ root r x,yH #[L,M,z,true,root] t r x:=fun {x} h2 h3 =>
     one (x:=x) #[fun h=>absurd h QU,fun _=>#[fun h=>absurd (hv.symm.trans h) (by nofun),fun c' h=>by
      obtain rfl:c=c':=by have h:=hv.symm.trans h;injection h with h;injection h with h;omega
      show#[ac,tc,dC,bT,mK,by rw[bD];simp,h0,iG,h2,h3]]]
    by_cases hb:tc.kd=("folder":Str)/\tc.aG≠[]
    ·show two (x:=.inl (.bR "full")) (fun _ _=>rfl) fun h=>absurd (h hb.1) hb.2
    ·show two (x:=.inr (f,nm,c)) (fun h1 h2=>absurd #[h1,h2] hb) fun _=>rfl
def TU{M:Hs}{f c:Nat}{tf tc:Th}{nm:Str}(bo:M.ts[f]?=!tf)(bT:M.ts[c]?=!tc)(mK:f≠c):cb (gu M f c tf tc nm).ts=cb M.ts:=by
 unfold gu cb;dsimp only;rw[List.map_set,List.map_set];show _Y fun j=>?_;rw[List.getElem?_set,List.getElem?_set];have l1:=(lm.mp bo).1;have l2:=(lm.mp bT).1;split
 ·rename_i h;subst h;rw[xL (by simp;show l2),xz,bT];rfl
 ·split
  ·rename_i h;subst h;rw[xL (by simp;show l1),xz,bo];rfl
  ·rfl
def NY{M M':Hs}{hs:List Hw}(h:∀ e∈hs,∃ t,M.ts[e.th]?=!t/\t.kd≠("lead":Str))(k:∀ (j:Nat) (t:Th),M.ts[j]?=!t->∃ t':Th,M'.ts[j]?=!t'/\t'.kd=t.kd):∀ e∈hs,∃ t,M'.ts[e.th]?=!t/\t.kd≠("lead":Str):=fun e he=>by
 let⟨t,h1,h2⟩:=h e he;let⟨t',h3,h4⟩:=k _ _ h1;show#[t',h3,by rw[h4];show h2]
def wH{l:List Th}{k j:Nat}{t u u':Th}(h:l[k]?=!u)(hk:u'.kd=u.kd)(hj:l[j]?=!t):∃ t':Th,(l.set k u')[j]?=!t'/\t'.kd=t.kd:=by
 by_cases e:j=k
 ·subst e;rw[h]at hj;cases hj;show#[_,Db (lm.mp h).1,hk]
 ·show#[t,by rw[AT (pp e)];show hj,rfl]
def cQ.put{N:Cn}{CO:ϋ}{A:Ad}{L:List Ta}{lt kd cl:ϋ}{n g:Nat}{hs:List Hw}{M M':Hs}{pa:Nat->ϋ}{H H':Hp}{W:List ϋ}(j:cQ N CO A L lt kd cl n g hs M pa H)(hW:∀ b∈W,b∈A.w++L.flatMap Ta.l)(k:Kp W H H')(i':aF N.CH N.CS N.CT H' { A with hg:=g } L M')(z':kN M' n)(ht:cb M'.ts=cb M.ts)(hk:∀ (j:Nat) (t:Th),M.ts[j]?=!t->∃ t':Th,M'.ts[j]?=!t'/\t'.kd=t.kd):bI H H'/\cQ N CO A L lt kd cl n g hs M' pa H':=by
 let⟨kA,d⟩:=j.off (fun b hb=>AC _ (hW b hb)) k;show#[kA,#[i',j.i.2.keep k hW],z',by rw[ht];show kA lt (.lst (cb M.ts)) (oz _) j.tx,d,fun e he=>kA _ _ (by trivial) (j.p e he),kA cl (.lst [.int (g:Int)]) (l8 [(g:Int)]) j.c,NY j.th hk,j.nk,j.no,j.m]
def ab7{ts:List Th}{k:Nat}{t t':Th}(h:ts[k]?=!t)(e:t'.tx=t.tx):cb (ts.set k t')=cb ts:=by
 rw[<- Co,e];show _Y fun j=>?_;rw[List.getElem?_set];split
 ·rename_i hj;subst hj;have:(cb ts)[k]?=!.str t.tx:=by unfold cb;rw[xz,h];rfl
  rw[this];split
  ·rfl
  ·rename_i hk;show absurd ((lm.mp this).1) hk
 ·rfl
def U9{N:Cn}{H:Hp}{Q:VK}(h:∀ f H2 w xs,aj H H2->H2 f=!.tup (.str w::xs)->w≠("told":Str)->Q (-f) H2):∀ r:Rf,da N H (rX N Q) r
 | .bR y=>fun d H' s e=>.inr #[rfl,d,y,rfl,e,fun p H2 s2 _ hp=>h _ H2 _ _ (s.trans s2) hp (by symm)]
 | .way r=>fun fd d H' s _ e=>.inl #[rfl,d,fd,rfl,e,fun p H2 s2 _ hp=>h _ H2 _ _ (s.trans s2) hp (by symm)]
def NP{H:Hp}{b C dx fd CG bu:ϋ}{k:Nat}{ns:List Str}{fs:List (Str×V)}{f:Str}{v:V}(h:H b=!.ins C dx fs)(hv:fs.lookup f=!v)(hf:(rq k ns).lookup f=none)(aS:H fd=!.ins CG bu (rq k ns)):fd≠b:=fun e=>by
 rw[e,h]at aS;cases aS;rw[hv]at hf;cases hf
def  ZP(N:Cn)(CO Ps:ϋ):Sp:=fun vs H Q _=>∃ A L lt kd cl n g hs M pa z t wy tx es,vs=[-A.a,-lt,.str z,.str (Tx.S t),.int wy,.str tx]/\cQ N CO A L lt kd cl n g hs M pa H/\n<=60/\z∈AS/\rQ t/\tx.length<=60/\dv H Ps gR es /\
 ∀ M' es' H',cQ N CO A L lt kd cl n g hs M' pa H'->dv H' Ps gR es'->fA Ps lt cl H H'->Q .au H'
def  Oj:List V->List V
 | [a,b,c]=>[a,b,c,.str "",.str ""]
 | _=>[]
def Sl{Pe:ϋ}(C:PySem.W.CodeHd base T.qd Pe)(iI:base.BuiltinsAt mg Pe):aB P w K mg base (bc P w) 20 T.Gm T.Af ["_law_house","_law_texts","_law_asker","_law_path_here","_law_way","_law_text"] (ZP T.cn T.ck Pe):=by
 show T.yI.yq Ko (fun vs H Q E h=>by let⟨_,_,_,_,_,_,_,_,_,_,_,_,_,_,_,e,_⟩:=h;rw[e];rfl) (fun ah A outer s H vs Q E bM hr h=>?_);let⟨AA,L,lt,kd,cl,n,g,hs,M,pa,z,t,wy,tx,es,ev,j,Hf,hz,hp,lb,tab,q⟩:=h;subst ev;have LB_l_stirred0:jT P w K mg base ["_law_house","_law_asker","_law_path_here"] gR (ja 0 0) (xi s.heap.objs.size) (fun vs=>Kf T.cn (w6 vs)):=by
  intro f ah vs A outer s' H Q E hr hw;unfold w6 at hw;split at hw
  ·show#[_,(bY (SX T) hr.m T.qT.m T.qT.F.kp T.qT.b .nil kF (aa (ad 0) (aa (ad 1) (aa (ad 2) ae)))).h,?_];simp only[wS,NE];left;show hw
  ·let⟨_,_,_,_,_,_,_,_,e,_⟩:=hw;cases e
 have LB_l_stirred1:jT P w K mg base ["_law_house","_law_asker","_law_path_here"] gR (ja 0 1) (xS s.heap.objs.size) (fun vs=>IH T.cn (Oj vs)):=by
  intro f ah vs A outer s' H Q E hr hw;unfold Oj at hw;split at hw
  ·show#[_,(bY (abc T) hr.m T.qh.m T.qh.F.kp T.qh.b .nil kF (aa (ad 0) (aa (ad 1) (aa (ad 2) (aa ap (aa ap ae)))))).h,?_];simp only[wS,NE];left;show hw
  ·show hw.elim
 have LB_l_stirred2:jT P w K mg base ["_law_house","_law_asker","_law_path_here","_law_text"] gR (ja 0 2) (xZ s.heap.objs.size) (fun vs=>O1 T.cn (si vs)):=by
  intro f ah vs A outer s' H Q E hr hw;unfold si at hw;split at hw
  ·show#[_,(bY (aas T) hr.m T.rH.m T.rH.F.kp T.rH.b .nil kF (aa (ad 0) (aa (ad 1) (aa (ad 2) (aa (ad 3) ae))))).h,?_];simp only[wS,NE];left;show hw
  ·show hw.elim
 have pP:fg t:=#[hp.l1,by have:=hp.l2;omega,hp.all];have pz:=j.z.n;let⟨r0,k0,ga⟩:=j.z.g.as z hz;have n8:(aH (sD M.ro) (.inr z)).isSome=true:=by rw[ga.ro];rfl
 show bt (b:=aO ky) ((ao (aY (bw gj (ad 4) bi) (ao (aP (kO (kI T) hr.m T.cI.m T.cI.F.kp T.cI.b cO LB_l_stirred0 (ZW (bM.symm.trans T.Fs) C iI) (SY _) SJ))) (ao (aY (bw gj (ad 4) bi) (ao (aP (kO (kI T) hr.m T.cI.m T.cI.F.kp T.cI.b cO LB_l_stirred1 (We (bM.symm.trans T.Fs) C iI) (acE _) T5))) (al (aQ 6 Ko.nd (bn (xw T) hr.m T.zj T.oX.kp T.rL (.cons (show RelV (.bl true) _ from rfl) .nil) ay (aa (ad 0) (aa (ad 2) (aa (ad 3) ae)))))
   (ao (aY (bw (U8 (K:=K) 4 rfl hr.mX) (kO (kI T) hr.m T.cI.m T.cI.F.kp T.cI.b cO LB_l_stirred2 (Yh (bM.symm.trans T.Fs) C iI) (Sn _) XF) (dl (aa ap (aa au ae)))) (ao (rj (ad 5) (tZ (ad 1) (am T.ig T.m9 (ad 6)) uS))) bv)))))))) ?_
 rw[show start oU [V.ref AA.a,V.ref lt,V.str z,V.str (Tx.S t),V.int wy,V.str tx]=[!V.ref AA.a,!V.ref lt,!V.str z,!V.str (Tx.S t),!V.int wy,!V.str tx,none] from rfl];have k0:∀ {c H0 H1},aj H H0->kR Pe gR c H0 H1->NX H0 H1/\(∃ es',dv H1 Pe gR es')/\cQ T.cn T.ck AA L lt kd cl n g hs M pa H1/\fA Pe lt cl H H1:=fun s0 L1=>by
  have nx:=mP L1 ((bI.of s0).tab tab);show#[nx,L1.tab,(j.same s0).eg nx,(jj.trans (bI.of s0).l (tL L1)).k3]
 have fin:∀ {jJ H1 H2 M'},cQ T.cn T.ck AA L lt kd cl n g hs M' pa H2->bI H1 H2->dv H1 Pe gR jJ->fA Pe lt cl H H1->Q .au H2:=fun j2 ka t1 k1=>q _ _ _ j2 (ka.tab t1) (k1.trans ka.k3);left;show gL (fun _=>?_) (fun _=>gL (fun _=>?_) (fun _=>ai ?_))
 ·show#[es,[-AA.a,.str z,.str (Tx.S t)],tab,cm rfl (cm rfl (cm rfl ib)),fun c H1 L1=>#[L1.code,?_]];let⟨nx,⟨jJ,iA⟩,j1,k1⟩:=k0 (aj.refl H) L1;let⟨root,r,x,hx⟩:=V9 j.z Hf j.i.1.len hz hp;show#[{ AA with hg:=g },L,M,z,root,t,r,x,rfl,pP,j1.i.1,n8,j.z.g.ov,hx,fun y _=>EY (fun v H2 s=>fin (j1.same s) (bI.of s) iA k1) y,fun f nm c af tf ac tc ex eI bo dC bT hv H2 i2 k2 p H3 s3 _ _=>?_];let⟨mK,bD,g2⟩:=j.z.g.drop bo hv bT;let⟨kA,j2⟩:=j1.put (W:=[AA.t,af.nm,ac.pl]) (fun b hb=>by
   simp only[jp,kt,ww]at hb;rcases hb with rfl | rfl | rfl
   ·simp[Ad.w]
   ·show u8 _ (fU eI (by simp[Ta.l]))
   ·show u8 _ (fU dC (by simp[Ta.l]))) k2 i2 #[g2,by unfold gu;simp;show j.z.n] (TU bo bT mK) fun i u hu=>by
    let⟨u',h1,h2⟩:=wH (u':={ tf with aG:=h9 tf.aG (Tx.S nm) }) bo rfl hu;let⟨u'',h3,h4⟩:=wH (u':={ tc with bK:=qm tc.bK f (Tx.S nm) }) (show(M.ts.set f { tf with aG:=h9 tf.aG (Tx.S nm) })[c]?=!tc by rw[AT mK];show bT) rfl h1;show#[u'',h3,h4.trans h2]
  show fin (j2.same s3) (kA.trans (bI.of s3)) iA k1
 ·show#[es,[-AA.a,.str z,.str (Tx.S t)],tab,cm rfl (cm rfl (cm rfl ib)),fun c H1 L1=>#[L1.code,?_]];let⟨nx,⟨jJ,iA⟩,j1,k1⟩:=k0 (aj.refl H) L1;let⟨root,x,hx⟩:=Zg (L:=L) j.z.g j.i.1.len ∅ hz pP;show#[{ AA with hg:=g },L,M,root,t,x,rfl,j1.i.1,rfl,hx,by symm,by symm,fun y _=>EY (fun v H2 s=>fin (j1.same s) (bI.of s) iA k1) y,fun k a th ex ha aE H2 i2 k2 p H3 s3 _ _=>?_];subst ex;let⟨th',hth',eE⟩:∃ t,M.ts[k]?=!t/\t.kd≠("lead":Str):=by
   cases hx with
   | ok pw hf=>show pw.nl j.z.g hz hf
  rw[aE]at hth';cases hth';let⟨kA,j2⟩:=j1.put (W:=[AA.t,a.th]) (fun b hb=>by
   simp only[jp,kt,ww]at hb;rcases hb with rfl | rfl
   ·simp[Ad.w]
   ·show u8 _ (fU ha (by simp[Ta.l]))) k2 i2 (j.z.chg (t':={ th with mi := "",re := "" }) aE rfl rfl rfl eE) (ab7 aE rfl) fun i u hu=>wH aE rfl hu
  show fin (j2.same s3) (kA.trans (bI.of s3)) iA k1
 ·left;let⟨root,e,_,pw,_⟩:=EF (L:=L) j.z.g j.i.1.len ∅ hz true pP;show#[{ AA with hg:=g },L,M,root,t,e,rfl,j.i.1,rfl,pw,fun fd H1 s1 aS=>?_];show#[es,[-AA.a,.str z,.str (Tx.S t),.str tx],(bI.of s1).tab tab,cm rfl (cm rfl (cm rfl (cm rfl ib))),fun c H2 L2=>#[L2.code,?_]];let⟨nx,⟨es2,sI⟩,j2,k2⟩:=k0 s1 L2;let⟨x,hx,HC⟩:∃ x,lN ⟨L,M,z,true,root⟩ t "file" "folder" "w" "write" x/\∀ k,x=.inr k->(∃ ns,e.res=.found k ns)/\∃ th,M.ts[k]?=!th/\th.kd≠("lead":Str):=by
   by_cases hf:∃ k ns,e.res=.found k ns
   ·let⟨k,ns,hk⟩:=hf;let⟨th,aE,eE⟩:=pw.nl j.z.g hz hk;let⟨a,ha⟩:=adr j.i.1.len aE;by_cases h1:th.kd=("file":Str)
    ·cases hm:aV ("w":Str) (cf th z) with
     | true=>show#[_,.ok pw hk ha aE h1 hm,fun k' h=>by cases h;show#[#[ns,hk],th,aE,eE]]
     | false=>show#[_,.may pw hk ha aE h1 hm,nofun]
    ·show#[_,.kind pw hk ha aE h1 ?_,nofun];rcases (j.z.g.th k th aE).kd with h | h | h
     ·show h
     ·show absurd h h1
     ·show absurd h eE
   ·show#[_,.way pw fun k ns h=>hf #[k,ns,h],nofun]
  show#[{ AA with hg:=g },L,M,root,t,x,rfl,lb,j2.i.1,rfl,pP,hx,n8,fun y _=>U9 (fun f H3 w xs s3 hf hw=>#[fits (),fun p hp=>?_]) y,fun k a th ex ha aE H3 i3 k3 f H4 s4 _ hf=>#[fits (),fun p hp=>?_]]
  ·subst ex;let⟨⟨ns,gU⟩,th',hth',eE⟩:=HC k rfl;rw[aE]at hth';cases hth';rw[gU]at aS;let⟨bu,aS⟩:=aS;have FZ:=nx _ _ (by nofun) aS;have s5:=s4.trans (aj.upd (o:=.tup [V.str "told",V.au]) hp);show .inl (xQ ((aj.upd hp) _ _ hf) aw rfl (bE ?_));have z3:=j.z.chg (t':={ th with tx:=tx }) aE rfl rfl rfl eE;have hW:∀ b∈[AA.t,a.th],b∈AA.w++L.flatMap Ta.l:=fun b hb=>by
    simp only[jp,kt,ww]at hb;rcases hb with rfl | rfl
    ·simp[Ad.w]
    ·show u8 _ (fU ha (by simp[Ta.l]))
   let⟨kA,d3⟩:=j2.off (fun b hb=>AC _ (hW b hb)) k3;have kB:=kA.trans (bI.of s5);let⟨gs,c2,pX,_,sg⟩:=j2.i.1.t;let⟨a',ea,cA⟩:=j2.i.1.th k th aE;rw[ha]at ea;cases ea;let⟨ks,ho,_,so⟩:=cA.o;have zV:=s5 _ _ (k3 _ _ (by
    simp only[jp,kt,ww,Re];show#[NP (f := "made") pX ((sg _).trans rfl) rfl FZ,NP (f := "kind") ho ((so _).trans rfl) rfl FZ]) FZ)
   have t5:=kB lt (.lst (cb M.ts)) (oz _) j2.tx;have c5:=kB cl (.lst [.int (g:Int)]) (l8 [(g:Int)]) j2.c;have i5:cF T.cn T.ck (upd H4 p (.tup [V.str "told",V.au])) { AA with hg:=g } L { M with ts:=M.ts.set k { th with tx:=tx } } hs:=cF.same #[i3,j2.i.2.keep k3 hW] s5;have p5:∀ e∈hs,upd H4 p (.tup [V.str "told",V.au]) (pa e.no)=!.tup [.int (e.th:Int),.str e.rg]:=fun e he=>kB _ _ (by trivial) (j2.p e he);have d5:=s5 _ _ d3;have zT:=kB.tab sI;have k5:=k2.trans kB.k3 (lt:=lt) (cl:=cl) (P:=Pe);generalize upd H4 p (.tup [V.str "told",V.au])=H5 at zV t5 c5 i5 p5 d5 zT k5 ⊢;show#[fd,_,_,_,rfl,zV,rfl,?_];have eQ:k < (cb M.ts).length:=by unfold cb;rw[lv];show(lm.mp aE).1
   simp only[t5,LU eQ];rw[show(cb M.ts).set k (.str tx)=cb (M.ts.set k { th with tx:=tx }) from Co (t:={ th with tx:=tx })];show q _ es2 _ #[i5.lst z3.g.ne t5 (oz _),z3,aw,by rw[ag (cC d5 t5 (by nofun))];show d5,fun e he=>by rw[ag (cC (p5 e he) t5 (by nofun))];show p5 e he,by rw[ag (pp j.Cq)];show c5,NY j.th fun i u hu=>wH aE rfl hu,j.nk,j.no,j.m] (rO zT fun b φ e=>by rw[ag (cC e t5 (by nofun))];show e) (k5.trans fun c o _ n2 _ _ e=>by rw[ag n2];show e)
  ·have s4:=s3.trans (aj.upd (o:=.tup [V.str "told",V.au]) hp);show .inr #[f,p,xs,_,w,"told",rfl,rfl,(aj.upd hp) _ _ hf,aw,hw,aW (fin (j2.same s4) (bI.of s4) sI k2)]
def  AL(K:ν)(tabs:oG):Sp:=jy fun a H Q _=>A3 (∃ ns:List Int,aI K H a (ns.map V.int)) (om tabs H) (∀ H',wG tabs H'->Q (.bl true) H')
def  mY(K:ν)(H:Hp)(a:ϋ)(ns:List Int):Prop:=(∀ J,aI K J a (ns.map V.int))\/∃ o,H a=!.cD o (.lst (ns.map V.int))
def mY.sq{H:Hp}{a:ϋ}{ns:List Int}(h:mY K H a ns):aI K H a (ns.map V.int):=by
 rcases h with h | h
 ·show h H
 ·show .inl (.inr h)
def mY.kp{H H':Hp}{a:ϋ}{ns:List Int}(h:mY K H a ns)(k:∀ o,H a=!.cD o (.lst (ns.map V.int))->H' a=!.cD o (.lst (ns.map V.int))):mY K H' a ns:=by
 rcases h with h | ⟨o,h⟩
 ·show .inl h
 ·show .inr #[o,k _ h]
def aaB(ns:List Int)(lo:Option Int)(k:Nat):∃ ms:List Int,fR (ns.map V.int) lo (!(k:Int))=ms.map V.int/\ms.length<=k:=by
 show#[((ns.drop (HT.cX (ns.map V.int).length 0 lo)).take (HT.cX (ns.map V.int).length (ns.map V.int).length (!(k:Int)) - HT.cX (ns.map V.int).length 0 lo)),?_,?_]
 ·unfold fR;rw[<- Jas,<- List.map_take]
 ·rw[W1,HT.uy];omega
def  TS(tl:List (ϋ×Str))(H:Hp):Prop:=∀ p∈tl,∃ es,dv H p.1 p.2 es
def TS.kp{tl:List (ϋ×Str)}{H H':Hp}(h:TS tl H)(k:∀ c φ,H c=!.ext φ->H' c=!.ext φ):TS tl H':=fun p hp=>let ⟨es,t⟩:=h p hp;#[es,rO t k]
def TS.ka{tl:List (ϋ×Str)}{H H':Hp}(h:TS tl H)(k:bI H H'):TS tl H':=h.kp fun _ _ e=>k _ _ trivial e
def TS.step{tl:List (ϋ×Str)}{H H':Hp}{P:ϋ}{q:Str}(h:TS tl H)(nd:(tl.map (·.1)).Nodup)(hm:(P,q)∈tl)(k:∀ c φ,c≠P->H c=!.ext φ->H' c=!.ext φ)(t':∃ es,dv H' P q es):TS tl H':=fun p hp=>by
 by_cases e:p.1=P
 ·obtain rfl:p=(P,q):=by
   let⟨a,ha,h1⟩:=_l hp;let⟨b,hb,h2⟩:=_l hm;have:a=b:=by
    rcases Nat.lt_trichotomy a b with h | h | h
    ·show((List.pairwise_iff_getElem.mp nd) a b (by simpa using ha) (by simpa using hb) h (by rw[_9,_9,h1,h2];show e)).elim
    ·show h
    ·show((List.pairwise_iff_getElem.mp nd) b a (by simpa using hb) (by simpa using ha) h (by rw[_9,_9,h1,h2];show e.symm)).elim
   subst this;show h1.symm.trans h2
  show t'
 ·let⟨es,t⟩:=h p hp;let⟨es0,t0⟩:=h _ hm;show#[es,k _ _ e t.tab,fun x hx=>k _ _ (fun z=>by
   have c:=t.code x hx;rw[z,t0.tab]at c;show adl (Fk c)) (t.code x hx)]
def jj.x{P:ϋ}{H H':Hp}(k:jj P H H'):∀ c φ,c≠P->H c=!.ext φ->H' c=!.ext φ:=fun c φ n e=>k c _ n trivial e
def TS.ne{tl:List (ϋ×Str)}{H:Hp}(h:TS tl H){p:ϋ×Str}(hp:p∈tl){b:ϋ}{o:HO}(no:∀ φ,o≠.ext φ)(e:H b=!o):b≠p.1:=fun z=>by
 let⟨es,t⟩:=h p hp;rw[z,t.tab]at e;cases e;show no _ rfl
def  yf:List (Str×Nat):=[("own",0),("guest",0)]
def  M3:Hs:={ ts:=[{ kd := "folder",ow := "own",mi := "lgw",re := "lg",tx := "",aG:=[],bK:=[] }],ro:=yf,st:=yf,tr:=[("main",0)],ov:=[],un:=[] }
def Jy:∀ z∈AS,aH (sD yf) (.inr z)=!.int ((0:Nat):Int):=by
 intro z hz;unfold AS at hz;simp only[jp,kt,ww]at hz;rcases hz with rfl | rfl <;> symm
def Vb:kN M3 1:=by
 show#[#[rfl,rfl,rfl,fun z hz=>#[0,0,Jy z hz,Jy z hz,.refl,#[_,rfl,rfl],#[_,rfl,rfl],rfl],⋯,⋯,#[_,rfl,rfl],fun k t ht=>?_,fun t ht=>?_,fun e he=>?_],pi 1]
 ·cases k with
  | zero =>
   cases ht;show#[At _,.inl rfl,fun e=>absurd (show("folder":Str) = "lead" from e) (by symm),.inl rfl,fun z v h=>by cases h]
  | succ k=>simp[M3]at ht
 ·cases ht;rfl
 ·simp only[M3,yf,jp,kt,ww]at he;rcases he with rfl | rfl <;> rfl
def Hz.same{N:Cn}{CO:ϋ}{A:Ad}{n:Nat}{H H':Hp}(h:Hz N CO A n H)(s:aj H H'):Hz N CO A n H':=let ⟨L,M,i,g⟩:=h;#[L,M,i.same s,g]
def Yz{H:Hp}{st kd:ϋ}{hs:List Hw}{pa:Nat->ϋ}{Q:VK}{E:XK}(pw:hs.Pairwise fun a b=>a.no < b.no)(cL:hs≠[])(hn:hs.length < 64)(hk:H kd=!.dK (cG hs pa))(aX:Dr st H)(q:∀ e∈hs,∀ H',Dr st H'->dq st H H'->Q (.int (e.no:Int)) H') :
  DU [-kd] H fun y H1=>B6 [-kd] H1 fun n H2=>zq [-st,n] H2 (fun d H3=>nG K y d H3 Q) E:=by
 show#[kd,_,hs.map fun e=>(e.no:Int),rfl,hk,by unfold cG;simp,by rw[lv];omega,?_,fun l hl=>?_]
 ·rw[List.pairwise_map];show pw.imp fun h=>by omega
 show eP hl fun H1 s1 b1=>?_;have nl:=aX.ne hl;have gb:0 < hs.length:=List.length_pos_iff.mpr cL;show#[kd,_,rfl,s1 _ _ hk,l6 (aX.same s1) (by unfold cG;rw[lv];omega) (by unfold cG;rw[lv];omega) fun d H2 d0 d1 h2 k2=>?_];have d1':d < hs.length:=by unfold cG at d1;rw[lv]at d1;show d1
 let⟨v,hv,ev⟩:=pick (xs:=(hs.map fun e=>(e.no:Int)).map V.int) d0 (by simpa using d1');simp only[nG,bO,k2 _ _ nl b1,ev];rw[Os]at hv;let⟨e,he,rfl⟩:=zn.mp hv;show q e he H2 h2 ((s1.keep st).trans k2)
def YB{T:Tx K mg}{H:Hp}{A:Ad}{L:List Ta}{M:Hs}{R:VK}{E:XK}(i:aF T.aK T.aR T.bb H A L M)(hn:M.ts.length<=60)(q:∀ l,H l=none->R (-l) (upd H l (.lst (cb M.ts)))) :
  MI T.aK (ώ "many") (-A.a) H (BU T.aK T.aR T.bb Ad.a [-A.a] H (fun x H1=>match [x] with
   | [.int j]=>((unop% Neg.neg (2 ^ 62))<=j/\j < 2 ^ 62)/\oP (oQ 0 j.toNat) 1 [-A.a] (fC 0) nE (rb T.aK (ώ "text_of") (jS T.aK T.aR T.bb Ad.a yz) [] E0 (fX 1) (oF (fX 0) lA)) R H1
   | _=>False) E):=by
 let⟨kfs,kc,kh,_,sL⟩:=i.h;have hl:(cb M.ts).length=M.ts.length:=lv _;show mI kh sL #[A,L,M,i,rfl,#[∅,∅],Lz M.ts.length (fun i ys H'=>H'=H/\ys=(cb M.ts).take i/\i<=M.ts.length) ∅ #[rfl,rfl,At _] (fun i ys H1 h=>?_) (fun k ys H1 hk h R r=>?_) (fun ys H1 l h gb=>?_)]
 ·let⟨_,rfl,hi⟩:=h;rw[W1,hl];omega
 ·let⟨rfl,rfl,_⟩:=h;have ht:M.ts[k]?=!M.ts[k]:=sw hk;let⟨a,ha⟩:=adr i.len ht;left;show mI kh sL #[A,L,M,k,a,_,i,rfl,rfl,ha,ht,r _ _ #[rfl,?_,hk]];rw[List.take_succ];unfold cb;rw[xz,ht];rfl
 ·let⟨rfl,rfl,_⟩:=h;rw[show(cb M.ts).take M.ts.length=cb M.ts by rw[<- hl];show List.take_length];show q l gb
def Tf{n:Nat}(h:n < 1000000000):(ώ (toString (n:Int))).length<=9:=by
 have e:toString (n:Int)=n.repr:=rfl;rw[e];change(cpsOfBytes 0 0 n.repr.toByteArray.data.toList).toArray.size<=9;rw[cpsOfBytes_string,ss,lv];show(Nat.length_repr_le_iff ⋯).mpr h
def aer{tt:TT}{te:TE}{H:Hp}{Q:VK}{vs:List V}(m:Nat)(ht:∀ k,k < m->∀ R:Bool->Hp->Prop,R false H->tt (some (.int (k:Int))::vs.map some) H R)(q:∀ l,H l=none->Q (-l) (upd H l (.lst []))):oP (oQ 0 ((m:Int)).toNat) 1 vs (fC 0) tt te Q H:=by
 show#[fun i zs k H1=>H1=H/\zs=[]/\i<=m/\k=m - i,#[_,rfl,rfl,At _,rfl],?_];rintro i zs k H1 ⟨rfl,rfl,hi,rfl⟩;show#[At _,?_];by_cases h:i < m
 ·show .inr #[show i < ((m:Int)).toNat by omega,ju (),?_];rintro v H' ⟨rfl,rfl⟩ σ0 hσ0;let⟨a,rfl⟩:=xj hσ0;show#[#[[!.int (0+(i:Int))],rfl,rfl],?_];have e0:(0+(i:Int))=(i:Int):=∅
  rw[e0];show ht i h _ ?_;rw[wP ⋯];show#[m - (i+1),∅,rfl,rfl,h,rfl]
 ·have e:i=m:=∅
  subst e;show .inl #[show((i:Int)).toNat<=i by omega,fun l hl=>q l hl]
structure LJ(T:Tx K mg)(tl:List (ϋ×Str))(A:Ad)(L:List Ta)(lt kd cl ll:ϋ)(zs:List Int)(n g:Nat)(hs:List Hw)(M:Hs)(pa:Nat->ϋ)(H:Hp):Prop where
 j:cQ T.cn T.ck A L lt kd cl n g hs M pa H
 ts:TS tl H
 l:H ll=!.lst (zs.map V.int)
section
variable {T:Tx K mg}{tl:List (ϋ×Str)}{A:Ad}{L:List Ta}{lt kd cl ll:ϋ}{zs:List Int}{n g:Nat}{hs:List Hw}{M:Hs}{pa:Nat->ϋ}{H H':Hp}
def LJ.same(j:LJ T tl A L lt kd cl ll zs n g hs M pa H)(s:aj H H'):LJ T tl A L lt kd cl ll zs n g hs M pa H':=#[j.j.same s,j.ts.ka (bI.of s),s _ _ j.l]
def LJ.drawn{st:ϋ}(j:LJ T tl A L lt kd cl ll zs n g hs M pa H)(n1:lt≠st)(n2:cl≠st)(n3:ll≠st)(d:Dr st H)(k:dq st H H'):LJ T tl A L lt kd cl ll zs n g hs M pa H' :=
 #[j.j.drawn n1 n2 d k,j.ts.kp fun b φ e=>k _ _ (fun z=>by let⟨x,y,z',d⟩:=d;rw[z,d]at e;cases e) e,k _ _ n3 j.l]
def LJ.go{P:ϋ}{q:Str}{g':Nat}{hs':List Hw}{M':Hs}{pa':Nat->ϋ}(j:LJ T tl A L lt kd cl ll zs n g hs M pa H)(nd:(tl.map (·.1)).Nodup)(hm:(P,q)∈tl)(n1:ll≠lt)(n2:ll≠cl)(j':cQ T.cn T.ck A L lt kd cl n g' hs' M' pa' H')(t':∃ es,dv H' P q es)(k:fA P lt cl H H'):LJ T tl A L lt kd cl ll zs n g' hs' M' pa' H' :=
 #[j',j.ts.step nd hm (fun c φ nc e=>k c _ nc (cC e j.j.tx (by nofun)) (cC e j.j.c (by nofun)) trivial e) t',k _ _ (j.ts.ne hm (by nofun) j.l) n1 n2 (show kC (.lst _) from l8 zs) j.l]
end
def ZY(ns:List Int):∃ ms:List Int,fR (ns.map V.int) (!16) (!50)=ms.map V.int/\ms.length<=34:=by
 show#[((ns.drop (HT.cX (ns.map V.int).length 0 (!16))).take (HT.cX (ns.map V.int).length (ns.map V.int).length (!50) - HT.cX (ns.map V.int).length 0 (!16))),?_,?_]
 ·unfold fR;rw[<- Jas,<- List.map_take]
 ·have e1:=HT.uy (ns.map V.int).length 0 16;have e2:=HT.uy (ns.map V.int).length (ns.map V.int).length 50;rw[W1,List.length_drop];simp only[lv] at *;have e3:HT.cX ns.length 0 (!16)=min 16 ns.length:=e1;have e4:HT.cX ns.length ns.length (!50)=min 50 ns.length:=e2;rw[e3,e4];omega
def adS{bA bB:L2.TS}{k:Ends}{o0 o1 o2 o3 o5 o6 o7 o8 HJ G3 FW HP:Option V}{kd:ϋ}{kvs:List (Key×V)}{H:Hp}{wy:Nat}(hk:H kd=!.dK kvs)(hA:∀ H',aj H H'->bA k [o0,o1,o2,o3,!-kd,o5,o6,o7,o8,!.int (wy:Int),HJ,G3,FW,HP] H')(hB:4<=wy->(wy < 7->kvs≠[])->∀ H',aj H H'->bB k [o0,o1,o2,o3,!-kd,o5,o6,o7,o8,!.int (wy:Int),HJ,G3,FW,HP] H') :
  wD (zh (jx (jg (iW fun i j=>decide (i < j)) (fX 9) (tC (V.int 4)))) (yE (jx (jg (iW fun i j=>decide (i < j)) (fX 9) (tC (V.int 7)))) (jx (jg yS (fX 4) vF)))) bA bB k [o0,o1,o2,o3,!-kd,o5,o6,o7,o8,!.int (wy:Int),HJ,G3,FW,HP] H:=by
 left;show gL (fun _=>bE (hA _ (aj.refl H))) (fun h4=>?_);have h4':4<=wy:=by simp at h4;omega
 show gL (fun h7=>fun p hp=>#[kvs,(aj.upd hp) _ _ hk,aw,?_]) (fun h7=>aW (hB h4' (fun h=>absurd h (by simp at h7;omega)) _ (aj.refl H)));cases kvs with
 | nil=>show bE (hA _ (aj.upd hp))
 | cons x r=>show aW (hB h4' (fun _=>by nofun) _ (aj.upd hp))
def Kk:(ώ "held ").length=5:=by symm
def aao{n:Nat}(h:n < 1000000000):((n:Int).natAbs).log2 < 1920:=by
 rw[Int.natAbs_natCast];have:n.log2 < 30:=by
  by_cases h0:n=0
  ·subst h0;decide
  ·rw[Nat.log2_lt h0];omega
 omega
def aaK{Pe Ph Pu Ps:ϋ}(C1:PySem.W.CodeHd base T.pQ Pe)(b1:base.BuiltinsAt mg Pe)(C2:PySem.W.CodeHd base T.pK Ph)(b2:base.BuiltinsAt mg Ph)(C3:PySem.W.CodeHd base T.pS Pu)(b3:base.BuiltinsAt mg Pu)(C4:PySem.W.CodeHd base T.qd Ps)(b4:base.BuiltinsAt mg Ps)(sR:[Pe,Ph,Pu,Ps].Nodup) :
  aB P w K mg base (bc P w) 21 T.Gj T.Ae ["_law_script"] (AL K [(T.pQ,Pe),(T.pK,Ph),(T.pS,Pu),(T.qd,Ps)]):=by
 have G_l_built:=abP (P:=P) (w:=w) (base:=base) T C1 b1;have G_l_held:=aeI (P:=P) (w:=w) (base:=base) T C2 b2;have G_l_used:=aaE (P:=P) (w:=w) (base:=base) T C3 b3;have G_l_stirred:=Sl (P:=P) (w:=w) (base:=base) T C4 b4;show T.xV.cS gn (fun vs H Q E h=>?_) (fun ah A _ s H vs Q E hr h=>?_)
 ·show ee h fun _ _=>rfl
 ·show ee h fun a h=>?_;let⟨⟨ns,hS⟩,hO,q⟩:=h;show bt (b:=aO vE) ((al (aQ 1 gn.nd (gl T.RM (VP T) hr.m T.Rw T.tP.b .nil ay (aa ap ae)))
  (al (aP (YH<*T.uc (ad 1) (aa ap ae)))
  (al (Cr KP rfl (vG (K:=K) rfl (io (rK (K:=K) rfl) (ad 0) vt (pA bi))) (il 2 gn.nd) (ao (aP (bY G_l_built hr.m T.abE T.wL.kp T.BE .nil cg (aa (ad 1) (aa (ad 2) ae))))))
  (al (aQ 3 gn.nd (xm rfl (TN:=["_law_number"]) (caps:=["_law_house"]) (ix:=[1]) (EZ T.Fy (aa (tQ T.aJ T.uV.h (YK T) hr.m T.uV.b .nil ay (ad 1)) ae)) (fun _ _ _ _=>by show xh) (fun _ _ _ _=>by show(il 0 (show List.Nodup (["_law_number","_law_house"]:List Str) by decide))) (fun _ _ _ _=>by show(yD<*T.jv (ad 1) (aa (ad 0) ae))) (.of rfl (by show#[rfl,trivial]) (by walk_at "c") rfl (by show#[#[rfl,rfl,rfl,rfl],trivial]))))
  (al (aQ 4 gn.nd mh)
  (al (aQ 5 gn.nd (cr (aa bi ae)))
  (al (Cr KP rfl (vG (K:=K) rfl (io (rK (K:=K) rfl) (ad 0) (pA bi) (pA bi))) (il 2 gn.nd) (al (aQ 6 gn.nd (Mr<$>T.lC (aa (ad 2) ae)))
  (al (aQ 7 gn.nd (ce (bP (K:=K) rfl) (cr (aa ap (aa ap ae))) (fO<$>T.bN (aa (ad 6) (aa bi ae)))))
  (al (aQ 8 gn.nd (Bl<$>T.iZ (aa (ad 6) (aa bi ae))))
  (al (aQ 9 gn.nd (fO<$>T.bN (aa (ad 6) (aa bi ae))))
  (al (aQ 10 gn.nd (db gO ap (qw SV T.ph pC (aa (fO<$>T.bN (aa (ad 6) (aa (db Kr bi bi) ae))) ae))))
  (al (aQ 11 gn.nd (ce (bP (K:=K) rfl) (cr (aa ap (aa ap (aa ap (aa ap (aa ap (aa ap (aa ap (aa ap ae))))))))) (fO<$>T.bN (aa (ad 6) (aa bi ae)))))
  (al (aY (fM (ge (bw oT (ad 9) bi) (km (fM (im (bw oT (ad 9) bi) (qF (bw (ZH hr.nA) (ad 4) mh))))))) (ao (aY (dS (cN (bY G_l_held hr.m T.adf T.zm.kp T.Cu .nil cg (aa (ad 1) (aa (ad 4) (aa (ad 5) (aa (ad 7) (aa (ad 8) (aa (ad 11) ae))))))))) (ao (aM f8)) bv)) (ao (aY (bw oT (ad 9) bi) (al (aQ 12 gn.nd (ce (bP (K:=K) rfl) (df (Bq rfl) T.yB xq (aa (ad 4) ae)) (fO<$>T.bN (aa (ad 6) (aa (df VC T.lR T0 (aa (ad 4) ae)) ae)))))
  (ao (aY (dS (cN (bY G_l_used hr.m T.ac2 T.xJ.kp T.EV .nil cg (aa (ad 1) (aa (ad 4) (aa (ad 3) (aa (ad 12) (aa (ce (bP (K:=K) rfl) (cr (aa bi (aa bi (aa (fO<$>T.bN (aa (ad 6) (aa bi ae))) ae)))) (db aad (ad 9) bi)) (aa (ad 10) ae))))))))) (ao (aM f8)) bv))) (ao (aP (bY G_l_stirred hr.m T.WL T.yI.kp T.CM .nil cg (aa (ad 1) (aa (ad 3) (aa (ad 7) (aa (ad 8) (aa (fO<$>T.bN (aa (ad 6) (aa bi ae))) (aa (ad 10) ae))))))))))))
  (al (aQ 13 gn.nd (W9<$>T.qI (aa (ad 1) ae)))
  (al (aY (bw (JI (K:=K) 4 rfl hr.mX) (ad 13) (df (Bq rfl) T.yB xq (aa (ad 4) ae))) (ao (aM f8)) bv)
  (al (aP (jB IN IO m7 (ad 13) (aa bi ae)))
  (ao (aY (bw (Jz (K:=K) rfl hr.nA) (xm rfl (TN:=["_law_number"]) (caps:=["_law_house","_law_texts"]) (ix:=[1,3]) (EZ T.Fy (aa (df (nR (K:=K) rfl) T.lR T0 (aa (ad 3) ae)) ae)) (fun _ _ _ _=>by show(E3 (bw mq (yD<*T.jv (ad 1) (aa (ad 0) ae)) (ce (bP (K:=K) rfl) (ad 2) (ad 0))))) (fun _ _ _ _=>by show(il 0 (show List.Nodup (["_law_number","_law_house","_law_texts"]:List Str) by decide))) (fun _ _ _ _=>by show(ad 0)) (.of rfl (by show#[rfl,rfl,trivial]) (by walk_at "c") rfl (by show#[#[rfl,rfl,rfl,rfl],#[rfl,rfl,rfl,rfl],trivial]))) (cr ae)) (ao (aM f8)) bv)))))))))))))
  (ao (aM (em (Nc (K:=K) rfl hr.nA) (Bu (xm rfl (TN:=["_law_held_here"]) (caps:=["_law_house","_law_kept"]) (ix:=[1,4]) (aej (ad 4)) (fun _ _ _ _=>by show(E3 (bw (JI (K:=K) 4 rfl hr.mX) (dl (aa (bY (MY T) hr.m T.lU.m T.lU.F.kp T.lU.b .nil cO (aa (ad 1) (aa (ad 0) ae))) (aa (bY (MP T) hr.m T.lX.m T.lX.F.kp T.lX.b .nil cO (aa (ad 1) (aa (ad 0) ae))) ae))) (oA (ei hr) (ad 2) (ad 0))))) (fun _ _ _ _=>by show(il 0 (show List.Nodup (["_law_held_here","_law_house","_law_kept"]:List Str) by decide))) (fun _ _ _ _=>by show(ad 0)) (.of rfl (by show#[rfl,rfl,trivial]) (by walk_at "c") rfl (by show#[#[rfl,rfl,rfl,rfl],#[rfl,rfl,rfl,rfl],trivial])))) (cr ae)))))))))))) ?_
  exists 13;let⟨tl,nX⟩:∃ tl:List (ϋ×Str),tl=[(Pe,iO),(Ph,oK),(Pu,gz),(Ps,gR)]:=#[_,rfl];have nd:(tl.map (·.1)).Nodup:=by rw[nX];show sR
  have m1:(Pe,iO)∈tl:=by rw[nX];simp
  have m2:(Ph,oK)∈tl:=by rw[nX];simp
  have m3:(Pu,gz)∈tl:=by rw[nX];simp
  have m4:(Ps,gR)∈tl:=by rw[nX];simp
  have P9:TS tl H:=fun p hp=>by
   rw[nX]at hp;simp only[jp,kt,ww]at hp;rcases hp with rfl | rfl | rfl | rfl
   ·show#[[],hO.ok (c:=T.pQ) _ ()]
   ·show#[[],hO.ok (c:=T.pK) _ ()]
   ·show#[[],hO.ok (c:=T.pS) _ ()]
   ·show#[[],hO.ok (c:=T.qd) _ ()]
  have fin:∀ {H':Hp},TS tl H'->Q (.bl true) H':=fun {H'} h=>q H' fun qq hq=>by
   rw[nX]at h;simp only[jp,kt,ww]at hq;rcases hq with rfl | rfl | rfl | rfl
   ·show let ⟨es,t⟩:=h (Pe,iO) ();#[es,t.tab]
   ·show let ⟨es,t⟩:=h (Ph,oK) ();#[es,t.tab]
   ·show let ⟨es,t⟩:=h (Pu,gz) ();#[es,t.tab]
   ·show let ⟨es,t⟩:=h (Ps,gR) ();#[es,t.tab]
  clear nX sR;have Py:mY K H a ns:=by
   rcases hS with hS | hS
   ·rcases hS with hS | hS
    ·rcases hO.all a with z | ⟨o,xs,z⟩ | ⟨qq,hq,z⟩
     ·rw[z]at hS;cases hS
     ·rw[z]at hS;cases hS
     ·have z2:=hO.tab qq hq;rw[<- z,hS]at z2;cases z2
    ·show .inr hS
   ·show .inl fun J=>.inr hS
  right;intro x dx hx mz cL;show#[#[dx,aw],by symm,by symm,fun A1 L1 H2 hA1 gJ i2 pU jm=>#[rfl,?_]];subst hA1;have k2:bI H H2:=fun b o ho e=>jm _ _ (by rw[ut];show bj e hx) (by rw[ag (bj e hx),ag (bj e mz)];show e);let⟨kX,gc,gh,mC,en⟩:=i2.h;right;show mI gh en #[A1,L1,_,i2,rfl,by symm,by symm,⋯,⋯,by symm,by symm,fun H3 i3 k3=>?_];have vN:A1.ho ∉ [A1.a,A1.ro,A1.st]:=fun z=>gJ.n (by
   simp only[jp,kt,ww]at z;rcases z with z | z | z <;> rw[z] <;> simp[Ad.w])
  have k4':=k2.trans (i2.off (by nofun) (W:=[A1.a,A1.ro,A1.st]) (fun b hb=>by
   simp only[jp,kt,ww]at hb;rcases hb with rfl | rfl | rfl <;> simp[Ad.w]) k3)
  have h4:Hz T.cn T.ck A1 1 H3:=#[L1,M3,#[i3,k3 _ _ vN gJ.c,gJ.n,nofun,nofun,nofun,.nil],Vb];have hg0:=gJ.g;have ts4:=P9.ka k4';have Pn:=Py.kp fun o e=>k4' _ _ trivial e;clear i2 i3 k2 k3 k4' P9 Py gh en jm pU gJ vN;show iS (fun σ' H'=>(∃ n,n<=17/\Hz T.cn T.ck A1 n H')/\TS tl H'/\mY K H' a ns/\∃ t1,σ'=[!-a,!-A1.a,t1,none,none,none,none,none,none,none,none,none,none,none]) ?_ ?_
  ·left;show#[_,Pn.sq,fun ll n9=>#[#[_,aI.of aw],?_]];let⟨zs,ez,hzl⟩:=aaB ns none 16;rw[show((16:Nat):Int)=16 from rfl]at ez;rw[ez];show eP n9 fun H5 s5 b5=>?_;show Eb (xs:=zs.map V.int) (fun i σ' H'=>(Hz T.cn T.ck A1 (1+i) H'/\TS tl H'/\mY K H' a ns/\H' ll=!.lst (zs.map V.int))/\∃ t1,σ'=[!-a,!-A1.a,t1,none,none,none,none,none,none,none,none,none,none,none]) #[#[h4.same s5,ts4.ka (bI.of s5),Pn.kp fun o e=>s5 _ _ e,b5],_,rfl] (fun i σ' H' _ h=>aI.of h.1.2.2.2) ?_ ?_
   ·rintro i x σ' H6 hx ⟨⟨jh,jt,js,jl⟩,t1,rfl⟩;let⟨m,hm,rfl⟩:=zn.mp (GM hx);have hi:=(lm.mp hx).1;rw[lv]at hi;let⟨es,te⟩:=jt _ m1;left;show#[A1,1+i,es,jh,rfl,∅,te,fun v es' H7 h7 t7 k7=>?_];show#[#[by rw[<- Nat.add_assoc];show h7,jt.step nd m1 k7.x #[es',t7],js.kp fun o e=>k7 _ _ (jt.ne m1 (by nofun) e) trivial e,k7 _ _ (jt.ne m1 (by nofun) jl) (show kC (.lst _) from l8 zs) jl],_,rfl]
   ·rintro σ' H6 ⟨⟨jh,jt,js,jl⟩,t1,rfl⟩;rw[lv]at jh;show#[#[_,∅,jh],jt,js,_,rfl]
  ·rintro σ' H5 ⟨⟨n,hn,L,M,i5,g5⟩,Qo,Qx,t1,rfl⟩;have pz:=g5.n;right;show#[[-A1.a],cm rfl ib,YB i5.1 ∅ fun lt bS=>ai ?_];left;intro kd b9;right;show#[fits (),fun cl f7=>?_];have zH:H5 kd=none:=rP (aj.upd bS) b9;have nlk:lt≠kd:=bj aw b9;have nlc:lt≠cl:=bj ((aj.upd b9) _ _ aw) f7;have nkc:kd≠cl:=bj aw f7;have s6:aj H5 (upd (upd (upd H5 lt (.lst (cb M.ts))) kd (.dK [])) cl (.lst [V.int 0])):=((aj.upd bS).trans (aj.upd b9)).trans (aj.upd f7);have nk0:kd ∉ A1.w++L.flatMap Ta.l:=fun z=>by
    let⟨o,ho⟩:=i5.1.some _ z;rw[zH]at ho;cases ho
   have no0:kd≠A1.ho:=fun z=>by rw[z,i5.2.d]at zH;cases zH
   have j6:cQ T.cn T.ck A1 L lt kd cl n 0 [] M (fun _=>lt) (upd (upd (upd H5 lt (.lst (cb M.ts))) kd (.dK [])) cl (.lst [V.int 0])) :=
    #[by have:=i5.same s6;cases A1;cases hg0;show this,g5,by rw[ag nlc,ag nlk,aw],by rw[ag nkc,aw];rfl,nofun,aw,nofun,nk0,no0,pi _]
   have F4:=Qo.ka (bI.of s6);have Gw:=Qx.kp fun o e=>s6 _ _ e;generalize upd (upd (upd H5 lt (.lst (cb M.ts))) kd (.dK [])) cl (.lst [V.int 0])=H6 at j6 F4 Gw ⊢;clear s6 f7 b9 bS zH i5 g5 Qo Qx pz;show iS (fun σ' H'=>∃ g hs M pa,g<=34/\cQ T.cn T.ck A1 L lt kd cl n g hs M pa H'/\TS tl H'/\∃ t1 t2 t3 t4 t5 t6 t7 t8 t9,σ'=[!-a,!-A1.a,t1,!-lt,!-kd,!-cl,t2,t3,t4,t5,t6,t7,t8,t9]) ?_ ?_
   ·left;show#[_,Gw.sq,fun ll n9=>#[#[_,aI.of aw],?_]];let⟨zs,ez,hzl⟩:=ZY ns;rw[ez];have s7:=aj.upd (o:=.lst (zs.map V.int)) n9;have vV:ll≠lt:=fun z=>by have:=j6.tx;rw[<- z,n9]at this;cases this
    have Hy:ll≠cl:=fun z=>by have:=j6.c;rw[<- z,n9]at this;cases this
    have j7:LJ T tl A1 L lt kd cl ll zs n 0 [] M (fun _=>lt) (upd H6 ll (.lst (zs.map V.int))):=#[j6.same s7,F4.ka (bI.of s7),aw];generalize upd H6 ll (.lst (zs.map V.int))=H7 at j7 ⊢;clear s7 n9 j6 F4 Gw;show Eb (xs:=zs.map V.int) (fun i σ' H'=>(∃ g hs M pa,g<=i/\LJ T tl A1 L lt kd cl ll zs n g hs M pa H')/\∃ t1 t2 t3 t4 t5 t6 t7 t8 t9,σ'=[!-a,!-A1.a,t1,!-lt,!-kd,!-cl,t2,t3,t4,t5,t6,t7,t8,t9]) #[#[_,_,_,_,pi _,j7],_,_,_,_,_,_,_,_,_,rfl] (fun i σ' H' _ h=>by let⟨⟨_,_,_,_,_,j⟩,_⟩:=h;show aI.of j.l) ?_ (fun σ' H' h=>by let⟨⟨g,hs,M,pa,hg,j⟩,h⟩:=h;show#[g,hs,M,pa,by rw[lv]at hg;omega,j.j,j.ts,h]);clear j7 M;rintro i x σ' H8 hx ⟨⟨g,hs,M,pa,hg,j⟩,t1,t2,t3,t4,t5,t6,t7,t8,t9,rfl⟩;let⟨m,hm,rfl⟩:=zn.mp (GM hx);have hi:=(lm.mp hx).1;rw[lv]at hi;right;intro st a0 b0 c0 aX;have n3:ll≠st:=fun z=>by have:=j.l;rw[z,aX]at this;cases this
    have n1:lt≠st:=fun z=>by have:=j.j.tx;rw[z,aX]at this;cases this
    have n2:cl≠st:=fun z=>by have:=j.j.c;rw[z,aX]at this;cases this
    have j9:=j.same (aj.upd (o:=.lst [.int a0,.int b0,.int c0]) aX);have d9:Dr st (upd H8 st (.lst [.int a0,.int b0,.int c0])):=#[a0,b0,c0,aw];generalize upd H8 st (.lst [.int a0,.int b0,.int c0])=H9 at j9 d9 ⊢;clear j aX H8;right;show jY d9 rfl () () fun v wx hv Ic k10=>?_;let⟨z,hz,rfl⟩:∃ z,z∈AS/\v=V.str z:=by
     simp only[jp,kt,ww]at hv;rcases hv with rfl | rfl <;> show#[_,by symm,rfl]
    have Qv:=j9.drawn n1 n2 n3 d9 k10;clear j9 d9 k10 H9;right;show#[Ic,⋯,⋯,fun t wu hp d11 k11=>?_];have Pz:=Qv.drawn n1 n2 n3 Ic k11;clear Qv Ic k11 wx;right;show l6 d11 ⋯ ⋯ fun dw H12 w0 w1 d12 k12=>?_;let⟨wy,rfl⟩:=UF w0;have Ra:=Pz.drawn n1 n2 n3 d11 k12;clear Pz d11 k12 wu;right;show#[#[⋯,⋯,⋯],l6 (b:=1000000000) d12 ⋯ ⋯ fun dn H13 e0 e1 d13 k13=>?_];let⟨nn,rfl⟩:=UF e0;have FQ:nn < 1000000000:=∅
    have hl9:=Tf FQ;show#[aao FQ,?_];show#[fits (by rw[Kk];omega),?_];let⟨tx,lb,Al⟩:∃ tx,tx=ώ "held " ++ ώ (toString (nn:Int))/\tx.length<=60:=#[_,rfl,by rw[strLen_append,Kk];omega];rw[<- lb];have PD:=Ra.drawn n1 n2 n3 d12 k13;clear lb Ra d12 k13 H12 hl9 FQ e0 e1;right;show jY d13 rfl () () fun v H14 hv d14 k14=>?_;let⟨y,hy,rfl⟩:∃ z,z∈gQ/\v=V.str z:=by
     simp only[jp,kt,ww]at hv;rcases hv with rfl | rfl | rfl | rfl | rfl | rfl | rfl | rfl <;> show#[_,by symm,rfl]
    have sC:=PD.drawn n1 n2 n3 d13 k14;clear PD d13 k14 H13 hv;have PJ:=sC.j.z.n;show iS (fun σ' H'=>(∃ g hs M pa,g<=i+1/\LJ T tl A1 L lt kd cl ll zs n g hs M pa H')/\∃ t8,σ'=[!-a,!-A1.a,!.int m,!-lt,!-kd,!-cl,!-st,!.str z,!.str (Tx.S t),!.int (wy:Int),!.str tx,!.str y,t8,t9]) ?_ ?_
    ·show adS sC.j.d (fun H15 mF=>?_) (fun h4 h7 H15 mF=>?_)
     ·have fF:=sC.same mF;let⟨es,tb⟩:=fF.ts _ m2;left;show#[A1,L,lt,kd,cl,n,g,hs,M,pa,z,t,y,es,rfl,fF.j,∅,∅,hz,hp,hy,tb,fun g' hs' pa' es' H16 hg' Ha t16 k16=>aW #[#[g',hs',M,pa',∅,fF.go nd m2 vV Hy Ha #[es',t16] k16],_,rfl]]
     ·have fF:=sC.same mF;have vU:=d14.same mF;clear sC d14 mF;left;show gL (fun hw=>?_) (fun hw=>?_)
      ·right;have cL:hs≠[]:=fun e=>h7 (by simp at hw;omega) (by rw[e];rfl);show Yz fF.j.i.2.pw cL (by have:=fF.j.m;omega) fF.j.d vU fun e he H16 d16 k16=>?_;have Ha:=fF.drawn n1 n2 n3 vU k16;clear fF vU k16 H15;left;show l6 d16 ⋯ ⋯ fun dz H17 z0 z1 d17 k17=>#[fits (),fun p hp'=>?_];have vM:=Ha.drawn n1 n2 n3 d16 k17;have iB:=vM.same (aj.upd (o:=.lst [V.int 0,V.int 1,V.int dz]) hp');have QC:upd H17 p (.lst [V.int 0,V.int 1,V.int dz]) p=!.lst [V.int 0,V.int 1,V.int dz]:=aw;generalize upd H17 p (.lst [V.int 0,V.int 1,V.int dz])=H18 at iB QC ⊢;let⟨v,hv,ev⟩:=pick (xs:=[V.int 0,V.int 1,V.int dz]) (d:=(wy:Int) - 4) ∅ (by simp at hw ⊢;omega);let⟨wz,rfl⟩:∃ wz,v=V.int wz:=by
        simp only[jp,kt,ww]at hv;rcases hv with rfl | rfl | rfl <;> show#[_,rfl]
       simp only[bO,QC,ev];let⟨es,tb⟩:=iB.ts _ m3;show#[A1,L,lt,kd,cl,n,g,hs,M,pa,e,wz,tx,es,rfl,iB.j,he,Al,tb,fun hs' M' es' H19 j19 HL k19=>aW #[#[g,hs',M',pa,∅,iB.go nd m3 vV Hy j19 #[es',HL] k19],_,rfl]]
      ·left;show l6 vU ⋯ ⋯ fun dz H17 z0 z1 d17 k17=>?_;have vM:=fF.drawn n1 n2 n3 vU k17;let⟨es,tb⟩:=vM.ts _ m4;show#[A1,L,lt,kd,cl,n,g,hs,M,pa,z,t,dz,tx,es,rfl,vM.j,∅,hz,hp,Al,tb,fun M' es' H19 j19 HL k19=>#[#[g,hs,M',pa,∅,vM.go nd m4 vV Hy j19 #[es',HL] k19],_,rfl]]
    clear sC d14 M hs pa hg g PJ;rintro σ' H15 ⟨⟨g,hs,M,pa,hg,fF⟩,t8,rfl⟩;right;have iG:hs.length < 64:=by have:=fF.j.m;omega
    show#[{ A1 with hg:=g },L,M,hs,rfl,fF.j.i,iG,fun GR H16 GW gb hl16=>ai ?_];left;show#[kd,_,hs.map fun e=>(e.no:Int),rfl,GW _ _ fF.j.d,by unfold cG;simp,by rw[lv];omega,by rw[List.pairwise_map];show fF.j.i.2.pw.imp fun h=>by omega,fun Ag hl17=>?_];have GF:=aj.upd (o:=.lst ((hs.map fun e=>(e.no:Int)).map V.int)) hl17;have GH:upd H16 Ag (.lst ((hs.map fun e=>(e.no:Int)).map V.int)) Ag=!.lst (hs.map fun e=>V.int (e.no:Int)):=by rw[aw,Os];rfl
    have zu:=GF _ _ hl16;have G1:=GW.trans GF;generalize upd H16 Ag (.lst ((hs.map fun e=>(e.no:Int)).map V.int))=H17 at GH zu G1 ⊢;clear GW GF hl16 hl17;show#[.inr #[GR,Ag,_,_,rfl,rfl,.inl #[aI.of zu,aI.of GH],rfl,DE.pj (Da.mpr fun y hy=>by let⟨z,_,rfl⟩:=zn.mp hy;rfl)],aW (ai ?_)];left;simp only[zu];show#[fits (by simp;omega),?_];have PB:aj H15 (upd H17 GR (.lst ((hs.map fun e=>V.int (e.no:Int))++[V.int 99]))):=fun b o e=>by
     rw[ag (fun z=>by rw[z,gb]at e;cases e)];show G1 _ _ e
    have iB:=fF.same PB;generalize upd H17 GR (.lst ((hs.map fun e=>V.int (e.no:Int))++[V.int 99]))=H18 at iB ⊢;clear PB G1 fF GH zu gb H17 H15;left;have PJ:=iB.j.z.n;have hlen:(cb M.ts).length=M.ts.length:=lv _;show#[[-A1.a,-lt],cm rfl (cm rfl ib),?_];simp only[bO,iB.j.tx];rw[hlen];show#[#[∅,∅],aer M.ts.length (fun k hk R hR=>?_) (fun l hl=>#[fits (),fun p hp=>#[[],[],aI.of ((aj.upd hp) _ _ aw),aI.of aw,.inl #[rfl,aW #[#[g,hs,M,pa,hg,iB.same ((aj.upd hl).trans (aj.upd hp))],_,_,_,_,_,_,_,_,_,rfl]]]])];have ht:M.ts[k]?=!M.ts[k]:=sw hk;let⟨ak,gT⟩:=adr iB.j.i.1.len ht;let⟨fs,c,hx',_,sf⟩:=iB.j.i.1.h;rw[show([V.ref A1.a,V.ref lt]:List V).map some=[!V.ref A1.a,!V.ref lt] from rfl];left;show mI hx' sf #[{ A1 with hg:=g },L,M,k,ak,_,iB.j.i.1,rfl,rfl,gT,ht,?_];unfold yz;simp only[bO,iB.j.tx];rw[gv (j:=k) (v:=V.str M.ts[k].tx) (by unfold cb;rw[xz,ht];rfl)];change R (Bool.not (decide (M.ts[k].tx=M.ts[k].tx))) _;rw[ul rfl];show hR
   ·rintro σ' H8 ⟨g,hs,M,pa,hg,j,ts8,t1,t2,t3,t4,t5,t6,t7,t8,t9,rfl⟩;left;show#[kd,_,j.d,[-A1.a,-kd],cm rfl (cm rfl ib),kd,_,rfl,.inl j.d,fun o=>?_];have i0:=j.i.DZ (o:=.cD o (.dK (cG hs pa))) j.d j.nk j.no;have ko:∀ {b:ϋ}{u:HO},(∀ xs,u≠.dK xs)->H8 b=!u->upd H8 kd (.cD o (.dK (cG hs pa))) b=!u:=fun {b u} n1 e=>by
     rw[ag (fun z=>by rw[z,j.d]at e;cases e;show n1 _ rfl)];show e
    have b0:upd H8 kd (.cD o (.dK (cG hs pa))) kd=!.cD o (.dK (cG hs pa)):=aw;generalize upd H8 kd (.cD o (.dK (cG hs pa)))=H0 at i0 ko b0 ⊢;show UP (fun H1=>aj H0 H1) (aj.refl H0) (fun H1 s1=>s1 _ _ b0) ?_ ?_
    ·rintro t ht H1 s1 R hR;unfold cG at ht;rw[Os]at ht;let⟨e,he,rfl⟩:=zn.mp ht;rw[show([V.ref A1.a,V.ref kd]:List V).map some=[!V.ref A1.a,!V.ref kd] from rfl];left;have i1:=i0.same s1;show#[{ A1 with hg:=g },L,M,hs,e,rfl,i1,he,{ A1 with hg:=g },L,M,hs,e,rfl,i1,he,fits (),fun p hp=>#[kd,-(pa e.no),rfl,.inl #[_,.inl (e.no:Int),.inr #[o,(aj.upd hp) _ _ (s1 _ _ b0)],rfl,(Bh j.i.2.pw he).symm],?_]];show#[.inr #[p,pa e.no,_,_,rfl,rfl,.inr #[bH.of aw,bH.of ((aj.upd hp) _ _ (s1 _ _ (ko (by nofun) (j.p e he))))],rfl,DE.pj rfl],hR _ (s1.trans (aj.upd hp))]
    ·rintro H1 l s1 hl;have nk:kd≠l:=bj (s1 _ _ b0) hl;show#[o,by rw[ag nk];show s1 _ _ b0,fits (),fun p hp=>#[[],[],aI.of ((aj.upd hp) _ _ (by rw[ag (pp nk),aw])),aI.of aw,.inl #[rfl,fin (ts8.kp fun c φ e=>(aj.upd hp) _ _ ?_)]]];rw[ag (fun z=>by rw[z,j.d]at e;cases e)];show(aj.upd hl) _ _ (s1 _ _ (ko (by nofun) e))
end
def Xi{K:ν}{a:ϋ}{od:Option ϋ}{tk:Nat}{sl:Array (Option ϊ)}{t0 t1:Tok}(l:K.lookup a=!#[.type "tuple",od,.seq ([.str "." t0,.str ".." t1]:List ϊ).toArray tk,sl])(H:Hp):bH K H a [.str ".",.str ".."]:=.inr #[_,_,_,l,rfl,rfl,fits (),(.cons #[_,rfl] (.cons #[_,rfl] .nil))]
def ZN{K:ν}{a:ϋ}{od:Option ϋ}{tk:Nat}{sl:Array (Option ϊ)}{t0 t1 t2 t3 t4 t5 t6 t7:Tok}(l:K.lookup a=!#[.type "tuple",od,.seq ([.str "" t0,.str "l" t1,.str "g" t2,.str "w" t3,.str "lg" t4,.str "lw" t5,.str "gw" t6,.str "lgw" t7]:List ϊ).toArray tk,sl])(H:Hp):bH K H a [.str "",.str "l",.str "g",.str "w",.str "lg",.str "lw",.str "gw",.str "lgw"]:=.inr #[_,_,_,l,rfl,rfl,fits (),(.cons #[_,rfl] (.cons #[_,rfl] (.cons #[_,rfl] (.cons #[_,rfl] (.cons #[_,rfl] (.cons #[_,rfl] (.cons #[_,rfl] (.cons #[_,rfl] .nil))))))))]
def aeB{K:ν}{a:ϋ}{od:Option ϋ}{tk:Nat}{sl:Array (Option ϊ)}{t0 t1 t2:Tok}(l:K.lookup a=!#[.type "tuple",od,.seq ([.str "l" t0,.str "g" t1,.str "w" t2]:List ϊ).toArray tk,sl])(H:Hp):bH K H a [.str "l",.str "g",.str "w"]:=.inr #[_,_,_,l,rfl,rfl,fits (),(.cons #[_,rfl] (.cons #[_,rfl] (.cons #[_,rfl] .nil)))]
def R3{K:ν}{H:Hp}{a:ϋ}{ns:List Int}{tabs:oG}(hO:om tabs H)(hS:aI K H a (ns.map V.int)):AL K tabs [-a] H (fun v H'=>v=.bl true/\wG tabs H') fun _ _ _=>False:=#[#[ns,hS],hO,fun H' t=>#[rfl,t]]
def SQ{P:ύ}{w:World}{outer:List Env}{H:Hp}{s s':ό}{e:ϊ}(z:bc P w outer H s (fun _ _ _=>False) e s'):False:=by
 let⟨_,_,_,_,_,_,z⟩:=z;show z
def YL{l:W.OpenLaw}{q:ύ}{loose:List Str}{XP:(Str->Option ϊ)->Heap->Prop}{YP:World->Heap->Prop}{d:DefRec}{K:Params->ν}{c0 p0 c1 p1 c2 p2 c3 p3:ϋ}(hn:l.most=!63)(wc:d.params.defaults=[])(jL:d.name = "law")(hY:∀ (w:World) (h:Heap),YP w h->(K w.params).In h)(pY:∀ w:World,W.noTabs (K w.params)=true)(sE:∀ w:World,∃ e,(recsOf q).find? (fun e=>e.name == ("_law_built":Str))=!e/\W.tabIn (K w.params) "_law_built" = !(c0,p0))(gH:∀ w:World,∃ e,(recsOf q).find? (fun e=>e.name == ("_law_held":Str))=!e/\W.tabIn (K w.params) "_law_held" = !(c1,p1))(fh:∀ w:World,∃ e,(recsOf q).find? (fun e=>e.name == ("_law_used":Str))=!e/\W.tabIn (K w.params) "_law_used" = !(c2,p2))(vO:∀ w:World,∃ e,(recsOf q).find? (fun e=>e.name == ("_law_stirred":Str))=!e/\W.tabIn (K w.params) "_law_stirred" = !(c3,p3))(sR:[p0,p1,p2,p3].Nodup)(F:∀ (w:World) (mg:Str->Option ϊ) (h:Heap),(K w.params).In h->h.Ns mainGlobals mg->∃ T:Tx (K w.params) mg,T.pQ=c0/\T.pK=c1/\T.pS=c2/\T.qd=c3) :
  W.WalkO q loose XP YP l.row.toRowW d [] (fun f vs=>PySem.call f vs) :=
 L2.WW (n:=63) (k:=21) (x := "_law_script") (CX:=fun w=>bc l.prog w) (sp:=fun w=>AL (K w.params) [(c0,p0),(c1,p1),(c2,p2),(c3,p3)]) (tabs:=[(c0,p0),(c1,p1),(c2,p2),(c3,p3)]) hn ⋯ wc #[rfl,⋯,⋯] hY pY
  (fun w t ht=>by
   simp only[jp,kt,ww]at ht;rcases ht with rfl | rfl | rfl | rfl
   ·show let ⟨e,h1,h2⟩:=sE w;#[_,e,h1,h2]
   ·show let ⟨e,h1,h2⟩:=gH w;#[_,e,h1,h2]
   ·show let ⟨e,h1,h2⟩:=fh w;#[_,e,h1,h2]
   ·show let ⟨e,h1,h2⟩:=vO w;#[_,e,h1,h2])
  (fun w mg fa h KX G hfa=>by
   let⟨T,rfl,rfl,rfl,rfl⟩:=F w mg h KX G;rw[jL]at hfa;have e:=hfa.symm.trans T.Yb;cases e;show#[T.Ae,fun s u=>by let⟨oc,od,kV,doc,pm,an,ah,ct,dA,e,_⟩:=T.xV.ex;rw[e];show .of_eq rfl,fun base _ _ hb=>?_];have g0:=hb (T.pQ,p0) ();have g1:=hb (T.pK,p1) ();have g2:=hb (T.pS,p2) ();have g3:=hb (T.qd,p3) ();show aaK T g0.1 g0.2 g1.1 g1.2 g2.1 g2.2 g3.1 g3.2 sR)
  (fun _ _ a ns _ hO hS=>R3 hO hS) fun _ _ _ _ _ z=>SQ z
end L2.bX

end
local macro_rules | `(#[$xs,*]) => `(⟨$xs,*⟩)
open PySem PySem.W PyProof.Rows
local macro_rules | `(tactic| walk_at "fa")=>`(tactic| (refine' L2.FA.mk ?n ?l ?c ?k;(case n=>k_is);(case l=>k_is);(case c=>k_is);(case k=>k_is)))
local macro_rules | `(tactic| walk_at "ma")=>`(tactic| (refine' L2.MA.mk ?n ?l ?c ?k ?t;(case n=>k_is);(case l=>k_is);(case c=>k_is);(case k=>k_is);(case t=>k_is)))
local macro_rules | `(tactic| walk_at "ar")=>`(tactic| (intro _ _ _ _ _ _;first | (refine L2.NZ ?_;exact fun _=>rfl) | (refine L2.Np ?_;exact fun _ _=>rfl) | (refine L2.yi ?_;exact fun _ _ _=>rfl) | (refine L2.tR ?_;exact fun _ _ _ _=>rfl) | (refine L2.yt ?_;exact fun _ _ _ _ _=>rfl) | (refine L2.CL ?_;exact fun _ _ _ _ _ _=>rfl) | (refine L2.R7 ?_;exact fun _ _ _ _ _ _ _=>rfl) | (refine L2.N6 ?_;exact rfl)))
local macro_rules | `(tactic| walk_at "mg")=>`(tactic| (refine' PySem.W.mg_of (by assumption) (by assumption) ?n;(case n=>k_is)))
local macro_rules | `(tactic| walk_at "mn")=>`(tactic| (refine' PySem.W.mg_none_of (by assumption) (by assumption) ?n;(case n=>k_is)))
local macro_rules | `(tactic| walk_at "ft")=>`(tactic| (refine' Classical.choice (L2.FA.gt (by assumption) (by assumption) ?b ?a);(case a=>walk_at "fa");(case b=>walk_at "ar")))
local macro_rules | `(tactic| walk_at "mt")=>`(tactic| (refine' Classical.choice (L2.MA.gt ?b ?a);(case a=>walk_at "ma");(case b=>walk_at "ar")))
local macro_rules | `(tactic| walk_at "mk")=>`(tactic| (refine' L2.abH ?a ?b;(case a=>k_is);(case b=>k_is)))
local macro_rules | `(tactic| walk_at "xf")=>`(tactic| (refine' L2.Yx ?a ?b ?c ?d ?e ?f ?g;(case a=>kernel_rfl);(case b=>k_is);(case c=>k_is);(case d=>k_is);(case e=>k_is);(case f=>k_is);(case g=>k_is)))
local macro_rules | `(tactic| walk_at "cl")=>`(tactic| (refine' L2.c9.mk ?a ?b ?c ?d;(case a=>k_is);(case b=>k_is);(case c=>k_is);(case d=>k_is)))
local macro_rules | `(tactic| walk_at "fu")=>`(tactic| (refine' L2.Bs ?l ?c ?k;(case l=>k_is);(case c=>k_is);(case k=>k_is)))
local macro_rules | `(tactic| walk_at "fd")=>`(tactic| (refine' L2.TQ ?l ?c ?k ?d ?h;(case l=>k_is);(case c=>k_is);(case k=>k_is);(case d=>k_is);(case h=>exact rfl)))
set_option maxRecDepth 100000 in
set_option maxHeartbeats 0 in
theorem PySem.Challenge.cw_leadnames_k61_files_held_holds : PySem.Challenge.rw_leadnames_k61_files_held.Holds := by
 refine L2.bX.hd0 ?_;unfold L2.bX.fE
 k_fill
 refine L2.bX.YL (l:=PySem.Challenge.rw_leadnames_k61_files_held) (c0:=?z0) (p0:=?y0) (c1:=?z1) (p1:=?y1) (c2:=?z2) (p2:=?y2) (c3:=?z3) (p3:=?y3) rfl rfl rfl (fun w h Y=>W.km_in_of (e:=fun _=>by kernel_rfl) Y) ?pY ?sE ?gH ?fh ?vO ?sR ?F
 case pY=>intro w;first | kernel_rfl | exact rfl
 case sE =>
  intro w;refine' #[_,rfl,L2.xb ?n0 ?l0 ?c0 ?lc0 ?v0]
  (case n0=>k_is)
  (case l0=>k_is)
  (case c0=>exact rfl)
  (case lc0=>k_is)
  (case v0=>exact rfl)
 case gH =>
  intro w;refine' #[_,rfl,L2.xb ?n1 ?l1 ?c1 ?lc1 ?v1]
  (case n1=>k_is)
  (case l1=>k_is)
  (case c1=>exact rfl)
  (case lc1=>k_is)
  (case v1=>exact rfl)
 case fh =>
  intro w;refine' #[_,rfl,L2.xb ?n2 ?l2 ?c2 ?lc2 ?v2]
  (case n2=>k_is)
  (case l2=>k_is)
  (case c2=>exact rfl)
  (case lc2=>k_is)
  (case v2=>exact rfl)
 case vO =>
  intro w;refine' #[_,rfl,L2.xb ?n3 ?l3 ?c3 ?lc3 ?v3]
  (case n3=>k_is)
  (case l3=>k_is)
  (case c3=>exact rfl)
  (case lc3=>k_is)
  (case v3=>exact rfl)
 case sR=>decide
 case F =>
  intro w mg h KX G;refine' #[L2.bX.Tx.mk ?_ ?_ ?_ ?_ ?_ ?_ ?_ ?_ ?_ ?_ ?_ ?_ ?_ ?_ ?_ ?_ ?_ ?_ ?_ ?oX ?_ ?Jw ?rL ?_ ?_ ?_ ?_ ?_ ?_ ?_ ?_ ?_ ?_ ?_ ?_ ?_ ?_ ?xG ?_ ?En ?Ol ?MK ?xy ?_ ?Ey ?Oc ?Mp ?_ ?_ ?_ ?_ ?_ ?_ ?_ ?_ ?_ ?_ ?_ ?_ ?_ ?_ ?_ ?_ ?_ ?_ ?_ ?wL ?_ ?BE ?_ ?_ ?zm ?_ ?Cu ?xJ ?_ ?EV ?yI ?_ ?CM ?xV ?_ ?NJ ?_ ?C7 ?_ ?_ ?_ ?_ ?_ ?_ ?_ ?_ ?_ ?_ ?_ ?_ ?_ ?_ ?_ ?_ ?_ ?_ ?_ ?_ ?_ ?_ ?FK ?_ ?_ ?Bt ?_ ?_ ?_ ?_ ?_ ?_ ?_ ?_ ?_ ?_ ?_ ?_ ?_ ?_ ?_ ?_ ?_ ?_ ?_ ?_ ?_ ?_ ?_ ?_ ?_ ?_ ?_ ?_ ?_ ?_ ?_ ?_ ?_ ?_ ?_ ?_ ?_ ?_ ?_ ?_ ?_ ?_ ?_ ?_ ?_ ?_ ?_ ?_ ?_ ?_ ?_ ?_ ?_ ?_ ?_ ?_ ?_ ?_ ?_ ?_ ?_ ?_ ?_ ?_ ?_ ?_ ?_ ?_ ?_ ?_ ?_ ?_ ?_ ?_ ?_ ?_ ?_ ?_ ?_ ?_ ?_ ?_ ?_ ?_ ?_ ?_ ?_ ?_ ?_ ?_ ?_ ?_ ?_ ?_ ?_ ?_ ?_ ?_ ?_ ?_ ?_ ?_ ?_ ?_ ?_ ?_ ?_ ?_ ?_ ?_ ?_ ?_ ?_ ?_ ?_ ?_ ?_ ?_ ?_ ?_ ?_ ?_ ?_ ?_ ?_ ?_ ?_ ?_ ?_ ?_ ?_ ?_ ?_ ?_ ?_ ?_ ?_ ?_ ?_ ?_ ?_ ?_ ?_ ?_ ?_ ?_ ?_ ?_ ?_ ?_ ?_ ?_ ?_ ?_ ?_ ?_ ?_ ?_ ?_ ?_ ?_ ?_ ?_ ?_ ?_ ?_ ?_ ?_ ?_ ?_ ?_ ?_ ?_ ?_ ?_ ?_ ?_ ?_ ?_,rfl,rfl,rfl,rfl]

  all_goals try (first | walk_at "mg" | walk_at "ft" | walk_at "mt" | k_is | (show W.findIn _ _ _=some none;k_is) | walk_at "mn" | kit_is | k_exc | walk_at "mk" | walk_at "cl" | walk_at "xf" | exact rfl | kernel_rfl)
  (case C7=>(refine' L2.bX.Xi ?l_DOTS;(case l_DOTS=>k_is)))
  (case FK=>(refine' L2.bX.ZN ?l_RIGHTS;(case l_RIGHTS=>k_is)))
  (case Bt=>(refine' L2.bX.aeB ?l_SINGLE_RIGHTS;(case l_SINGLE_RIGHTS=>k_is)))
  (case oX=>walk_at "fd")
  (case Jw=>exact L2.m8 (x := "walk") (y := "walk") (st:=L2.bX.ui) (ds:=[.bool true]) 1 (by k_is) (by exact rfl) (fun _ _ _ _ _ _ _ us hl=>by (have e:us.length=4:=(by have h:=hl;rw[List.length_append]at h;simp at h;omega));clear hl;revert us;refine L2.tR ?_;exact fun _ _ _ _=>#[_,rfl,rfl]))
  (case rL=>exact L2.m8 (x := "walk") (y := "walk") (st:=L2.bX.ui) (ds:=[.bool true]) 0 (by k_is) (by exact rfl) (fun _ _ _ _ _ _ _ us hl=>by (have e:us.length=3:=(by have h:=hl;rw[List.length_append]at h;simp at h;omega));clear hl;revert us;refine L2.yi ?_;exact fun _ _ _=>#[_,rfl,rfl]))
  (case xG=>walk_at "fd")
  (case En=>exact L2.m8 (x := "make_folder") (y := "make_folder") (st:=L2.bX.rJ) (ds:=[.str "lgw" _,.str "" _]) 2 (by k_is) (by exact rfl) (fun _ _ _ _ _ _ _ us hl=>by (have e:us.length=5:=(by have h:=hl;rw[List.length_append]at h;simp at h;omega));clear hl;revert us;refine L2.yt ?_;exact fun _ _ _ _ _=>#[_,rfl,rfl]))
  (case Ol=>exact L2.m8 (x := "make_folder") (y := "make_folder") (st:=L2.bX.rJ) (ds:=[.str "lgw" _,.str "" _]) 1 (by k_is) (by exact rfl) (fun _ _ _ _ _ _ _ us hl=>by (have e:us.length=4:=(by have h:=hl;rw[List.length_append]at h;simp at h;omega));clear hl;revert us;refine L2.tR ?_;exact fun _ _ _ _=>#[_,rfl,rfl]))
  (case MK=>exact L2.m8 (x := "make_folder") (y := "make_folder") (st:=L2.bX.rJ) (ds:=[.str "lgw" _,.str "" _]) 0 (by k_is) (by exact rfl) (fun _ _ _ _ _ _ _ us hl=>by (have e:us.length=3:=(by have h:=hl;rw[List.length_append]at h;simp at h;omega));clear hl;revert us;refine L2.yi ?_;exact fun _ _ _=>#[_,rfl,rfl]))
  (case xy=>walk_at "fd")
  (case Ey=>exact L2.m8 (x := "make_file") (y := "make_file") (st:=L2.bX.qp) (ds:=[.str "lgw" _,.str "" _]) 2 (by k_is) (by exact rfl) (fun _ _ _ _ _ _ _ us hl=>by (have e:us.length=6:=(by have h:=hl;rw[List.length_append]at h;simp at h;omega));clear hl;revert us;refine L2.CL ?_;exact fun _ _ _ _ _ _=>#[_,rfl,rfl]))
  (case Oc=>exact L2.m8 (x := "make_file") (y := "make_file") (st:=L2.bX.qp) (ds:=[.str "lgw" _,.str "" _]) 1 (by k_is) (by exact rfl) (fun _ _ _ _ _ _ _ us hl=>by (have e:us.length=5:=(by have h:=hl;rw[List.length_append]at h;simp at h;omega));clear hl;revert us;refine L2.yt ?_;exact fun _ _ _ _ _=>#[_,rfl,rfl]))
  (case Mp=>exact L2.m8 (x := "make_file") (y := "make_file") (st:=L2.bX.qp) (ds:=[.str "lgw" _,.str "" _]) 0 (by k_is) (by exact rfl) (fun _ _ _ _ _ _ _ us hl=>by (have e:us.length=4:=(by have h:=hl;rw[List.length_append]at h;simp at h;omega));clear hl;revert us;refine L2.tR ?_;exact fun _ _ _ _=>#[_,rfl,rfl]))
  (case wL=>walk_at "fu")
  (case BE=>exact L2.Binds.all (fun us hl=>match us,hl with | [_,_],_=>rfl))
  (case zm=>walk_at "fu")
  (case Cu=>exact L2.Binds.all (fun us hl=>match us,hl with | [_,_,_,_,_,_],_=>rfl))
  (case xJ=>walk_at "fu")
  (case EV=>exact L2.Binds.all (fun us hl=>match us,hl with | [_,_,_,_,_,_],_=>rfl))
  (case yI=>walk_at "fu")
  (case CM=>exact L2.Binds.all (fun us hl=>match us,hl with | [_,_,_,_,_,_],_=>rfl))
  (case xV=>walk_at "fu")
  (case NJ=>exact L2.Binds.all (fun us hl=>match us,hl with | [_],_=>rfl))
  all_goals try (first | walk_at "mg" | walk_at "ft" | walk_at "mt" | k_is | (show W.findIn _ _ _=some none;k_is) | walk_at "mn" | kit_is | k_exc | walk_at "mk" | walk_at "cl" | walk_at "xf" | exact rfl | kernel_rfl)

