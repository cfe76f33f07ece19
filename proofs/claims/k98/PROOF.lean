import PyProof.Rows.All
import Wide.All
import OpenK.AllK
import Wide.FinOn
import Lean
import PyProof.EqAt
import PyProof.EqKinds
import PyProof.TupleCall
import PyProof.ZipIter
import PyProof.Draws
import PyProof.StationsW
import PyProof.EnumStmt
import PyProof.EnumMake
import PyProof.CallType
import PyProof.Rows.CallKwBuiltin
import PyProof.EnumIter
import PyProof.Rows.SeqMore
import PyProof.P3In
import KE.KRevSl
import PySem.Challenge.RW_steadyhand_k98_whole_papers_turned
open List renaming length_map→aB,getD_eq_getElem?_getD→aD,getElem?_eq_getElem→aE,length_append→aF,mem_map→aG,range→aI,mem_cons_of_mem→aK,replicate→aL,length_range→aM,getElem?_eq_some_iff→aN,map_map→aQ,mem_cons_self→aR,map_append→aS,all_eq_true→aT,mem_append_right→aU,getElem?_map→aV,size_toArray→aY,length_take→aZ,mem_singleton→a6,map_congr_left→a7,mem_cons→a8,mem_append→be,map_cons→bg,mem_range→bj,getElem?_set_ne→bv,of_mem_zip→bC,length_cons→bF,mem_of_getElem?→bH,mem_of_mem_take→bN,take_of_length_le→bO,length_set→bS,lookup_cons→bV,length_replicate→bX,getElem?_range→bY,zipWith→b_,length_drop→cc,getElem_mem→cq,length_zip→cu,append_assoc→cv,mem_iff_getElem→cz,mem_of_mem_drop→cA,replicate_succ→cC,getElem?_set_self→cD,append_nil→cH,mem_append_left→cQ,not_mem_nil→cR,getElem?_append_right→cS,getElem_of_mem→cU,mem_map_of_mem→cV,take_append_of_le_length→cY,ext_getElem→dg,getElem_set→dh,all_cons→dj,map_take→dk,map_replicate→dm,map_drop→dq,mem_replicate→dr,getElem?_append_left→du,drop_eq_getElem_cons→dw,mem_filter→dD,length→dF,map_id→dH,getElem?_cons_succ→dJ,range'→dL,drop_eq_nil_of_le→dM,zipWith_cons_cons→dN,getElem_range→dP,nodup_cons→dU,length_singleton→dW,mem_iff_getElem?→dZ,flatten_cons→d5,drop_zero→d_,mem_or_eq_of_mem_set→eg,lookup→eh,length_zipWith→eA,all_map→eE,foldl_cons→eI,zip_cons_cons→eJ,map→eN,take_succ_eq_append_getElem→eP,drop_of_length_le→eS,reverse_cons→eX,ext_getElem?→eZ,foldl_append→e7,take_append_drop→fb,getElem?_eq_none→fh,getElem_map→fu,filterMap_cons→fz,getElem?_take_of_lt→fT,eq_of_mem_replicate→fW,cons_append→f8,mem_flatten→f9,getElem_replicate→f_,nil_append→h9,range_succ→ic,mem_mapIdx→ie,set_append_right→ik,length_reverse→iH,length_flatten→iI,mem_filterMap→iK,sum_cons→iN,length_range'→iO,pairwise_map→iY,nodup_append→iZ,map_nil→i8,map_set→lg,any_eq_true→lJ,getElem_zip→lO,forIn_cons→lY,sum_append→lZ,all_append→l3,append_inj→l5,map_const'→l7,zip_append→l8,forIn_nil→l_,take_zero→ma,foldl→mf
open PySem.W renaming Frag→aH,kitOne→bG,cellsFrom_some→cB,kia_one→cG,emptyDict→cI,findIn→cO,keepIn→c_,fnOf→da,instObj→db,kla_obj→eM,codeIn→e8,plainGet→fo,plainGet_of→fA,lookIn→fM,tabObj→fQ,methodObj→fR,hasDictIn→fS,takerIn→g_,envX→ip,kla_fn→iC,CodeHd→iE,callWith_K→iL,plainOver→iR,specialIn→iS,kitx_list→iU,kitx_dict→iV,isFn→i7,handedIn→lB,makesIn→lV,takesIn→lX,OpenLaw→l6,mroIn→mh,tabIn→mj,WalkO→ml
open Nat renaming le_refl→aJ,lt_of_lt_of_le→a9,le_trans→bI,le_of_ble_eq_true→bJ,ne_of_lt→bK,le_add_right→bM,lt_irrefl→bU,lt_succ_self→bW,lt_succ_of_lt→cw,zero_add→cW,not_lt_zero→df,le_succ_of_le→dz,sub_self→dE,add_sub_cancel_left→dG,min_eq_left→dQ,le_succ→dR,le_of_lt→eB,ne_of_gt→eC,lt_of_le_of_lt→eF,zero_le→eV,two_pow_pos→fC,le_add_left→fG,add_mul_mod_self_left→fO,le_of_eq→gV,mul_comm→h_,sub_zero→ia,pow_le_pow_right→iA,mul_le_mul_left→iG,gcd→iJ,le_of_succ_le→iX,lt_trichotomy→i5,add_zero→j_,min_self→lh,min_le_right→lD,succ_ne_self→lF,mod_eq_of_lt→lG,succ_lt_succ→lH,zero_lt_succ→lI,min_eq_right→lK,min_le_left→lU
open PySem.Heap renaming get?_push_of_some→aO,lt_size→aX,get?_push_size→a_,size_push→cP,get?_update_other→eR,get?_update_self→ff
open Classical renaming byContradiction→bA,axiomOfChoice→fZ,choose_spec→ig
open Rat renaming intCast_mul→bE,mul_lt_mul_of_pos_right→bP,mul_le_mul_of_nonneg_right→cr,le_of_lt→cK,div_def→cZ,inv_mul_cancel→dl,lt_irrefl→d6,mul_assoc→d7,mul_one→ey,intCast_add→eK,mul_inv_cancel→eL,mul_nonneg→e_,mul_le_mul_of_nonneg_left→fv,le_refl→fD,mul_pos→fE,intCast_sub→fF,zero_mul→k_,mkRat_eq_div→lM
open Bool renaming false_ne_true→bL,and_eq_true→bQ,and_eq_true_iff→cx,eq_iff_iff→de,false_eq_true→di,beq_eq_decide_eq→io,or_eq_true→iq,false_and→iB,not_eq_false'→iQ,not_eq_true'→i4
open PySem.Str renaming ofString→bZ,empty→lW
open Int renaming eq_ofNat_of_zero_le→b9,toNat_natCast→cJ,ne_of_gt→cM,gcd→c8,fmod_nonneg_of_pos→dO,mul_pos→dY,fmod_lt_of_pos→eO,lt_trichotomy→eY,one_pos→fH,fdiv_eq_ediv_of_nonneg→fI,natCast_nonneg→fJ,mul_comm→fK,add_zero→fL,mul_neg_of_neg_of_pos→fN,gcd_dvd_right→fU,mul_fdiv_cancel_left→fV,gcd_dvd_left→f7,natCast_add→ir,zero_sub→ix,fdiv_mul_cancel→iF,natAbs_eq_zero→iM,le_trans→i6,zero_mul→i9,mul_zero→i_,dvd_trans→mi
open PySem.PyData renaming eqv→cE,eqvAll→c9,canLay0→dy,canLayAll0→d8,depth→fg,depthAll→im
open PySem.F renaming plain_min_loop→cF,args_tuple_add_2→eD,entry_tuple_add→eG,slot_tuple_add→eQ,entry_min_loop→eU,slot_list_append→fX,type_list_append→fY,plainAttrs_list→f6
open Array renaming length_toList→cT,getElem?_eq_some_iff→d9,empty_append→iP,toList→mm
open Option renaming isSome_iff_exists→cX,map_some→dX,map→e6,filter_eq_some_iff→fP,getD_none→lE
set_option Elab.async false
set_option linter.all false
set_option bootstrap.genMatcherCode false
set_option maxRecDepth 100000
set_option maxHeartbeats 0
theorem xQ{a b:Nat}(h:a<b:=by assumption):a<=b:=eB h
theorem yO{a b:Nat}(h:a<=b:=by assumption):a<=b+1:=dz h
theorem u0{a b:Nat}(h:a<=b:=by assumption):a<b+1:=Nat.lt_succ_of_le h
theorem zb{n:Nat}:(0:Int)<=(n:Int):=fJ n
theorem zA{a b c:Nat}(h:a<=b:=by assumption)(k:b.ble c=true:=by rfl):a<=c:=bI h (bJ k)
theorem y6{a b c:Nat}(h:a<=b:=by assumption)(k:(b+1).ble c=true:=by rfl):a<c:=eF h (bJ k)
theorem QK{a b c:Nat}(h:a=b:=by assumption)(k:b.ble c=true:=by rfl):a<=c:=by rw[h];exact bJ k
theorem uJ{a b c:Nat}(h:b<=c:=by assumption)(k:a.ble b=true:=by rfl):a<=c:=bI (bJ k) h
theorem zz{a b c:Nat}(h:a<b:=by assumption)(k:c=b:=by assumption):a<c:=k▸h
theorem wc{a b:Nat}(h:a=b:=by assumption):a<=b:=gV h
theorem yx{a b:Nat}(h:b=a:=by assumption):a<=b:=gV h.symm
theorem jy{a b c:Nat}(h:a<=b:=by assumption)(k:b<=c:=by assumption):a<=c:=bI h k
theorem xR{a b:Nat}(h:a<b:=by assumption):(a:Int)<(b:Int):=Int.ofNat_lt.mpr h
theorem QL{a b c:Int}(h:a<=b:=by assumption)(k:decide (b<=c)=true:=by rfl):a<=c:=i6 h (of_decide_eq_true k)
theorem vT{a b c:Int}(h:b<=c:=by assumption)(k:decide (a<=b)=true:=by rfl):a<=c:=i6 (of_decide_eq_true k) h
theorem yj{a b:Nat}{c:Int}(h:a<=b:=by assumption)(k:decide ((b:Int)<=c)=true:=by rfl):(a:Int)<=c:=i6 (Int.ofNat_le.mpr h) (of_decide_eq_true k)
theorem uK{n b:Nat}(h:b<=n:=by assumption)(k:(1:Nat).ble b=true:=by rfl):(n:Int)≠0:=λz=>by have:=bJ k;omega
theorem vU{a:Int}{b:Int}(h:b<=a:=by assumption)(k:decide (0<b)=true:=by rfl):a≠0:=λz=>by have:=of_decide_eq_true k;omega
theorem wz{a b c d:Nat}(h:a<=b:=by assumption)(e:d=a:=by assumption)(k:b.ble c=true:=by rfl):d<=c:=e▸bI h (bJ k)
theorem vV{a b c d:Nat}(e:d=a:=by assumption)(h:a<=b:=by assumption)(k:(b+1).ble c=true:=by rfl):d<c:=e▸eF h (bJ k)
theorem jz{a b:Nat}(h:a+1<=b+1:=by assumption):a<=b:=Nat.le_of_succ_le_succ h
theorem we{a b A B c:Nat}(h:a<=A:=by assumption)(k:b<=B:=by assumption)(m:(A+B).ble c=true:=by rfl):a+b<=c:=bI (Nat.add_le_add h k) (bJ m)
theorem zg{a b d c:Nat}(e:d=a:=by assumption)(h:a<=b:=by assumption)(k:b.ble c=true:=by rfl):d<=c:=e▸bI h (bJ k)
theorem xh{a b c:Nat}(k:b=c:=by assumption)(h:a<b:=by assumption):a<c:=k▸h
theorem Zy{a b c:Nat}(k:c=b:=by assumption)(h:a<b:=by assumption):a<c:=k▸h
theorem j2{a b c:Nat}(h:a<b:=by assumption)(k:b=c:=by assumption):a<c:=k▸h
theorem u1{x d B c A:Nat}(h:x<=B:=by assumption)(k:(A+B+d).ble c=true:=by rfl):A+x+d<=c:=bI (by omega) (bJ k)
theorem gG{x B c A:Nat}(h:x<=B:=by assumption)(k:(A+B).ble c=true:=by rfl):A+x<=c:=bI (by omega) (bJ k)
theorem Zz{a b c:Nat}(k:a=b:=by assumption)(h:a<c:=by assumption):b<c:=k▸h
theorem vW{a b c:Nat}(k:b=a:=by assumption)(h:a<c:=by assumption):b<c:=k▸h
theorem Z4{a b c:Nat}(k:a=b:=by assumption)(h:b=c:=by assumption):a=c:=k.trans h
theorem Z5:(-1+((n+1:Nat):Int)).toNat=n:=by omega
theorem gH:((n+1:Nat):Int)-1=(n:Int):=by omega
theorem QM{a b:Nat}(h:a<=b:=by assumption):min a b=a:=dQ h
theorem Z6{a b c:Nat}(h:a<=c:=by assumption):min a b<=c:=bI (lU ..) h
theorem u2{a b d c:Nat}(h:a<=d:=by assumption)(k:d.ble c=true:=by rfl):min a b<=c:=bI (lU ..) (bI h (bJ k))
namespace TT
open PySem PySem.W
noncomputable def e0:Obj:={cls:=.none,data:=.fields #[]}
noncomputable def tk(i:Nat):Frag->Obj×Frag
 |(b,u)::B=>match Nat.beq b i with
  |true=>(u,B)
  |false=>(e0,(b,u)::B)
 |[]=>(e0,[])
noncomputable def Z7:Nat->Nat->Frag->Frag->List Obj
 |0,_,_,_=>[]
 |k+1,i,(a,o)::A,B=>match Nat.beq a i with
  |true=>o::Z7 k (i+1) A B
  |false=>(tk i B).1::Z7 k (i+1) ((a,o)::A) (tk i B).2
 |k+1,i,[],B=>(tk i B).1::Z7 k (i+1) [] (tk i B).2
noncomputable def QN:List Obj->List Obj
 |a::_::r=>a::QN r
 |[a]=>[a]
 |[]=>[]
noncomputable def Um:Nat->List Obj->BT
 |k+1,o::r=>.node o (Um k (QN r)) (Um k (QN r.tail))
 |_,_=>.nil
noncomputable def md(f:Obj->Obj):Nat->List Obj->List Obj
 |0,o::r=>f o::r
 |k+1,o::r=>o::md f k r
 |_,[]=>[]
noncomputable def tD(g:Nat)(x:Value):Obj->Obj
 |⟨c,d,.dict ⟨⟨a,b,_⟩::es⟩ _,s⟩=>⟨c,d,.dict ⟨⟨a,b,x⟩::es.take g⟩ (g+1),s⟩
 |o=>o
noncomputable def tF(l:Nat):Obj->Obj
 |⟨c,d,.fields vs,s⟩=>⟨c,d,.fields ⟨vs.toList.take l⟩,s⟩
 |o=>o
noncomputable def stt(K G:Frag)(n g l t:Nat)(x:Value)(w:World)(os:OsState):SharedT:=⟨Um 11 (md (tF l) 12 (md (tD g x) 3 (Z7 n 0 K G))),n,(boot_heap w.params).life,Array.mk [],boot_drawn,t,os⟩
noncomputable def vX(p:Program):Env:={scope:=p.main.scope,locals:=mainNs,globals:=mainNs,cells:=[],code:=.ref 13,frame:=some 14}
noncomputable def codT(p:Program):Code:=.body (behindTheImports p) (vX p)
noncomputable abbrev z0:Pos:=⟨0,0,0,0⟩
noncomputable def pcT(p:Program)(w:World)(N i k:Nat)(s:SharedT)(a:Pos):Option (Flow×SharedT×Code×Pos):=segRunT treeTable p w 11 (some (.ref 6)) 1 N s (piecesOf (((behindTheImports p).drop i).take k) (vX p) (codT p) a [topFrame z0])
noncomputable def lkA(p:Program)(h k:Heap):Bool:=staticsOk (importedModules p.main.body) h k&&namesBound p k&&laidKept h k
noncomputable def lkB(p v:Program)(lo:List Str)(r:WRecords)(s:Shared):=openSeen v lo (importedModules p.main.body) (λs=>xlAt v [] s&&recOk r s) true s
noncomputable def rhB(v:Program)(lo:List Str):=openGood v lo
lay_quick pcT lkA lkB rhB
section
variable{p q:Program}{w:World}{os:OsState}
theorem step_p(h:pcT p w N i k s a=some (.next,s',codT p,a'))
  (r:topRun treeTable p w 11 (some (.ref 6)) M s'.abs (restOf ((behindTheImports p).drop (i+k)) (vX p) (codT p) a' [topFrame z0])=some x):
  topRun treeTable p w 11 (some (.ref 6)) (N+M) s.abs (restOf ((behindTheImports p).drop i) (vX p) (codT p) a [topFrame z0])=some x:=by
 have:=piece_app (segRun_of h) r;rwa[<- List.drop_drop,fb]at this
theorem fin_p{s:SharedT}(h:(behindTheImports p).drop i=[]):topRun treeTable p w 11 (some (.ref 6)) 2 s.abs (restOf ((behindTheImports p).drop i) (vX p) (codT p) a [topFrame z0])=some s.abs:=by rw[h];exact piece_nil rfl
theorem left_by{lo:List Str}{r:WRecords}{α:Type}{Yf:Shared->α}{Ya:World->α}{N M:Nat}{K G:Params->Frag}{t0 n g l t n' g' l':Nat}{x x':Value}
  (op:∀w:World,(fencedOpening treeTable p w N).map (λs=>(s.heap,s.gens,s.drawn,s.toks))=some (boot_heap w.params,Array.mk [],boot_drawn,boot_toks))
  (size:∀w:World,((boot_heap w.params).isNs mainGlobals&&(Array.mk []:Array GenState).size==0,(boot_heap w.params).objs.size,(boot_heap w.params).nsMap mainGlobals "__annotations__")=(true,11,some (.ref 6)))
  (pre:∀(w:World)(os:OsState),topGo treeTable p w 11 (some (.ref 6)) 12 ⟨boot_heap w.params,Array.mk [],boot_drawn,boot_toks,os⟩ (topStub p)=some ((stt (K w.params) (G w.params) n' g' l' t0 x' w os).abs,⟨denote treeTable (codT p),codT p,z0,[topFrame z0]⟩))
  (blk:∀(w:World)(os:OsState),segRun treeTable p w 11 (some (.ref 6)) 1 1 (stt (K w.params) (G w.params) n' g' l' t0 x' w os).abs (blockOf (behindTheImports p) (vX p) (codT p) z0 [topFrame z0])=some (.next,(stt (K w.params) (G w.params) n' g' l' t0 x' w os).abs,codT p,z0))
  (run:∀(w:World)(os:OsState),topRun treeTable p w 11 (some (.ref 6)) M (stt (K w.params) (G w.params) n' g' l' t0 x' w os).abs (restOf ((behindTheImports p).drop 0) (vX p) (codT p) z0 [topFrame z0])=some (stt (K w.params) (G w.params) n g l t x w os).abs)
  (le:Nat.ble (12+(1+M)) N=true)
  (la:∀(w:World)(os:OsState),lkA p (boot_heap w.params) (stt (K w.params) (G w.params) n g l t x w os).abs.heap=true)
  (lb:∀(w:World)(os:OsState),lkB p q lo r (stt (K w.params) (G w.params) n g l t x w os).abs=rhB q lo)
  (lc:∀(w:World)(os:OsState),Yf (stt (K w.params) (G w.params) n g l t x w os).abs=Ya w):LeftO p q lo (λs=>xlAt q [] s&&recOk r s) Yf Ya N:=by
 refine LeftO.of_pieces (H₁:=λP=>absHeap (Um 11 (md (tF l) 12 (md (tD g x) 3 (Z7 n 0 (K P) (G P))))) n (boot_heap P).life) (gs₁:=Array.mk []) (d₁:=boot_drawn) (k₁:=t) op size (λw os=>go_top (pre w os) (piece_block (blk w os) (run w os))) le λw=>funext λos=>?_;have a:=la w os;unfold lkA at a;obtain⟨a,a3⟩:=cx.mp a;obtain⟨a1,a2⟩:=cx.mp a;refine Prod.ext ?_ (Prod.ext (lb w os) (lc w os));show(_&&_&&_&&_)=true;rw[cx,cx,cx];exact⟨⟨⟨a1,a2⟩,rfl⟩,a3⟩
end
end TT
namespace H98
open PySem PySem.W
noncomputable def hT(i:Nat):Stmt:=PySem.Challenge.pw_steadyhand_k98_whole_papers_turned.main.body.getD i (.Pass ⟨0,0,0,0⟩)
noncomputable def hI(i j:Nat):Stmt:=match hT i with
 | .ClassDef _ _ _ b _ _ _ _ _ _ _=>b.getD j (.Pass ⟨0,0,0,0⟩)
 |s=>s
noncomputable def hA:Stmt->Arguments
 | .FunctionDef _ a _ _ _ _ _ _ _ _=>a
 |_=>⟨[],[],none,[],[],none,[]⟩
noncomputable def hB:Stmt->List Stmt
 | .FunctionDef _ _ b _ _ _ _ _ _ _=>b
 |_=>[]
noncomputable def hC:Stmt->Scope
 | .FunctionDef _ _ _ _ _ _ c _ _ _=>c
 |_=>{kind:=.function,names:=[],isGenerator:=false,isCoroutine:=false}
noncomputable abbrev hS(s:String)(n:Nat):Value:=.str (bZ s) n
noncomputable abbrev hE(P:Params)(s:String)(n:Nat)(v:Value):DictEntry:=⟨PyData.keyHash P (bZ s),hS s n,v⟩
noncomputable abbrev hU(x:Array Value):Obj:={cls:=.type "tuple",data:=.seq x}
noncomputable abbrev hD(s:String)(a:Nat)(s2:String)(b c:Nat)(i j f:Int)(r1 r2:Nat)(u v t r:Value)(y z:Int)(d:Nat):Obj:={cls:=.type "code",data:=.fields #[hS s a,hS s2 b,hS "/claim/cut.py" c,.int i 0,.int j 0,.int 0 0,.int 0 0,.int f 0,.ref r1,.bool true,.int 181 0,.ref r2,u,v,t,r,.int y 0,.int z 0,hS "/claim/cut.py" d]}
noncomputable abbrev hF(n q:String)(s:Stmt)(d k:Value)(m:String)(j c:Nat):Obj:={cls:=.type "function",data:=.func {name:=n,qualname:=q,params:=hA s,body:=.stmts (hB s),scope:=hC s,globals:=3,closure:=[],defaults:=d,kwdefaults:=k,pyModule:=hS m j,code:=.ref c}}
noncomputable abbrev hM(n q:String)(s:Stmt):Obj:={cls:=.none,data:=.func {name:=n,qualname:=q,params:=hA s,body:=.stmts (hB s),scope:=hC s,globals:=0,closure:=[],defaults:=.none,kwdefaults:=.none}}
noncomputable def hQ:Stmt->Str
 | .FunctionDef n _ _ _ _ _ _ _ _ _=>n
 |_=>""
noncomputable abbrev hN(i:Nat):Obj:={cls:=.none,data:=.func {name:=hQ (hT i),qualname:=hQ (hT i),params:=hA (hT i),body:=.stmts (hB (hT i)),scope:=hC (hT i),globals:=0,closure:=[],defaults:=.none,kwdefaults:=.none}}
noncomputable def h3:List (Int×Nat)->List Value
 |[]=>[]
 |(a,c)::r=>.int a 0:: .int 0 0:: .ref c::h3 r
noncomputable abbrev h4:Obj:={cls:=.type "builtin_function_or_method",data:=.fields #[.builtin "type.__prepare__",.type "type"]}
noncomputable abbrev h5(a:Nat):Obj:={cls:=.type "builtin_function_or_method",data:=.fields #[.builtin "object.__init_subclass__",.ref a]}
noncomputable abbrev h6(a:Nat):Obj:={cls:=.type "super",data:=.fields #[.ref a,.ref a,.ref a]}
noncomputable abbrev h7(a b:Nat)(s:String)(c:Nat):Obj:={cls:=.type "frame",slots:=#[some (.ref a),some (.ref 3),some (.ref b),none,some (hS s c),none,some (.ref 0)]}
noncomputable abbrev h8(s:String)(b:Nat)(l:Int)(r:Nat):Obj:={cls:=.type "code",data:=.fields #[hS s b,hS s (b+1),hS "/claim/cut.py" (b+2),.int l 0,.int 0 0,.int 0 0,.int 0 0,.int 0 0,.ref r,.bool false,.int 181 0,.ref (r+1),.none,.none,.none,.none,.int (b+3) 0,.int l 0,hS "/claim/cut.py" (b+4)]}
noncomputable def hRs:Nat->List String->List Value
 |_,[]=>[]
 |t,n::r=>hS n t::hRs (t+1) r
noncomputable abbrev hY(s:String)(a b t u:Nat):Obj:={cls:=.type "type",data:=.cls {name:=s,bases:=[.type "object"],mro:=[.ref a,.type "object"],ns:=b,qualname:=s},slots:=#[none,none,some (hS s t),some (hS s u),some (.builtin "object.__new__"),some (.bool true)]}
noncomputable abbrev hX(s:String)(c a b r t u:Nat):Obj:={cls:=.type "type",data:=.cls {name:=s,bases:=[.ref c],mro:=[.ref a,.ref c,.type "ValueError",.type "Exception",.type "BaseException",.type "object"],ns:=b,qualname:=s},slots:=#[some (.ref r),none,some (hS s t),some (hS s u),some (.builtin "ValueError.__new__"),some (.bool true)]}
noncomputable abbrev hG(n a:Nat):Obj:={cls:=.type "getset_descriptor",data:=.fields #[hS "__dict__" n,.ref a,.builtin "function.__dict__",.builtin "function.__dict__#set"]}
noncomputable abbrev hR(t:Nat)(ns:List String):Obj:=hU ⟨hRs t ns⟩
noncomputable abbrev hJ(s:String)(t:Nat)(q:String)(l c:Int)(a z:Nat):Obj:=hD s t q (t+1) (t+2) l c 3 a (a+1) .none (.ref (a+2)) (.ref (a+3)) (.ref (a+4)) (t+3+z) l (t+4+z)
noncomputable abbrev hL(s:String)(t:Nat)(q:String)(l c:Int)(a:Nat):Obj:=hD s t q (t+1) (t+2) l c 3 a (a+1) .none .none .none (.ref (a+2)) (t+3) l (t+4)
noncomputable def hO(P:Params)(e:List (String×Nat×Nat)):List DictEntry:=e.map λ(n,u,p)=>hE P n u (.ref p)
noncomputable def hZ(P:Params)(m:String)(j t:Nat)(l:Int)(x r f z:Nat)(e:List (String×Nat×Nat)):Obj:={cls:=.type "dict",data:=.dict ⟨[hE P "__module__" t (hS m j),hE P "__firstlineno__" (t+4) (.int l (t+3))]++hO P (e++("__static_attributes__",x,r)::(match f with|0=>[]|1=>[("__weakref__",x+2,r+3)]|_=>[("__dict__",x+2,r+3),("__weakref__",x+4,r+4)]))++[hE P "__doc__" (x+1+2*f) .none]⟩ z}
noncomputable abbrev hH(n a:Nat):Obj:={cls:=.type "getset_descriptor",data:=.fields #[hS "__weakref__" n,.ref a,.builtin "ExceptionGroup.__weakref__",.none]}
noncomputable def hMi(a i:Nat):Frag->Frag
 |[]=>[(a,hN i)]
 |(b,o)::r=>match Nat.blt a b with
  |true=>(a,hN i)::(b,o)::r
  |false=>(b,o)::hMi a i r
noncomputable def hMr(e:List (Nat×Nat))(k:Frag):Frag:=e.foldr (λ(a,i) k=>hMi a i k) k
noncomputable def hW(P:Params)(m:String)(j t:Nat)(s:String)(l:Int)(e:List (String×Nat×Nat))(x r:Nat):Obj:={cls:=.type "dict",data:=.dict ⟨[hE P "__module__" t (hS m j),hE P "__qualname__" (t+2) (hS s (t+1)),hE P "__firstlineno__" (t+4) (.int l (t+3))]++(e.map λ(n,u,p)=>hE P n u (.ref p))++[hE P "__static_attributes__" x (.ref r)]⟩ (4+e.length)}
noncomputable def hV(e:List (Int×Nat)):Obj:={cls:=.none,data:=.fields ⟨e.flatMap λ(l,c)=>[.int l 0,.int 4 0,.ref c]⟩}
noncomputable def hq:Nat->String×Nat:=λm=>[("__main__",164),("steadyhand.fractions",319),("steadyhand.tables",373),("steadyhand.rows",425),("steadyhand.things",502),("steadyhand.turning",644),("steadyhand.solving",765),("steadyhand.most",798),("steadyhand.reach",903),("steadyhand.shares",922),("steadyhand.papers",952),("steadyhand.runs",1179),("law_steadyhand_k98_whole_papers_turned",1228)].getD m ("",0)
noncomputable abbrev hK(s:String)(i m c:Nat):Obj:=hF s s (hT i) .none .none (hq m).1 (hq m).2 c
local macro_rules
 |`(%[$a:num,$t:num,$s:str,$l:num,$c:num,$i:num,$m:num|$k])=>do
  let n:=λx=>Lean.Syntax.mkNumLit (toString (a.getNat+x))
  `((nat_lit $a,hU #[])::(nat_lit $(n 3),hL $s $t $s $l $c $a)::(nat_lit $(n 4),hK $s $i $m $(n 3))::$k)
local macro_rules
 |`(%[$a:num,$t:num,$s:str,$l:num,$c:num,$i:num,$m:num,$[$v:str],*|$k])=>do
  let n:=λx=>Lean.Syntax.mkNumLit (toString (a.getNat+x))
  `((nat_lit $a,hU #[])::(nat_lit $(n 2),hR ($t+3) [$v,*])::(nat_lit $(n 3),hU #[])::(nat_lit $(n 5),hJ $s $t $s $l $c $a $(Lean.Syntax.mkNumLit (toString v.size)))::(nat_lit $(n 6),hK $s $i $m $(n 5))::$k)
noncomputable def KK:Params->Frag:=λP=>
 (nat_lit 2,{cls:=.none,data:=.dict #[]})::(nat_lit 3,{cls:=.type "dict",data:=.dict ⟨[hE P "__name__" 165 (hS "law_steadyhand_k98_whole_papers_turned" 1228),hE P "__doc__" 166 (.none),hE P "__package__" 167 (.none),hE P "__loader__" 168 (.builtin "__main__.__loader__#opaque"),hE P "__spec__" 169 (.none),hE P "__annotations__" 170 (.ref 6),hE P "__builtins__" 171 (.ref 4),hE P "__file__" 173 (hS "/claim/cut.py" 172),hE P "__cached__" 174 (.none),hE P "_wall" 193 (.ref 21),hE P "SteadyError" 213 (.ref 31),hE P "NoNumber" 229 (.ref 44),hE P "BadThing" 245 (.ref 56),hE P "TooMany" 261 (.ref 68),hE P "NoRun" 286 (.ref 87),hE P "NotClosed" 302 (.ref 99),hE P "BadTurn" 318 (.ref 111),hE P "is_whole" 327 (.ref 120),hE P "common_divisor" 338 (.ref 127),hE P "fraction" 348 (.ref 135),hE P "minus" 356 (.ref 142),hE P "times" 364 (.ref 149),hE P "under" 372 (.ref 156),hE P "is_numbers" 380 (.ref 161),hE P "is_table" 386 (.ref 166),hE P "copied" 393 (.ref 172),hE P "unit" 400 (.ref 178),hE P "scaled" 406 (.ref 183),hE P "mixed" 412 (.ref 188),hE P "paired" 418 (.ref 193),hE P "added_up" 424 (.ref 198),hE P "is_row" 432 (.ref 203),hE P "is_room" 438 (.ref 208),hE P "single" 448 (.ref 215),hE P "raw_sum" 460 (.ref 222),hE P "along" 469 (.ref 229),hE P "divided_sum" 480 (.ref 236),hE P "holds" 489 (.ref 243),hE P "lies_in" 495 (.ref 248),hE P "other_side" 501 (.ref 253),hE P "MOST_NUMBERS" 505 (.int 3 504),hE P "MOST_PUSHES" 507 (.int 6 506),hE P "MOST_MODES" 509 (.int 40 508)]++hO P [("Mode",548,270),("Thing",608,317),("is_sound",614,326),("is_push",621,333),("is_mode",630,340),("is_unsteered",636,345),("ask_closed",643,352),("turned_point",651,357),("turned_row",659,364),("turned",665,369),("is_turn",671,374),("product",677,379),("turned_mode",683,384),("Claim",705,394),("Settles",735,416),("Comes",764,435),("solved",772,442),("first_with",781,449),("put_ahead",791,456),("cleared",797,461),("most",805,466),("climbed",811,471),("axes",817,476),("first_corner",823,481),("corner_point",829,486),("weights_of",835,491),("way_off",841,496),("least_place",847,501),("exchanged",856,508),("first_broken",866,515),("first_met",881,522),("over_one_bottom",887,527),("spread",893,532),("shares_for",902,539),("standing",910,544),("reach",921,551),("added",932,558),("is_from_0_on",939,565),("are_shares",945,570),("shows",951,575),("Paper",973,585),("Rooms",1006,606),("Falls",1047,625),("lets_by",1056,634),("is_list_of",1064,641),("each_shown",1070,646),("settles_over",1078,653),("comes_over",1086,660),("lets_rooms_by",1095,667),("are_rooms",1101,672),("rooms_follow",1107,677),("leads",1113,682),("mode_leads",1119,687),("rooms_stay",1125,692),("lets_fall_by",1134,699),("height_at_most",1142,706),("height_from_0_on",1148,711),("fall_row",1160,718),("floors_hold",1166,723),("falls_hold",1172,728),("mode_falls",1178,733),("point_behind",1186,738),("number_behind",1199,745),("walked",1213,752),("can_be_made",1219,757),("lies_between",1227,764),("_law_cell_at",1237,771),("_law_stream",1249,778),("_law_draws",1258,785),("_law_thing",1264,790),("_law_tables",1270,795),("_law_box",1276,800),("_law_pushed",1282,805),("_law_shares",1291,812),("_law_steps",1297,817),("_law_spoilt",1303,822),("_law_run",1309,827),("law",1315,832)]⟩ 121})::
 %[15,187,"_wall",1,1,0,0,"k"|
 (nat_lit 22,hU #[.type "ValueError"])::(nat_lit 29,hU #[])::(nat_lit 30,hZ P "steadyhand.errors" 194 203 5 208 29 1 3 [])::(nat_lit 31,{cls:=.type "type",data:=.cls {name:="SteadyError",bases:=[.type "ValueError"],mro:=[.ref 31,.type "ValueError",.type "Exception",.type "BaseException",.type "object"],ns:=30,qualname:="SteadyError",subclasses:=[.ref 44,.ref 56,.ref 68,.ref 87,.ref 99,.ref 111]},slots:=#[some (.ref 22),none,some (hS "SteadyError" 196),some (hS "SteadyError" 204),some (.builtin "ValueError.__new__"),some (.bool true)]})::(nat_lit 32,hH 209 31)::(nat_lit 35,hU #[.ref 31])::(nat_lit 42,hU #[])::(nat_lit 43,hZ P "steadyhand.errors" 194 221 7 226 42 0 2 [])::(nat_lit 44,hX "NoNumber" 31 44 43 35 214 222)::(nat_lit 47,hU #[.ref 31])::(nat_lit 54,hU #[])::(nat_lit 55,hZ P "steadyhand.errors" 194 237 9 242 54 0 2 [])::(nat_lit 56,hX "BadThing" 31 56 55 47 230 238)::(nat_lit 59,hU #[.ref 31])::(nat_lit 66,hU #[])::(nat_lit 67,hZ P "steadyhand.errors" 194 253 11 258 66 0 2 [])::(nat_lit 68,hX "TooMany" 31 68 67 59 246 254)::(nat_lit 71,hU #[.ref 31])::(nat_lit 78,hU #[])::(nat_lit 80,hR 277 ["self","step"])::(nat_lit 81,hU #[])::(nat_lit 83,hJ "__init__" 274 "NoRun.__init__" 15 2 78 2)::(nat_lit 84,hF "__init__" "NoRun.__init__" (hI 6 0) .none .none "steadyhand.errors" 194 83)::(nat_lit 85,hR 282 ["step"])::(nat_lit 86,hZ P "steadyhand.errors" 194 269 13 283 85 0 2 [("__init__",281,84)])::(nat_lit 87,hX "NoRun" 31 87 86 71 262 270)::(nat_lit 90,hU #[.ref 31])::(nat_lit 97,hU #[])::(nat_lit 98,hZ P "steadyhand.errors" 194 294 18 299 97 0 2 [])::(nat_lit 99,hX "NotClosed" 31 99 98 90 287 295)::(nat_lit 102,hU #[.ref 31])::(nat_lit 109,hU #[])::(nat_lit 110,hZ P "steadyhand.errors" 194 310 20 315 109 0 2 [])::(nat_lit 111,hX "BadTurn" 31 111 110 102 303 311)::
 %[114,321,"is_whole",23,1,10,1,"thing"|
 %[121,328,"common_divisor",25,1,11,1,"numbers","common","number","rest","left"|
 (nat_lit 128,hU #[.int 1 339])::(nat_lit 129,hU #[])::(nat_lit 131,hR 343 ["top","bottom","common"])::(nat_lit 132,hU #[])::(nat_lit 134,hD "fraction" 340 "fraction" 341 342 34 2 3 129 130 .none (.ref 131) (.ref 132) (.ref 133) 346 34 347)::(nat_lit 135,hF "fraction" "fraction" (hT 12) (.ref 128) .none "steadyhand.fractions" 319 134)::
 %[136,349,"minus",43,2,13,1,"one","other"|
 %[143,357,"times",45,2,14,1,"one","other"|
 %[150,365,"under",47,2,15,1,"one","other"|
 %[157,375,"is_numbers",50,2,17,2|
 %[162,381,"is_table",52,3,18,2|
 (nat_lit 167,hU #[.int 5 387])::(nat_lit 168,hU #[])::(nat_lit 171,hD "copied" 388 "copied" 389 390 54 2 3 168 169 .none .none .none (.ref 170) 391 54 392)::(nat_lit 172,hF "copied" "copied" (hT 19) (.ref 167) .none "steadyhand.tables" 373 171)::(nat_lit 173,hU #[.int 1 394])::(nat_lit 174,hU #[])::(nat_lit 177,hD "unit" 395 "unit" 396 397 62 3 3 174 175 .none .none .none (.ref 176) 398 62 399)::(nat_lit 178,hF "unit" "unit" (hT 20) (.ref 173) .none "steadyhand.tables" 373 177)::
 %[179,401,"scaled",64,2,21,2|
 %[184,407,"mixed",66,4,22,2|
 %[189,413,"paired",68,2,23,2|
 %[194,419,"added_up",70,3,24,2|
 %[199,427,"is_row",73,2,26,3|
 %[204,433,"is_room",75,2,27,3|
 %[209,439,"single",77,4,28,3,"place","many","number","bound"|
 %[216,449,"raw_sum",79,2,29,3,"numbers","point","top","bottom","number","part"|
 %[223,461,"along",86,2,30,3,"row","point","total"|
 %[230,470,"divided_sum",89,4,31,3,"numbers","point","add","divisor","total"|
 %[237,481,"holds",92,2,32,3,"row","point","total"|
 %[244,490,"lies_in",95,2,33,3|
 %[249,496,"other_side",97,1,34,3|
 (nat_lit 261,hU #[])::(nat_lit 263,hR 525 ["self","rows","nexts","steer","push","add","divisor"])::(nat_lit 264,hU #[])::(nat_lit 266,hJ "__init__" 522 "Mode.__init__" 105 7 261 7)::(nat_lit 267,hF "__init__" "Mode.__init__" (hI 39 0) .none .none "steadyhand.things" 502 266)::(nat_lit 268,hR 535 ["add","divisor","nexts","push","rows","steer"])::(nat_lit 269,hZ P "steadyhand.things" 502 517 103 541 268 2 4 [("__init__",534,267)])::(nat_lit 270,hY "Mode" 270 269 510 518)::(nat_lit 271,hG 542 270)::(nat_lit 272,hH 544 270)::(nat_lit 282,hU #[])::(nat_lit 284,hR 564 ["self","many","pushes","modes"])::(nat_lit 285,hU #[])::(nat_lit 287,hJ "__init__" 561 "Thing.__init__" 114 4 282 4)::(nat_lit 288,hF "__init__" "Thing.__init__" (hI 40 0) .none .none "steadyhand.things" 502 287)::(nat_lit 289,hU #[])::(nat_lit 291,hR 574 ["self"])::(nat_lit 292,hU #[])::(nat_lit 294,hJ "pushes" 571 "Thing.pushes" 123 1 289 1)::(nat_lit 295,hF "pushes" "Thing.pushes" (hI 40 1) .none .none "steadyhand.things" 502 294)::(nat_lit 296,hU #[])::(nat_lit 298,hR 581 ["self"])::(nat_lit 299,hU #[])::(nat_lit 301,hJ "modes" 578 "Thing.modes" 126 1 296 1)::(nat_lit 302,hF "modes" "Thing.modes" (hI 40 2) .none .none "steadyhand.things" 502 301)::(nat_lit 303,hU #[])::(nat_lit 306,hL "is_closed" 585 "Thing.is_closed" 129 1 303)::(nat_lit 307,hF "is_closed" "Thing.is_closed" (hI 40 3) .none .none "steadyhand.things" 502 306)::(nat_lit 308,hU #[])::(nat_lit 310,hR 594 ["self"])::(nat_lit 311,hU #[])::(nat_lit 313,hJ "is_plain" 591 "Thing.is_plain" 132 1 308 1)::(nat_lit 314,hF "is_plain" "Thing.is_plain" (hI 40 4) .none .none "steadyhand.things" 502 313)::(nat_lit 315,hR 598 ["kept_modes","kept_pushes","many"])::(nat_lit 316,hZ P "steadyhand.things" 502 556 112 601 315 2 4 [("__init__",570,288),("pushes",577,295),("modes",584,302),("is_closed",590,307),("is_plain",597,314)])::(nat_lit 317,hY "Thing" 317 316 549 557)::(nat_lit 318,hG 602 317)::(nat_lit 319,hH 604 317)::
 %[322,609,"is_sound",134,3,41,4|
 %[327,615,"is_push",142,1,42,4,"value"|
 %[334,622,"is_mode",146,3,43,4,"value","many","wide"|
 %[341,631,"is_unsteered",154,1,44,4|
 %[346,637,"ask_closed",156,1,45,4,"thing"|
 %[353,646,"turned_point",160,2,47,5|
 %[358,652,"turned_row",162,2,48,5,"back","row"|
 %[365,660,"turned",164,3,49,5|
 %[370,666,"is_turn",169,3,50,5|
 %[375,672,"product",173,3,51,5|
 %[380,678,"turned_mode",175,4,52,5|
 (nat_lit 392,hU #[])::(nat_lit 393,hZ P "steadyhand.claims" 684 693 179 698 392 2 4 [])::(nat_lit 394,{cls:=.type "type",data:=.cls {name:="Claim",bases:=[.type "object"],mro:=[.ref 394,.type "object"],ns:=393,qualname:="Claim",subclasses:=[.ref 416,.ref 435]},slots:=#[none,none,some (hS "Claim" 686),some (hS "Claim" 694),some (.builtin "object.__new__"),some (.bool true)]})::(nat_lit 395,hG 699 394)::(nat_lit 396,hH 701 394)::(nat_lit 399,hU #[.ref 394])::(nat_lit 406,hU #[.int 0 718])::(nat_lit 407,hU #[])::(nat_lit 409,hR 722 ["self","start","rows","turn"])::(nat_lit 410,hU #[])::(nat_lit 412,hD "__init__" 719 "Settles.__init__" 720 721 183 4 3 407 408 .none (.ref 409) (.ref 410) (.ref 411) 726 183 727)::(nat_lit 413,hF "__init__" "Settles.__init__" (hI 55 0) (.ref 406) .none "steadyhand.claims" 684 412)::(nat_lit 414,hR 729 ["rows","start","turn"])::(nat_lit 415,hZ P "steadyhand.claims" 684 713 181 732 414 0 2 [("__init__",728,413)])::(nat_lit 416,{cls:=.type "type",data:=.cls {name:="Settles",bases:=[.ref 394],mro:=[.ref 416,.ref 394,.type "object"],ns:=415,qualname:="Settles"},slots:=#[some (.ref 399),none,some (hS "Settles" 706),some (hS "Settles" 714),some (.builtin "object.__new__"),some (.bool true)]})::(nat_lit 419,hU #[.ref 394])::(nat_lit 426,hU #[])::(nat_lit 428,hR 751 ["self","start","goal","turns"])::(nat_lit 429,hU #[])::(nat_lit 431,hJ "__init__" 748 "Comes.__init__" 189 4 426 4)::(nat_lit 432,hF "__init__" "Comes.__init__" (hI 56 0) .none .none "steadyhand.claims" 684 431)::(nat_lit 433,hR 758 ["goal","start","turns"])::(nat_lit 434,hZ P "steadyhand.claims" 684 743 187 761 433 0 2 [("__init__",757,432)])::(nat_lit 435,{cls:=.type "type",data:=.cls {name:="Comes",bases:=[.ref 394],mro:=[.ref 435,.ref 394,.type "object"],ns:=434,qualname:="Comes"},slots:=#[some (.ref 419),none,some (hS "Comes" 736),some (hS "Comes" 744),some (.builtin "object.__new__"),some (.bool true)]})::
 %[438,767,"solved",194,1,58,6|
 %[443,773,"first_with",206,2,59,6,"rows","place","number"|
 %[450,782,"put_ahead",211,3,60,6,"rows","place","found","told"|
 %[457,792,"cleared",216,4,61,6|
 %[462,800,"most",219,2,63,7|
 %[467,806,"climbed",233,4,64,7|
 %[472,812,"axes",245,1,65,7|
 %[477,818,"first_corner",247,2,66,7|
 %[482,824,"corner_point",257,2,67,7|
 %[487,830,"weights_of",259,3,68,7|
 %[492,836,"way_off",261,4,69,7|
 %[497,842,"least_place",264,2,70,7|
 %[502,848,"exchanged",267,3,71,7,"corner","place","number"|
 %[509,857,"first_broken",269,2,72,7,"room","point","number","row"|
 %[516,867,"first_met",274,3,73,7,"room","point","way","met","least","number","row","speed","spare"|
 %[523,882,"over_one_bottom",285,1,74,7|
 %[528,888,"spread",290,3,75,7|
 %[533,894,"shares_for",297,2,76,7,"room","target","told"|
 %[540,905,"standing",305,2,78,8|
 %[545,911,"reach",314,3,79,8,"thing","mode","row","numbers","ahead"|
 %[552,924,"added",319,3,81,9,"rows","numbers","many"|
 %[559,933,"is_from_0_on",321,1,82,9,"value"|
 %[566,940,"are_shares",323,2,83,9|
 %[571,946,"shows",329,3,84,9|
 (nat_lit 583,hU #[])::(nat_lit 584,hZ P "steadyhand.papers" 952 961 338 966 583 2 4 [])::(nat_lit 585,{cls:=.type "type",data:=.cls {name:="Paper",bases:=[.type "object"],mro:=[.ref 585,.type "object"],ns:=584,qualname:="Paper",subclasses:=[.ref 606,.ref 625]},slots:=#[none,none,some (hS "Paper" 954),some (hS "Paper" 962),some (.builtin "object.__new__"),some (.bool true)]})::(nat_lit 586,hG 967 585)::(nat_lit 587,hH 969 585)::(nat_lit 590,hU #[.ref 585])::(nat_lit 597,hU #[])::(nat_lit 599,hR 989 ["self","rooms","back","starts","steps","stays"])::(nat_lit 600,hU #[])::(nat_lit 602,hJ "__init__" 986 "Rooms.__init__" 342 6 597 6)::(nat_lit 603,hF "__init__" "Rooms.__init__" (hI 87 0) .none .none "steadyhand.papers" 952 602)::(nat_lit 604,hR 998 ["back","rooms","starts","stays","steps"])::(nat_lit 605,hZ P "steadyhand.papers" 952 981 340 1003 604 0 2 [("__init__",997,603)])::(nat_lit 606,{cls:=.type "type",data:=.cls {name:="Rooms",bases:=[.ref 585],mro:=[.ref 606,.ref 585,.type "object"],ns:=605,qualname:="Rooms"},slots:=#[some (.ref 590),none,some (hS "Rooms" 974),some (hS "Rooms" 982),some (.builtin "object.__new__"),some (.bool true)]})::(nat_lit 609,hU #[.ref 585])::(nat_lit 616,hU #[])::(nat_lit 618,hR 1022 ["self","room","starts","steps","measure","step","top","falls","floors","tops"])::(nat_lit 619,hU #[])::(nat_lit 621,hJ "__init__" 1019 "Falls.__init__" 350 10 616 10)::(nat_lit 622,hF "__init__" "Falls.__init__" (hI 88 0) .none .none "steadyhand.papers" 952 621)::(nat_lit 623,hR 1035 ["falls","floors","measure","room","starts","step","steps","top","tops"])::(nat_lit 624,hZ P "steadyhand.papers" 952 1014 348 1044 623 0 2 [("__init__",1034,622)])::(nat_lit 625,{cls:=.type "type",data:=.cls {name:="Falls",bases:=[.ref 585],mro:=[.ref 625,.ref 585,.type "object"],ns:=624,qualname:="Falls"},slots:=#[some (.ref 609),none,some (hS "Falls" 1007),some (hS "Falls" 1015),some (.builtin "object.__new__"),some (.bool true)]})::
 %[628,1048,"lets_by",360,3,89,10,"thing","claim","paper"|
 %[635,1057,"is_list_of",367,2,90,10,"value","count"|
 %[642,1065,"each_shown",369,3,91,10|
 %[647,1071,"settles_over",373,2,92,10,"claim","many"|
 %[654,1079,"comes_over",375,2,93,10,"claim","many"|
 %[661,1087,"lets_rooms_by",377,3,94,10,"thing","claim","paper"|
 %[668,1096,"are_rooms",385,2,95,10|
 %[673,1102,"rooms_follow",387,2,96,10|
 %[678,1108,"leads",392,4,97,10|
 %[683,1114,"mode_leads",397,5,98,10|
 %[688,1120,"rooms_stay",399,2,99,10|
 %[693,1126,"lets_fall_by",404,3,100,10,"thing","claim","paper"|
 %[700,1135,"height_at_most",418,2,101,10,"measure","top"|
 %[707,1143,"height_from_0_on",420,1,102,10|
 %[712,1149,"fall_row",422,4,103,10,"thing","mode","measure","step","ahead","less"|
 %[719,1161,"floors_hold",426,2,104,10|
 %[724,1167,"falls_hold",431,3,105,10|
 %[729,1173,"mode_falls",436,5,106,10|
 %[734,1181,"point_behind",443,4,108,11|
 %[739,1187,"number_behind",445,5,109,11,"mode","place","point","steering","pushes","numbers","values"|
 %[746,1200,"walked",452,3,110,11,"thing","point","run","modes","bounds","points","number","step"|
 %[753,1214,"can_be_made",461,4,111,11|
 %[758,1220,"lies_between",467,2,112,11,"push","bound"|
 %[765,1230,"_law_cell_at",470,2,114,12,"_law_script","_law_k"|
 %[772,1238,"_law_stream",474,2,115,12,"_law_cell","_law_many","_law_found","_law_rest","_law_k","_law_number"|
 %[779,1250,"_law_draws",487,3,116,12,"_law_cell","_law_k","_law_many"|
 %[786,1259,"_law_thing",491,2,117,12|
 %[791,1265,"_law_tables",502,2,118,12|
 %[796,1271,"_law_box",518,3,119,12|
 %[801,1277,"_law_pushed",524,3,120,12|
 %[806,1283,"_law_shares",537,2,121,12,"_law_rows","_law_target","_law_found"|
 %[813,1292,"_law_steps",542,3,122,12|
 %[818,1298,"_law_spoilt",552,2,123,12|
 %[823,1304,"_law_run",561,3,124,12|
 %[828,1310,"law",575,1,125,12|[]]]]]]]]]]]]]]]]]]]]]]]]]]]]]]]]]]]]]]]]]]]]]]]]]]]]]]]]]]]]]]]]]]]]]]]]]]]]]]]]]]]]]]]]]]]]
noncomputable def ks:List Addr:=(KK {strHash:=λ_=>0,shareClass:=id,mergeTok:=id,idOf:=λ_=>0,idOfShared:=λ_ _=>0,followText:=λ_=>true,idOfImm:=λ_=>0}).map (·.1)
theorem ke:∀P,ks=(KK P).map (·.1):=λ_=>by kernel_rfl
noncomputable def vw:Program:={PySem.Challenge.pw_steadyhand_k98_whole_papers_turned with main:={PySem.Challenge.pw_steadyhand_k98_whole_papers_turned.main with body:=[hT 0,hT 2,hT 3,hT 4,hT 5,hT 6,hT 7,hT 8,hT 10,hT 11,hT 13,hT 14,hT 15,hT 17,hT 18,hT 21,hT 22,hT 23,hT 24,hT 26,hT 27,hT 28,hT 29,hT 30,hT 31,hT 32,hT 33,hT 34,hT 36,hT 37,hT 38,hT 39,hT 40,hT 41,hT 42,hT 43,hT 44,hT 45,hT 47,hT 48,hT 49,hT 50,hT 51,hT 52,hT 54,hT 55,hT 56,hT 58,hT 59,hT 60,hT 61,hT 63,hT 64,hT 65,hT 66,hT 67,hT 68,hT 69,hT 70,hT 71,hT 72,hT 73,hT 74,hT 75,hT 76,hT 78,hT 79,hT 81,hT 82,hT 83,hT 84,hT 86,hT 87,hT 88,hT 89,hT 90,hT 91,hT 92,hT 93,hT 94,hT 95,hT 96,hT 97,hT 98,hT 99,hT 100,hT 101,hT 102,hT 103,hT 104,hT 105,hT 106,hT 108,hT 109,hT 110,hT 111,hT 112,hT 114,hT 115,hT 116,hT 117,hT 118,hT 119,hT 120,hT 121,hT 122,hT 123,hT 124,hT 125]}}
noncomputable def lo:List Str:=[bZ "fraction",bZ "copied",bZ "unit",bZ "Settles"]
noncomputable abbrev rr:RowW:=(OpenLaw.row PySem.Challenge.rw_steadyhand_k98_whole_papers_turned).toRowW
noncomputable abbrev xt:Shared->Bool:=λs=>xlAt vw [] s&&recOk rr.records s
noncomputable def GG:Params->Frag:=λP=>
 hMr [(19,0),(118,10),(125,11),(133,12),(140,13),(147,14),(154,15),(159,17),(164,18),(170,19),(176,20),(181,21),(186,22),(191,23),(196,24),(201,26),(206,27),(213,28),(220,29),(227,30),(234,31),(241,32),(246,33),(251,34),(324,41),(331,42),(338,43),(343,44),(350,45),(355,47),(362,48),(367,49),(372,50),(377,51),(382,52),(440,58),(447,59),(454,60),(459,61),(464,63),(469,64),(474,65),(479,66),(484,67),(489,68),(494,69),(499,70),(506,71),(513,72),(520,73),(525,74),(530,75),(537,76),(542,78),(549,79),(556,81),(563,82),(568,83),(573,84),(632,89),(639,90),(644,91),(651,92),(658,93),(665,94),(670,95),(675,96),(680,97),(685,98),(690,99),(697,100),(704,101),(709,102),(716,103),(721,104),(726,105),(731,106),(736,108),(743,109),(750,110),(755,111),(762,112),(769,114),(776,115),(783,116),(788,117),(793,118),(798,119),(803,120),(810,121),(815,122),(820,123),(825,124),(830,125)]<|
 (nat_lit 0,boot_o_0 P)::(nat_lit 1,boot_o_1 P)::(nat_lit 4,boot_o_4 P)::(nat_lit 5,boot_o_5 P)::(nat_lit 6,boot_o_6 P)::(nat_lit 7,boot_o_7 P)::(nat_lit 8,boot_o_8 P)::(nat_lit 9,boot_o_9 P)::(nat_lit 10,boot_o_10 P)::(nat_lit 11,hU #[])::(nat_lit 12,{cls:=.none,data:=.fields ⟨h3 [(1,20),(5,27),(7,40),(9,52),(11,64),(13,76),(18,95),(20,107),(23,119),(25,126),(34,134),(43,141),(45,148),(47,155),(50,160),(52,165),(54,171),(62,177),(64,182),(66,187),(68,192),(70,197),(73,202),(75,207),(77,214),(79,221),(86,228),(89,235),(92,242),(95,247),(97,252),(103,259),(112,280),(134,325),(142,332),(146,339),(154,344),(156,351),(160,356),(162,363),(164,368),(169,373),(173,378),(175,383),(179,390),(181,404),(187,424),(194,441),(206,448),(211,455),(216,460),(219,465),(233,470),(245,475),(247,480),(257,485),(259,490),(261,495),(264,500),(267,507),(269,514),(274,521),(285,526),(290,531),(297,538),(305,543),(314,550),(319,557),(321,564),(323,569),(329,574),(338,581),(340,595),(348,614),(360,633),(367,640),(369,645),(373,652),(375,659),(377,666),(385,671),(387,676),(392,681),(397,686),(399,691),(404,698),(418,705),(420,710),(422,717),(426,722),(431,727),(436,732),(443,737),(445,744),(452,751),(461,756),(467,763),(470,770),(474,777),(487,784),(491,789),(502,794),(518,799),(524,804),(537,811),(542,816),(552,821),(561,826),(575,831)]⟩})::(nat_lit 13,h8 "<module>" 182 1 11)::(nat_lit 14,h7 13 3 "__main__" 164)::(nat_lit 23,h4)::(nat_lit 24,hW P "steadyhand.errors" 194 203 "SteadyError" 5 [] 208 29)::(nat_lit 25,hU #[])::(nat_lit 27,h8 "SteadyError" 198 5 25)::(nat_lit 28,h7 27 24 "steadyhand.errors" 194)::(nat_lit 33,h6 31)::(nat_lit 34,h5 31)::(nat_lit 36,h4)::(nat_lit 37,hW P "steadyhand.errors" 194 221 "NoNumber" 7 [] 226 42)::(nat_lit 38,hU #[])::(nat_lit 40,h8 "NoNumber" 216 7 38)::(nat_lit 41,h7 40 37 "steadyhand.errors" 194)::(nat_lit 45,h6 44)::(nat_lit 46,h5 44)::(nat_lit 48,h4)::(nat_lit 49,hW P "steadyhand.errors" 194 237 "BadThing" 9 [] 242 54)::(nat_lit 50,hU #[])::(nat_lit 52,h8 "BadThing" 232 9 50)::(nat_lit 53,h7 52 49 "steadyhand.errors" 194)::(nat_lit 57,h6 56)::(nat_lit 58,h5 56)::(nat_lit 60,h4)::(nat_lit 61,hW P "steadyhand.errors" 194 253 "TooMany" 11 [] 258 66)::(nat_lit 62,hU #[])::(nat_lit 64,h8 "TooMany" 248 11 62)::(nat_lit 65,h7 64 61 "steadyhand.errors" 194)::(nat_lit 69,h6 68)::(nat_lit 70,h5 68)::(nat_lit 72,h4)::(nat_lit 73,hW P "steadyhand.errors" 194 269 "NoRun" 13 [("__init__",281,84)] 283 85)::(nat_lit 74,hU #[])::(nat_lit 75,hV [(15,83)])::(nat_lit 76,h8 "NoRun" 264 13 74)::(nat_lit 77,h7 76 73 "steadyhand.errors" 194)::(nat_lit 82,hM "__init__" "NoRun.__init__" (hI 6 0))::(nat_lit 88,h6 87)::(nat_lit 89,h5 87)::(nat_lit 91,h4)::(nat_lit 92,hW P "steadyhand.errors" 194 294 "NotClosed" 18 [] 299 97)::(nat_lit 93,hU #[])::(nat_lit 95,h8 "NotClosed" 289 18 93)::(nat_lit 96,h7 95 92 "steadyhand.errors" 194)::(nat_lit 100,h6 99)::(nat_lit 101,h5 99)::(nat_lit 103,h4)::(nat_lit 104,hW P "steadyhand.errors" 194 310 "BadTurn" 20 [] 315 109)::(nat_lit 105,hU #[])::(nat_lit 107,h8 "BadTurn" 305 20 105)::(nat_lit 108,h7 107 104 "steadyhand.errors" 194)::(nat_lit 112,h6 111)::(nat_lit 113,h5 111)::(nat_lit 254,hU #[])::(nat_lit 255,h4)::(nat_lit 256,hW P "steadyhand.things" 502 517 "Mode" 103 [("__init__",534,267)] 541 268)::(nat_lit 257,hU #[])::(nat_lit 258,hV [(105,266)])::(nat_lit 259,h8 "Mode" 512 103 257)::(nat_lit 260,h7 259 256 "steadyhand.things" 502)::(nat_lit 265,hM "__init__" "Mode.__init__" (hI 39 0))::(nat_lit 273,h6 270)::(nat_lit 274,h5 270)::(nat_lit 275,hU #[])::(nat_lit 276,h4)::(nat_lit 277,hW P "steadyhand.things" 502 556 "Thing" 112 [("__init__",570,288),("pushes",577,295),("modes",584,302),("is_closed",590,307),("is_plain",597,314)] 601 315)::(nat_lit 278,hU #[])::(nat_lit 279,hV [(114,287),(123,294),(126,301),(129,306),(132,313)])::(nat_lit 280,h8 "Thing" 551 112 278)::(nat_lit 281,h7 280 277 "steadyhand.things" 502)::(nat_lit 286,hM "__init__" "Thing.__init__" (hI 40 0))::(nat_lit 293,hM "pushes" "Thing.pushes" (hI 40 1))::(nat_lit 300,hM "modes" "Thing.modes" (hI 40 2))::(nat_lit 305,hM "is_closed" "Thing.is_closed" (hI 40 3))::(nat_lit 312,hM "is_plain" "Thing.is_plain" (hI 40 4))::(nat_lit 320,h6 317)::(nat_lit 321,h5 317)::(nat_lit 385,hU #[])::(nat_lit 386,h4)::(nat_lit 387,hW P "steadyhand.claims" 684 693 "Claim" 179 [] 698 392)::(nat_lit 388,hU #[])::(nat_lit 390,h8 "Claim" 688 179 388)::(nat_lit 391,h7 390 387 "steadyhand.claims" 684)::(nat_lit 397,h6 394)::(nat_lit 398,h5 394)::(nat_lit 400,h4)::(nat_lit 401,hW P "steadyhand.claims" 684 713 "Settles" 181 [("__init__",728,413)] 732 414)::(nat_lit 402,hU #[])::(nat_lit 403,hV [(183,412)])::(nat_lit 404,h8 "Settles" 708 181 402)::(nat_lit 405,h7 404 401 "steadyhand.claims" 684)::(nat_lit 411,hM "__init__" "Settles.__init__" (hI 55 0))::(nat_lit 417,h6 416)::(nat_lit 418,h5 416)::(nat_lit 420,h4)::(nat_lit 421,hW P "steadyhand.claims" 684 743 "Comes" 187 [("__init__",757,432)] 761 433)::(nat_lit 422,hU #[])::(nat_lit 423,hV [(189,431)])::(nat_lit 424,h8 "Comes" 738 187 422)::(nat_lit 425,h7 424 421 "steadyhand.claims" 684)::(nat_lit 430,hM "__init__" "Comes.__init__" (hI 56 0))::(nat_lit 436,h6 435)::(nat_lit 437,h5 435)::(nat_lit 576,hU #[])::(nat_lit 577,h4)::(nat_lit 578,hW P "steadyhand.papers" 952 961 "Paper" 338 [] 966 583)::(nat_lit 579,hU #[])::(nat_lit 581,h8 "Paper" 956 338 579)::(nat_lit 582,h7 581 578 "steadyhand.papers" 952)::(nat_lit 588,h6 585)::(nat_lit 589,h5 585)::(nat_lit 591,h4)::(nat_lit 592,hW P "steadyhand.papers" 952 981 "Rooms" 340 [("__init__",997,603)] 1003 604)::(nat_lit 593,hU #[])::(nat_lit 594,hV [(342,602)])::(nat_lit 595,h8 "Rooms" 976 340 593)::(nat_lit 596,h7 595 592 "steadyhand.papers" 952)::(nat_lit 601,hM "__init__" "Rooms.__init__" (hI 87 0))::(nat_lit 607,h6 606)::(nat_lit 608,h5 606)::(nat_lit 610,h4)::(nat_lit 611,hW P "steadyhand.papers" 952 1014 "Falls" 348 [("__init__",1034,622)] 1044 623)::(nat_lit 612,hU #[])::(nat_lit 613,hV [(350,621)])::(nat_lit 614,h8 "Falls" 1009 348 612)::(nat_lit 615,h7 614 611 "steadyhand.papers" 952)::(nat_lit 620,hM "__init__" "Falls.__init__" (hI 88 0))::(nat_lit 626,h6 625)::(nat_lit 627,h5 625)::[]
noncomputable abbrev st(n g l t:Nat)(x:Value)(w:World)(os:OsState):SharedT:=TT.stt (KK w.params) (GG w.params) n g l t x w os
noncomputable def pq:{q:Program//PySem.Challenge.pw_steadyhand_k98_whole_papers_turned=q}:=by
 refine⟨?q,?h⟩
 case h=>
  conv=>
   lhs
   reduce
noncomputable def vq:{q:Program//vw=q}:=by
 refine⟨?q,?h⟩
 case h=>
  conv=>
   lhs
   reduce
theorem r0(w)(os):TT.pcT PySem.Challenge.pw_steadyhand_k98_whole_papers_turned w 1699 0 15 (st 15 8 0 187 (hS "__main__" 164) w os) ⟨0,0,0,0⟩=some (.next,(st 150 21 39 365 (hS "steadyhand.fractions" 319) w os),TT.codT PySem.Challenge.pw_steadyhand_k98_whole_papers_turned,⟨45,0,46,57⟩):=by rw[PySem.W.Fast.te14013111303469329003,pq.2];kernel_rfl
theorem r1(w)(os):TT.pcT PySem.Challenge.pw_steadyhand_k98_whole_papers_turned w 2150 15 42 (st 150 21 39 365 (hS "steadyhand.fractions" 319) w os) ⟨45,0,46,57⟩=some (.next,(st 438 58 141 765 (hS "steadyhand.claims" 684) w os),TT.codT PySem.Challenge.pw_steadyhand_k98_whole_papers_turned,⟨187,0,192,26⟩):=by rw[PySem.W.Fast.te14013111303469329003,pq.2];kernel_rfl
theorem r2(w)(os):TT.pcT PySem.Challenge.pw_steadyhand_k98_whole_papers_turned w 1683 57 41 (st 438 58 141 765 (hS "steadyhand.claims" 684) w os) ⟨187,0,192,26⟩=some (.next,(st 683 94 249 1114 (hS "steadyhand.papers" 952) w os),TT.codT PySem.Challenge.pw_steadyhand_k98_whole_papers_turned,⟨392,0,396,101⟩):=by rw[PySem.W.Fast.te14013111303469329003,pq.2];kernel_rfl
theorem r3(w)(os):TT.pcT PySem.Challenge.pw_steadyhand_k98_whole_papers_turned w 757 98 28 (st 683 94 249 1114 (hS "steadyhand.papers" 952) w os) ⟨392,0,396,101⟩=some (.next,(st 833 120 327 1316 (hS "law_steadyhand_k98_whole_papers_turned" 1228) w os),TT.codT PySem.Challenge.pw_steadyhand_k98_whole_papers_turned,⟨575,0,605,97⟩):=by rw[PySem.W.Fast.te14013111303469329003,pq.2];kernel_rfl
theorem ra(w)(os):TT.lkA PySem.Challenge.pw_steadyhand_k98_whole_papers_turned (boot_heap w.params) ((st 833 120 327 1316 (hS "law_steadyhand_k98_whole_papers_turned" 1228) w os)).abs.heap=true:=by rw[PySem.W.Fast.te12697390853855473202,pq.2];kernel_rfl
noncomputable abbrev lB(w:World)(os:OsState):=TT.lkB PySem.Challenge.pw_steadyhand_k98_whole_papers_turned vw lo rr.records ((st 833 120 327 1316 (hS "law_steadyhand_k98_whole_papers_turned" 1228) w os)).abs
theorem rb1(w)(os):(lB w os).2=(TT.rhB vw lo).2:=by unfold lB;rw[PySem.W.Fast.te17857501441861387821,PySem.W.Fast.te1764923437711916726,pq.2,vq.2];kernel_rfl
theorem rb0(w)(os):(lB w os).1=(TT.rhB vw lo).1:=by unfold lB;rw[PySem.W.Fast.te17857501441861387821,PySem.W.Fast.te1764923437711916726,pq.2,vq.2];kernel_rfl
theorem rb(w)(os):lB w os=TT.rhB vw lo:=Prod.ext (rb0 w os) (rb1 w os)
theorem rc(w)(os):ks.map ((st 833 120 327 1316 (hS "law_steadyhand_k98_whole_papers_turned" 1228) w os)).abs.heap.get?=(KK w.params).map λp=>some p.2:=by kernel_rfl
theorem left:LeftO rr.prog vw lo xt (kHook KK ks ke).obs (kHook KK ks ke).val 12696:=TT.left_by (boot_open (by kernel_rfl) (by decide) (λ_=>by kernel_rfl)) (λ_=>by kernel_rfl) (λw os=>by kernel_rfl) (λw os=>by kernel_rfl) (λw os=>TT.step_p (r0 w os) (TT.step_p (r1 w os) (TT.step_p (r2 w os) (TT.step_p (r3 w os) (TT.fin_p (by kernel_rfl)))))) (by decide) ra rb rc
@[reducible]def ca:Nat->PySem.Addr
 |0=>270
 |1=>317
 |2=>394
 |3=>416
 |4=>435
 |5=>585
 |6=>606
 |7=>625
 |_=>0
open PySem PySem.W
noncomputable def _root_.TT.lw(p:Program)(a:List Str):Bool:=OpenLaw.wellSaid {prog:=p,name:=(bZ "law"),about:=a,foot:=12,most:=some 63,bound:=none,writes:=false}
lay_quick TT.lw
theorem ld:OpenLaw.wellSaid PySem.Challenge.rw_steadyhand_k98_whole_papers_turned=true:=by show TT.lw PySem.Challenge.pw_steadyhand_k98_whole_papers_turned [(PySem.Str.ofString "turned")]=true;rw[PySem.W.Fast.te13628200594452537904,pq.2];kernel_rfl
end H98
namespace L2
open PySem PySem.Spec PyProof.Rows
abbrev wY:=Sum Int Str
noncomputable def zSC:wY->Value->Bool
 | .inl k,v=>Value.isInt k v
 | .inr x,v=>Value.isStrOf x v
noncomputable def QO(w:World):wY->Int
 | .inl k=>hashInt k
 | .inr x=>hashStr w x
theorem j3:∀{k:wY}{v:Value},zSC k v=true->(∃i t,k=Sum.inl i/\v=Value.int i t)\/(∃x t,k=Sum.inr x/\v=Value.str x t)
 | .inl i,v,h=>by
  obtain⟨t,e⟩:=Value.isInt_shape (k:=i) (v:=v) h;exact .inl ⟨i,t,rfl,e⟩
 | .inr x,v,h=>by
  obtain⟨t,e⟩:=Value.isStrOf_shape (x:=x) (v:=v) h;exact .inr ⟨x,t,rfl,e⟩
theorem zSB(a b):decide ((Sum.inl a:wY)=Sum.inl b)=(a==b):=by
 by_cases e:a=b
 ·subst e;simp
 ·have h:¬(Sum.inl a:wY)=Sum.inl b:=λq=>e (Sum.inl.inj q);rw[decide_eq_false h];exact(beq_eq_false_iff_ne.mpr e).symm
theorem zR8(a b):decide ((Sum.inr a:wY)=Sum.inr b)=decide (a=b):=by
 by_cases e:a=b
 ·subst e;simp
 ·have h:¬(Sum.inr a:wY)=Sum.inr b:=λq=>e (Sum.inr.inj q);rw[decide_eq_false h,decide_eq_false e]
theorem zSA(a)(b):decide ((Sum.inl a:wY)=Sum.inr b)=false:=decide_eq_false (λq=>nomatch q)
theorem zR9(a)(b):decide ((Sum.inr a:wY)=Sum.inl b)=false:=decide_eq_false (λq=>nomatch q)
noncomputable def zKl(prog:Program)(w:World):PySem.KeyKind prog w wY where
 is:=zSC
 hash:=QO w
 inj:=λv a b ha hb=>by
  rcases j3 ha with⟨i,t,rfl,rfl⟩|⟨x,t,rfl,rfl⟩
  ·rcases j3 hb with⟨j,u,rfl,e⟩|⟨y,u,rfl,e⟩
   ·injection e with e1 _;rw[e1]
   ·exact nomatch e
  ·rcases j3 hb with⟨j,u,rfl,e⟩|⟨y,u,rfl,e⟩
   ·exact nomatch e
   ·injection e with e1 _;rw[e1]
 byValue:=λk v h=>by rcases j3 h with⟨i,t,rfl,rfl⟩|⟨x,t,rfl,rfl⟩ <;> rfl
 pyHash:=λhv h=>by
  rcases j3 hv with⟨i,t,rfl,rfl⟩|⟨x,t,rfl,rfl⟩
  ·exact wpAny_pyHash_int h
  ·exact wpAny_pyHash_str h
 eqBool:=λhu hv h=>by
  rcases j3 hu with⟨i,t,rfl,rfl⟩|⟨x,t,rfl,rfl⟩
  ·rcases j3 hv with⟨j,u,rfl,rfl⟩|⟨y,u,rfl,rfl⟩
   ·rw[zSB]at h;exact wpAny_eqBool_int h
   ·rw[zSA]at h;exact SeqAt.EqAt.int_str i t y u _ _ _ _ h
  ·rcases j3 hv with⟨j,u,rfl,rfl⟩|⟨y,u,rfl,rfl⟩
   ·rw[zR9]at h;exact SeqAt.EqAt.str_int x t j u _ _ _ _ h
   ·rw[zR8]at h;exact wpAny_eqBool_str h
 «strs»:=λk x t v h=>by
  rcases j3 h with⟨i,u,rfl,e⟩|⟨y,u,rfl,e⟩
  ·exact nomatch e
  ·injection e with e1 _;subst e1;cases v <;> rfl
inductive V where
 |non|bl (b:Bool)|int (i:Int)|str (x:Str)|byt (b:Array UInt8)|flt (b:UInt64)|ref (a:Addr)|ty (n:String)
 deriving DecidableEq
def zM:V->Value->Prop
 | .non,u=>u=Value.none
 | .bl b,u=>u=Value.bool b
 | .int i,u=>∃t,u=Value.int i t
 | .str x,u=>∃t,u=Value.str x t
 | .byt b,u=>∃t,u=Value.bytes b t
 | .flt b,u=>∃t,u=Value.float b t
 | .ref a,u=>u=Value.ref a
 | .ty n,u=>u=Value.type n
abbrev zC:List V->List Value->Prop:=Paired zM
theorem zC.length(r:zC xs us):xs.length=us.length:=Paired.length r
theorem zC.get:∀{xs:List V}{us:List Value}{i:Nat}{x:V},zC xs us->xs[i]? =some x->∃u,us[i]? =some u/\zM x u
 |_,_,_,_,.nil,e=>by simp at e
 |_,_,0,_,.cons r _,e=>by simp at e;subst e;exact⟨_,rfl,r⟩
 |_,_,i+1,x,.cons _ t,e=>by
  obtain⟨u,h1,h2⟩:=zC.get (i:=i) (x:=x) t (by simpa using e);exact⟨u,by simpa using h1,h2⟩
theorem zC.set(r:zM x u):∀{xs:List V}{us:List Value}(i:Nat),zC xs us->zC (xs.set i x) (us.set i u)
 |_,_,_,.nil=>.nil
 |_,_,0,.cons _ t=>.cons r t
 |_,_,i+1,.cons q t=>.cons q (zC.set r i t)
theorem zC.append:∀{xs ys:List V}{us ws:List Value},zC xs us->zC ys ws->zC (xs++ys) (us++ws)
 |_,_,_,_,.nil,s=>s
 |_,_,_,_,.cons r t,s=>.cons r (zC.append t s)
theorem zC.take:∀{xs:List V}{us:List Value}(n:Nat),zC xs us->zC (xs.take n) (us.take n)
 |_,_,0,_=>.nil
 |_,_,_+1,.nil=>.nil
 |_,_,n+1,.cons r t=>.cons r (zC.take n t)
theorem zC.drop:∀{xs:List V}{us:List Value}(n:Nat),zC xs us->zC (xs.drop n) (us.drop n)
 |_,_,0,r=>r
 |_,_,_+1,.nil=>.nil
 |_,_,n+1,.cons _ t=>zC.drop n t
def wL:Option V->Option Value->Prop
 |some v,some u=>zM v u
 |none,none=>True
 |_,_=>False
def KV{κ:Type}:List (κ×V)->List (κ×Value)->Prop:=Paired λ(p:κ×V) (q:κ×Value)=>p.1=q.1/\zM p.2 q.2
noncomputable def kV:wY->V
 | .inl i=>.int i
 | .inr x=>.str x
inductive HO where
 |lst (xs:List V)
 |tup (xs:List V)
 |dK (kvs:List (wY×V))|dT (kvs:List (List wY×V))
 |set (S:Int->Bool) (n:Nat)
 |ins (C dx:Addr) (fs:List (Str×V))
 |own (x:Addr)
 |xd (fs:List (Str×V))
 |met (f x:Addr)
 |rng (lo hi:Int)
 |frz (o:Obj) (u:HO)
 |tbl (ps:Array Value)
 |ext(φ:Heap->Prop)
abbrev Hp:=Addr->Option HO
noncomputable def zV(H:Hp)(a:Addr)(o:HO):Hp:=λb=>if b=a then some o else H b
theorem xS:zV H a o a=some o:=by unfold zV;rw[if_pos rfl]
theorem zu(h:b≠a):zV H a o b=H b:=by unfold zV;rw[if_neg h]
theorem xT{H:Hp}(h:H a=some o)(h':H b=none):a≠b:=by intro e;subst e;rw[h]at h';cases h'
section
variable(P:Program)(w:World)
def wZ(H:Hp)(h:Heap)(a:Addr):HO->Prop
 | .lst xs=>xs.length<=sizeLine/\∃(its:List Value)(n:Nat),zC xs its/\h.get? a=some {cls:=.type "list",data:=.seq its.toArray n}
 | .tup xs=>xs.length<=sizeLine/\∃its:List Value,zC xs its/\IsTup h a its.toArray
 | .dK kvs=>kvs.length<=sizeLine/\(a==sysModules)=false/\∃vs,KV kvs vs/\h.DictOf (zKl P w) a vs
 | .dT kvs=>kvs.length<=sizeLine/\(a==sysModules)=false/\∃xs:List (List wY×Addr×Value),
   Paired (λ(p:List wY×V) (q:List wY×Addr×Value)=>p.1=q.1/\H q.2.1=some (.tup (p.1.map kV))/\zM p.2 q.2.2) kvs xs∧
   ∃o es ep,h.get? a=some o/\o.ExactDict/\o.data=.dict es ep/\es.toList=xs.map (entryOfKey (tupleKind (zKl P w)))/\(xs.map (·.1)).Nodup
 | .set S n=>h.SetOf (intKind P w) a S n
 | .ins C dx fs=>H dx=some (.own a)/\fs.length<=1000/\dx≠a/\h.get? a=some (db C dx)∧
   ∃mA,h.Ns1 dx mA/\(∀f,wL (fs.lookup f) (mA f))/\PySem.Within mA (fs.map (·.1))
 | .own _=>∃o,h.get? a=some o
 | .xd fs=>∃mA,h.Ns1 a mA/\∀f,wL (fs.lookup f) (mA f)
 | .rng lo hi=>∃t u v,h.get? a=some {cls:=.type "range",data:=.fields #[.int lo t,.int hi u,.int 1 v]}
 | .frz o u=>h.get? a=some o/\wZ H h a u
 | .tbl ps=>h.get? a=some {cls:=.none,data:=.fields ps}
 | .met f x=>h.get? a=some (fR (.ref f) (.ref x))
 | .ext φ=>φ h/\(∃o,h.get? a=some o)/\∀h1 h2:Heap,φ h1->(∀o,h1.get? a=some o->h2.get? a=some o)->φ h2
def xZ(H:Hp)(h:Heap):Prop:=∀a o,H a=some o->wZ P w H h a o
end
section
variable{P:Program}{w:World}{H H':Hp}{h h':Heap}{a:Addr}{o:HO}
theorem wZ.lt(x:wZ P w H h a o):a<h.objs.size:=by
 cases o with
 |lst xs=>obtain⟨_,_,_,_,e⟩:=x;exact aX e
 |tup xs=>obtain⟨_,_,_,p⟩:=x;exact p.lt
 |dK kvs=>obtain⟨_,_,_,_,o,_,_,e,_⟩:=x;exact aX e
 |dT kvs=>obtain⟨_,_,_,_,o,_,_,e,_⟩:=x;exact aX e
 |set S n=>obtain⟨o,_,_,_,e,_⟩:=x;exact aX e
 |ins C dx fs=>obtain⟨_,_,_,e,_⟩:=x;exact aX e
 |own y=>obtain⟨_,e⟩:=x;exact aX e
 |xd fs=>obtain⟨_,⟨_,_,_,e,_⟩,_⟩:=x;exact aX e
 |rng lo hi=>obtain⟨_,_,_,e⟩:=x;exact aX e
 |frz ob u=>obtain⟨e,_⟩:=x;exact aX e
 |tbl ps=>exact aX (show h.get? a=some _ from x)
 |met f y=>exact aX (show h.get? a=some _ from x)
 |ext φ=>obtain⟨_,⟨_,e⟩,_⟩:=x;exact aX e
theorem Paired.mapP{α β:Type}{F G:α->β->Prop}:∀{l₁:List α}{l₂:List β},Paired F l₁ l₂->(∀a b,F a b->G a b)->Paired G l₁ l₂
 |_,_,.nil,_=>.nil
 |_,_,.cons r t,f=>.cons (f _ _ r) (Paired.mapP t f)
theorem wZ.stay(x:wZ P w H h a o)(k:∀b u,(b=a\/H b=some (.own a))->h.get? b=some u->h'.get? b=some u)
  (ho:∀b,H b=some (.own a)->H' b=some (.own a)) (ht:∀b xs,H b=some (.tup xs)->H' b=some (.tup xs)):wZ P w H' h' a o:=by
 induction o with
 |lst xs=>obtain⟨z,its,n,r,e⟩:=x;exact⟨z,its,n,r,k _ _ (.inl rfl) e⟩
 |tup xs=>obtain⟨z,its,r,ob,e,c⟩:=x;exact⟨z,its,r,ob,k _ _ (.inl rfl) e,c⟩
 |dK kvs=>obtain⟨z,y,vs,r,ob,es,ep,e,c⟩:=x;exact⟨z,y,vs,r,ob,es,ep,k _ _ (.inl rfl) e,c⟩
 |dT kvs=>
  obtain⟨z,y,xs,r,ob,es,ep,e,c⟩:=x;exact⟨z,y,xs,Paired.mapP r λp q z=>⟨z.1,ht _ _ z.2.1,z.2.2⟩,ob,es,ep,k _ _ (.inl rfl) e,c⟩
 |set S n=>obtain⟨ob,es,ep,t,e,c⟩:=x;exact⟨ob,es,ep,t,k _ _ (.inl rfl) e,c⟩
 |ins C dx fs=>
  obtain⟨d,z,ne,e,mA,⟨od,es,ep,e2,c⟩,r⟩:=x;exact⟨ho _ d,z,ne,k _ _ (.inl rfl) e,mA,⟨od,es,ep,k _ _ (.inr d) e2,c⟩,r⟩
 |own y=>obtain⟨ob,e⟩:=x;exact⟨ob,k _ _ (.inl rfl) e⟩
 |xd fs=>obtain⟨mA,⟨od,es,ep,e,c⟩,r⟩:=x;exact⟨mA,⟨od,es,ep,k _ _ (.inl rfl) e,c⟩,r⟩
 |rng lo hi=>obtain⟨t,u,v,e⟩:=x;exact⟨t,u,v,k _ _ (.inl rfl) e⟩
 |frz ob u ih=>obtain⟨e,q⟩:=x;exact⟨k _ _ (.inl rfl) e,ih q⟩
 |tbl ps=>
  have e:h.get? a=some {cls:=.none,data:=.fields ps}:=x;show h'.get? a=some {cls:=.none,data:=.fields ps};exact k a _ (.inl rfl) e
 |met f y=>
  have e:h.get? a=some (fR (.ref f) (.ref y)):=x;show h'.get? a=some (fR (.ref f) (.ref y));exact k a _ (.inl rfl) e
 |ext φ=>obtain⟨p,⟨o,e⟩,st⟩:=x;exact⟨st _ _ p λo q=>k _ _ (.inl rfl) q,⟨o,k _ _ (.inl rfl) e⟩,st⟩
theorem xZ.lt(x:xZ P w H h)(e:H a=some o):a<h.objs.size:=(x a o e).lt
theorem xZ.fresh(x:xZ P w H h)(e:h.objs.size<=a):H a=none:=by
 cases q:H a with
 |none=>rfl
 |some u=>exact absurd (a9 (x.lt q) e) (bU _)
theorem xZ.kept(x:xZ P w H h)(k:∀b u,h.get? b=some u->h'.get? b=some u):xZ P w H h':=λa o e=>(x a o e).stay (λb u _ q=>k b u q) (λ_ q=>q) λ_ _ q=>q
theorem xZ.laid(x:xZ P w H h)(k:∀b u,h.get? b=some u->h'.get? b=some u)(hp:h.objs.size<=a)(new:wZ P w (zV H a o) h' a o):xZ P w (zV H a o) h':=λb u e=>by
 have hn:=x.fresh hp;by_cases hb:b=a
 ·subst hb;rw[xS]at e;cases e;exact new
 ·rw[zu hb]at e;exact(x b u e).stay (λc v _ q=>k c v q) (λc q=>by rw[zu (xT q hn)];exact q) λc xs q=>by rw[zu (xT q hn)];exact q
end
def Rd(H:Hp)(a:Addr)(u:HO):Prop:=H a=some u\/∃o,H a=some (.frz o u)
theorem Rd.ok(r:Rd H a u)(x:xZ P w H h):wZ P w H h a u:=by
 rcases r with r|⟨o,r⟩
 ·exact x a u r
 ·obtain⟨_,q⟩:=x a _ r;exact q
def Uo:Option HO->Prop
 |some (.lst _)=>True
 |some (.dK _)=>True
 |some (.dT _)=>True
 |some (.set _ _)=>True
 |some (.ins _ _ _)=>True
 |some (.ext _)=>True
 |_=>False
section
variable{P:Program}{w:World}{H:Hp}{h h':Heap}{x e:Addr}{o':HO}
theorem xZ.write(ok:xZ P w H h)(mu:Uo (H x))(he:e=x\/H e=some (.own x))(k:∀b u,b≠e->h.get? b=some u->h'.get? b=some u)(heo:∃u,h'.get? e=some u)
  (new:wZ P w (zV H x o') h' x o'):xZ P w (zV H x o') h':=λb u q=>by
 have nown:∀c y,H c=some (.own y)->c≠x:=λc y r z=>by subst z;rw[r]at mu;exact mu
 have ntup:∀c xs,H c=some (.tup xs)->c≠x:=λc xs r z=>by subst z;rw[r]at mu;exact mu
 by_cases hb:b=x
 ·subst hb;rw[xS]at q;cases q;exact new
 ·rw[zu hb]at q;by_cases hbe:b=e
  ·have q':H b=some (.own x):=by
    rcases he with z|z
    ·exact absurd (hbe.trans z) hb
    ·rw[hbe];exact z
   rw[q]at q';cases q';obtain⟨v,hv⟩:=heo;exact⟨v,by rw[hbe];exact hv⟩
  ·refine(ok b u q).stay (λc v hc r=>k c v ?_ r) (λc r=>by rw[zu (nown c b r)];exact r) λc xs r=>by rw[zu (ntup c xs r)];exact r
   rcases hc with rfl|hc
   ·exact hbe
   ·rintro rfl;rcases he with z|z
    ·exact nown c b hc z
    ·rw[hc]at z;cases z;exact hb rfl
end
structure Un(fs ex:List Addr)(H H':Hp)(h h':Heap):Prop where
 keep:∀b o,h.get? b=some o->H b=none->b∉fs->b∉ex->h'.get? b=some o
 slot:∀b o,h.get? b=some o->H b=none->b∈fs->b∉ex->∃sl,h'.get? b=some {o with slots:=sl}
 free:∀b o,h.get? b=some o->H b=none->b∉ex->H' b=none
 there:∀b o,h.get? b=some o->b∉ex->∃o',h'.get? b=some o'
 tups:∀b xs,H b=some (.tup xs)->H' b=some (.tup xs)
 frzs:∀b o u,H b=some (.frz o u)->H' b=some (.frz o u)
 tbls:∀b ps,H b=some (.tbl ps)->∃more,H' b=some (.tbl (ps++more))
section
variable{fs fs' ex ex':List Addr}{H H1 H2:Hp}{h h1 h2 h':Heap}{a x e:Addr}{o:HO}
theorem Un.any(u:Un fs ex H H1 h h1)(q:h.get? b=some ob)(n:H b=none)(hx:b∉ex):∃sl,h1.get? b=some {ob with slots:=sl}:=by
 by_cases hb:b∈fs
 ·exact u.slot b ob q n hb hx
 ·exact⟨ob.slots,u.keep b ob q n hb hx⟩
theorem Un.kept(k:∀b u,h.get? b=some u->h'.get? b=some u):Un fs ex H H h h':=⟨λb ob q _ _ _=>k b ob q,λb ob q _ _ _=>⟨ob.slots,k b ob q⟩,λ_ _ _ n _=>n,λb ob q _=>⟨ob,k b ob q⟩,λ_ _ q=>q,λ_ _ _ q=>q,λ_ ps q=>⟨#[],by rw[q];simp⟩⟩
theorem Un.refl:Un fs ex H H h h:=Un.kept λ_ _ q=>q
theorem Un.laid(k:∀b u,h.get? b=some u->h'.get? b=some u)(hp:h.objs.size<=a)(hn:H a=none):Un fs ex H (zV H a o) h h' where
 keep:=λb u q _ _ _=>k b u q
 slot:=λb u q _ _ _=>⟨u.slots,k b u q⟩
 free:=λb u q n _=>by rw[zu (bK (a9 (aX q) hp))];exact n
 there:=λb u q _=>⟨u,k b u q⟩
 tups:=λb xs q=>by rw[zu (xT q hn)];exact q
 frzs:=λb u xs q=>by rw[zu (xT q hn)];exact q
 tbls:=λb ps q=>⟨#[],by rw[zu (xT q hn),q];simp⟩
theorem Un.write(mu:Uo (H x))(he:e=x\/H e=some (.own x))(k:∀b u,b≠e->h.get? b=some u->h'.get? b=some u)(heo:∃u,h'.get? e=some u):Un fs ex H (zV H x o) h h':=by
 have hx:∀b,H b=none->b≠x:=λb n z=>by subst z;rw[n]at mu;exact mu
 have hb:∀b,H b=none->b≠e:=λb n z=>by
  subst z;rcases he with r|r
  ·exact hx b n r
  ·rw[n]at r;cases r
 have hm:∀b u,H b=some u->¬Uo (some u)->b≠x:=λb u q nm z=>by subst z;rw[q]at mu;exact nm mu
 refine⟨λb u q n _ _=>k b u (hb b n) q,λb u q n _ _=>⟨u.slots,k b u (hb b n) q⟩,λb u q n _=>by rw[zu (hx b n)];exact n,λb u q _=>?_,
  λb xs q=>by rw[zu (hm b _ q λz=>z)];exact q,λb u xs q=>by rw[zu (hm b _ q λz=>z)];exact q,λb ps q=>⟨#[],by rw[zu (hm b _ q λz=>z),q];simp⟩⟩
 by_cases hbe:b=e
 ·subst hbe;exact heo
 ·exact⟨u,k b u hbe q⟩
end
noncomputable def uL(h:Heap)(H:Hp):List Addr:=(aI h.objs.size).filter λa=>(H a).isSome
noncomputable def wM(h:Heap)(H:Hp):Heap:=PySem.W.hideAll h (uL h H)
theorem zK1(h)(H):(wM h H).objs.size=h.objs.size:=PySem.W.hideAll_size _ _
theorem zM3(e:h.get? b=some o)(n:H b=none):(wM h H).get? b=some o:=
 PySem.W.hideAll_get _ e λhm=>by have q:(H b).isSome=true:=(dD.mp hm).2;rw[n]at q;simp at q
theorem zPS(e:(wM h H).get? b=some o):h.get? b=some o/\H b=none:=by
 have e':h.get? b=some o:=PySem.W.of_hideAll (uL h H) e;refine⟨e',?_⟩;cases q:H b with
 |none=>rfl
 |some x=>
  have hm:b∈uL h H:=dD.mpr ⟨bj.mpr (aX e'),by simp[q]⟩;have z:(wM h H).get? b=none:=PySem.W.hideAll_none (uL h H) hm;rw[z]at e;cases e
noncomputable def zQT(g h:Heap)(L:Addr):List (Addr×Obj):=(aI h.objs.size).filterMap λa=>if a=L\/(g.get? a).isSome=true then none else(h.get? a).map λo=>(a,o)
noncomputable def yE(g h:Heap)(L d:Addr):List (Addr×Obj):=(zQT g h L).filter λp=>decide (p.1≠d)
structure Mod(K:aH)(mg:Str->Option Value)(base:Heap):Prop where
 kin:K.In base
 glob:base.Ns mainGlobals mg
 blt:∃mb,base.Ns builtinsNs mb/\∀x:Str,x≠"__name__"->mb x=bootBuiltins x
 nolimit:base.NoLimit
structure Cx where
 prog:Program
 w:World
 K:aH
 mg:Str->Option Value
 base:Heap
 A:Around
 N:List Str
 s₀:Shared
 H₀:Hp
 env:Env
 outer:List Env
 stack:List Env
 ex:List Addr
 fn:Str->Bool
 calm:Bool
 pn:List (Addr×Obj)
 xe:Value->Shared->Prop
noncomputable def vY(l:List Env):List Addr:=l.filterMap (·.frame)
noncomputable abbrev Cx.fs(X:Cx):List Addr:=vY X.outer
def j4(sc:Scope)(x:Str):Prop:=sc.names.lookup x=some .local\/sc.names.lookup x=some .cell\/sc.names.lookup x=some .free
def uM(sc:Scope)(x:Str):Prop:=sc.names.lookup x=some .local\/sc.names.lookup x=some .cell
def QP(env:Env)(h:Heap)(m:Str->Option Value)(x:Str)(u:Value):Prop:=(env.kindOf x=some .local/\m x=some u)\/((env.kindOf x=some .cell\/env.kindOf x=some .free)/\∃c,env.cells.lookup x=some c/\h.IsCell c (some u))
structure Cx.Ok(X:Cx):Prop where
 mod:Mod X.K X.mg X.base
 kind:X.env.scope.kind=.function
 glob:X.env.globals=mainGlobals
 blt:X.env.builtins=builtinsNs
 above:X.s₀.heap.objs.size<=X.env.locals
 inj:∀x y c,X.env.cells.lookup x=some c->X.env.cells.lookup y=some c->x=y
 has:∀x,(X.env.kindOf x=some .cell\/X.env.kindOf x=some .free)->∃c,X.env.cells.lookup x=some c
 cab:∀x c,X.fn x=true->X.env.cells.lookup x=some c->X.s₀.heap.objs.size<=c
 hd:X.calm=true->X.A.handled=none
 frames:X.A.frames=some X.stack
 stk:X.stack=X.outer\/(X.stack=X.env::X.outer/\X.env.frame=some X.env.locals)
 exf:∀b∈X.ex,b≠X.env.locals/\∀x c,X.env.cells.lookup x=some c->c≠b
 bs:∀b o,X.base.get? b=some o->X.s₀.heap.get? b=some o/\X.H₀ b=none
 bsz:X.base.objs.size<=X.s₀.heap.objs.size
 noex:∀b o,X.base.get? b=some o->b∉X.ex
 exfs:∀b∈X.ex,b∉X.fs
 funs:X.s₀.heap.FunFrames X.base X.outer
 frf:∀b∈X.fs,X.H₀ b=none
structure zB(X:Cx)(pins:List (Addr×Obj))(σ:List (Option V))(H:Hp)(s:Shared):Prop where
 ok:X.Ok
 os:s.os=X.s₀.os
 bare:AllBare s.gens
 base:Un X.fs X.ex X.H₀ H X.s₀.heap s.heap
 loc:∃m,s.heap.Ns X.env.locals m/\∀(i:Nat)(x:Str)(v:V),X.N[i]? =some x->σ[i]? =some (some v)->j4 X.env.scope x->∃u,zM v u/\QP X.env s.heap m x u
 cell:∀x c,X.env.cells.lookup x=some c->∃v,s.heap.IsCell c v
 free:H X.env.locals=none
 freeC:∀x c,X.env.cells.lookup x=some c->H c=none
 pin:∀p∈X.pn++pins,s.heap.get? p.1=some p.2/\H p.1=none/\p.1≠X.env.locals/\p.1∉X.fs/\∀v,p.2.data≠.cell v
 hok:xZ X.prog X.w H s.heap
 len:σ.length=X.N.length
section
variable{X:Cx}{pins:List (Addr×Obj)}{σ:List (Option V)}{H H':Hp}{s:Shared}{h':Heap}
theorem Cx.Ok.nofr(ok:X.Ok)(e:X.base.get? b=some o):b∉X.fs:=λhb=>by have:=(ok.funs.mem hb).1;rw[e]at this;cases this
theorem zB.bs(I:zB X pins σ H s):∀b o,X.base.get? b=some o->s.heap.get? b=some o/\H b=none:=λb o e=>⟨I.base.keep b o (I.ok.bs b o e).1 (I.ok.bs b o e).2 (I.ok.nofr e) (I.ok.noex b o e),I.base.free b o (I.ok.bs b o e).1 (I.ok.bs b o e).2 (I.ok.noex b o e)⟩
theorem zB.bk(I:zB X pins σ H s):∀b o,X.base.get? b=some o->s.heap.get? b=some o:=λb o e=>(I.bs b o e).1
theorem zB.mod(I:zB X pins σ H s):Mod X.K X.mg X.base:=I.ok.mod
theorem zB.kIn(I:zB X pins σ H s):X.K.In s.heap:=I.ok.mod.kin.keeps I.bk
theorem zB.lt(I:zB X pins σ H s):X.env.locals<s.heap.objs.size:=let ⟨_,hn,_⟩:=I.loc;hn.lt
theorem zB.sz(I:zB X pins σ H s):X.s₀.heap.objs.size<=s.heap.objs.size:=bI I.ok.above (eB I.lt)
theorem zB.nofs(I:zB X pins σ H s){a:Addr}(h:s.heap.objs.size<=a):a∉X.fs:=λhb=>by obtain⟨_,o,ho,_⟩:=I.ok.funs.mem hb;exact absurd (a9 (aX ho) (bI I.sz h)) (bU _)
theorem zB.cne(I:zB X pins σ H s):∀x c,X.env.cells.lookup x=some c->c≠X.env.locals:=λx c e z=>by obtain⟨v,o,ho,hd⟩:=I.cell x c e;obtain⟨m,⟨o',es,ep,ho',hd',_⟩,_⟩:=I.loc;rw[z,ho']at ho;cases ho;rw[hd']at hd;cases hd
theorem zB.funs(I:zB X pins σ H s):s.heap.FunFrames X.base X.outer:=by
 have all:∀(l:List Env),(∀b∈vY l,b∈X.fs)->X.s₀.heap.FunFrames X.base l->s.heap.FunFrames X.base l:=by
  intro l
  induction l with
  |nil=>intro _ _;trivial
  |cons env r ih=>
   intro hs hl;obtain⟨hk,⟨L,o,hf,hn,ho,hd⟩,hr⟩:=hl;have hL:L∈X.fs:=hs L (by unfold vY;rw[fz,hf];exact aR);obtain⟨sl,e⟩:=I.base.slot L o ho (I.ok.frf L hL) hL λz=>I.ok.exfs L z hL;exact⟨hk,⟨L,_,hf,hn,e,hd⟩,ih (λb hb=>hs b (by unfold vY;rw[fz,hf];exact aK _ hb)) hr⟩
 exact all X.outer (λ_ hb=>hb) I.ok.funs
theorem zB.stack(I:zB X pins σ H s):s.heap.FunFrames X.base X.stack:=by
 rcases I.ok.stk with e|⟨e,hf⟩
 ·rw[e];exact I.funs
 ·rw[e];obtain⟨m,hn,_⟩:=I.loc;refine .cons (by rw[I.ok.kind];decide) hf hn ?_ I.funs;exact Heap.get?_none_of_le (bI I.ok.bsz I.ok.above)
theorem zB.stkSub(I:zB X pins σ H s):∀b∈vY X.stack,b∈X.env.locals::X.fs:=λb hb=>by
 rcases I.ok.stk with e|⟨e,hf⟩
 ·rw[e]at hb;exact aK _ hb
 ·rw[e]at hb;unfold vY at hb;rw[fz,hf]at hb;exact hb
theorem zB.stkFree(I:zB X pins σ H s):∀b∈vY X.stack,H b=none:=λb hb=>by
 rcases a8.mp (I.stkSub b hb)with e|hb
 ·rw[e];exact I.free
 ·obtain⟨_,o,ho,_⟩:=I.ok.funs.mem hb;exact I.base.free b o ho (I.ok.frf b hb) λz=>I.ok.exfs b z hb
theorem zB.step{ch:List Addr}(I:zB X pins σ H s)
  (hch:∀b∈ch,(b∈X.ex\/X.s₀.heap.objs.size<=b)/\b≠X.env.locals/\(∀x c,X.env.cells.lookup x=some c->c≠b)/\∀p∈X.pn++pins,p.1≠b)
  (keep:∀b o,b≠X.env.locals->b∉X.fs->b∉ch->s.heap.get? b=some o->H b=none->h'.get? b=some o)
  (slot:∀b o,b≠X.env.locals->b∈X.fs->b∉ch->s.heap.get? b=some o->H b=none->∃sl,h'.get? b=some {o with slots:=sl}) (free:∀b o,b∉ch->s.heap.get? b=some o->H b=none->H' b=none)
  (there:∀b o,b∉ch->s.heap.get? b=some o->∃o',h'.get? b=some o')
  (tups:∀b xs,H b=some (.tup xs)->H' b=some (.tup xs)) (frzs:∀b o u,H b=some (.frz o u)->H' b=some (.frz o u)) (tbls:∀b ps,H b=some (.tbl ps)->∃more,H' b=some (.tbl (ps++more)))
  (ns:∀m,s.heap.Ns X.env.locals m->h'.Ns X.env.locals m) (hok:xZ X.prog X.w H' h') (hg:AllBare g'):
  zB X pins σ H' {s with heap:=h',gens:=g',drawn:=d',toks:=t'}:=by
 have neL:∀b o,X.s₀.heap.get? b=some o->b≠X.env.locals:=λb o e=>bK (a9 (aX e) I.ok.above)
 have neC:∀b o,X.s₀.heap.get? b=some o->b∉X.ex->b∉ch:=λb o e hx hb=>by
  rcases(hch b hb).1 with z|z
  ·exact hx z
  ·exact absurd (a9 (aX e) z) (bU _)
 have cellK:∀x c,X.env.cells.lookup x=some c->∀v,s.heap.IsCell c v->h'.IsCell c v:=λx c e v ⟨o,ho,hd⟩=>by
  have nch:c∉ch:=λz=>(hch c z).2.2.1 x c e rfl;by_cases hc:c∈X.fs
  ·obtain⟨sl,q⟩:=slot c o (I.cne x c e) hc nch ho (I.freeC x c e);exact⟨_,q,hd⟩
  ·exact⟨o,keep c o (I.cne x c e) hc nch ho (I.freeC x c e),hd⟩
 refine⟨I.ok,I.os,hg,⟨λb o e n hb hx=>?_,λb o e n hb hx=>?_,λb o e n hx=>?_,λb o e hx=>?_,λb xs e=>tups b xs (I.base.tups b xs e),λb o xs e=>frzs b o xs (I.base.frzs b o xs e),λb ps e=>?_⟩,?_,λx c e=>?_,?_,λx c e=>?_,λp hp=>?_,hok,I.len⟩
 ·exact keep b o (neL b o e) hb (neC b o e hx) (I.base.keep b o e n hb hx) (I.base.free b o e n hx)
 ·obtain⟨sl,e1⟩:=I.base.slot b o e n hb hx;obtain⟨sl',e2⟩:=slot b _ (neL b o e) hb (neC b o e hx) e1 (I.base.free b o e n hx);exact⟨sl',e2⟩
 ·obtain⟨o',e1⟩:=I.base.there b o e hx;exact free b o' (neC b o e hx) e1 (I.base.free b o e n hx)
 ·obtain⟨o',e1⟩:=I.base.there b o e hx;exact there b o' (neC b o e hx) e1
 ·obtain⟨m1,e1⟩:=I.base.tbls b ps e;obtain⟨m2,e2⟩:=tbls b _ e1;exact⟨m1++m2,by rw[e2,Array.append_assoc]⟩
 ·obtain⟨m,hn,hl⟩:=I.loc;refine⟨m,ns m hn,λi x v e1 e2 e3=>?_⟩;obtain⟨u,r,l⟩:=hl i x v e1 e2 e3;refine⟨u,r,?_⟩;rcases l with l|⟨k,c,e,z⟩
  ·exact .inl l
  ·exact .inr ⟨k,c,e,cellK x c e _ z⟩
 ·obtain⟨v,z⟩:=I.cell x c e;exact⟨v,cellK x c e v z⟩
 ·obtain⟨m,⟨o,_,_,ho,_⟩,_⟩:=I.loc;exact free _ o (λz=>(hch _ z).2.1 rfl) ho I.free
 ·obtain⟨v,o,ho,hd⟩:=I.cell x c e;exact free c o (λz=>(hch c z).2.2.1 x c e rfl) ho (I.freeC x c e)
 ·obtain⟨e,n,ne,nf,d⟩:=I.pin p hp;have nch:p.1∉ch:=λz=>(hch p.1 z).2.2.2 p hp rfl;exact⟨keep p.1 p.2 ne nf nch e n,free p.1 p.2 nch e n,ne,nf,d⟩
theorem zB.un(I:zB X pins σ H s)(u:Un X.fs [] H H' s.heap h')(hok:xZ X.prog X.w H' h'):zB X pins σ H' {s with heap:=h',toks:=t'}:=by
 obtain⟨m,⟨o,es,ep,ho,r⟩,_⟩:=id I.loc;obtain⟨sl,hL⟩:=u.any ho I.free (by simp)
 exact I.step (g':=s.gens) (d':=s.drawn) (ch:=[]) (λ_ z=>nomatch z) (λb o _ hb _ e n=>u.keep b o e n hb (by simp)) (λb o _ hb _ e n=>u.slot b o e n hb (by simp)) (λb o _ e n=>u.free b o e n (by simp)) (λb o _ e=>u.there b o e (by simp)) u.tups u.frzs u.tbls (λm' hm=>by obtain⟨o',es',ep',ho',r'⟩:=hm;rw[ho]at ho';cases ho';exact⟨_,es',ep',hL,r'⟩) hok I.bare
theorem zB.call(I:zB X pins σ H s)(u:Un (vY X.stack) ch H H' s.heap h')(hok:xZ X.prog X.w H' h')(hg:AllBare g')
  (hch:∀b∈ch,(b∈X.ex\/X.s₀.heap.objs.size<=b)/\b≠X.env.locals/\(∀x c,X.env.cells.lookup x=some c->c≠b)/\∀p∈X.pn++pins,p.1≠b):
  zB X pins σ H' {s with heap:=h',gens:=g',drawn:=d',toks:=t'}:=by
 obtain⟨m,⟨o,es,ep,ho,r⟩,_⟩:=id I.loc;obtain⟨sl,hL⟩:=u.any ho I.free λz=>(hch _ z).2.1 rfl
 exact I.step (ch:=ch) hch (λb o hL hb hc e n=>u.keep b o e n (λz=>(a8.mp (I.stkSub b z)).elim hL hb) hc) (λb o _ _ hc e n=>u.any e n hc) (λb o hc e n=>u.free b o e n hc) (λb o hc e=>u.there b o e hc) u.tups u.frzs u.tbls (λm' hm=>by obtain⟨o',es',ep',ho',r'⟩:=hm;rw[ho]at ho';cases ho';exact⟨_,es',ep',hL,r'⟩) hok hg
theorem zB.turned(I:zB X pins σ H s)(k:∀b o,b≠it->s.heap.get? b=some o->h'.get? b=some o)(hn:H it=none)(hL:it≠X.env.locals)
  (h1:it∈X.ex\/X.s₀.heap.objs.size<=it) (h2:∀x c,X.env.cells.lookup x=some c->c≠it) (h3:∀p∈X.pn++pins,p.1≠it):zB X pins σ H {s with heap:=h',toks:=t'}:=by
 have nit:∀b u,H b=some u->b≠it:=λb u e z=>by rw[z,hn]at e;cases e
 refine I.step (g':=s.gens) (d':=s.drawn) (ch:=[it]) (λb hb=>?_) (λb o _ _ hc e _=>k b o (λz=>hc (by simp[z])) e) (λb o _ _ hc e _=>⟨o.slots,k b o (λz=>hc (by simp[z])) e⟩) (λ_ _ _ _ n=>n)
  (λb o hc e=>⟨o,k b o (λz=>hc (by simp[z])) e⟩) (λ_ _ e=>e) (λ_ _ _ e=>e) (λb ps e=>⟨#[],by rw[e];simp⟩) (λm hm=>?_) (λb u e=>?_) I.bare
 ·have e:b=it:=by simpa using hb
  subst e;exact⟨h1,hL,h2,h3⟩
 ·obtain⟨o,es,ep,ho,r⟩:=hm;exact⟨o,es,ep,k _ o (Ne.symm hL) ho,r⟩
 ·refine(I.hok b u e).stay (λc v hc q=>k c v ?_ q) (λ_ q=>q) λ_ _ q=>q;rcases hc with z|z
  ·rw[z];exact nit b u e
  ·exact nit c _ z
theorem zB.tok(I:zB X pins σ H s)(t):zB X pins σ H {s with toks:=t}:=I.un (h':=s.heap) (t':=t) Un.refl I.hok
theorem zB.kept(I:zB X pins σ H s)(k:∀b u,s.heap.get? b=some u->h'.get? b=some u):zB X pins σ H {s with heap:=h',toks:=t'}:=I.un (Un.kept k) (I.hok.kept k)
theorem zB.laid{a:Addr}(I:zB X pins σ H s)(k:∀b u,s.heap.get? b=some u->h'.get? b=some u)(hp:s.heap.objs.size<=a)(new:wZ X.prog X.w (zV H a o) h' a o):
  zB X pins σ (zV H a o) {s with heap:=h',toks:=t'}:=I.un (Un.laid k hp (I.hok.fresh hp)) (I.hok.laid k hp new)
theorem zB.write(I:zB X pins σ H s)(mu:Uo (H x))(he:e=x\/H e=some (.own x))(k:∀b u,b≠e->s.heap.get? b=some u->h'.get? b=some u)(heo:∃u,h'.get? e=some u)
  (new:wZ X.prog X.w (zV H x o) h' x o):zB X pins σ (zV H x o) {s with heap:=h',toks:=t'}:=I.un (Un.write mu he k heo) (I.hok.write mu he k heo new)
theorem zB.pins_of(I:zB X pins σ H s)(h:∀p∈pins',s.heap.get? p.1=some p.2/\H p.1=none/\p.1≠X.env.locals/\p.1∉X.fs/\∀v,p.2.data≠.cell v):zB X pins' σ H s:=⟨I.ok,I.os,I.bare,I.base,I.loc,I.cell,I.free,I.freeC,λp hp=>(be.mp hp).elim (λz=>I.pin p (cQ _ z)) (h p),I.hok,I.len⟩
theorem zH4{N:List Str}(hN:N.Nodup){i j:Nat}(a:N[i]? =some x)(b:N[j]? =some x):i=j:=by obtain⟨h1,e1⟩:=aN.mp a;obtain⟨h2,e2⟩:=aN.mp b;exact(List.getElem_inj hN).mp (e1.trans e2.symm)
theorem zFp{M:Model}{A:Around}{E:Value->Shared->Prop}{i:Nat}{x:Str}{v:V}{u:Value}{Q:Unit->Shared->Prop}(I:zB X pins σ H s)(hN:X.N.Nodup)(hi:X.N[i]? =some x)(hx:uM X.env.scope x)(r:zM v u)
  (h:∀s',zB X pins (σ.set i (some v)) H s'->(∃a,Heap.SameBut a s.heap s'.heap/\(a=X.env.locals\/X.env.cells.lookup x=some a))->Q () s') (hf:X.fn x=true\/X.env.scope.names.lookup x=some .local:=by first|exact .inl rfl|exact .inr rfl|assumption):wpAny M A (storeName X.env x u) Q E s:=by
 obtain⟨m,hn,hl⟩:=id I.loc;have hcls:(X.env.scope.kind== .class||(X.env.scope.kind== .module&&X.env.locals != X.env.globals))=false:=by rw[I.ok.kind];rfl
 have hiσ:i<σ.length:=by rw[I.len];exact(aN.mp hi).1
 have cne:=I.cne
 have tracked:∀{a:Addr}{h':Heap},(∃o,s.heap.get? a=some o/\H a=none)->Heap.SameBut a s.heap h'->xZ X.prog X.w H h':=λ{a h'} ha hs b ob e=>by
  obtain⟨_,_,hfree⟩:=ha;refine(I.hok b ob e).stay (λc w' hc q=>(hs.2 c ?_).trans q) (λ_ q=>q) λ_ _ q=>q;rintro rfl;rcases hc with rfl|hc
  ·rw[hfree]at e;cases e
  ·rw[hfree]at hc;cases hc
 rcases hx with hk|hk
 ·refine wpAny_storeName_local hk hn (λh' hn' hs=>?_) hcls;obtain⟨oL,_,_,hoL,_⟩:=id hn;refine h _ ⟨I.ok,I.os,I.bare,⟨λb o e n hb hx=>?_,λb o e n hb hx=>?_,I.base.free,λb o e hx=>?_,I.base.tups,I.base.frzs,I.base.tbls⟩,⟨_,hn',λj y v' e1 e2 e3=>?_⟩,λy c e=>?_,I.free,I.freeC,λp hp=>?_,tracked ⟨oL,hoL,I.free⟩ hs,by simpa using I.len⟩ ⟨_,hs,.inl rfl⟩
  ·exact(hs.2 b (bK (a9 (aX e) I.ok.above))).trans (I.base.keep b o e n hb hx)
  ·obtain⟨sl,e1⟩:=I.base.slot b o e n hb hx;exact⟨sl,(hs.2 b (bK (a9 (aX e) I.ok.above))).trans e1⟩
  ·obtain⟨o',e1⟩:=I.base.there b o e hx;exact⟨o',(hs.2 b (bK (a9 (aX e) I.ok.above))).trans e1⟩
  ·by_cases hj:j=i
   ·subst hj;rw[hi]at e1;cases e1;rw[cD hiσ]at e2;cases e2;exact⟨u,r,.inl ⟨hk,by simp⟩⟩
   ·rw[bv (Ne.symm hj)]at e2;obtain⟨u',r',q⟩:=hl j y v' e1 e2 e3;refine⟨u',r',?_⟩;rcases q with⟨k,e⟩|⟨k,c,e,z⟩
    ·refine .inl ⟨k,?_⟩;have:y≠x:=λe=>hj (zH4 hN e1 (e▸hi));simp[this,e]
    ·exact .inr ⟨k,c,e,z.sameBut hs (cne y c e)⟩
  ·obtain⟨w',z⟩:=I.cell y c e;exact⟨w',z.sameBut hs (cne y c e)⟩
  ·obtain⟨e,n,ne,nf,d⟩:=I.pin p hp;exact⟨(hs.2 p.1 ne).trans e,n,ne,nf,d⟩
 ·have hfn:X.fn x=true:=by
   rcases hf with z|z
   ·exact z
   ·rw[z]at hk;cases hk
  obtain⟨c,hc⟩:=I.ok.has x (.inl hk);obtain⟨w',z⟩:=I.cell x c hc;refine wpAny_storeName_cell I.ok.kind hk hc z (λh' hc' hs=>?_);obtain⟨oc,hoc,hocd⟩:=id z;refine h {s with heap:=h'} ⟨I.ok,I.os,I.bare,⟨λb o e n hb hx=>?_,λb o e n hb hx=>?_,I.base.free,λb o e hx=>?_,I.base.tups,I.base.frzs,I.base.tbls⟩,⟨m,hn.sameBut hs (Ne.symm (cne x c hc)),λj y v' e1 e2 e3=>?_⟩,λy c' e=>?_,I.free,I.freeC,λp hp=>?_,tracked ⟨oc,hoc,I.freeC x c hc⟩ hs,by simpa using I.len⟩ ⟨c,hs,.inr hc⟩
  ·exact(hs.2 b (bK (a9 (aX e) (I.ok.cab x c hfn hc)))).trans (I.base.keep b o e n hb hx)
  ·obtain⟨sl,e1⟩:=I.base.slot b o e n hb hx;exact⟨sl,(hs.2 b (bK (a9 (aX e) (I.ok.cab x c hfn hc)))).trans e1⟩
  ·obtain⟨o',e1⟩:=I.base.there b o e hx;exact⟨o',(hs.2 b (bK (a9 (aX e) (I.ok.cab x c hfn hc)))).trans e1⟩
  ·by_cases hj:j=i
   ·subst hj;rw[hi]at e1;cases e1;rw[cD hiσ]at e2;cases e2;exact⟨u,r,.inr ⟨.inl hk,c,hc,hc'⟩⟩
   ·rw[bv (Ne.symm hj)]at e2;obtain⟨u',r',q⟩:=hl j y v' e1 e2 e3;refine⟨u',r',?_⟩;rcases q with q|⟨k,c',e,z'⟩
    ·exact .inl q
    ·refine .inr ⟨k,c',e,z'.sameBut hs ?_⟩;rintro rfl;exact hj (zH4 hN e1 (I.ok.inj _ _ _ e hc▸hi))
  ·by_cases hcc:c'=c
   ·subst hcc;exact⟨_,hc'⟩
   ·obtain⟨w2,z2⟩:=I.cell y c' e;exact⟨w2,z2.sameBut hs hcc⟩
  ·obtain⟨e,n,ne,nf,d⟩:=I.pin p hp;refine⟨(hs.2 p.1 ?_).trans e,n,ne,nf,d⟩;intro q;rw[q,hoc]at e;have q':oc=p.2:=Option.some.inj e;exact d w' (by rw[<- q'];exact hocd)
theorem zHb{M:Model}{A:Around}{E:Value->Shared->Prop}{i:Nat}{x:Str}{v:V}{u:Value}{Q:Unit->Shared->Prop}(I:zB X pins σ H s)(hN:X.N.Nodup)(hi:X.N[i]? =some x)(hx:uM X.env.scope x)(r:zM v u)
  (h:∀s',zB X pins (σ.set i (some v)) H s'->Q () s') (hf:X.fn x=true\/X.env.scope.names.lookup x=some .local:=by first|exact .inl rfl|exact .inr rfl|assumption):wpAny M A (storeName X.env x u) Q E s:=
 zFp I hN hi hx r (λs' I' _=>h s' I') hf
theorem zB.call'(I:zB X pins σ H s)(ho:s'.os=s.os)(u:Un (vY X.stack) ch H H' s.heap s'.heap)(hok:xZ X.prog X.w H' s'.heap)(hg:AllBare s'.gens)
  (hch:∀b∈ch,(b∈X.ex\/X.s₀.heap.objs.size<=b)/\b≠X.env.locals/\(∀x c,X.env.cells.lookup x=some c->c≠b)/\∀p∈X.pn++pins,p.1≠b):zB X pins σ H' s':=by
 obtain⟨h',g',d',t',o'⟩:=s';have e:o'=s.os:=ho;subst e;exact I.call (g':=g') (t':=t') (d':=d') u hok hg hch
end
abbrev XK:=Value->Option Addr->Hp->Prop
abbrev St:=List (Option V)
abbrev VK:=V->Hp->Prop
abbrev TE:=St->Hp->VK->Prop
abbrev TT:=St->Hp->(Bool->Hp->Prop)->Prop
abbrev TA:=St->Hp->(List V->Hp->Prop)->Prop
structure uN where
 nx:St->Hp->Prop
 rt:VK
 bk:St->Hp->Prop:=λ_ _=>False
 ct:St->Hp->Prop:=λ_ _=>False
abbrev TS:=uN->St->Hp->Prop
def EP(X:Cx)(pins:List (Addr×Obj))(σ:St)(Q:VK)(u:Value)(s':Shared):Prop:=∃v H',zB X pins σ H' s'/\zM v u/\Q v H'
def TP(X:Cx)(pins:List (Addr×Obj))(σ:St)(Q:Bool->Hp->Prop)(b:Bool)(s':Shared):Prop:=∃H',zB X pins σ H' s'/\Q b H'
def AP(X:Cx)(pins:List (Addr×Obj))(σ:St)(Q:List V->Hp->Prop)(us:List Value)(s':Shared):Prop:=∃vs H',zB X pins σ H' s'/\zC vs us/\Q vs H'
def SP(X:Cx)(pins:List (Addr×Obj))(D:uN)(f:Flow)(s':Shared):Prop:=
 match f with
 | .next=>∃σ' H',zB X pins σ' H' s'/\D.nx σ' H'
 | .brk=>∃σ' H',zB X pins σ' H' s'/\D.bk σ' H'
 | .cont=>∃σ' H',zB X pins σ' H' s'/\D.ct σ' H'
 | .ret u=>∃v σ' H',zB X pins σ' H' s'/\zM v u/\D.rt v H'
def PE(X:Cx)(e:Expr)(t:TE):Prop:=∀(pins:List (Addr×Obj))(s:Shared)(σ:St)(H:Hp)(Q:VK),zB X pins σ H s->t σ H Q->wpAny (model X.prog X.w) X.A (eval e X.env) (EP X pins σ Q) X.xe s
def PT(X:Cx)(e:Expr)(t:TT):Prop:=∀(pins:List (Addr×Obj))(s:Shared)(σ:St)(H:Hp)(Q:Bool->Hp->Prop),zB X pins σ H s->t σ H Q->wpAny (model X.prog X.w) X.A (isTrue e X.env (eval e X.env)) (TP X pins σ Q) X.xe s
def PW(X:Cx)(e:Expr)(t:TT):Prop:=∀(whole:Sem Value)(pins:List (Addr×Obj))(s:Shared)(σ:St)(H:Hp)(Q:Bool->Hp->Prop),zB X pins σ H s->t σ H Q->wpAny (model X.prog X.w) X.A (isTrue e X.env whole) (TP X pins σ Q) X.xe s
theorem PW.pt(h:PW X e t):PT X e t:=h _
def PA(X:Cx)(es:List Expr)(t:TA):Prop:=∀(pos:Pos)(pins:List (Addr×Obj))(s:Shared)(σ:St)(H:Hp)(Q:List V->Hp->Prop),zB X pins σ H s->t σ H Q->wpAny (model X.prog X.w) X.A (spliced (backTo pos (starEach es X.env))) (AP X pins σ Q) X.xe s
def PS(X:Cx)(st:Stmt)(t:TS):Prop:=∀(pins:List (Addr×Obj))(s:Shared)(σ:St)(H:Hp)(D:uN),zB X pins σ H s->t D σ H->wpAny (model X.prog X.w) X.A (exec st X.env) (SP X pins D) X.xe s
def yb(X:Cx)(st:List Stmt)(t:TS):Prop:=∀(pins:List (Addr×Obj))(s:Shared)(σ:St)(H:Hp)(D:uN),zB X pins σ H s->t D σ H->wpAny (model X.prog X.w) X.A (execs st X.env) (SP X pins D) X.xe s
theorem zf{α:Type}{t:Sem α}{Q Q':α->Shared->Prop}{M:Model}{A:Around}{E:Value->Shared->Prop}{s:Shared}(h:wpAny M A t Q E s)(hQ:∀a s,Q a s->Q' a s):wpAny M A t Q' E s:=wpAny_mono h hQ λ_ _ x=>x
section
variable{X:Cx}
def uO(i:Nat):TE:=λσ H Q=>∃v,σ[i]? =some (some v)/\Q v H
def tC(v:V):TE:=λ_ H Q=>Q v H
theorem QQ{i:Nat}{x:Str}{pos:Pos}(hN:X.N[i]? =some x)(hv:j4 X.env.scope x)(hd:(x==("__debug__":Str))=false:=by decide)(hcd:(x==("__classdict__":Str))=false:=by decide):PE X (.Name x pos) (uO i):=by
 intro pins s σ H Q I h;obtain⟨v,e,h⟩:=h;obtain⟨m,hn,hl⟩:=I.loc;obtain⟨u,r,l⟩:=hl i x v hN e hv;have fin:EP X pins σ Q u s:=⟨v,H,I,r,h⟩
 rcases l with⟨hk,hm⟩|⟨hk,c,hc,hcell⟩
 ·exact wpAny_Name (wpAny_loadName_local I.ok.kind hk hn hm fin) hd
 ·rcases hk with hk|hk
  ·exact wpAny_Name (wpAny_loadName_cell I.ok.kind hk hc hcell fin) hd
  ·exact wpAny_Name (wpAny_loadName_free I.ok.kind hk hc hcell fin hcd) hd
theorem zN3{i j pos}:PE X (.Constant (.int i) j pos) (tC (.int i)):=λ_ _ _ H _ I h=>wpAny_Constant_int ⟨.int i,H,I.tok _,⟨_,rfl⟩,h⟩
theorem Z8{b j pos}:PE X (.Constant (.bool b) j pos) (tC (.bl b)):=λ_ _ _ H _ I h=>Constant_bool ⟨.bl b,H,I,rfl,h⟩
theorem zN1{j pos}:PE X (.Constant .none j pos) (tC .non):=λ_ _ _ H _ I h=>Constant_none ⟨.non,H,I,rfl,h⟩
theorem zRY{x j pos}:PE X (.Constant (.str x) j pos) (tC (.str x)):=λ_ _ _ H _ I h=>Calls.Constant_str ⟨.str x,H,I.tok _,⟨_,rfl⟩,h⟩
def Gl(X:Cx)(x:Str):Prop:=X.env.kindOf x=some .globalImplicit
theorem QR{E:Value->Shared->Prop}{pins:List (Addr×Obj)}{s:Shared}{σ:St}{H:Hp}{x:Str}{u:Value}{pos:Pos}{Q:Value->Shared->Prop}(I:zB X pins σ H s)(hg:Gl X x)(hm:X.mg x=some u)(h:Q u s)
  (hd:(x==("__debug__":Str))=false:=by decide):wpAny (model X.prog X.w) X.A (eval (.Name x pos) X.env) Q E s:=
 Calls.Name_function_global I.ok.kind hg (Calls.loadGlobal_global (by rw[I.ok.glob];exact I.mod.glob.keeps I.bk) hm h) hd
theorem j5{E:Value->Shared->Prop}{pins:List (Addr×Obj)}{s:Shared}{σ:St}{H:Hp}{x:Str}{u:Value}{pos:Pos}{Q:Value->Shared->Prop}(I:zB X pins σ H s)(hg:Gl X x)(hm:X.mg x=none)(hv:bootBuiltins x=some u)(h:Q u s)
  (hn:x≠"__name__":=by decide) (hd:(x==("__debug__":Str))=false:=by decide):wpAny (model X.prog X.w) X.A (eval (.Name x pos) X.env) Q E s:=by
 obtain⟨mb,h1,h2⟩:=I.mod.blt;exact Calls.Name_function_global I.ok.kind hg (Calls.loadGlobal_builtin (by rw[I.ok.glob];exact I.mod.glob.keeps I.bk) hm (by rw[I.ok.blt];exact h1.keeps I.bk) ((h2 x hn).trans hv) h) hd
theorem zKJ{x:Str}{v:V}{u:Value}{pos:Pos}(hg:Gl X x)(hm:X.mg x=some u)(r:zM v u)(hd:(x==("__debug__":Str))=false:=by decide):PE X (.Name x pos) (tC v):=λ_ _ _ H _ I h=>QR I hg hm ⟨v,H,I,r,h⟩ hd
theorem Up{x:Str}{v:V}{u:Value}{pos:Pos}(hg:Gl X x)(hm:X.mg x=none)(hv:bootBuiltins x=some u)(r:zM v u)(hn:x≠"__name__":=by decide)(hd:(x==("__debug__":Str))=false:=by decide):PE X (.Name x pos) (tC v):=λ_ _ _ H _ I h=>j5 I hg hm hv ⟨v,H,I,r,h⟩ hn hd
variable{a b:Expr}{ta tb:TE}{pos:Pos}
def tB(t:TE):TT:=λσ H Q=>t σ H λx H1=>∃c,x=.bl c/\Q c H1
theorem zRO{e:Expr}{t:TE}(h:PE X e t)(he:∀whole,isTrue e X.env whole=(do let v <- whole;standAt e.pos;holding [v] (truthy v)):=by intro _;rfl):PT X e (tB t):=by intro pins s σ H Q I hw;refine isTrue_plain (zf (h pins s σ H _ I hw) λv s1 ⟨x,H1,I1,r1,q1⟩=>?_) (he _);obtain⟨d,rfl,q⟩:=q1;cases r1;exact wpAny_truthy_bool ⟨H1,I1,q⟩
variable{tA tB':TT}{yE:List Expr}
def QS(t u:TT):TT:=λσ H Q=>t σ H λc H1=>if c=true then u σ H1 Q else Q false H1
def tOr(t u:TT):TT:=λσ H Q=>t σ H λc H1=>if c=true then Q true H1 else u σ H1 Q
def QT(t:TT):TT:=λσ H Q=>t σ H λc H1=>Q (!c) H1
theorem zOt(ha:PT X a tA):PW X (.BoolOp .And [a] pos) tA:=by
 intro wh pins s σ H Q I h;refine isTrue_and (zf (ha pins s σ H Q I h) λc s1 e=>?_);cases c with
 |true=>exact isTrue_and_nil e
 |false=>exact e
theorem zRC(ha:PT X a tA):PW X (.BoolOp .Or [a] pos) tA:=by
 intro wh pins s σ H Q I h;refine isTrue_or (zf (ha pins s σ H Q I h) λc s1 e=>?_);cases c with
 |false=>exact isTrue_or_nil e
 |true=>exact e
theorem zRD(ha:PT X a tA)(hb:PW X (.BoolOp .And (b::yE) pos) tB'):PW X (.BoolOp .And (a::b::yE) pos) (QS tA tB'):=by
 intro wh pins s σ H Q I h;refine isTrue_and (zf (ha pins s σ H _ I h) λc s1 ⟨H1,I1,q1⟩=>?_);cases c with
 |true=>exact hb wh pins s1 σ H1 Q I1 q1
 |false=>exact⟨H1,I1,q1⟩
theorem Z9(ha:PT X a tA)(hb:PW X (.BoolOp .Or (b::yE) pos) tB'):PW X (.BoolOp .Or (a::b::yE) pos) (tOr tA tB'):=by
 intro wh pins s σ H Q I h;refine isTrue_or (zf (ha pins s σ H _ I h) λc s1 ⟨H1,I1,q1⟩=>?_);cases c with
 |true=>exact⟨H1,I1,q1⟩
 |false=>exact hb wh pins s1 σ H1 Q I1 q1
theorem zRP(ha:PT X a tA):PT X (.UnaryOp .Not a pos) (QT tA):=by intro pins s σ H Q I h;exact isTrue_not (ha pins s σ H (λc H1=>Q (!c) H1) I h)
def YA(ta tb:TE):TE:=λσ H Q=>ta σ H λx H1=>∃c,x=.bl c/\if c=true then tb σ H1 Q else Q (.bl false) H1
def QU(ta tb:TE):TE:=λσ H Q=>ta σ H λx H1=>∃c,x=.bl c/\if c=true then Q (.bl true) H1 else tb σ H1 Q
def YB(ta:TE):TE:=λσ H Q=>ta σ H λx H1=>∃c,x=.bl c/\Q (.bl (!c)) H1
theorem zRa{op}(h:PE X a t):PE X (.BoolOp op [a] pos) t:=λpins s σ H Q I hw=>BoolOp_one (h pins s σ H Q I hw)
theorem zRf(ha:PE X a ta)(hb:PE X (.BoolOp .And (b::yE) pos) tb):PE X (.BoolOp .And (a::b::yE) pos) (YA ta tb):=by
 intro pins s σ H Q I h;refine BoolOp_and (zf (ha pins s σ H _ I h) λv s1 ⟨x,H1,I1,r1,q1⟩=>?_);obtain⟨c,rfl,q1⟩:=q1;cases r1;refine wpAny_truthy_bool ?_;cases c with
 |true=>exact hb pins s1 σ H1 Q I1 q1
 |false=>exact⟨.bl false,H1,I1,rfl,q1⟩
theorem YD(ha:PE X a ta)(hb:PE X (.BoolOp .Or (b::yE) pos) tb):PE X (.BoolOp .Or (a::b::yE) pos) (QU ta tb):=by
 intro pins s σ H Q I h;refine BoolOp_or (zf (ha pins s σ H _ I h) λv s1 ⟨x,H1,I1,r1,q1⟩=>?_);obtain⟨c,rfl,q1⟩:=q1;cases r1;refine wpAny_truthy_bool ?_;cases c with
 |false=>exact hb pins s1 σ H1 Q I1 q1
 |true=>exact⟨.bl true,H1,I1,rfl,q1⟩
theorem zRb(ha:PE X a ta):PE X (.UnaryOp .Not a pos) (YB ta):=by intro pins s σ H Q I h;refine UnaryOp_ (zf (ha pins s σ H _ I h) λv s1 ⟨x,H1,I1,r1,q1⟩=>?_);obtain⟨c,rfl,q1⟩:=q1;cases r1;exact not_of (wpAny_truthy_bool ⟨.bl (!c),H1,I1,rfl,q1⟩)
def tIf(t:TT)(ta tb:TE):TE:=λσ H Q=>t σ H λc H1=>if c=true then ta σ H1 Q else tb σ H1 Q
theorem zMf(hc:PT X c tA)(ha:PE X a ta)(hb:PE X b tb):PE X (.IfExp c a b pos) (tIf tA ta tb):=by
 intro pins s σ H Q I h;refine wpAny_IfExp (zf (hc pins s σ H _ I h) λd s1 ⟨H1,I1,q1⟩=>?_);cases d with
 |true=>exact ha pins s1 σ H1 Q I1 q1
 |false=>exact hb pins s1 σ H1 Q I1 q1
end
def zW(K:aH)(H:Hp)(a:Addr)(xs:List V):Prop:=
 Rd H a (.lst xs)∨
  ∃(o:Obj)(its:Array Value)(n:Nat),K.lookup a=some o/\o.cls=.type "list"/\o.dict=none/\o.data=.seq its n/\its.size<=sizeLine/\zC xs its.toList
def yZ(K:aH)(H:Hp)(a:Addr)(xs:List V):Prop:=
 Rd H a (.tup xs)∨
  ∃(o:Obj)(its:Array Value)(n:Nat),K.lookup a=some o/\o.cls=.type "tuple"/\o.data=.seq its n/\its.size<=sizeLine/\zC xs its.toList
noncomputable def QV:Value->Option V
 | .none=>some .non
 | .bool b=>some (.bl b)
 | .int i _=>some (.int i)
 | .str x _=>some (.str x)
 | .bytes b _=>some (.byt b)
 | .float b _=>some (.flt b)
 | .ref a=>some (.ref a)
 | .type n=>some (.ty n)
 |_=>none
theorem zM.abs(r:zM x u):QV u=some x:=by
 cases x with
 |non=>cases r;rfl
 |bl _=>cases r;rfl
 |int _=>obtain⟨t,rfl⟩:=r;rfl
 |str _=>obtain⟨t,rfl⟩:=r;rfl
 |byt _=>obtain⟨t,rfl⟩:=r;rfl
 |flt _=>obtain⟨t,rfl⟩:=r;rfl
 |ref _=>cases r;rfl
 |ty _=>cases r;rfl
theorem zM.inj(r:zM x u)(q:zM y u):x=y:=Option.some.inj (r.abs.symm.trans q.abs)
theorem zC.inj:∀{xs ys:List V}{us:List Value},zC xs us->zC ys us->xs=ys
 |_,_,_,.nil,.nil=>rfl
 |_,_,_,.cons r t,.cons r' t'=>by rw[r.inj r',zC.inj t t']
section
variable{X:Cx}{pins:List (Addr×Obj)}{σ:St}{H:Hp}{s:Shared}{a:Addr}{xs ys:List V}
theorem zW.of{K:aH}(h:H a=some (.lst xs)):zW K H a xs:=.inl (.inl h)
theorem yZ.of{K:aH}(h:H a=some (.tup xs)):yZ K H a xs:=.inl (.inl h)
theorem zB.list(I:zB X pins σ H s)(h:zW X.K H a xs):∃its,zC xs its/\PlainL s.heap a its.toArray/\xs.length<=sizeLine:=by
 rcases h with h|⟨o,its,n,hk,hc,hd,hs,hz,r⟩
 ·obtain⟨z,its,n,r,e⟩:=h.ok I.hok;exact⟨its,r,⟨_,n,e,rfl,rfl,rfl⟩,z⟩
 ·refine⟨its.toList,r,⟨o,n,I.kIn a o hk,hc,hd,by simpa using hs⟩,?_⟩;have e:=r.length;simp only[cT]at e;omega
theorem zB.tuple(I:zB X pins σ H s)(h:yZ X.K H a xs):∃its,zC xs its/\IsTup s.heap a its.toArray/\xs.length<=sizeLine:=by
 rcases h with h|⟨o,its,n,hk,hc,hs,hz,r⟩
 ·obtain⟨z,its,r,p⟩:=h.ok I.hok;exact⟨its,r,p,z⟩
 ·refine⟨its.toList,r,⟨o,I.kIn a o hk,hc,n,by simpa using hs⟩,?_⟩;have e:=r.length;simp only[cT]at e;omega
theorem zB.list_inj(I:zB X pins σ H s)(h:zW X.K H a xs)(h':zW X.K H a ys):xs=ys:=by
 obtain⟨its,r,⟨o,n,e,_,_,d⟩,_⟩:=I.list h;obtain⟨its',r',⟨o',n',e',_,_,d'⟩,_⟩:=I.list h';rw[e]at e';cases e';rw[d]at d';injection d' with d1 _;have:its=its':=by simpa using congrArg mm d1
 subst this;exact r.inj r'
theorem zB.tuple_inj(I:zB X pins σ H s)(h:yZ X.K H a xs)(h':yZ X.K H a ys):xs=ys:=by
 obtain⟨its,r,⟨o,e,_,n,d⟩,_⟩:=I.tuple h;obtain⟨its',r',⟨o',e',_,n',d'⟩,_⟩:=I.tuple h';rw[e]at e';cases e';rw[d]at d';injection d' with d1 _;have:its=its':=by simpa using congrArg mm d1
 subst this;exact r.inj r'
end
noncomputable abbrev Cx.wish(X:Cx)(E:Value->Shared->Prop):Cx:={X with xe:=E}
noncomputable abbrev Cx.nox(X:Cx):Cx:=X.wish λ_ _=>False
theorem Cx.Ok.wish{X:Cx}(ok:X.Ok)(E):(X.wish E).Ok:=⟨ok.mod,ok.kind,ok.glob,ok.blt,ok.above,ok.inj,ok.has,ok.cab,ok.hd,ok.frames,ok.stk,ok.exf,ok.bs,ok.bsz,ok.noex,ok.exfs,ok.funs,ok.frf⟩
theorem Cx.Ok.unwish{X:Cx}(ok:(X.wish E).Ok):X.Ok:=⟨ok.mod,ok.kind,ok.glob,ok.blt,ok.above,ok.inj,ok.has,ok.cab,ok.hd,ok.frames,ok.stk,ok.exf,ok.bs,ok.bsz,ok.noex,ok.exfs,ok.funs,ok.frf⟩
section
variable{X:Cx}{pins:List (Addr×Obj)}{σ:St}{H:Hp}{s:Shared}{E:Value->Shared->Prop}
theorem zB.wish(I:zB X pins σ H s)(E):zB (X.wish E) pins σ H s:=⟨I.ok.wish E,I.os,I.bare,I.base,I.loc,I.cell,I.free,I.freeC,I.pin,I.hok,I.len⟩
theorem zB.unwish(I:zB (X.wish E) pins σ H s):zB X pins σ H s:=⟨I.ok.unwish,I.os,I.bare,I.base,I.loc,I.cell,I.free,I.freeC,I.pin,I.hok,I.len⟩
theorem SP.unwish(h:SP (X.wish E) pins D f s'):SP X pins D f s':=by
 cases f with
 |next=>obtain⟨σ',H',I,q⟩:=h;exact⟨σ',H',I.unwish,q⟩
 |brk=>obtain⟨σ',H',I,q⟩:=h;exact⟨σ',H',I.unwish,q⟩
 |cont=>obtain⟨σ',H',I,q⟩:=h;exact⟨σ',H',I.unwish,q⟩
 |ret u=>obtain⟨v,σ',H',I,r,q⟩:=h;exact⟨v,σ',H',I.unwish,r,q⟩
theorem yb.nox{st:List Stmt}(h:yb X.nox st t):yb X st t:=λpins s σ H D I hw=>wpAny_mono (h pins s σ H D (I.wish _) hw) (λ_ _ q=>q.unwish) λ_ _ z=>False.elim z
end
section
variable{X:Cx}{st:Stmt}{yE:List Stmt}{t u:TS}{e:Expr}{te:TE}{pos:Pos}
def zQo:TS:=λD σ H=>D.nx σ H
def gJ(t u:TS):TS:=λD σ H=>t {D with nx:=u D} σ H
theorem zO4:yb X [] zQo:=λ_ _ σ H _ I h=>wpAny_execs_nil ⟨σ,H,I,h⟩
theorem uP(h1:PS X st t)(h2:yb X yE u):yb X (st::yE) (gJ t u):=by
 intro pins s σ H D I h;refine wpAny_execs_cons (zf (h1 pins s σ H {D with nx:=u D} I h) λf s1 q=>?_);cases f with
 |next=>
  obtain⟨σ',H',I',q⟩:=q;exact h2 pins s1 σ' H' D I' q
 |ret v=>exact q
 |brk=>exact q
 |cont=>exact q
theorem gK(h1:PS X st t):yb X [st] t:=by
 intro pins s σ H D I h;refine wpAny_execs_cons (zf (h1 pins s σ H D I h) λf s1 q=>?_);cases f with
 |next=>exact wpAny_execs_nil q
 |ret v=>exact q
 |brk=>exact q
 |cont=>exact q
def zQt:TS:=λD σ H=>D.bk σ H
def YE:TS:=λD σ H=>D.ct σ H
theorem zO5:PS X (.Pass pos) zQo:=λ_ _ σ H _ I h=>wpAny_Pass ⟨σ,H,I,h⟩
theorem zMa:PS X (.Break pos) zQt:=λ_ _ σ H _ I h=>wpAny_Break ⟨σ,H,I,h⟩
theorem zGq:PS X (.Continue pos) YE:=λ_ _ σ H _ I h=>wpAny_Continue ⟨σ,H,I,h⟩
theorem zB.quiet{σ:St}(I:zB X pins σ H s):interactive X.env=false:=by simp[interactive,I.ok.kind]
def zQr(te:TE):TS:=λD σ H=>te σ H λ_ H1=>D.nx σ H1
theorem QW(he:PE X e te)(hs:swapsWith e none pos.line X.env=pure false:=by rfl):PS X (.Expr e pos) (zQr te):=by intro pins s σ H D I h;exact wpAny_Expr_any (zf (he pins s σ H _ I h) λv s1 ⟨x,H1,I1,r1,q1⟩=>⟨σ,H1,I1,q1⟩) I.quiet hs
def QX(te:TE):TS:=λD σ H=>te σ H D.rt
theorem zNx(he:PE X e te):PS X (.Return (some e) pos) (QX te):=by intro pins s σ H D I h;exact wpAny_Return_some (zf (he pins s σ H _ I h) λv s1 ⟨x,H1,I1,r1,q1⟩=>⟨x,σ,H1,I1,r1,q1⟩)
def QY(c:TT)(t u:TS):TS:=λD σ H=>c σ H λb H1=>if b=true then t D σ H1 else u D σ H1
theorem zRR(hc:PT X c tc)(ha:yb X a t)(hb:yb X b u):PS X (.If c a b pos) (QY tc t u):=by
 intro pins s σ H D I h;refine wpAny_If (zf (hc pins s σ H _ I h) λd s1 ⟨H1,I1,q1⟩=>?_);cases d with
 |true=>exact ha pins s1 σ H1 D I1 q1
 |false=>exact hb pins s1 σ H1 D I1 q1
def zQp:TS:=λ_ _ _=>False
theorem zMZ:PS X st zQp:=λ_ _ _ _ _ _ h=>h.elim
end
abbrev TG:=V->St->Hp->(St->Hp->Prop)->Prop
abbrev u3:=List V->St->Hp->(St->Hp->Prop)->Prop
def PG(X:Cx)(target:Expr)(t:TG):Prop:=
 ∀(pins:List (Addr×Obj))(s:Shared)(σ:St)(H:Hp)(v:V)(u:Value)(Q:St->Hp->Prop),zB X pins σ H s->zM v u->t v σ H Q->
  wpAny (model X.prog X.w) X.A (assign target X.env u) (λ_ s'=>∃σ' H',zB X pins σ' H' s'/\Q σ' H') X.xe s
def ZG(X:Cx)(ts:List Expr)(t:u3):Prop:=
 ∀(pins:List (Addr×Obj))(s:Shared)(σ:St)(H:Hp)(vs:List V)(us:List Value)(Q:St->Hp->Prop),zB X pins σ H s->zC vs us->t vs σ H Q->
  wpAny (model X.prog X.w) X.A (assignInOrder ((assignEach ts X.env).map (·.2)) us) (λ_ s'=>∃σ' H',zB X pins σ' H' s'/\Q σ' H') X.xe s
abbrev gL:=V->V->V->Hp->(Hp->Prop)->Prop
def gM(X:Cx)(t:gL):Prop:=
 ∀(pins:List (Addr×Obj))(s:Shared)(σ:St)(H:Hp)(o i v:V)(ov iv u:Value)(Q:Hp->Prop),zB X pins σ H s->zM o ov->zM i iv->zM v u->t o i v H Q->
  wpAny (model X.prog X.w) X.A (setItem ov iv u) (λ_ s'=>∃H',zB X pins σ H' s'/\Q H') X.xe s
section
variable{X:Cx}{pos:Pos}
def gN(i:Nat):TG:=λv σ H Q=>Q (σ.set i (some v)) H
theorem jg{i:Nat}{x:Str}(hN:X.N.Nodup)(hi:X.N[i]? =some x)(hx:uM X.env.scope x)(hf:X.fn x=true\/X.env.scope.names.lookup x=some .local:=by first|exact .inl rfl|exact .inr rfl|assumption):PG X (.Name x pos) (gN i):=by intro pins s σ H v u Q I r h;exact wpAny_assign_Name (zHb I hN hi hx r (λs' I'=>⟨_,H,I',h⟩) hf)
def YF:u3:=λvs σ H Q=>vs=[]/\Q σ H
def zSU(t:TG)(u:u3):u3:=λvs σ H Q=>∃v r,vs=v::r/\t v σ H λσ' H'=>u r σ' H' Q
theorem zKC:ZG X [] YF:=by intro pins s σ H vs us Q I r h;obtain⟨e,h⟩:=h;subst e;cases r;exact assignInOrder_nil ⟨σ,H,I,h⟩
theorem gO{e:Expr}{es:List Expr}{t:TG}{u:u3}(h1:PG X e t)(h2:ZG X es u)
  (hs:(assignEach (e::es) X.env).map (·.2)=assign e X.env::(assignEach es X.env).map (·.2):=by rfl):ZG X (e::es) (zSU t u):=by
 intro pins s σ H vs us Q I r h;obtain⟨v,vr,e1,h⟩:=h;subst e1;cases r with
 |cons r rr=>
  rw[hs];refine assignInOrder_cons (zf (h1 pins s σ H _ _ _ I r h) λ_ s1 ⟨σ1,H1,I1,q1⟩=>?_);exact h2 pins s1 σ1 H1 _ _ Q I1 rr q1
def YG(K:aH)(n:Nat)(t:u3):TG:=λv σ H Q=>∃a xs,v=.ref a/\yZ K H a xs/\xs.length=n/\t xs σ H Q
theorem zN0{es:List Expr}{k:Nat}{t:u3}{n:Nat}(hc:X.calm=true)(h:ZG X es t)
  (hn:(assignEach es X.env).length=n:=by rfl) (hst:(assignEach es X.env).findIdx? (·.1)=none:=by rfl):PG X (.Tuple es k pos) (YG X.K n t):=by
 intro pins s σ H v u Q I r hw;obtain⟨a,xs,e1,hq,hl,hw⟩:=hw;subst e1;cases r;obtain⟨its,rv,ht,hz⟩:=I.tuple hq;refine assign_Tuple_tuple (I.ok.hd hc) ht (by simp[hn,<- hl,rv.length]) hst λh' hx=>?_;have I1:zB X pins σ H {s with heap:=h'}:=I.kept (t':=s.toks) λb o e=>hx b o (bK (aX e)) e;exact h pins _ σ H xs _ Q I1 (by simpa using rv) hw
def gQ(to ti:TE)(t:gL):TG:=λv σ H Q=>to σ H λo H1=>ti σ H1 λi H2=>t o i v H2 λH3=>Q σ H3
theorem Uq{o i:Expr}{to ti:TE}{t:gL}(ho:PE X o to)(hi:PE X i ti)(hs:gM X t)
  (ha:∀v,assign (.Subscript o i pos) X.env v=(do
   let ov <- holding [v] (eval o X.env)
   let iv <- holding [v,ov] (eval i X.env)
   standAt pos
   holding [v,ov,iv] (setItem ov iv v)
   release [v,ov,iv] []):=by intro _;rfl):PG X (.Subscript o i pos) (gQ to ti t):=by
 intro pins s σ H v u Q I r h;rw[ha];refine wpAny_bind (wpAny_holding (zf (ho pins s σ H _ I h) λov s1 ⟨x,H1,I1,r1,q1⟩=>?_));refine wpAny_bind (wpAny_holding (zf (hi pins s1 σ H1 _ I1 q1) λiv s2 ⟨y,H2,I2,r2,q2⟩=>?_));refine wpAny_bind (wpAny_standAt (wpAny_bind (wpAny_holding (zf (hs pins s2 σ H2 x y v ov iv u _ I2 r1 r2 r q2) λ_ s3 ⟨H3,I3,q3⟩=>?_))));exact wpAny_release ⟨σ,H3,I3,q3⟩
def wf(te:TE)(g:TG):TS:=λD σ H=>te σ H λx H1=>g x σ H1 D.nx
theorem gR{tg e:Expr}{te:TE}{g:TG}(he:PE X e te)(hg:PG X tg g)(hs:swapsWithSole [tg] e pos.line X.env=pure false:=by rfl)(hw:swappedStores [tg] e X.env=pure none:=by rfl)
  (h1:(assignEach [tg] X.env).map (·.2)=[assign tg X.env]:=by rfl):PS X (.Assign [tg] e pos) (wf te g):=by
 intro pins s σ H D I h;refine wpAny_Assign_stores (zf (he pins s σ H _ I h) λv s1 ⟨x,H1,I1,r1,q1⟩=>?_) hs hw;rw[h1];exact zf (hg pins s1 σ H1 x v _ I1 r1 q1) λ_ s2 q=>q
theorem Ur{i:Nat}{x:Str}{e:Expr}{te:TE}{pos':Pos}(hN:X.N.Nodup)(hi:X.N[i]? =some x)(hx:uM X.env.scope x)(he:PE X e te)(hs:swapsWith e (some (.Name x pos')) pos.line X.env=pure false:=by rfl)(hf:X.fn x=true\/X.env.scope.names.lookup x=some .local:=by first|exact .inl rfl|exact .inr rfl|assumption):
  PS X (.Assign [.Name x pos'] e pos) (wf te (gN i)):=by
 intro pins s σ H D I h;refine wpAny_Assign_Name (zf (he pins s σ H _ I h) λv s1 ⟨y,H1,I1,r1,q1⟩=>?_) hs;exact zHb I1 hN hi hx r1 (λs2 I2=>⟨_,H1,I2,q1⟩) hf
end
section
variable{X:Cx}{pos:Pos}
def zQn(c:TT)(tb:TS):TS:=λD σ H=>∃W:Nat->St->Hp->Prop,(∃m,W m σ H)/\∀m σ H,W m σ H->
 c σ H λb H1=>if b=true then∃N:St->Hp->Prop,(∀σ' H',N σ' H'->∃m',m'<m/\W m' σ' H')/\tb {D with nx:=N,ct:=N,bk:=D.nx} σ H1 else D.nx σ H1
theorem zMY(hp:PassesOwn (model X.prog X.w) X.A X.env X.xe)(hc:PT X c tc)(hb:yb X body tb):PS X (.While c body [] pos) (zQn tc tb):=by
 intro pins s σ H D I h;obtain⟨W,⟨m0,w0⟩,turn⟩:=h;refine wpAny_While (codeAny_whileLoop (λn s'=>∃σ' H',zB X pins σ' H' s'/\W n σ' H') ?_ m0 ⟨σ,H,I,w0⟩);rintro n s1 ⟨σ1,H1,I1,w1⟩;refine wpAny_passesOwn hp (zf (hc pins s1 σ1 H1 _ I1 (turn n σ1 H1 w1)) λb s2 ⟨H2,I2,q2⟩=>?_);cases b with
 |true=>
  obtain⟨N,hN,q2⟩:=q2;rw[if_pos rfl];refine wpAny_passesOwn hp (zf (hb pins s2 σ1 H2 _ I2 q2) λf s3 q3=>?_);cases f with
  |next=>
   obtain⟨σ3,H3,I3,n3⟩:=q3;obtain⟨m',hm,w3⟩:=hN σ3 H3 n3;exact⟨m',hm,σ3,H3,I3,w3⟩
  |cont=>
   obtain⟨σ3,H3,I3,n3⟩:=q3;obtain⟨m',hm,w3⟩:=hN σ3 H3 n3;exact⟨m',hm,σ3,H3,I3,w3⟩
  |brk=>exact q3
  |ret v=>exact q3
 |false=>
  rw[if_neg bL];exact wpAny_execs_nil ⟨σ1,H2,I2,q2⟩
end
structure It where
 go:Nat->Hp->Prop
 yld:Nat->Hp->V->Hp->Prop
 stop:Nat->Hp->Prop
def yP(X:Cx)(pins:List (Addr×Obj))(H:Hp)(b:Addr):Prop:=H b=none/\b≠X.env.locals/\b∉X.fs/\(b∈X.ex\/X.s₀.heap.objs.size<=b)/\(∀x c,X.env.cells.lookup x=some c->c≠b)/\∀p∈X.pn++pins,p.1≠b
theorem zB.fpOk{σ:St}{b:Addr}(I:zB X pins σ H s)(hb:s.heap.objs.size<=b)(hn:H' b=none):yP X pins H' b:=by
 refine⟨hn,eC (a9 I.lt hb),I.nofs hb,.inr (bI I.sz hb),λx c e z=>?_,λp hp z=>?_⟩
 ·obtain⟨v,q⟩:=I.cell x c e;exact absurd (a9 q.lt (by rw[z];exact hb)) (bU _)
 ·exact absurd (a9 (aX (I.pin p hp).1) (by rw[z];exact hb)) (bU _)
structure w4(P:Program)(w:World)(K:aH)(tg:Expr)(J:It)(fp:List Addr)(it:Addr)(tn:Nat->Heap->Prop):Prop where
 mem:it∈fp
 obj:∀i h,tn i h->∀b∈fp,∃o,h.get? b=some o/\∀v,o.data≠.cell v
 keep:∀i h h',tn i h->(∀b∈fp,∀o,h.get? b=some o->h'.get? b=some o)->tn i h'
 item:∀(X:Cx),X.prog=P->X.w=w->X.K=K->X.calm=true->∀(i:Nat)(pins:List (Addr×Obj))(s:Shared)(σ:St)(H:Hp)(E:Value->Shared->Prop),zB X pins σ H s->(∀b∈fp,yP X pins H b)->tn i s.heap->J.go i H->
  wpAny (model P w) X.A (pyNext (.ref it)) (λr s1=>∃u,r=some u∧
   wpAny (model P w) X.A (letOwnedTupleGo tg (.ref it) u) (λ_ s2=>∃x H',zB X pins σ H' s2/\zM x u/\J.yld i H x H'/\tn (i+1) s2.heap/\∀b∈fp,H' b=none) E s1) E s
 done:∀(X:Cx),X.prog=P->X.w=w->X.K=K->X.calm=true->∀(i:Nat)(pins:List (Addr×Obj))(s:Shared)(σ:St)(H:Hp)(E:Value->Shared->Prop),zB X pins σ H s->(∀b∈fp,yP X pins H b)->tn i s.heap->J.stop i H->
  wpAny (model P w) X.A (pyNext (.ref it)) (λr s1=>r=none/\zB X pins σ H s1) E s
 self:∀(A:Around)(i:Nat)(s:Shared)(Q:Value->Shared->Prop)(E:Value->Shared->Prop),tn i s.heap->Q (.ref it) s->wpAny (model P w) A (pyIter (.ref it)) Q E s
abbrev TI:=St->Hp->(It->Hp->Prop)->Prop
def PIE(X:Cx)(pins:List (Addr×Obj))(σ:St)(tg:Expr)(R:It->Hp->Prop)(itv:Value)(s2:Shared):Prop:=∃(it:Addr)(fp:List Addr)(tn:Nat->Heap->Prop)(J:It)(H':Hp),itv=.ref it/\zB X pins σ H' s2/\w4 X.prog X.w X.K tg J fp it tn/\tn 0 s2.heap/\(∀b∈fp,yP X pins H' b)/\R J H'
def PI(X:Cx)(tg iter:Expr)(wi:TI):Prop:=
 ∀(pins:List (Addr×Obj))(s:Shared)(σ:St)(H:Hp)(R:It->Hp->Prop),zB X pins σ H s->wi σ H R->
  wpAny (model X.prog X.w) X.A (eval iter X.env) (λv s1=>wpAny (model X.prog X.w) X.A (pyIter v) (PIE X pins σ tg R) X.xe s1) X.xe s
theorem QZ(ho:s.heap.get? it=some o)(hc:o.cls=.type n)(hd:o.data=.fields vs)
  (hn:["enumerate","zip","dict_itemiterator","dict_reverseitemiterator","odict_iterator","itertools.zip_longest","itertools.pairwise"].contains n=false) (hQ:Q () s):wpAny M A (letOwnedTupleGo tg (.ref it) u) Q E s:=by
 unfold letOwnedTupleGo
 cases tg <;> first
  |exact wpAny_pure hQ
  | (cases u <;> first
    |exact wpAny_pure hQ
    | (refine wpAny_bind (wpAny_load ho ?_)
       rw[hc,hd];show wpAny M A (if(["enumerate","zip","dict_itemiterator","dict_reverseitemiterator","odict_iterator","itertools.zip_longest","itertools.pairwise"].contains n&&vs[0]? ==some (rawInt _))=true then _ else _) Q E s;rw[if_neg (by intro h;rw[hn,iB]at h;cases h)];exact wpAny_pure hQ))
noncomputable def gU(K:aH)(a:Addr):It:=⟨λi H=>∃xs x,zW K H a xs/\xs[i]? =some x,λi H x H'=>H'=H/\∀xs,zW K H a xs->xs[i]? =some x,λi H=>∃xs,zW K H a xs/\xs.length<=i⟩
noncomputable def Qa(K:aH)(a:Addr):It:=⟨λi H=>∃xs x,yZ K H a xs/\xs[i]? =some x,λi H x H'=>H'=H/\∀xs,yZ K H a xs->xs[i]? =some x,λi H=>∃xs,yZ K H a xs/\xs.length<=i⟩
noncomputable def YH(lo:Int)(n:Nat):It:=⟨λi _=>i<n,λi H x H'=>H'=H/\x=.int (lo+i),λi _=>n<=i⟩
theorem zFl{K:aH}(a it):w4 P w K tg (gU K a) [it] it (λi h=>h.IsListIter it a i) where
 mem:=by simp
 obj:=λi h st b hb=>by
  have e:b=it:=by simpa using hb
  subst e;obtain⟨o,e,c,d⟩:=st;exact⟨o,e,λv z=>by rw[d]at z;cases z⟩
 keep:=λi h h' st k=>st.at λo e=>k it (by simp) o e
 item:=by intro X hP hw hK hc i pins s σ H E I hf st hg;subst hP hw hK;obtain⟨xs,x,hq,hx⟩:=hg;obtain⟨its,rv,p,hz⟩:=I.list hq;obtain⟨u,hu,ru⟩:=rv.get hx;obtain⟨f0,f1,f2,f3,f4,f5⟩:=hf it (by simp);refine wpAny_pyNext_list_item st p.isList (x:=u) (by simpa using hu) λh' st' sb=>?_;have I1:zB X pins σ H {s with heap:=h'}:=I.turned (t':=s.toks) (λb o hb e=>(sb.2 b hb).trans e) f0 f1 f3 f4 f5;obtain⟨o,e,c,d⟩:=id st';exact⟨u,rfl,QZ (s:={s with heap:=h'}) e c d (by decide) ⟨x,H,I1,ru,⟨rfl,λys hy=>by rw[I.list_inj hy hq];exact hx⟩,st',λb hb=>(hf b hb).1⟩⟩
 done:=by intro X hP hw hK hc i pins s σ H E I hf st hg;subst hP hw hK;obtain⟨xs,hq,hx⟩:=hg;obtain⟨its,rv,p,hz⟩:=I.list hq;obtain⟨f0,f1,f2,f3,f4,f5⟩:=hf it (by simp);have hl:=rv.length;exact wpAny_pyNext_list_end (I.ok.hd hc) st p.isList (by simp;omega) λh' eb=>⟨rfl,I.turned (t':=s.toks) (λb o hb e=>eb b o hb e) f0 f1 f3 f4 f5⟩
 self:=λ_ _ _ _ _ st h=>wpAny_pyIter_listiter st h
theorem zIc{K:aH}(a it):w4 P w K tg (Qa K a) [it] it (λi h=>h.IsTupleIter it a i) where
 mem:=by simp
 obj:=λi h st b hb=>by
  have e:b=it:=by simpa using hb
  subst e;obtain⟨o,e,c,d⟩:=st;exact⟨o,e,λv z=>by rw[d]at z;cases z⟩
 keep:=λi h h' st k=>st.at λo e=>k it (by simp) o e
 item:=by intro X hP hw hK hc i pins s σ H E I hf st hg;subst hP hw hK;obtain⟨xs,x,hq,hx⟩:=hg;obtain⟨its,rv,p,hz⟩:=I.tuple hq;obtain⟨u,hu,ru⟩:=rv.get hx;obtain⟨f0,f1,f2,f3,f4,f5⟩:=hf it (by simp);refine wpAny_pyNext_tuple_item st (show s.heap.IsTuple a its.toArray from p) (x:=u) (by simpa using hu) λh' st' sb=>?_;have I1:zB X pins σ H {s with heap:=h'}:=I.turned (t':=s.toks) (λb o hb e=>(sb.2 b hb).trans e) f0 f1 f3 f4 f5;obtain⟨o,e,c,d⟩:=id st';exact⟨u,rfl,QZ (s:={s with heap:=h'}) e c d (by decide) ⟨x,H,I1,ru,⟨rfl,λys hy=>by rw[I.tuple_inj hy hq];exact hx⟩,st',λb hb=>(hf b hb).1⟩⟩
 done:=by intro X hP hw hK hc i pins s σ H E I hf st hg;subst hP hw hK;obtain⟨xs,hq,hx⟩:=hg;obtain⟨its,rv,p,hz⟩:=I.tuple hq;obtain⟨f0,f1,f2,f3,f4,f5⟩:=hf it (by simp);have hl:=rv.length;exact wpAny_pyNext_tuple_end (I.ok.hd hc) st (show s.heap.IsTuple a its.toArray from p) (by simp;omega) λh' eb=>⟨rfl,I.turned (t':=s.toks) (λb o hb e=>eb b o hb e) f0 f1 f3 f4 f5⟩
 self:=λ_ _ _ _ _ st h=>wpAny_pyIter_tupleiter st h
theorem zIe{K:aH}(it)(lo)(n):w4 P w K tg (YH lo n) [it] it (λi h=>IsRangeIter h it (lo+(i:Nat)*1) ((n:Int)-(i:Nat)) 1) where
 mem:=by simp
 obj:=λi h st b hb=>by
  have e:b=it:=by simpa using hb
  subst e
  exact⟨_,st,λv z=>by have z':Data.fields _=Data.cell v:=z;cases z'⟩
 keep:=λi h h' st k=>k it (by simp) _ st
 item:=by intro X hP hw hK hc i pins s σ H E I hf st hg;subst hP hw hK;obtain⟨f0,f1,f2,f3,f4,f5⟩:=hf it (by simp);have W:=Walks.range (prog:=X.prog) (w:=X.w) (I.ok.hd hc) it lo 1 n;refine W.item i s _ _ hg st λv h' tk hv st' kk=>?_;obtain⟨t,rfl⟩:=hv;have I1:zB X pins σ H {s with heap:=h',toks:=tk}:=I.turned (λb o hb e=>kk b o (by simpa using hb) e) f0 f1 f3 f4 f5;refine⟨_,rfl,QZ (s:={s with heap:=h',toks:=tk}) (n:="range_iterator") st' rfl rfl (by decide) ⟨.int (lo+i),H,I1,⟨t,?_⟩,⟨rfl,rfl⟩,st',λb hb=>(hf b hb).1⟩⟩;rw[Int.mul_one]
 done:=by intro X hP hw hK hc i pins s σ H E I hf st hg;subst hP hw hK;obtain⟨f0,f1,f2,f3,f4,f5⟩:=hf it (by simp);exact wpAny_pyNext_range_end (I.ok.hd hc) st (by have:n<=i:=hg;omega) λh' eb=>⟨rfl,I.turned (t':=s.toks) (λb o hb e=>eb b o hb e) f0 f1 f3 f4 f5⟩
 self:=λ_ _ _ _ _ st h=>wpAny_pyIter_rangeiter st h
section
variable{X:Cx}{tg:Expr}
def zSN(K:aH)(tl:TE):TI:=λσ H R=>tl σ H λx H1=>∃a,x=.ref a/\(∃xs,zW K H1 a xs)/\R (gU K a) H1
theorem Qb(hl:PE X l tl):PI X tg l (zSN X.K tl):=by
 intro pins s σ H R I h;refine zf (hl pins s σ H _ I h) λv s1 ⟨x,H1,I1,r1,q1⟩=>?_;obtain⟨a,e,⟨xs,hq⟩,q⟩:=q1;subst e;cases r1;obtain⟨its,rv,p,hz⟩:=I1.list hq;refine wpAny_pyIter_list p.isList ?_;refine⟨s1.heap.objs.size,[s1.heap.objs.size],_,_,H1,rfl,I1.kept (t':=s1.toks) λb o e=>aO _ e,zFl a _,⟨_,a_ _ rfl,rfl,rfl⟩,λb hb=>?_,q⟩;have e:b=s1.heap.objs.size:=by simpa using hb
 subst e;exact I1.fpOk (aJ _) (I1.hok.fresh (aJ _))
theorem zHh{σ:St}{lo hi:Int}(I:zB X pins σ H s)(h1:-(2^62)<=lo)(h2:lo<2^62)(h3:-(2^62)<=hi)(h4:hi<2^62)
  (q:R (YH lo (hi-lo).toNat) H):wpAny (model X.prog X.w) X.A (pyIter (.ref s.heap.objs.size)) (PIE X pins σ tg R) E {s with heap:=s.heap.push {cls:=.type "range",data:=.fields #[.int lo t,.int hi u,.int 1 v]},toks:=tk}:=by
 refine wpAny_pyIter_range (IsRange.new ..) (small_one h1 h2 h3 h4) ?_;have I1:zB X pins σ H {s with heap:=s.heap.push {cls:=.type "range",data:=.fields #[.int lo t,.int hi u,.int 1 v]},toks:=tk}:=I.kept λb o e=>aO _ e
 refine⟨(s.heap.push {cls:=.type "range",data:=.fields #[.int lo t,.int hi u,.int 1 v]}).objs.size,[(s.heap.push {cls:=.type "range",data:=.fields #[.int lo t,.int hi u,.int 1 v]}).objs.size],_,_,H,rfl,
  I1.kept (t':=tk) λb o e=>aO _ e,zIe _ lo (hi-lo).toNat,?_,λb hb=>?_,q⟩
 ·have e1:lo+((0:Nat):Int)*1=lo:=by simp
  have e2:(((hi-lo).toNat:Nat):Int)-((0:Nat):Int)=Builtin.Range.rangeSize lo hi 1:=by rw[rangeSize_one];split<;> omega
  show IsRangeIter _ _ (lo+((0:Nat):Int)*1) ((((hi-lo).toNat:Nat):Int)-((0:Nat):Int)) 1;rw[e1,e2];exact a_ _ rfl
 ·have e:b=(s.heap.push {cls:=.type "range",data:=.fields #[.int lo t,.int hi u,.int 1 v]}).objs.size:=by simpa using hb
  subst e;exact I1.fpOk (aJ _) (I1.hok.fresh (aJ _))
def YI(ta:TA):TI:=λσ H R=>ta σ H λvs H1=>∃j:Int,vs=[.int j]/\-(2^62)<=j/\j<2^62/\R (YH 0 j.toNat) H1
def YJ(ta:TA):TI:=λσ H R=>ta σ H λvs H1=>∃i j:Int,vs=[.int i,.int j]/\(-(2^62)<=i/\i<2^62/\-(2^62)<=j/\j<2^62)/\R (YH i (j-i).toNat) H1
theorem zKB{a:Expr}{ta:TA}{p pos:Pos}(hg:Gl X "range")(hm:X.mg "range"=none)(ha:PA X [a] ta)(hs:starEach [a] X.env=[(false,eval a X.env)]:=by rfl):PI X tg (.Call (.Name "range" p) [a] [] pos) (YI ta):=by
 intro pins s σ H R I h;refine Call_ (j5 I hg hm boot_range (PyProof.Rows.callWith_type1 (zf (ha pos pins s σ H _ I h) λus s1 ⟨vs,H1,I1,r1,q1⟩=>?_) hs rfl));obtain⟨j,e,q1,q2,q⟩:=q1;subst e;cases r1 with
 |cons r rr=>
  cases rr;obtain⟨t,rfl⟩:=r;exact call_range_1 (zHh I1 (by omega) (by omega) q1 q2 (by simpa using q))
theorem zKA{a b:Expr}{ta:TA}{p pos:Pos}(hg:Gl X "range")(hm:X.mg "range"=none)(ha:PA X [a,b] ta)(hs:starEach [a,b] X.env=[(false,eval a X.env),(false,eval b X.env)]:=by rfl)(hs2:starEach [b] X.env=[(false,eval b X.env)]:=by rfl):
  PI X tg (.Call (.Name "range" p) [a,b] [] pos) (YJ ta):=by
 intro pins s σ H R I h;refine Call_ (j5 I hg hm boot_range (PyProof.Rows.callWith_type1 (zf (ha pos pins s σ H _ I h) λus s1 ⟨vs,H1,I1,r1,q1⟩=>?_) (by rw[hs,hs2]) (by rw[hs2];rfl)));obtain⟨i,j,e,⟨q1,q2,q3,q4⟩,q⟩:=q1;subst e;cases r1 with
 |cons r rr=>
  cases rr with
  |cons r' rr=>
   cases rr;obtain⟨t,rfl⟩:=r;obtain⟨t',rfl⟩:=r';exact call_range_2 (zHh I1 q1 q2 q3 q4 q)
def YK(wi:TI)(g:TG)(tb:TS):TS:=λD σ H=>wi σ H λJ H1=>∃W:Nat->Nat->St->Hp->Prop,(∃m,W 0 m σ H1)/\∀i m σ H,W i m σ H->
 (J.stop i H/\D.nx σ H)\/(J.go i H/\∃N:St->Hp->Prop,(∀σ' H',N σ' H'->∃m',m'<m/\W (i+1) m' σ' H')/\∀x H',J.yld i H x H'->g x σ H' λσ2 H2=>tb {D with nx:=N,ct:=N,bk:=D.nx} σ2 H2)
noncomputable def YL(fp:List Addr)(h:Heap):List (Addr×Obj):=fp.filterMap λb=>(h.get? b).map λo=>(b,o)
theorem ZH(hb:b∈fp)(e:h.get? b=some o):(b,o)∈YL fp h:=iK.mpr ⟨b,hb,by rw[e];rfl⟩
theorem zKg(hp:p∈YL fp h):p.1∈fp/\h.get? p.1=some p.2:=by
 obtain⟨b,hb,e⟩:=iK.mp hp;cases q:h.get? b with
 |none=>rw[q]at e;cases e
 |some o=>
  rw[q]at e;have e':(b,o)=p:=Option.some.inj e;subst e';exact⟨hb,q⟩
theorem zB.pinned{σ:St}(I:zB X pins σ H s)(hf:∀b∈fp,yP X pins H b)(ho:∀b∈fp,∃o,s.heap.get? b=some o/\∀v,o.data≠.cell v):zB X (pins++YL fp s.heap) σ H s:=
 I.pins_of λp hp=>(be.mp hp).elim (λz=>I.pin p (aU _ z)) λz=>by obtain⟨hb,e⟩:=zKg z;obtain⟨f0,f1,f2,_⟩:=hf p.1 hb;obtain⟨o,e',d⟩:=ho p.1 hb;rw[e]at e';cases e';exact⟨e,f0,f1,f2,d⟩
theorem zB.unpinned{σ:St}(I:zB X (pins++pl) σ H s):zB X pins σ H s:=I.pins_of λp hp=>I.pin p (aU _ (cQ _ hp))
theorem Us{iter:Expr}{body:List Stmt}{wi:TI}{g:TG}{tb:TS}{pos:Pos}(hp:PassesOwn (model X.prog X.w) X.A X.env X.xe)(hc:X.calm=true)(hi:PI X tg iter wi)(hg:PG X tg g)(hb:yb X body tb)
  (hs:∀x,foldedSetIterable iter X.env x=pure x:=by intro _;rfl):PS X (.For tg iter body [] pos) (YK wi g tb):=by
 intro pins s σ H D I h;refine wpAny_For (zf (hi pins s σ H _ I h) λv s1 h1=>zf h1 λitv s2 h2=>?_) hs;obtain⟨it,fp,tn,J,H2,e,I2,T,st2,f2,W,⟨m0,w0⟩,turn⟩:=h2;subst e;have stat:∀{H':Hp},(∀b∈fp,H' b=none)->∀b∈fp,yP X pins H' b:=λhn b hb=>⟨hn b hb,(f2 b hb).2⟩
 refine codeAny_forLoop_any (λn s'=>∃i σ' H',zB X pins σ' H' s'/\tn i s'.heap/\(∀b∈fp,H' b=none)/\W i n σ' H') ?_ m0 ⟨0,σ,H2,I2,st2,λb hb=>(f2 b hb).1,w0⟩;rintro n s3 ⟨i,σ3,H3,I3,st3,fr3,w3⟩;rcases turn i n σ3 H3 w3 with⟨stop,qn⟩|⟨go,N,hN,step⟩
 ·refine wpAny_passesOwn hp (zf (T.done X rfl rfl rfl hc i pins s3 σ3 H3 X.xe I3 (stat fr3) st3 stop) λr s4 ⟨hr,I4⟩=>?_);subst hr;exact wpAny_execs_nil ⟨σ3,H3,I4,qn⟩
 ·refine wpAny_passesOwn hp (zf (T.item X rfl rfl rfl hc i pins s3 σ3 H3 X.xe I3 (stat fr3) st3 go) λr s4 ⟨u,hr,h4⟩=>?_);subst hr;refine wpAny_passesOwn hp (zf h4 λ_ s5 ⟨x,H5,I5,r5,y5,st5,fr5⟩=>?_);have I5':=I5.pinned (stat fr5) (T.obj _ _ st5);refine wpAny_passesOwn hp (zf (hg _ s5 σ3 H5 x u _ I5' r5 (step x H5 y5)) λ_ s6 ⟨σ6,H6,I6,q6⟩=>?_);refine wpAny_passesOwn hp (zf (hb _ s6 σ6 H6 _ I6 q6) λf s7 q7=>?_)
  have again:∀{σ7:St}{H7:Hp},zB X (pins++YL fp s5.heap) σ7 H7 s7->N σ7 H7->∃m,m<n/\∃i σ' H',zB X pins σ' H' s7/\tn i s7.heap/\(∀b∈fp,H' b=none)/\W i m σ' H':=λ{σ7 H7} I7 n7=>by obtain⟨m',hm,w7⟩:=hN σ7 H7 n7;refine⟨m',hm,i+1,σ7,H7,I7.unpinned,T.keep _ _ _ st5 λb hb o e=>(I7.pin (b,o) (aU _ (aU _ (ZH hb e)))).1,λb hb=>?_,w7⟩;obtain⟨o,e,d⟩:=T.obj _ _ st5 b hb;exact(I7.pin (b,o) (aU _ (aU _ (ZH hb e)))).2.1
  cases f with
  |next=>obtain⟨σ7,H7,I7,n7⟩:=q7;exact again I7 n7
  |cont=>obtain⟨σ7,H7,I7,n7⟩:=q7;exact again I7 n7
  |brk=>obtain⟨σ7,H7,I7,q7⟩:=q7;exact⟨σ7,H7,I7.unpinned,q7⟩
  |ret v=>obtain⟨x7,σ7,H7,I7,r7,q7⟩:=q7;exact⟨x7,σ7,H7,I7.unpinned,r7,q7⟩
end
theorem zID{K:aH}{g:TG}{tb:TS}{D:uN}(Pv:Nat->St->Hp->Prop)(h0:Pv 0 σ H)(hl:∀i σ H,i<=xs.length->Pv i σ H->zW K H a xs)
  (hs:∀i x σ H,xs[i]? =some x->Pv i σ H->g x σ H λσ2 H2=>tb {D with nx:=Pv (i+1),ct:=Pv (i+1),bk:=D.nx} σ2 H2) (hd:∀σ H,Pv xs.length σ H->D.nx σ H):
  ∃W:Nat->Nat->St->Hp->Prop,(∃m,W 0 m σ H)/\∀i m σ H,W i m σ H->
   ((gU K a).stop i H/\D.nx σ H)\/((gU K a).go i H/\∃N,(∀σ' H',N σ' H'->∃m',m'<m/\W (i+1) m' σ' H')/\∀x H',(gU K a).yld i H x H'->g x σ H' λσ2 H2=>tb {D with nx:=N,ct:=N,bk:=D.nx} σ2 H2):=by
 refine⟨λi m σ H=>m=xs.length-i/\i<=xs.length/\Pv i σ H,⟨xs.length,by simp,eV _,h0⟩,?_⟩;rintro i m σ H ⟨rfl,hi,p⟩;have q:=hl i σ H hi p;by_cases hlt:i<xs.length
 ·refine .inr ⟨⟨xs,xs[i],q,by simp[hlt]⟩,Pv (i+1),λσ' H' p'=>⟨xs.length-(i+1),by omega,rfl,hlt,p'⟩,λx H' y=>?_⟩;obtain⟨e,y⟩:=y;subst e;exact hs i x σ _ (y xs q) p
 ·have e:i=xs.length:=by omega
  subst e;exact .inl ⟨⟨xs,q,aJ _⟩,hd σ H p⟩
abbrev R2:=V->V->Hp->VK->Prop
def yV(X:Cx)(f:Value->Value->Sem Value)(r:R2):Prop:=
 ∀(pins:List (Addr×Obj))(s:Shared)(σ:St)(H:Hp)(x y:V)(v u:Value)(Q:VK),zB X pins σ H s->zM x v->zM y u->r x y H Q->
  wpAny (model X.prog X.w) X.A (f v u) (EP X pins σ Q) X.xe s
def Qc(X:Cx)(f:Value->Sem Value)(r:V->Hp->VK->Prop):Prop:=
 ∀(pins:List (Addr×Obj))(s:Shared)(σ:St)(H:Hp)(x:V)(v:Value)(Q:VK),zB X pins σ H s->zM x v->r x H Q->
  wpAny (model X.prog X.w) X.A (f v) (EP X pins σ Q) X.xe s
def wg(X:Cx)(f:Value)(r:List V->Hp->VK->Prop):Prop:=
 ∀(pins:List (Addr×Obj))(s:Shared)(σ:St)(H:Hp)(xs:List V)(us:List Value)(Q:VK),zB X pins σ H s->zC xs us->r xs H Q->
  wpAny (model X.prog X.w) X.A (call f us) (EP X pins σ Q) X.xe s
def ZI(r:R2)(ta tb:TE):TE:=λσ H Q=>ta σ H λx H1=>tb σ H1 λy H2=>r x y H2 Q
def tUn(r:V->Hp->VK->Prop)(ta:TE):TE:=λσ H Q=>ta σ H λx H1=>r x H1 Q
noncomputable def rI(C:Int->Int->Prop)(g:Int->Int->V):R2:=λx y H Q=>∃i j,x=.int i/\y=.int j/\C i j/\Q (g i j) H
def uf(g:Int->Int->V):R2:=λx y H Q=>∃i j,x=.int i/\y=.int j/\Q (g i j) H
def rU(g:Int->V):V->Hp->VK->Prop:=λx H Q=>∃i,x=.int i/\Q (g i) H
section
variable{X:Cx}{a b c:Expr}{ta tb tc:TE}{pos:Pos}
theorem gX(ha:PE X a ta)(hb:PE X b tb){σ:St}{R:V->V->Hp->Prop}(I:zB X pins σ H s)
  (h:ta σ H λx H1=>tb σ H1 λy H2=>R x y H2) {f:Value->Value->Sem Value}
  (hf:∀v u s2 x y H2,zB X pins σ H2 s2->zM x v->zM y u->R x y H2->wpAny (model X.prog X.w) X.A (f v u) Q X.xe s2):
  wpAny (model X.prog X.w) X.A (eval a X.env) (λv s₁=>wpAny (model X.prog X.w) X.A (eval b X.env) (λu s₂=>wpAny (model X.prog X.w) X.A (f v u) Q X.xe s₂) X.xe s₁) X.xe s:=by
 refine zf (ha pins s σ H _ I h) λv s1 ⟨x,H1,I1,r1,q1⟩=>?_;refine zf (hb pins s1 σ H1 _ I1 q1) λu s2 ⟨y,H2,I2,r2,q2⟩=>?_;exact hf v u s2 x y H2 I2 r1 r2 q2
theorem YM(ho:yV X (binaryOp op) r)(ha:PE X a ta)(hb:PE X b tb):PE X (.BinOp a op b pos) (ZI r ta tb):=by intro pins s σ H Q I h;exact wpAny_BinOp (gX ha hb I h λv u s2 x y H2 I2 rx ry q=>ho pins s2 σ H2 x y v u Q I2 rx ry q)
theorem zRX(ho:Qc X (unaryOp op) r)(ha:PE X a ta):PE X (.UnaryOp op a pos) (tUn r ta):=by intro pins s σ H Q I h;exact UnaryOp_ (zf (ha pins s σ H _ I h) λv s1 ⟨x,H1,I1,r1,q1⟩=>ho pins s1 σ H1 x v Q I1 r1 q1)
theorem Ut{g:Int->Int->Int}
  (rule:∀(i j:Int)(t u:Tok)(s:Shared)(Q:Value->Shared->Prop)(E:Value->Shared->Prop),C i j->Q (.int (g i j) s.toks) {s with toks:=s.toks+1}->wpAny (model X.prog X.w) X.A (f (.int i t) (.int j u)) Q E s):
  yV X f (rI C λi j=>.int (g i j)):=by
 intro pins s σ H x y v u Q I rx ry h;obtain⟨i,j,rfl,rfl,hc,q⟩:=h;obtain⟨t,rfl⟩:=rx;obtain⟨t',rfl⟩:=ry;exact rule i j t t' s _ _ hc ⟨.int (g i j),H,I.tok _,⟨_,rfl⟩,q⟩
theorem YN{g:Int->Int->Int}
  (rule:∀(i j:Int)(t u:Tok)(s:Shared)(Q:Value->Shared->Prop)(E:Value->Shared->Prop),Q (.int (g i j) s.toks) {s with toks:=s.toks+1}->wpAny (model X.prog X.w) X.A (f (.int i t) (.int j u)) Q E s):
  yV X f (uf λi j=>.int (g i j)):=by
 intro pins s σ H x y v u Q I rx ry h;obtain⟨i,j,rfl,rfl,q⟩:=h;obtain⟨t,rfl⟩:=rx;obtain⟨t',rfl⟩:=ry;exact rule i j t t' s _ _ ⟨.int (g i j),H,I.tok _,⟨_,rfl⟩,q⟩
theorem j6{g:Int->Int->Bool}
  (rule:∀(i j:Int)(t u:Tok)(s:Shared)(Q:Value->Shared->Prop)(E:Value->Shared->Prop),Q (.bool (g i j)) s->wpAny (model X.prog X.w) X.A (f (.int i t) (.int j u)) Q E s):
  yV X f (uf λi j=>.bl (g i j)):=by
 intro pins s σ H x y v u Q I rx ry h;obtain⟨i,j,rfl,rfl,q⟩:=h;obtain⟨t,rfl⟩:=rx;obtain⟨t',rfl⟩:=ry;exact rule i j t t' s _ _ ⟨.bl (g i j),H,I,rfl,q⟩
def gY(i j:Int):Prop:=0<=j/\j<=1000000/\i.natAbs<2^64
theorem zOC:yV X (binaryOp .Add) (uf λi j=>.int (i+j)):=YN λ_ _ _ _ _ _ _ q=>add_int q
theorem zN9:yV X (binaryOp .Sub) (uf λi j=>.int (i-j)):=YN λ_ _ _ _ _ _ _ q=>sub_int q
theorem zKW:yV X (binaryOp .Mod) (rI (λ_ j=>j≠0) λi j=>.int (i.fmod j)):=Ut λ_ _ _ _ _ _ _ hc q=>mod_int' hc q
theorem zRt:yV X (binaryOp .Pow) (rI gY λi j=>.int (i^j.toNat)):=Ut λ_ _ _ _ _ _ _ hc q=>pow_int_small hc.1 hc.2.1 hc.2.2 q
theorem unI{g:Int->Int}
  (rule:∀(i:Int)(t:Tok)(s:Shared)(Q:Value->Shared->Prop)(E:Value->Shared->Prop),Q (.int (g i) s.toks) {s with toks:=s.toks+1}->wpAny (model X.prog X.w) X.A (f (.int i t)) Q E s):
  Qc X f (rU λi=>.int (g i)):=by
 intro pins s σ H x v Q I rx h;obtain⟨i,rfl,q⟩:=h;obtain⟨t,rfl⟩:=rx;exact rule i t s _ _ ⟨.int (g i),H,I.tok _,⟨_,rfl⟩,q⟩
theorem zNk:Qc X (unaryOp .USub) (rU λi=>.int (-i)):=unI λ_ _ _ _ _ q=>neg_int q
end
noncomputable def YO:V->V->Bool
 | .non,.non=>true| .non,.int _=>true| .int _,.non=>true| .non,.bl _=>true| .bl _,.non=>true| .non,.str _=>true| .str _,.non=>true
 | .int _,.int _=>true| .bl _,.bl _=>true| .str _,.str _=>true| .byt _,.byt _=>true
 | .int _,.str _=>true| .str _,.int _=>true| .bl _,.str _=>true| .str _,.bl _=>true
 |_,_=>false
def rEq:R2:=λx y H Q=>YO x y=true/\Q (.bl (decide (x=y))) H
def rNe:R2:=λx y H Q=>YO x y=true/\Q (.bl (!decide (x=y))) H
theorem Uu:decide (V.int i=V.int j)=(i==j):=by rw[de];simp
theorem Uv:decide (V.bl i=V.bl j)=(i==j):=by rw[de];simp
theorem Uw:decide (V.str i=V.str j)=(i==j):=by rw[de];simp
theorem zLH:decide (V.byt i=V.byt j)=(i.toList==j.toList):=by rw[de];cases i;cases j;simp
section
variable{X:Cx}{a b c:Expr}{ta tb tc:TE}{pos:Pos}
theorem xA{σ:St}(I:zB X pins σ H s)(q:Q (.bl k) H)(e:k=k'):EP X pins σ Q (.bool k') s:=by subst e;exact⟨.bl k,H,I,rfl,q⟩
theorem Qd:yV X (compareOp .Eq) rEq:=by
 intro pins s σ H x y v u Q I rx ry h;obtain⟨hs,q⟩:=h;cases x with
 |non=>
  cases rx;cases y with
  |non=>cases ry;exact PySem.EqNone.eq_none_none (xA I q (by simp))
  |bl j=>cases ry;exact PySem.EqNone.eq_none_bool (xA I q (by simp))
  |int j=>obtain⟨t',rfl⟩:=ry;exact PySem.EqNone.eq_none_int (xA I q (by simp))
  |str j=>obtain⟨t',rfl⟩:=ry;exact PySem.EqNone.eq_none_str (xA I q (by simp))
  |_=>exact absurd (show false=true from hs) bL
 |bl i=>
  cases rx;cases y with
  |non=>cases ry;exact PySem.EqNone.eq_bool_none (xA I q (by simp))
  |bl j=>cases ry;exact eq_bool (xA I q Uv)
  |str j=>obtain⟨t',rfl⟩:=ry;exact PySem.EqMixed.eq_bool_str (xA I q (by simp))
  |_=>exact absurd (show false=true from hs) bL
 |int i=>
  obtain⟨t,rfl⟩:=rx;cases y with
  |non=>cases ry;exact PySem.EqNone.eq_int_none (xA I q (by simp))
  |int j=>obtain⟨t',rfl⟩:=ry;exact eq_int (xA I q Uu)
  |str j=>obtain⟨t',rfl⟩:=ry;exact PySem.EqMixed.eq_int_str (xA I q (by simp))
  |_=>exact absurd (show false=true from hs) bL
 |str i=>
  obtain⟨t,rfl⟩:=rx;cases y with
  |non=>cases ry;exact PySem.EqNone.eq_str_none (xA I q (by simp))
  |bl j=>cases ry;exact PySem.EqMixed.eq_str_bool (xA I q (by simp))
  |int j=>obtain⟨t',rfl⟩:=ry;exact PySem.EqMixed.eq_str_int (xA I q (by simp))
  |str j=>obtain⟨t',rfl⟩:=ry;exact eq_str (xA I q Uw)
  |_=>exact absurd (show false=true from hs) bL
 |byt i=>
  obtain⟨t,rfl⟩:=rx;cases y with
  |byt j=>obtain⟨t',rfl⟩:=ry;exact PySem.W.eq_bytes (xA I q zLH)
  |_=>exact absurd (show false=true from hs) bL
 |_=>cases y <;> exact absurd (show false=true from hs) bL
theorem zRu:yV X (compareOp .NotEq) rNe:=by
 intro pins s σ H x y v u Q I rx ry h;obtain⟨hs,q⟩:=h;cases x with
 |non=>
  cases rx;cases y with
  |non=>cases ry;exact PySem.EqNone.ne_none_none (xA I q (by simp))
  |bl j=>cases ry;exact PySem.EqNone.ne_none_bool (xA I q (by simp))
  |int j=>obtain⟨t',rfl⟩:=ry;exact PySem.EqNone.ne_none_int (xA I q (by simp))
  |str j=>obtain⟨t',rfl⟩:=ry;exact PySem.EqNone.ne_none_str (xA I q (by simp))
  |_=>exact absurd (show false=true from hs) bL
 |bl i=>
  cases rx;cases y with
  |non=>cases ry;exact PySem.EqNone.ne_bool_none (xA I q (by simp))
  |bl j=>cases ry;exact ne_bool (xA I q (congrArg not Uv))
  |str j=>obtain⟨t',rfl⟩:=ry;exact PySem.EqMixed.ne_bool_str (xA I q (by simp))
  |_=>exact absurd (show false=true from hs) bL
 |int i=>
  obtain⟨t,rfl⟩:=rx;cases y with
  |non=>cases ry;exact PySem.EqNone.ne_int_none (xA I q (by simp))
  |int j=>obtain⟨t',rfl⟩:=ry;exact ne_int (xA I q (congrArg not Uu))
  |str j=>obtain⟨t',rfl⟩:=ry;exact PySem.EqMixed.ne_int_str (xA I q (by simp))
  |_=>exact absurd (show false=true from hs) bL
 |str i=>
  obtain⟨t,rfl⟩:=rx;cases y with
  |non=>cases ry;exact PySem.EqNone.ne_str_none (xA I q (by simp))
  |bl j=>cases ry;exact PySem.EqMixed.ne_str_bool (xA I q (by simp))
  |int j=>obtain⟨t',rfl⟩:=ry;exact PySem.EqMixed.ne_str_int (xA I q (by simp))
  |str j=>obtain⟨t',rfl⟩:=ry;exact ne_str (xA I q (congrArg not Uw))
  |_=>exact absurd (show false=true from hs) bL
 |byt i=>
  obtain⟨t,rfl⟩:=rx;cases y with
  |byt j=>obtain⟨t',rfl⟩:=ry;exact PySem.W.ne_bytes (xA I q (congrArg not zLH))
  |_=>exact absurd (show false=true from hs) bL
 |_=>cases y <;> exact absurd (show false=true from hs) bL
theorem YQ:yV X (compareOp .Lt) (uf λi j=>.bl (decide (i<j))):=j6 λ_ _ _ _ _ _ _ q=>lt_int q
theorem YR:yV X (compareOp .LtE) (uf λi j=>.bl (decide (i<=j))):=j6 λ_ _ _ _ _ _ _ q=>le_int q
theorem YS:yV X (compareOp .Gt) (uf λi j=>.bl (decide (j<i))):=j6 λ_ _ _ _ _ _ _ q=>gt_int q
theorem YT:yV X (compareOp .GtE) (uf λi j=>.bl (decide (j<=i))):=j6 λ_ _ _ _ _ _ _ q=>ge_int q
theorem zRv:yV X (compareOp .Is) (λx y H Q=>y=.non/\Q (.bl (decide (x=.non))) H):=by
 intro pins s σ H x y v u Q I rx ry h;obtain⟨rfl,q⟩:=h;cases ry;refine is_none_gen (xA I q ?_)
 cases x <;> first
  |(cases rx;rfl)
  |(obtain⟨t,rfl⟩:=rx;rfl)
theorem zKU:yV X (compareOp .IsNot) (λx y H Q=>y=.non/\Q (.bl (!decide (x=.non))) H):=by
 intro pins s σ H x y v u Q I rx ry h;obtain⟨rfl,q⟩:=h;cases ry;refine isnot_none_gen (xA I q ?_)
 cases x <;> first
  |(cases rx;rfl)
  |(obtain⟨t,rfl⟩:=rx;rfl)
noncomputable def isObj:HO->Bool
 | .lst _=>true
 | .ins _ _ _=>true
 |_=>false
theorem yV.or(h:yV X f r)(h':yV X f r'):yV X f (λx y H Q=>r x y H Q\/r' x y H Q):=by
 intro pins s σ H x y v u Q I rx ry q;rcases q with q|q
 ·exact h pins s σ H x y v u Q I rx ry q
 ·exact h' pins s σ H x y v u Q I rx ry q
theorem zPD(ho:yV X (compareOp op) r)(ha:PE X a ta)(hb:PE X b tb)(hm:behindInMarks op b=false):PE X (.Compare a [op] [b] pos) (ZI r ta tb):=by intro pins s σ H Q I h;exact wpAny_Compare1 (gX ha hb I h λv u s2 x y H2 I2 rx ry q=>ho pins s2 σ H2 x y v u Q I2 rx ry q) hm
def Qe(t:TE):TT:=λσ H Q=>t σ H λx H'=>∃k,x=.bl k/\Q k H'
theorem zO3(ho:yV X (compareOp op) r)(ha:PE X a ta)(hb:PE X b tb)(hm:behindInMarks op b=false):PT X (.Compare a [op] [b] pos) (Qe (ZI r ta tb)):=by
 intro pins s σ H Q I h
 refine wpAny_isTrue_Compare1 (zf (ha pins s σ H _ I h) λv s1 ⟨x,H1,I1,r1,q1⟩=>zf (hb pins s1 σ H1 _ I1 q1) λu s2 ⟨y,H2,I2,r2,q2⟩=>zf (ho pins s2 σ H2 x y v u _ I2 r1 r2 q2) λc s3 ⟨z,H3,I3,r3,k,e,q3⟩=>?_) hm
 subst e;cases r3;exact wpAny_truthy_bool ⟨H3,I3,q3⟩
def zNp(r r':R2)(ta tb tc:TE):TE:=λσ H Q=>ta σ H λx H1=>tb σ H1 λy H2=>r x y H2 λz H3=>∃k,z=.bl k∧
 (if k=true then tc σ H3 λw' H4=>r' y w' H4 Q else Q (.bl false) H3)
theorem zMX{op op':CmpOp}{r r':R2}(ho:yV X (compareOp op) r)(ho':yV X (compareOp op') r')(ha:PE X a ta)(hb:PE X b tb)(hc:PE X c tc)
  (hm:lastMarks [op,op'] [b,c]=false:=by with_unfolding_all rfl):PT X (.Compare a [op,op'] [b,c] pos) (Qe (zNp r r' ta tb tc)):=by
 intro pins s σ H Q I h
 refine isTrue_chain (zf (ha pins s σ H _ I h) λv s1 ⟨x,H1,I1,r1,q1⟩=>test_link (zf (hb pins s1 σ H1 _ I1 q1) λu s2 ⟨y,H2,I2,r2,q2⟩=>zf (ho pins s2 σ H2 x y v u _ I2 r1 r2 q2) λd s3 ⟨z,H3,I3,r3,k,e,q3⟩=>?_)) hm
 subst e;cases r3;refine wpAny_truthy_bool ?_;cases k with
 |false=>
  obtain⟨k',e',q'⟩:=q3;cases e';exact ite_ff ⟨H3,I3,q'⟩
 |true=>
  refine ite_tt (test_last (zf (hc pins s3 σ H3 _ I3 q3) λw' s4 ⟨z',H4,I4,r4,q4⟩=>zf (ho' pins s4 σ H4 y z' u w' _ I4 r2 r4 q4) λd' s5 ⟨z2,H5,I5,r5,k2,e2,q5⟩=>?_));subst e2;cases r5;exact wpAny_truthy_bool ⟨H5,I5,q5⟩
theorem Ux:(sizeLine:Nat)<2^63:=by rw[sizeLine_eq];decide
theorem v8(r:zC [x] us):∃u,us=[u]/\zM x u:=by
 cases r with
 |cons r1 r2=>cases r2;exact⟨_,rfl,r1⟩
theorem YU(r:zC [x,y] us):∃u w',us=[u,w']/\zM x u/\zM y w':=by
 cases r with
 |cons r1 r2=>
  cases r2 with
  |cons r3 r4=>cases r4;exact⟨_,_,rfl,r1,r3⟩
theorem zNK:wg X (.builtin "abs") (λxs H Q=>∃i,xs=[.int i]/\Q (.int (if i<0 then -i else i)) H):=by intro pins s σ H xs us Q I r h;obtain⟨i,rfl,q⟩:=h;obtain⟨u,rfl,t,rfl⟩:=v8 r;exact call_abs_int λu tk=>⟨.int (if i<0 then -i else i),H,I.tok _,⟨_,rfl⟩,q⟩
theorem zLR(hc:X.calm=true):wg X (.builtin "max") (λxs H Q=>∃i j,xs=[.int i,.int j]/\Q (.int (if j>i then j else i)) H):=by
 intro pins s σ H xs us Q I r h;obtain⟨i,j,rfl,q⟩:=h;obtain⟨u,w',rfl,⟨t,rfl⟩,⟨t',rfl⟩⟩:=YU r;refine max_two_ints (I.ok.hd hc) λh' tk k=>⟨_,H,I.kept k,?_,q⟩
 by_cases hj:j>i
 ·rw[if_pos hj,if_pos hj];exact⟨_,rfl⟩
 ·rw[if_neg hj,if_neg hj];exact⟨_,rfl⟩
theorem zLP(hc:X.calm=true):wg X (.builtin "min") (λxs H Q=>∃i j,xs=[.int i,.int j]/\Q (.int (if j<i then j else i)) H):=by
 intro pins s σ H xs us Q I r h;obtain⟨i,j,rfl,q⟩:=h;obtain⟨u,w',rfl,⟨t,rfl⟩,⟨t',rfl⟩⟩:=YU r;refine min_two_ints (I.ok.hd hc) λh' tk k=>⟨_,H,I.kept k,?_,q⟩
 by_cases hj:j<i
 ·rw[if_pos hj,if_pos hj];exact⟨_,rfl⟩
 ·rw[if_neg hj,if_neg hj];exact⟨_,rfl⟩
theorem zLS:wg X (.type "int") (λxs H Q=>(∃i,xs=[.int i]/\Q (.int i) H)\/∃k,xs=[.bl k]/\Q (.int (if k then 1 else 0)) H):=by
 intro pins s σ H xs us Q I r h;rcases h with⟨i,rfl,q⟩|⟨k,rfl,q⟩
 ·obtain⟨u,rfl,t,rfl⟩:=v8 r;exact call_int_int ⟨.int i,H,I,⟨_,rfl⟩,q⟩
 ·obtain⟨u,rfl,r1⟩:=v8 r;cases r1;exact call_int_bool ⟨.int (if k then 1 else 0),H,I.tok _,⟨_,rfl⟩,q⟩
end
structure vZ(h:Heap)(x dx C:Addr)(mA:Str->Option Value):Prop where
 obj:h.get? x=some (db C dx)
 ns:h.Ns1 dx mA
 ne:dx≠x
theorem zKs{h:Heap}(n:h.Ns1 dx mA):∃od,h.get? dx=some od/\∀name,fM name od=some (mA name):=by
 obtain⟨o,es,ep,ho,hd,hk,_,hm⟩:=n;refine⟨o,ho,λname=>?_⟩;have e:=hm name;unfold nsFind findBy at e;rw[<- Array.find?_toList]at e;unfold fM;rw[hd];dsimp only;split
 ·rename_i y q;rw[q]at e;exact congrArg some e
 ·rename_i q;rw[q]at e
  have a:es.toList.any (·.refKey)=false:=by rw[List.any_eq_false];intro y hy;obtain⟨z,t,hkey⟩:=hk y (Array.mem_toList_iff.mp hy);simp[DictEntry.refKey,hkey]
  have a':¬es.toList.any (·.refKey)=true:=by rw[a];exact bL
  rw[if_neg a'];exact congrArg some e
theorem vZ.look(I:vZ h x dx C mA):∃od,PySem.W.InstAt h x (db C dx) C (some od)/\∀name,fM name od=some (mA name):=
 let ⟨od,ho,hl⟩:=zKs I.ns
 ⟨od,⟨I.obj,rfl,rfl,ho⟩,hl⟩
section
variable{prog:Program}{w:World}{A:Around}{E:Value->Shared->Prop}{s:Shared}{K:aH}{x dx C f:Addr}{mA:Str->Option Value}{name:Str}{v:Value}
theorem ZJ(X:K.In s.heap)(I:vZ s.heap x dx C mA)(hg:fo K C name=true)(hh:fS K C=true)
  (ha:cO K (.ref C) name=some none) (hv:mA name=some v) (hv':lB v=true) (h:Q v {s with toks:=s.toks+1}):
  wpAny (model prog w) A (getAttr (.ref x) name expr) Q E s:=by
 obtain⟨od,J,hl⟩:=I.look;exact PySem.W.get_value X J (fA hg).1 (PySem.W.findObj_own hh ha rfl (by rw[hl,hv])) hv' h
theorem zM4(X:K.In s.heap)(I:vZ s.heap x dx C mA)(hg:fo K C name=true)
  (hf:cO K (.ref C) name=some (some (.ref f))) (ht:i7 K (.ref f)=true) (hv:mA name=none) (h:Q (.ref f,[.ref x]) s):
  wpAny (model prog w) A (getMethod (.ref x) name pl) Q E s:=by
 obtain⟨od,J,hl⟩:=I.look;exact PySem.W.method_fn X J (fA hg).1 (fA hg).2 hf (beq_iff_eq.mp ht) (by show(fM name od).map (·.isSome)=some false;rw[hl,hv];rfl) h
theorem zOn(X:K.In s.heap)(I:vZ s.heap x dx C mA)
  (hs:cO K (.ref C) "__setattr__"=some (some (.builtin "object.__setattr__"))) (hp:iR K C=true) (ht:g_ K C name=some none) (hh:fS K C=true)
  (hw:PySem.Within mA ns) (hsz:ns.length<=sizeLine)
  (h:∀h',vZ h' x dx C (λy=>if y=name then some v else mA y)->Heap.SameBut dx s.heap h'->Q () {s with heap:=h',toks:=s.toks+2}):
  wpAny (model prog w) A (setAttr (.ref x) name v) Q E s:=by
 obtain⟨od,J,hl⟩:=I.look;refine PySem.W.set_plain X J hs (PySem.W.osa_open (s:={s with toks:=s.toks+1}) (r:=none) X J hp ht λb=>?_);obtain⟨cd,hc,hd'⟩:=PySem.W.any_some hh;have hx:s.heap.get? x=some ⟨.ref C,some dx,.plain,#[]⟩:=I.obj;refine wpAny_bind (wpAny_pure (wpAny_bind (wpAny_bind (wpAny_loadPart hx (wpAny_bind (PySem.W.Looks.here (s:={s with toks:=s.toks+1}) (PySem.W.looks_clsIn X hc) ?_))))));rw[hd'];refine wpAny_pure (a:=some dx) (wpAny_bind (wpAny_pure (wpAny_bind ?_)));refine wpAny_nsSet1 (s:={s with toks:=s.toks+1}) I.ns λh' hn2 hs2=>?_;obtain⟨oD,esD,epD,hoD,hdD,hcD⟩:=hn2.count (PySem.Within.cons name v hw);refine wpAny_bind (wpAny_lookBehind hoD (by rw[hdD];exact pastItsLine_dict (bI hcD (by rw[bF];omega))) ?_);exact wpAny_pure (h _ ⟨(hs2.2 _ (Ne.symm I.ne)).trans I.obj,hn2,I.ne⟩ hs2)
theorem zMs(X:K.In s.heap)(hm:lV K C=true)
  (hi:cO K (.ref C) "__init__"=some (some (.ref f))) (hf:PySem.W.typeIn K (.ref f)=some (.type "function"))
  (h:codeAny (model prog w) (A.under (.builtin "type.__call__" ⟨.ref C::vs,kw⟩)) (.call (.ref f) ⟨.ref (s.heap.objs.size+1)::vs,kw⟩) (PySem.W.InitBack (s.heap.objs.size+1) R)
   {s with heap:=(s.heap.push cI).push (db C s.heap.objs.size)}):
  codeAny (model prog w) A (.call (.ref C) ⟨vs,kw⟩) R s:=by
 obtain⟨hh,g,d,t,os⟩:=s;exact PySem.W.make_core (PySem.W.makes_of X hm) (PySem.W.looks_findIn X hi) (λself=>PySem.W.bind_fn X self hf) (.inl rfl) h
end
noncomputable def yk(f:Str)(v:V):List (Str×V)->List (Str×V)
 |[]=>[(f,v)]
 |(g,x)::r=>if g=f then(g,v)::r else(g,x)::yk f v r
theorem zDt(f g)(v):∀fs,(yk f v fs).lookup g=if g=f then some v else fs.lookup g
 |[]=>by
  show eh g [(f,v)]=_;by_cases h:g=f
  ·have hb:(g==f)=true:=beq_iff_eq.mpr h;simp only[eh,hb,if_pos h]
  ·have hb:(g==f)=false:=beq_eq_false_iff_ne.mpr h;simp only[eh,hb,if_neg h]
 |(k,x)::r=>by
  have ih:=zDt f g v r;rw[show yk f v ((k,x)::r)=(if k=f then(k,v)::r else(k,x)::yk f v r)from rfl];by_cases hk:k=f
  ·rw[if_pos hk];by_cases h:g=k
   ·have hb:(g==k)=true:=beq_iff_eq.mpr h;simp only[eh,hb,if_pos (h.trans hk)]
   ·have hb:(g==k)=false:=beq_eq_false_iff_ne.mpr h;simp only[eh,hb,if_neg (λe:g=f=>h (e.trans hk.symm))]
  ·rw[if_neg hk];by_cases h:g=k
   ·have hb:(g==k)=true:=beq_iff_eq.mpr h;simp only[eh,hb,if_neg (λe:g=f=>hk (h.symm.trans e))]
   ·have hb:(g==k)=false:=beq_eq_false_iff_ne.mpr h;simp only[eh,hb];exact ih
theorem Qf(f)(v):∀fs,f∈(yk f v fs).map (·.1)/\∀g,g∈fs.map (·.1)->g∈(yk f v fs).map (·.1)
 |[]=>⟨by simp[yk],λg h=>by simp at h⟩
 |(k,x)::r=>by
  obtain⟨i1,i2⟩:=Qf f v r;rw[show yk f v ((k,x)::r)=(if k=f then(k,v)::r else(k,x)::yk f v r)from rfl];by_cases hk:k=f
  ·rw[if_pos hk];subst hk;exact⟨by simp,λg h=>by simpa using h⟩
  ·rw[if_neg hk];refine⟨?_,λg h=>?_⟩
   ·rw[bg];exact aK _ i1
   ·rw[bg]at h|-
    rcases a8.mp h with e|e
    ·exact a8.mpr (.inl e)
    ·exact aK _ (i2 g e)
theorem zDv(f)(v):∀fs,(yk f v fs).length<=fs.length+1
 |[]=>by simp[yk]
 |(k,x)::r=>by
  have ih:=zDv f v r;rw[show yk f v ((k,x)::r)=(if k=f then(k,v)::r else(k,x)::yk f v r)from rfl];by_cases hk:k=f
  ·rw[if_pos hk,bF,bF];omega
  ·rw[if_neg hk,bF,bF];omega
theorem wL.some_of(r:wL (some v) o):∃u,o=some u/\zM v u:=by
 cases o with
 |none=>exact(show False from r).elim
 |some u=>exact⟨u,rfl,r⟩
theorem wL.none_of(r:wL none o):o=none:=by
 cases o with
 |none=>rfl
 |some u=>exact(show False from r).elim
theorem zK2(r:zM v u):lB u=true:=by
 cases v with
 |non=>cases(show u=Value.none from r);rfl
 |bl b=>cases(show u=Value.bool b from r);rfl
 |int i=>obtain⟨t,e⟩:=(show∃t,u=Value.int i t from r);cases e;rfl
 |str x=>obtain⟨t,e⟩:=(show∃t,u=Value.str x t from r);cases e;rfl
 |byt b=>obtain⟨t,e⟩:=(show∃t,u=Value.bytes b t from r);cases e;rfl
 |flt b=>obtain⟨t,e⟩:=(show∃t,u=Value.float b t from r);cases e;rfl
 |ref a=>cases(show u=Value.ref a from r);rfl
 |ty n=>cases(show u=Value.type n from r);rfl
section
variable{P:Program}{w:World}{H H':Hp}{h h':Heap}{a C dx:Addr}{fs fs':List (Str×V)}
theorem Uy(hok:xZ P w H h)(e:H a=some (.ins C dx fs)):∃mA,vZ h a dx C mA/\(∀f,wL (fs.lookup f) (mA f))/\PySem.Within mA (fs.map (·.1))/\fs.length<=1000/\H dx=some (.own a):=by
 obtain⟨d,z,ne,ob,mA,n,r,q⟩:=(show wZ P w H h a (.ins C dx fs)from hok a _ e)
 exact⟨mA,⟨ob,n,ne⟩,r,q,z,d⟩
end
structure u4(K:aH)(C:Addr):Prop where
 pg:fo K C lW=true
 hd:fS K C=true
 po:iR K C=true
 sa:cO K (.ref C) "__setattr__"=some (some (.builtin "object.__setattr__"))
theorem u4.get{K:aH}(c:u4 K C)(f):fo K C f=true:=c.pg
def qZ(K:aH)(C:Addr)(f:Str):Prop:=cO K (.ref C) f=some none
theorem qZ.taker{K:aH}(n:qZ K C f):g_ K C f=some none:=by unfold g_;rw[show cO K (.ref C) f=some none from n];rfl
structure gZ(K:aH)(C:Addr)(m:Str)(f:Addr):Prop where
 at_:cO K (.ref C) m=some (some (.ref f))
 fn:i7 K (.ref f)=true
 kp:c_ K (.ref f)=true
section
variable{X:Cx}{pins:List (Addr×Obj)}{σ:St}{H:Hp}{s:Shared}{a C dx:Addr}{fs:List (Str×V)}{f:Str}{v:V}{A:Around}{E:Value->Shared->Prop}
theorem zIv(I:zB X pins σ H s)(e:H a=some (.ins C dx fs))(c:u4 X.K C)(n:qZ X.K C f)(l:fs.lookup f=some v)
  (h:∀u s',zB X pins σ H s'->zM v u->Q u s'):wpAny (model X.prog X.w) A (getAttr (.ref a) f b) Q E s:=by
 obtain⟨mA,O,r,_,_,_⟩:=Uy I.hok e;obtain⟨u,hu,ru⟩:=wL.some_of (v:=v) (o:=mA f) (by rw[<- l];exact r f);exact ZJ I.kIn O (c.get f) c.hd n hu (zK2 ru) (h u _ (I.tok _) ru)
theorem zIu(I:zB X pins σ H s)(e:H a=some (.ins C dx fs))(c:u4 X.K C)(k:gZ X.K C m g)(l:fs.lookup m=none)
  (h:Q (.ref g,[.ref a]) s):wpAny (model X.prog X.w) A (getMethod (.ref a) m pl) Q E s:=by
 obtain⟨mA,O,r,_,_,_⟩:=Uy I.hok e;have hn:mA m=none:=wL.none_of (by rw[<- l];exact r m);exact zM4 I.kIn O (c.get m) k.at_ k.fn hn h
theorem zIk(I:zB X pins σ H s)(e:H a=some (.ins C dx fs))(c:u4 X.K C)(n:qZ X.K C f)(hl:fs.length<1000)(ry:zM y u)
  (h:∀s',zB X pins σ (zV H a (.ins C dx (yk f y fs))) s'->Q () s'):wpAny (model X.prog X.w) A (setAttr (.ref a) f u) Q E s:=by
 obtain⟨mA,O,r,wi,_,ho⟩:=Uy I.hok e;have hz:(fs.map (·.1)).length<=sizeLine:=by rw[aB,sizeLine_eq];omega
 refine zOn I.kIn O c.sa c.po n.taker c.hd wi hz λh' O' sb=>h _ ?_;have hd:∃o,h'.get? dx=some o:=let ⟨o,_,_,e',_⟩:=O'.ns;⟨o,e'⟩;refine I.write (x:=a) (e:=dx) (by rw[e];exact True.intro) (.inr ho) (λb q hb z=>(sb.2 b hb).trans z) hd ?_;refine⟨by rw[zu O.ne];exact ho,?_,O.ne,O'.obj,_,O'.ns,λg=>?_,λg hg=>?_⟩
 ·have:=zDv f y fs;omega
 ·show wL ((yk f y fs).lookup g) (if g=f then some u else mA g);rw[zDt];by_cases q:g=f
  ·rw[if_pos q,if_pos q];exact ry
  ·rw[if_neg q,if_neg q];exact r g
 ·by_cases q:g=f
  ·rw[q];exact(Qf f y fs).1
  ·refine(Qf f y fs).2 g (wi g λz=>hg ?_);show(if g=f then some u else mA g)=none;rw[if_neg q];exact z
theorem zB.made(I:zB X pins σ H s):zB X pins σ (zV (zV H s.heap.objs.size (.own (s.heap.objs.size+1))) (s.heap.objs.size+1) (.ins C s.heap.objs.size []))
  {s with heap:=(s.heap.push cI).push (db C s.heap.objs.size)}:=by
 have e1:(s.heap.push cI).get? s.heap.objs.size=some cI:=a_ s.heap rfl
 have e2:((s.heap.push cI).push (db C s.heap.objs.size)).get? (s.heap.objs.size+1)=some (db C s.heap.objs.size):=by have:=a_ (s.heap.push cI) (o:=db C s.heap.objs.size) rfl;rwa[cP]at this
 have e3:(s.heap.push cI).Ns s.heap.objs.size (λ_=>none):=⟨cI,#[],_,e1,rfl,(λe he=>absurd he (by simp)),λ_=>rfl⟩
 have I1:=I.laid (a:=s.heap.objs.size) (o:=.own (s.heap.objs.size+1)) (h':=s.heap.push cI) (t':=s.toks) (λb u q=>aO _ q) (aJ _) ⟨_,e1⟩;refine I1.laid (a:=s.heap.objs.size+1) (o:=.ins C s.heap.objs.size []) (t':=s.toks) (λb u q=>aO _ q) (gV (cP _ _)) ?_;have ne:s.heap.objs.size≠s.heap.objs.size+1:=bK (bW _);refine⟨by rw[zu ne,xS],eV _,ne,e2,λ_=>none,(Heap.Ns1.of_empty e3).at λo q=>aO _ q,λ_=>True.intro,λy hy=>absurd rfl hy⟩
theorem zQR(hb:attributeBase e f env (eval e env)=eval e env)
  (h:wpAny (model prog w) A (eval e env) (λo s₁=>wpAny (model prog w) A (getAttr o f true) Q E s₁) E s):wpAny (model prog w) A (eval (.Attribute e f pos) env) Q E s:=
 Attribute_any_ h (by rw[arm_eval_Attribute,hb])
end
def Qg(K:aH)(ta:TE)(f:Str):TE:=λσ H Q=>ta σ H λx H1=>∃a C dx fs v,x=.ref a/\H1 a=some (.ins C dx fs)/\u4 K C/\qZ K C f/\fs.lookup f=some v/\Q v H1
def YV(K:aH)(ta tv:TE)(f:Str):TS:=λD σ H=>tv σ H λy H1=>ta σ H1 λx H2=>∃a C dx fs,x=.ref a/\H2 a=some (.ins C dx fs)/\u4 K C/\qZ K C f/\fs.length<1000∧
 D.nx σ (zV H2 a (.ins C dx (yk f y fs)))
section
variable{X:Cx}{o e value:Expr}{f:Str}{pos pos' tpos:Pos}{ta tv:TE}
theorem zRc(he:PE X e ta)(hb:attributeBase e f X.env (eval e X.env)=eval e X.env):PE X (.Attribute e f pos) (Qg X.K ta f):=by intro pins s σ H Q I h;refine zQR hb (zf (he pins s σ H _ I h) λu s1 ⟨x,H1,I1,rx,a,C,dx,fs,v,ex,ea,c,n,l,q⟩=>?_);subst ex;obtain rfl:u=Value.ref a:=rx;exact zIv I1 ea c n l λu' s2 I2 ru=>⟨v,H1,I2,ru,q⟩
theorem zRS(ha:PE X o ta)(hv:PE X value tv)(hs:swapsWith value (some (.Attribute o f pos')) pos.line X.env=pure false):PS X (.Assign [.Attribute o f pos'] value pos) (YV X.K ta tv f):=by intro pins s σ H D I h;refine plainObj_wpAny_Assign_Attribute (zf (hv pins s σ H _ I h) λu s1 ⟨y,H1,I1,ry,q⟩=>zf (ha pins s1 σ H1 _ I1 q) λov s2 ⟨x,H2,I2,rx,a,C,dx,fs,ex,ea,c,n,l,q2⟩=>?_) hs;subst ex;obtain rfl:ov=Value.ref a:=rx;exact zIk I2 ea c n l ry λs3 I3=>⟨σ,_,I3,q2⟩
end
section
variable{X:Cx}{pins:List (Addr×Obj)}{σ:St}{H:Hp}{s:Shared}{A:Around}{E:Value->Shared->Prop}{Q:Value->Shared->Prop}{c:Value}{b:Bool}
inductive yQ(K:aH)(H:Hp):V->Value->Prop where
 |non:yQ K H .non (.type "NoneType")
 |bl (x:Bool):yQ K H (.bl x) (.type "bool")
 |int (i:Int):yQ K H (.int i) (.type "int")
 |str (x:Str):yQ K H (.str x) (.type "str")
 |flt (x:UInt64):yQ K H (.flt x) (.type "float")
 |lst {a:Addr} {xs:List V} (e:H a=some (.lst xs)):yQ K H (.ref a) (.type "list")
 |frz {a:Addr} {o:Obj} {xs:List V} (e:H a=some (.frz o (.lst xs))):yQ K H (.ref a) (.type "list")
 |tup {a:Addr} {xs:List V} (e:H a=some (.tup xs)):yQ K H (.ref a) (.type "tuple")
 |dK {a:Addr} {kvs:List (wY×V)} (e:H a=some (.dK kvs)):yQ K H (.ref a) (.type "dict")
 |dT {a:Addr} {kvs:List (List wY×V)} (e:H a=some (.dT kvs)):yQ K H (.ref a) (.type "dict")
 |ins {a C dx:Addr} {fs:List (Str×V)} (e:H a=some (.ins C dx fs)) (cl:u4 K C) (ha:cO K (.ref C) "__class__"=some (some (.builtin "object.__class__")))
   (hn:iS K (.builtin "object.__class__") "__get__"=some (some (.builtin "getset_descriptor.__get__"))) (htk:lX K (.builtin "object.__class__")=some true)
   (hm:mh K C (.type "object")=some true):yQ K H (.ref a) (.ref C)
theorem zGA(I:zB X pins σ H s)(rx:zM x u)(ty:yQ X.K H x t)(e:bG X.K t c=some b)(h:∀tk,Q (.bool b) {s with toks:=tk}):
  wpAny (model X.prog X.w) A (call (.builtin "isinstance") [u,c]) Q E s:=by
 cases ty with
 |non=>cases(show u=Value.none from rx);exact cG PySem.W.kitx_none I.kIn True.intro e (λz=>nomatch z) h
 |bl y=>cases(show u=Value.bool y from rx);exact cG PySem.W.kitx_bool I.kIn True.intro e (λz=>nomatch z) h
 |int i=>obtain⟨t,q⟩:=(show∃t,u=Value.int i t from rx);cases q;exact cG PySem.W.kitx_int I.kIn True.intro e (λz=>nomatch z) h
 |str y=>obtain⟨t,q⟩:=(show∃t,u=Value.str y t from rx);cases q;exact cG PySem.W.kitx_str I.kIn True.intro e (λz=>nomatch z) h
 |flt y=>obtain⟨t,q⟩:=(show∃t,u=Value.float y t from rx);cases q;exact cG PySem.W.kitx_float I.kIn True.intro e (λz=>nomatch z) h
 |@lst a xs ea=>
  cases(show u=Value.ref a from rx);obtain⟨_,_,n,_,h1⟩:=(show wZ X.prog X.w H s.heap a (.lst xs)from I.hok a _ ea)
  exact cG iU I.kIn ⟨_,h1,rfl⟩ e (λz=>nomatch z) h
 |@frz a ob xs ea=>
  cases(show u=Value.ref a from rx);obtain⟨_,_,_,n,_,h1⟩:=(show wZ X.prog X.w H s.heap a (.frz ob (.lst xs))from I.hok a _ ea)
  exact cG iU I.kIn ⟨_,h1,rfl⟩ e (λz=>nomatch z) h
 |@tup a xs ea=>
  cases(show u=Value.ref a from rx);obtain⟨_,_,_,p⟩:=(show wZ X.prog X.w H s.heap a (.tup xs)from I.hok a _ ea)
  obtain⟨o,h1,h2,_⟩:=p;exact cG PySem.W.kitx_tuple I.kIn ⟨o,h1,h2⟩ e (λz=>nomatch z) h
 |@dK a kvs ea=>
  cases(show u=Value.ref a from rx);obtain⟨_,_,vs,_,p⟩:=(show wZ X.prog X.w H s.heap a (.dK kvs)from I.hok a _ ea)
  obtain⟨o,es,ep,h1,h2,_⟩:=p;exact cG iV I.kIn ⟨o,h1,h2.1⟩ e (λz=>nomatch z) h
 |@dT a kvs ea=>
  cases(show u=Value.ref a from rx);obtain⟨_,_,xs,_,o,es,ep,h1,h2,_⟩:=(show wZ X.prog X.w H s.heap a (.dT kvs)from I.hok a _ ea)
  exact cG iV I.kIn ⟨o,h1,h2.1⟩ e (λz=>nomatch z) h
 |@ins a C dx fs ea cl ha hn htk hm=>
  cases(show u=Value.ref a from rx);obtain⟨mA,O,_⟩:=Uy I.hok ea;obtain⟨od,J,_⟩:=O.look;exact cG (PySem.W.kitx_own (cl.get _) cl.hd ha hn htk hm) I.kIn J e (λz=>nomatch z) h
end
structure zN(k:Nat)(A:Around):Prop where
 hd:A.handled=none
 dp:A.depth+3*k+5<recursionLimit
 un:A.units+16*k+200<cLine
theorem zN.mono(r:zN k A)(h:j<=k):zN j A:=⟨r.hd,by have:=r.dp;omega,by have:=r.un;omega⟩
theorem zN.deeper(r:zN (k+1) A)(env):zN k (A.deeper env):=⟨r.hd,by have:=r.dp;show A.depth+1+3*k+5<_;omega,by have:=r.un;show A.units+3+16*k+200<_;omega⟩
theorem zN.in1(r:zN (k+1) A):zN k A.in1:=⟨r.hd,by have:=r.dp;show A.depth+3*k+5<_;omega,by have:=r.un;show A.units+1+16*k+200<_;omega⟩
theorem zIr{A:Around}:(A.under (.builtin "type.__call__" ⟨.ref C::us,kw⟩)).depth=A.depth+1:=by first|rfl|simp[Around.under,Code.weight,Code.isCreation,Code.isGuard,Code.isCaller,Code.frames,Code.isFrame,guardIds]
theorem zIq{A:Around}:(A.under (.builtin "type.__call__" ⟨.ref C::us,kw⟩)).units=A.units+1:=by first|rfl|simp[Around.under,Code.cUnits,Code.frames,Code.isFrame]
theorem zN.make(r:zN (k+1) A)(C)(us)(kw):zN k (A.under (.builtin "type.__call__" ⟨.ref C::us,kw⟩)):=⟨r.hd,by have:=r.dp;rw[zIr];omega,by have:=r.un;rw[zIq];omega⟩
theorem zN.depth(r:zN k A):A.depth<recursionLimit:=by have:=r.dp;omega
theorem zN.units(r:zN k A):A.units+64<cLine:=by have:=r.un;omega
def w6:TA:=λ_ H Q=>Q [] H
def uQ(ta:TE)(tr:TA):TA:=λσ H Q=>ta σ H λx H1=>tr σ H1 λxs H2=>Q (x::xs) H2
section
variable{X:Cx}{e:Expr}{es:List Expr}{te:TE}{t:TA}{pos:Pos}
theorem ug:PA X [] w6:=λ_ _ _ _ H Q I h=>Calls.spliced_nil ⟨[],H,I,.nil,h⟩
theorem wN(ha:PE X e te)(hr:PA X es t)(hs:starEach (e::es) X.env=(false,eval e X.env)::starEach es X.env:=by rfl):PA X (e::es) (uQ te t):=by intro pos pins s σ H Q I h;rw[hs];show wpAny _ _ (spliced ((false,eval e X.env)::backTo pos (starEach es X.env))) _ _ s;refine Calls.spliced_cons (zf (ha pins s σ H _ I h) λu s1 ⟨x,H1,I1,r1,q1⟩=>?_);exact zf (hr pos pins s1 σ H1 _ I1 q1) λus s2 ⟨xs,H2,I2,r2,q2⟩=>⟨x::xs,H2,I2,.cons r1 r2,q2⟩
def YW(t:TA):TE:=λσ H Q=>t σ H λxs H1=>xs.length<=sizeLine/\∀p,H1 p=none->Q (.ref p) (zV H1 p (.tup xs))
def Qh(t:TA):TE:=λσ H Q=>t σ H λxs H1=>xs.length<=sizeLine/\∀p,H1 p=none->Q (.ref p) (zV H1 p (.lst xs))
theorem Qi{x1}(h:PA X es t):PE X (.Tuple es x1 pos) (YW t):=by intro pins s σ H Q I hq;refine wpAny_Tuple_spliced (zf (h pos pins s σ H _ I hq) λus s1 ⟨xs,H1,I1,r,z,q⟩=>⟨by rw[<- r.length];exact z,?_⟩);have hf:H1 s1.heap.objs.size=none:=I1.hok.fresh (aJ _);refine⟨.ref s1.heap.objs.size,zV H1 s1.heap.objs.size (.tup xs),I1.laid (t':=s1.toks) (λb u e=>aO _ e) (aJ _) ?_,rfl,q _ hf⟩;exact⟨z,us,r,⟨_,a_ _ rfl,rfl,_,rfl⟩⟩
theorem zN2(h:PA X es t):PE X (.List es pos) (Qh t):=by intro pins s σ H Q I hq;refine wpAny_List_spliced (zf (h pos pins s σ H _ I hq) λus s1 ⟨xs,H1,I1,r,z,q⟩=>⟨by rw[<- r.length];exact z,?_⟩);have hf:H1 s1.heap.objs.size=none:=I1.hok.fresh (aJ _);refine⟨.ref s1.heap.objs.size,zV H1 s1.heap.objs.size (.lst xs),I1.laid (t':=s1.toks) (λb u e=>aO _ e) (aJ _) ?_,rfl,q _ hf⟩;exact⟨z,us,0,r,a_ _ rfl⟩
end
abbrev Sp:=List V->Hp->VK->XK->Prop
abbrev gg:=List Env->Hp->Shared->XK->Value->Shared->Prop
structure xu(P:Program)(w:World)(K:aH)(mg:Str->Option Value)(base:Heap)(A:Around)(outer:List Env)(s:Shared)(H:Hp):Prop where
 frames:A.frames=some outer
 mod:Mod K mg base
 bs:∀b o,base.get? b=some o->s.heap.get? b=some o/\H b=none
 bsz:base.objs.size<=s.heap.objs.size
 funs:s.heap.FunFrames base outer
 frf:∀b∈vY outer,H b=none
 hok:xZ P w H s.heap
 bare:AllBare s.gens
def CE(outer:List Env)(P:Program)(w:World)(H:Hp)(s:Shared)(Q:VK)(u:Value)(s':Shared):Prop:=∃v H',s'.os=s.os/\AllBare s'.gens/\Un (vY outer) [] H H' s.heap s'.heap/\xZ P w H' s'.heap/\zM v u/\Q v H'
def CR(CX:gg)(outer:List Env)(P:Program)(w:World)(H:Hp)(s:Shared)(Q:VK)(E:XK)(r:Result)(s':Shared):Prop:=
 match r with
 | .ok (.ret u)=>CE outer P w H s Q u s'
 | .ok _=>False
 | .error e=>CX outer H s E e s'
structure zS(P:Program)(w:World)(K:aH)(mg:Str->Option Value)(base:Heap)(CX:gg)(k:Nat)(f:Addr)(fd:FuncData)(ps:List Str)(sp:Sp):Prop where
 len:∀vs H Q E,sp vs H Q E->vs.length=ps.length
 run:∀(A:Around)(outer:List Env)(s:Shared)(H:Hp)(args:Args)(us:List Value)(vs:List V)(Q:VK)(E:XK),zN k A->xu P w K mg base A outer s H->BindsTo s fd args (ps.zip us)->zC vs us->sp vs H Q E->
  codeAny (model P w) A (.call (.ref f) args) (CR CX outer P w H s Q E) s
theorem zS.mono{K:aH}(F:zS P w K mg base CX j f fd ps sp)(h:j<=k):
  zS P w K mg base CX k f fd ps sp:=⟨F.len,λA outer s H args us vs Q E hr=>F.run A outer s H args us vs Q E (hr.mono h)⟩
theorem xu.make{K:aH}(e:xu P w K mg base A outer s H)(C)(us)(kw):
  xu P w K mg base (A.under (.builtin "type.__call__" ⟨.ref C::us,kw⟩)) outer s H:=⟨by first|exact e.frames|(simpa[Around.under,Code.envs,Code.isFrame,pushEnvs] using e.frames),e.mod,e.bs,e.bsz,e.funs,e.frf,e.hok,e.bare⟩
theorem xu.in1{K:aH}(e:xu P w K mg base A outer s H):
  xu P w K mg base A.in1 outer s H:=⟨e.frames,e.mod,e.bs,e.bsz,e.funs,e.frf,e.hok,e.bare⟩
section
variable{X:Cx}{pins:List (Addr×Obj)}{σ:St}{H:Hp}{s s':Shared}
theorem zB.env0(I:zB X pins σ H s):xu X.prog X.w X.K X.mg X.base X.A X.stack s H:=⟨I.ok.frames,I.ok.mod,I.bs,bI I.ok.bsz I.sz,I.stack,I.stkFree,I.hok,I.bare⟩
theorem zB.after(I:zB X pins σ H s)(h:CE X.stack X.prog X.w H s Q u s'):EP X pins σ Q u s':=by obtain⟨v,H',os,bare,un,hok,r,q⟩:=h;obtain⟨hh,g,d,t,os'⟩:=s';obtain rfl:os'=s.os:=os;exact⟨v,H',I.call (h':=hh) (g':=g) (d':=d) (t':=t) (ch:=[]) un hok bare (λb z=>absurd z (by simp)),r,q⟩
end
def Uz(sp:Sp)(dvs:List V)(E:XK)(t:TA):TE:=λσ H Q=>t σ H λvs H1=>sp (vs++dvs) H1 Q E
def zQq(C:Addr)(m:Str)(sp:Sp)(dvs:List V)(E:XK)(ta:TE)(t:TA):TE:=λσ H Q=>ta σ H λx H1=>∃a dx fs,x=.ref a/\H1 a=some (.ins C dx fs)/\fs.lookup m=none∧
 t σ H1 λvs H2=>sp (x::(vs++dvs)) H2 Q E
def YX(C:Addr)(sp:Sp)(dvs:List V)(E:XK)(t:TA):TE:=λσ H Q=>t σ H λvs H1=>∀x dx,H1 x=none->H1 dx=none->dx≠x->
 sp (.ref x::(vs++dvs)) (zV (zV H1 dx (.own x)) x (.ins C dx [])) (λv H2=>v=.non/\Q (.ref x) H2) E
def w8(K:aH)(fd:FuncData)(ps:List Str)(ds:List Value):Prop:=∀(s:Shared)(us:List Value),K.In s.heap->(us++ds).length=ps.length->BindsTo s fd ⟨us,[]⟩ (ps.zip (us++ds))
theorem w8.all{K:aH}(h:∀us:List Value,us.length=ps.length->bindArgs fd ⟨us,[]⟩=pure (ps.zip us)):w8 K fd ps []:=λs us _ hl=>by
 rw[cH]at hl|-
 exact .of_eq (h us hl)
def ZK(CX:gg)(X:Cx)(E:XK):Prop:=∀(pins:List (Addr×Obj))(σ:St)(H:Hp)(s:Shared)(e:Value)(s':Shared),zB X pins σ H s->CX X.stack H s E e s'->X.xe e s'
section
variable{X:Cx}{CX:gg}{k:Nat}{f C:Addr}{fd:FuncData}{ps:List Str}{sp:Sp}{dvs:List V}{ds:List Value}{E:XK}{x m:Str}{p pos apos:Pos}{e o:Expr}{es:List Expr}{ta:TE}{t:TA}
theorem zNr{σ:St}(F:zS X.prog X.w X.K X.mg X.base CX k f fd ps sp)(hr:zN k X.A)(hb:w8 X.K fd ps ds)(hd:zC dvs ds)(hx:ZK CX X E)
  (I:zB X pins σ H s) (r:zC vs us) (h:sp (vs++dvs) H Q E):wpAny (model X.prog X.w) X.A (call (.ref f) us) (EP X pins σ Q) X.xe s:=by
 have r2:zC (vs++dvs) (us++ds):=r.append hd;have hl:(us++ds).length=ps.length:=by rw[<- r2.length];exact F.len _ _ _ _ h
 refine wpAny_call (codeAny_mono (F.run X.A X.stack s H ⟨us,[]⟩ (us++ds) (vs++dvs) Q E hr I.env0 (hb s us I.kIn hl) r2 h) λr s' hq=>?_);cases r with
 |error e=>exact hx pins σ H s e s' I hq
 |ok fl=>
  cases fl with
  |ret u=>exact I.after hq
  |next=>exact False.elim hq
  |brk=>exact False.elim hq
  |cont=>exact False.elim hq
theorem zKL(F:zS X.prog X.w X.K X.mg X.base CX k f fd ps sp)(hr:zN k X.A)(hg:Gl X x)(hm:X.mg x=some (.ref f))(hk:c_ X.K (.ref f)=true)(hb:w8 X.K fd ps ds)(hd:zC dvs ds)(hx:ZK CX X E)
  (ha:PA X (e::es) t) (hdb:(x==("__debug__":Str))=false:=by decide) (he:starEach (e::es) X.env=(false,eval e X.env)::starEach es X.env:=by rfl) (hpl:(backTo pos (starEach es X.env)).any (·.1)=false:=by rfl):
  PE X (.Call (.Name x p) (e::es) [] pos) (Uz sp dvs E t):=by
 intro pins s σ H Q I h;refine wpAny_Call_Name_kw (QR I hg hm ?_ hdb);refine iL (h₀:=X.base) I.ok.mod.kin hk (zf (ha pos pins s σ H _ I h) λus s1 ⟨vs,H1,I1,r,q⟩=>⟨I1.kIn,?_⟩) he hpl;exact zNr F hr hb hd hx I1 r q
theorem zMd{pl:Sem Bool}(he:PE X o ta)(c:u4 X.K C)(hm:gZ X.K C m f)(F:zS X.prog X.w X.K X.mg X.base CX k f fd ps sp)(hr:zN k X.A)(hb:w8 X.K fd ps ds)(hd:zC dvs ds)(hx:ZK CX X E)
  (ht:eval (.Call (.Attribute o m apos) [] [] pos) X.env=(do
   let ov <- eval o X.env
   standAt apos.atName
   let (f,first) <- holding [ov] (getMethod ov m pl)
   callWith pos f first (backTo pos (starEach [] X.env)) (backToKw pos (keywordEach [] X.env))):=by rfl):
  PE X (.Call (.Attribute o m apos) [] [] pos) (zQq C m sp dvs E ta w6):=by
 intro pins s σ H Q I h;refine PySem.W.methodCall_KW (pl:=pl) (zf (he pins s σ H _ I h) λu s1 ⟨x,H1,I1,rx,a,dx,fs,ex,ea,l,q⟩=>?_) ht;subst ex;obtain rfl:u=Value.ref a:=rx;refine zIu I1 ea c hm l ?_;exact PySem.W.callWith_K0 (first:=[.ref a]) I1.kIn hm.kp (zNr (us:=[.ref a]) (vs:=[.ref a]) F hr hb hd hx I1 (.cons rfl .nil) q)
structure Mk(K:aH)(C f:Addr):Prop where
 makes:lV K C=true
 init:cO K (.ref C) "__init__"=some (some (.ref f))
 fn:i7 K (.ref f)=true
 kp:c_ K (.ref C)=true
theorem zMF{σ:St}(M:Mk X.K C f)(F:zS X.prog X.w X.K X.mg X.base CX k f fd ps sp)(hr:zN (k+1) X.A)(hb:w8 X.K fd ps ds)(hd:zC dvs ds)
  (hx:ZK CX X E) (I:zB X pins σ H s) (r:zC vs us)
  (h:∀x dx,H x=none->H dx=none->dx≠x->sp (.ref x::(vs++dvs)) (zV (zV H dx (.own x)) x (.ins C dx [])) (λv H2=>v=.non/\Q (.ref x) H2) E):
  wpAny (model X.prog X.w) X.A (call (.ref C) us) (EP X pins σ Q) X.xe s:=by
 have hq:=h (s.heap.objs.size+1) s.heap.objs.size (I.hok.fresh (dR _)) (I.hok.fresh (aJ _)) (bK (bW _));have I2:=zB.made (C:=C) I;have r2:zC (V.ref (s.heap.objs.size+1)::(vs++dvs)) (Value.ref (s.heap.objs.size+1)::(us++ds)):=.cons rfl (r.append hd)
 have hl:(Value.ref (s.heap.objs.size+1)::us++ds).length=ps.length:=by have e:=r2.length;rw[F.len _ _ _ _ hq]at e;exact e.symm
 refine wpAny_call (zMs (f:=f) I.kIn M.makes M.init (beq_iff_eq.mp M.fn) (codeAny_mono (F.run _ X.stack _ _ ⟨Value.ref (s.heap.objs.size+1)::us,[]⟩ (Value.ref (s.heap.objs.size+1)::(us++ds)) _ _ E (hr.make C us [])
  (I2.env0.make C us []) (hb _ (Value.ref (s.heap.objs.size+1)::us) I2.kIn hl) r2 hq) λr s' hq'=>?_))
 cases r with
 |error e=>exact hx pins σ _ _ e s' I2 hq'
 |ok fl=>
  cases fl with
  |ret u=>
   obtain⟨v,H',I3,rv,ev,q3⟩:=I2.after hq';subst ev;exact⟨rv,⟨V.ref (s.heap.objs.size+1),H',I3,rfl,q3⟩⟩
  |next=>exact False.elim hq'
  |brk=>exact False.elim hq'
  |cont=>exact False.elim hq'
theorem zKI(M:Mk X.K C f)(F:zS X.prog X.w X.K X.mg X.base CX k f fd ps sp)(hr:zN (k+1) X.A)(hg:Gl X x)(hm:X.mg x=some (.ref C))(hb:w8 X.K fd ps ds)(hd:zC dvs ds)(hx:ZK CX X E)
  (ha:PA X (e::es) t) (hdb:(x==("__debug__":Str))=false:=by decide) (he:starEach (e::es) X.env=(false,eval e X.env)::starEach es X.env:=by rfl) (hpl:(backTo pos (starEach es X.env)).any (·.1)=false:=by rfl):
  PE X (.Call (.Name x p) (e::es) [] pos) (YX C sp dvs E t):=by
 intro pins s σ H Q I h;refine wpAny_Call_Name_kw (QR I hg hm ?_ hdb);refine iL (h₀:=X.base) I.ok.mod.kin M.kp (zf (ha pos pins s σ H _ I h) λus s1 ⟨vs,H1,I1,r,q⟩=>⟨I1.kIn,?_⟩) he hpl;exact zMF M F hr hb hd hx I1 r q
end
structure wH(N P:List Str)(sc:Scope):Prop where
 kind:sc.kind=.function
 co:sc.isCoroutine=false
 gen:sc.isGenerator=false
 nd:N.Nodup
 pre:N.take P.length=P
 par:∀x∈P,sc.names.lookup x=some .local\/sc.names.lookup x=some .cell
 nofree:∀y∈sc.names,y.2≠.free
theorem wH.a{N P:List Str}{s:Scope}(a:s.kind=.function:=by rfl)(b:s.isCoroutine=false:=by rfl)(c:s.isGenerator=false:=by rfl)(d:N.Nodup:=by decide+kernel)(e:N.take P.length=P:=by rfl)(f:∀x∈P,s.names.lookup x=some .local\/s.names.lookup x=some .cell:=by decide+kernel)(g:∀y∈s.names,y.2≠.free:=by decide+kernel):wH N P s:=⟨a,b,c,d,e,f,g⟩
theorem zGO{kindOf:Str->Option NameKind}:∀{binds:List (Str×Value)}{m:Str->Option Value},(∀v,(x,v)∉binds)->bindL kindOf binds m x=m x
 |[],_,_=>rfl
 |(n,v)::r,m,h=>by
  unfold bindL;rw[zGO λw hw=>h w (aK _ hw)];split
  ·have:x≠n:=by rintro rfl;exact h v aR
   simp[this]
  ·rfl
theorem zGQ{kindOf:Str->Option NameKind}:∀{binds:List (Str×Value)}{m:Str->Option Value},(∀v,(x,v)∉binds)->bindC kindOf binds m x=m x
 |[],_,_=>rfl
 |(n,v)::r,m,h=>by
  unfold bindC;rw[zGQ λw hw=>h w (aK _ hw)];split
  ·rfl
  ·have:x≠n:=by rintro rfl;exact h v aR
   simp[this]
theorem zGP{kindOf:Str->Option NameKind}:∀{P:List Str}{vs:List Value}{i:Nat}{m:Str->Option Value},P.Nodup->P[i]? =some x->vs[i]? =some v->kindOf x=some .local->
  bindL kindOf (P.zip vs) m x=some v
 |[],_,_,_,_,h,_,_=>by simp at h
 |_::_,[],_,_,_,_,h,_=>by simp at h
 |p::P,w::vs,0,m,nd,h1,h2,hk=>by
  simp at h1 h2;subst h1;subst h2;show bindL kindOf ((p,w)::P.zip vs) m p=_;unfold bindL;rw[zGO λv hv=>(dU.mp nd).1 (bC hv).1,if_pos hk];simp
 |p::P,w::vs,i+1,m,nd,h1,h2,hk=>by
  show bindL kindOf ((p,w)::P.zip vs) m x=_;unfold bindL;exact zGP (i:=i) (dU.mp nd).2 (by simpa using h1) (by simpa using h2) hk
theorem zGR{kindOf:Str->Option NameKind}:∀{P:List Str}{vs:List Value}{i:Nat}{m:Str->Option Value},P.Nodup->P[i]? =some x->vs[i]? =some v->kindOf x≠some .local->
  bindC kindOf (P.zip vs) m x=some v
 |[],_,_,_,_,h,_,_=>by simp at h
 |_::_,[],_,_,_,_,h,_=>by simp at h
 |p::P,w::vs,0,m,nd,h1,h2,hk=>by
  simp at h1 h2;subst h1;subst h2;show bindC kindOf ((p,w)::P.zip vs) m p=_;unfold bindC;rw[zGQ λv hv=>(dU.mp nd).1 (bC hv).1,if_neg hk];simp
 |p::P,w::vs,i+1,m,nd,h1,h2,hk=>by
  show bindC kindOf ((p,w)::P.zip vs) m x=_;unfold bindC;exact zGR (i:=i) (dU.mp nd).2 (by simpa using h1) (by simpa using h2) hk
noncomputable def wj(N:List Str)(vs:List V):St:=vs.map some++aL (N.length-vs.length) none
noncomputable def ym(CX:gg)(P:Program)(w:World)(K:aH)(mg:Str->Option Value)(base:Heap)(N:List Str)(qual:Str)(scope:Scope)(f:Addr)(cd:Value)(A:Around)(outer:List Env)(s:Shared)(H:Hp)(E:XK):Cx where
 prog:=P
 w:=w
 K:=K
 mg:=mg
 base:=base
 A:=A.deeper (envOfC qual scope s.heap.objs.size f cd)
 N:=N
 s₀:=s
 H₀:=H
 env:=envOfC qual scope s.heap.objs.size f cd
 outer:=outer
 stack:=envOfC qual scope s.heap.objs.size f cd::outer
 ex:=[]
 calm:=true
 fn:=λ_=>true
 pn:=[]
 xe:=λe s'=>wpAny (model P w) (A.deeper (envOfC qual scope s.heap.objs.size f cd)) (leaving (envOfC qual scope s.heap.objs.size f cd) e) (λ_ s''=>CX outer H s E e s'') (λe' s''=>CX outer H s E e' s'') s'
theorem zIS{sc:Scope}(h:sc.names.lookup x=some .cell):∃c,(cellsFrom n sc.names []).lookup x=some c:=by have q:=cB sc.names n [] (.inl h);exact cX.mp q
theorem zK0{K:aH}
  (S:wH N ps scope) (hd:A.handled=none) (e0:xu P w K mg base A outer s H) (hl:vs.length=ps.length) (r:zC vs us)
  (x:InCallC s s.heap.objs.size (bindL (envOfC qual scope s.heap.objs.size f cd).kindOf (ps.zip us) λ_=>none) (cellsFrom (s.heap.objs.size+1) scope.names []) (bindC (envOfC qual scope s.heap.objs.size f cd).kindOf (ps.zip us) λ_=>none) s1):
  zB (ym CX P w K mg base N qual scope f cd A outer s H E) [] (wj N vs) H s1:=by
 have hpl:ps.length<=N.length:=by have:=congrArg dF S.pre;rw[aZ]at this;omega
 obtain⟨h1,tk,rfl,hk⟩:=x.done;have ur:∀b:Addr,b∉(ym CX P w K mg base N qual scope f cd A outer s H E).ex:=λb z=>absurd (show b∈([]:List Addr)from z) (by simp)
 refine⟨⟨e0.mod,S.kind,rfl,rfl,aJ _,λy z c h1 h2=>?_,λy hy=>?_,λy c _ h=>?_,λ_=>hd,Around.frames_deeper e0.frames,.inr ⟨rfl,rfl⟩,λb z=>absurd z (ur b),e0.bs,e0.bsz,λb _ _=>ur b,λb z=>absurd z (ur b),e0.funs,e0.frf⟩,
  rfl,e0.bare,Un.kept hk,⟨_,x.toInCall.ns,λi y v h1 h2 h3=>?_⟩,λy c h=>⟨_,x.cell y c h⟩,e0.hok.fresh (aJ _),λy c h=>?_,λp hp=>absurd (show p∈([]:List (Addr×Obj))from hp) (by simp),e0.hok.kept hk,?_⟩
 ·exact name_of_addr x.apart (PySem.mem_of_lookup h1) (PySem.mem_of_lookup h2)
 ·have hy:scope.names.lookup y=some .cell\/scope.names.lookup y=some .free:=hy;rcases hy with hy|hy
  ·exact zIS hy
  ·exact absurd rfl (S.nofree _ (PySem.mem_of_lookup hy))
 ·exact eB (x.above y c (PySem.mem_of_lookup h))
 ·have hi:i<vs.length:=by
   unfold wj at h2;by_cases hi:i<vs.length
   ·exact hi
   ·rw[cS (by simpa using hi)]at h2;rw[List.getElem?_replicate]at h2;split at h2 <;> cases h2
  have ha:vs[i]? =some v:=by
   unfold wj at h2;rw[du (by simpa using hi),aV]at h2;cases e:vs[i]? with
   |none=>rw[e]at h2;cases h2
   |some a=>rw[e]at h2;cases h2;rfl
  obtain⟨u,hu,rv⟩:=r.get ha
  have hp:ps[i]? =some y:=by rw[<- S.pre,fT (by omega)];exact h1
  have ndP:ps.Nodup:=by rw[<- S.pre];exact S.nd.sublist (List.take_sublist _ _)
  refine⟨u,rv,?_⟩;rcases S.par y (bH hp)with k|k
  ·exact .inl ⟨k,zGP ndP hp hu k⟩
  ·obtain⟨c,e⟩:=zIS (n:=s.heap.objs.size+1) k;refine .inr ⟨.inl k,c,e,?_⟩;have q:=x.cell y c e;rw[zGR ndP hp hu (by show scope.names.lookup y≠_;rw[k];decide)]at q;exact q
 ·exact e0.hok.fresh (eB (x.above y c (PySem.mem_of_lookup h)))
 ·unfold wj;show _=N.length;rw[aF,aB,bX];omega
theorem Qj{K:aH}{dV kV doc pm cdv ct oc:Value}
  (lk:K.lookup f=some ⟨oc,od,.func (da name qual params body scope dV kV doc pm an cdv ct),osl⟩) (hcd:e8 K cdv qual=true) (S:wH N ps scope)
  (len:∀vs H Q E,sp vs H Q E->vs.length=ps.length)
  (hbody:∀(A:Around)(outer:List Env)(s:Shared)(H:Hp)(vs:List V)(Q:VK)(E:XK),zN k (A.deeper (envOfC qual scope s.heap.objs.size f cdv))->sp vs H Q E->
   ∃t,yb (ym CX P w K mg base N qual scope f cdv A outer s H E) body t/\t {nx:=λ_ H'=>Q .non H',rt:=Q} (wj N vs) H):
  zS P w K mg base CX (k+1) f (da name qual params body scope dV kV doc pm an cdv ct) ps sp:=by
 refine⟨len,λA outer s H args us vs Q E hr e0 hb r hsp=>?_⟩;have hl:=len _ _ _ _ hsp;have KX:K.In s.heap:=e0.mod.kin.keeps λb o e=>(e0.bs b o e).1;have lim:s.heap.NoLimit:=e0.mod.nolimit.keeps λb o e=>(e0.bs b o e).1
 have hkind:∀y∈ps.zip us,scope.names.lookup y.1=some .local\/(scope.names.lookup y.1=some .cell/\((cellsFrom (s.heap.objs.size+1) scope.names []).lookup y.1).isSome=true):=λ⟨n,v⟩ hy=>by
  rcases S.par n (bC hy).1 with q|q
  ·exact .inl q
  ·exact .inr ⟨q,cB _ _ _ (.inl q)⟩
 refine codeAny_call_function hr.depth (KX _ _ lk) rfl S.co S.gen rfl (PySem.W.codeRec_of KX hcd) (hb _ _ _ _ ?_);refine wpAny_newFunctionEnv_cells S.kind hkind λenv he s1 x=>?_;subst he;refine⟨lim.keeps x.toInCall.keep,codeAny_func ?_⟩;obtain⟨t,ht,hq⟩:=hbody A outer s H vs Q E (hr.deeper _) hsp;have I:zB (ym CX P w K mg base N qual scope f cdv A outer s H E) [] (wj N vs) H s1:=zK0 S hr.hd e0 hl r x;refine wpAny_mono (ht [] s1 (wj N vs) H _ I hq) (λfl s' hs=>?_) λe s' hs=>hs
 have fin:∀{σ':St}{H':Hp}{v:V}{u:Value},zB (ym CX P w K mg base N qual scope f cdv A outer s H E) [] σ' H' s'->zM v u->Q v H'->CE outer P w H s Q u s':=λ{σ' H' v u} J rv q=>⟨v,H',J.os,J.bare,J.base,J.hok,rv,q⟩
 cases fl with
 |ret u=>
  obtain⟨v,σ',H',J,rv,q⟩:=hs;exact fin J rv q
 |next=>
  obtain⟨σ',H',J,q⟩:=hs;exact fin (v:=V.non) (u:=Value.none) J rfl q
 |brk=>
  obtain⟨_,_,_,q⟩:=hs;exact False.elim q
 |cont=>
  obtain⟨_,_,_,q⟩:=hs;exact False.elim q
section
variable{X:Cx}{x:Str}{p pos:Pos}{e:Expr}{es:List Expr}{t:TA}{id T:String}{r:List V->Hp->VK->Prop}
def YY(r:List V->Hp->VK->Prop)(t:TA):TE:=λσ H Q=>t σ H λvs H1=>r vs H1 Q
theorem U0(hc:wg X (.builtin id) r)(hg:Gl X x)(hm:X.mg x=none)(hv:bootBuiltins x=some (.builtin id))(ha:PA X (e::es) t)(hn:x≠"__name__":=by decide)(hdb:(x==("__debug__":Str))=false:=by decide)
  (he:starEach (e::es) X.env=(false,eval e X.env)::starEach es X.env:=by rfl) (hpl:(backTo pos (starEach es X.env)).any (·.1)=false:=by rfl):PE X (.Call (.Name x p) (e::es) [] pos) (YY r t):=by
 intro pins s σ H Q I h;refine wpAny_Call_Name_kw (j5 I hg hm hv ?_ hn hdb);exact PyProof.Rows.callWith_builtin1 (zf (ha pos pins s σ H _ I h) λus s1 ⟨vs,H1,I1,r1,q1⟩=>hc pins s1 σ H1 vs us Q I1 r1 q1) he hpl
theorem U1(hc:wg X (.type T) r)(hg:Gl X x)(hm:X.mg x=none)(hv:bootBuiltins x=some (.type T))(ha:PA X (e::es) t)(hn:x≠"__name__":=by decide)(hdb:(x==("__debug__":Str))=false:=by decide)
  (he:starEach (e::es) X.env=(false,eval e X.env)::starEach es X.env:=by rfl) (hpl:(backTo pos (starEach es X.env)).any (·.1)=false:=by rfl):PE X (.Call (.Name x p) (e::es) [] pos) (YY r t):=by
 intro pins s σ H Q I h;refine wpAny_Call_Name_kw (j5 I hg hm hv ?_ hn hdb);exact PyProof.Rows.callWith_type1 (zf (ha pos pins s σ H _ I h) λus s1 ⟨vs,H1,I1,r1,q1⟩=>hc pins s1 σ H1 vs us Q I1 r1 q1) he hpl
end
end L2
namespace HT
open PySem PyProof.Rows
section
variable{prog:Program}{w:World}{A:Around}{E:Value->Shared->Prop}{s:Shared}
theorem cat_tup(ht:IsTup s.heap t vs.toArray)(hb:IsTup s.heap b ws.toArray)(hv:vs≠[])
  (h1:ws=[]->Q (.ref t) s) (h2:ws≠[]->Q (.ref s.heap.objs.size) {s with heap:=s.heap.push {cls:=.type "tuple",data:=.seq (vs++ws).toArray}})
  (hsz:vs.length+ws.length<=sizeLine):wpAny (model prog w) A (binaryOp .Add (.ref t) (.ref b)) Q E s:=by
 obtain⟨⟨cls,dd,data,sl⟩,ho,hc,n,hd⟩:=id ht;obtain⟨⟨cls2,dd2,data2,sl2⟩,ho2,hc2,n2,hd2⟩:=id hb;simp only at hc hd hc2 hd2;subst hc hd hc2 hd2;have e:vs.toArray++ws.toArray=(vs++ws).toArray:=by simp
 by_cases hw:ws=[]
 ·exact concat_meets ⟨_,ho,rfl⟩ ⟨_,ho2,rfl⟩ noFill_tuple_add seq_tuple_add eQ eG (eD _ _)
   (tuple_addW1 t b vs.toArray ws.toArray n n2 dd dd2 sl sl2 (by simpa using hv) (by simp[hw])) ⟨ho,ho2,h1 hw⟩
 ·refine concat_meets ⟨_,ho,rfl⟩ ⟨_,ho2,rfl⟩ noFill_tuple_add seq_tuple_add eQ eG (eD _ _)
   (tuple_addW2 t b vs.toArray ws.toArray n n2 dd dd2 sl sl2 (by simpa using hv) (by simpa using hw) (by rw[aY,aY];exact hsz)) ⟨ho,ho2,?_⟩
  rw[e];exact h2 hw
noncomputable def sIx(n d:Nat):Option Int->Nat
 |none=>d
 |some v=>if v<0 then(v+(n:Int)).toNat else min v.toNat n
theorem sIx_none(n d):sIx n d none=d:=rfl
theorem sIx_nat(n d k:Nat):sIx n d (some (k:Int))=min k n:=by show(if(k:Int)<0 then((k:Int)+(n:Int)).toNat else min (k:Int).toNat n)=min k n;rw[if_neg (by omega),cJ]
theorem zQ3(n d)(hd:d<=n)(o):sIx n d o<=n:=by
 cases o with
 |none=>exact hd
 |some v=>
  show(if v<0 then(v+(n:Int)).toNat else min v.toNat n)<=n;by_cases hv:v<0
  ·rw[if_pos hv];omega
  ·rw[if_neg hv];exact lD _ _
theorem zLM(v)(n d:Nat):(if v<0 then max (v+(n:Int)) 0 else min v (n:Int))=((sIx n d (some v):Nat):Int):=by
 show(if v<0 then max (v+(n:Int)) 0 else min v (n:Int))=(((if v<0 then(v+(n:Int)).toNat else min v.toNat n):Nat):Int)
 by_cases hv:v<0
 ·simp only[if_pos hv];omega
 ·simp only[if_neg hv];omega
theorem zJF(lo hi)(n:Nat):Builtin.Slice.sliceAdjust lo hi 1 (n:Int)=(((sIx n 0 lo:Nat):Int),((sIx n n hi:Nat):Int)):=by
 have h1:¬((1:Int)<0):=by omega
 unfold Builtin.Slice.sliceAdjust;simp only[h1,if_false];refine Prod.ext ?_ ?_
 ·cases lo with
  |none=>rfl
  |some v=>exact zLM v n 0
 ·cases hi with
  |none=>rfl
  |some v=>exact zLM v n n
theorem zIo(i j:Nat):Builtin.Slice.slicePlaces (i:Int) (j:Int) 1=j-i:=by
 unfold Builtin.Slice.slicePlaces;have h1:(1:Int)>0:=by omega
 simp only[h1,if_true,Int.ediv_one];split<;> omega
theorem zEc(p:IsPart v o)(h:Q o s):wpAny (model prog w) A (Builtin.Slice.slicePartIndex v) Q E s:=by
 cases p with
 |none=>exact slicePart_none h
 |int i t=>exact slicePart_int h
theorem zBx{lo hi:Option Int}{n:Nat}(hs:s.heap.IsSliceOf sl vl vu .none)(pl:IsPart vl lo)(pu:IsPart vu hi)
  (h:Q (((sIx n 0 lo:Nat):Int),1,sIx n n hi-sIx n 0 lo) s):wpAny (model prog w) A (Builtin.Slice.sliceApplied (.ref sl) (pure (n:Int))) Q E s:=by
 obtain⟨os,hos,hcs,hds⟩:=id hs;unfold Builtin.Slice.sliceApplied Builtin.Slice.sliceFields;refine wpAny_bind (wpAny_bind (wpAny_field hos hds (x:=vl) rfl (wpAny_bind (wpAny_field hos hds (x:=vu) rfl (wpAny_bind (wpAny_field hos hds (x:=.none) rfl (wpAny_pure ?_)))))));refine wpAny_bind (slicePart_none ?_);show wpAny _ _ (if((1:Int)==0)=true then _ else _) _ _ s;rw[if_neg (by decide)];refine wpAny_bind (zEc pl (wpAny_bind (zEc pu (wpAny_bind (wpAny_pure ?_)))));show wpAny _ _ (match Builtin.Slice.sliceAdjust lo hi 1 (n:Int)with|(lo,hi)=>pure (lo,(1:Int),Builtin.Slice.slicePlaces lo hi 1)) _ _ s;rw[zJF lo hi n];show wpAny _ _ (pure (((sIx n 0 lo:Nat):Int),(1:Int),Builtin.Slice.slicePlaces ((sIx n 0 lo:Nat):Int) ((sIx n n hi:Nat):Int) 1)) _ _ s;rw[zIo];exact wpAny_pure h
theorem zMb(xs:Array Value)(i k:Nat):((aI k).filterMap λ(m:Nat)=>xs[((i:Int)+(m:Int)*1).toNat]?).toArray=((xs.toList.drop i).take k).toArray:=by
 have e:(λ(m:Nat)=>xs[((i:Int)+(m:Int)*1).toNat]?)=λm=>xs[i+m]?:=by
  funext m
  have:((i:Int)+(m:Int)*1).toNat=i+m:=by omega
  rw[this]
 rw[e];have:=pick_run xs i k;rw[List.filterMap_map]at this;have e2:((λx=>xs[x]?) ∘ λx=>i+x)=λm=>xs[i+m]?:=rfl;rw[e2]at this;rw[this]
theorem getItem_tuple_cut{lo hi:Option Int}(ht:IsTup s.heap t items)(hs:s.heap.IsSliceOf sl vl vu .none)(pl:IsPart vl lo)(pu:IsPart vu hi)
  (hw:¬(sIx items.size 0 lo=0/\sIx items.size items.size hi=items.size))
  (h:Q (.ref s.heap.objs.size) {s with heap:=s.heap.push {cls:=.type "tuple",data:=.seq ((items.toList.drop (sIx items.size 0 lo)).take (sIx items.size items.size hi-sIx items.size 0 lo)).toArray}})
  (hsz:items.size<=sizeLine):wpAny (model prog w) A (getItem (.ref t) (.ref sl)) Q E s:=by
 have htake:sizeOk (.seq ((items.toList.drop (sIx items.size 0 lo)).take (sIx items.size items.size hi-sIx items.size 0 lo)).toArray):=by show((items.toList.drop (sIx items.size 0 lo)).take (sIx items.size items.size hi-sIx items.size 0 lo)).toArray.size<=sizeLine;rw[aY,aZ,cc,cT];omega
 have hj:sIx items.size items.size hi<=items.size:=zQ3 _ _ (aJ _) hi;obtain⟨os,hos,hcs,hds⟩:=id hs;have hTs:s.TypeIs (.ref sl) "slice":=⟨os,hos,hcs⟩
 unfold getItem
 try with_reducible refine wpAny_holding ?_
 first|refine wpAny_bind (wpAny_pure ?_)|skip
 refine wpAny_bind (wpAny_sequenceKey ht.typeIs (by decide) ?_)
 refine wpAny_bind (wpAny_callSpecial?_slot (name:=bZ "__getitem__") ht.typeIs PyProof.Rows.slot_tuple_getitem
  (wpAny_call_entry PyProof.Rows.slot_tuple_getitem ht.typeIs entry_tuple_getitem ?_ (args_tuple_getitem _ _)))
 show wpAny _ _ (Builtin.Tuple.tupleItemsOf (.ref t)>>= _) _ _ s;refine wpAny_bind (tupleItemsOf_ ht ?_);refine wpAny_bind (wpAny_typeOf hTs ?_);rw[if_pos (by decide)];refine wpAny_bind (zBx hs pl pu ?_)
 have hno:¬((((sIx items.size 0 lo:Nat):Int)==0&&(1:Int)==1&&(sIx items.size items.size hi-sIx items.size 0 lo)==items.size)=true):=by intro q;rw[bQ,bQ]at q;have q1:((sIx items.size 0 lo:Nat):Int)=0:=eq_of_beq q.1.1;have q2:sIx items.size items.size hi-sIx items.size 0 lo=items.size:=eq_of_beq q.2;exact hw ⟨by omega,by omega⟩
 show wpAny _ _ (if(((sIx items.size 0 lo:Nat):Int)==0&&(1:Int)==1&&(sIx items.size items.size hi-sIx items.size 0 lo)==items.size)=true then _ else _) _ _ s;rw[if_neg hno,zMb]
 first
  |exact wpAny_bind (m:=Builtin.Tuple.tupleExact _) (wpAny_newObj_type (wpAny_pure ⟨_,rfl,wpAny_pure h⟩) htake)
  |exact wpAny_bind (m:=Builtin.Tuple.tupleExact _) (wpAny_newObj_type (wpAny_bind (wpAny_pure (wpAny_pure ⟨_,rfl,wpAny_pure h⟩))) htake)
  |exact wpAny_bind (wpAny_bind (m:=Builtin.Tuple.tupleExact _) (wpAny_newObj_type (wpAny_pure (wpAny_pure ⟨_,rfl,wpAny_pure h⟩)) htake))
  |exact wpAny_bind (wpAny_bind (m:=Builtin.Tuple.tupleExact _) (wpAny_newObj_type (wpAny_pure ⟨_,rfl,wpAny_pure h⟩) htake))
end
end HT
namespace L2
open PySem PySem.Spec PyProof.Rows
abbrev TO:=St->Hp->(Option Int->Hp->Prop)->Prop
def PO(X:Cx)(e:Option Expr)(t:TO):Prop:=
 ∀(pins:List (Addr×Obj))(s:Shared)(σ:St)(H:Hp)(Q:Option Int->Hp->Prop),zB X pins σ H s->t σ H Q->
  wpAny (model X.prog X.w) X.A (evalPart e X.env) (λu s'=>∃o H',zB X pins σ H' s'/\IsPart u o/\Q o H') X.xe s
def zOi:TO:=λ_ H Q=>Q none H
def YZ(t:TE):TO:=λσ H Q=>t σ H λx H1=>∃i,x=.int i/\Q (some i) H1
section
variable{X:Cx}{e:Expr}{te:TE}{lo hi:Option Expr}{tl th:TO}{pos p2:Pos}
theorem zO7:PO X none zOi:=by intro pins s σ H Q I h;rw[evalPart_none];exact wpAny_pure ⟨none,H,I,.none,h⟩
theorem zJ7(h:PE X e te):PO X (some e) (YZ te):=by intro pins s σ H Q I hw;rw[evalPart_some];refine zf (h pins s σ H _ I hw) λu s1 ⟨x,H1,I1,r1,q1⟩=>?_;obtain⟨i,rfl,q⟩:=q1;obtain⟨t,rfl⟩:=r1;exact⟨some i,H1,I1,.int i t,q⟩
def gh(X:Cx)(r:V->Option Int->Option Int->Hp->VK->Prop):Prop:=
 ∀(pins:List (Addr×Obj))(s:Shared)(σ:St)(H:Hp)(x:V)(v vl vu:Value)(lo hi:Option Int)(sl:Addr)(Q:VK),zB X pins σ H s->zM x v->s.heap.IsSliceOf sl vl vu .none->IsPart vl lo->IsPart vu hi->r x lo hi H Q->
  ∃T id,typeLookup (.type T) "__getitem__"=pure (some (.builtin id))/\s.TypeIs v T/\wpAny (model X.prog X.w) X.A (getItem v (.ref sl)) (EP X pins σ Q) X.xe s
def tSl(r:V->Option Int->Option Int->Hp->VK->Prop)(te:TE)(tl th:TO):TE:=λσ H Q=>te σ H λx H1=>tl σ H1 λl H2=>th σ H2 λu H3=>r x l u H3 Q
theorem zHu(hr:gh X r)(he:PE X e te)(hl:PO X lo tl)(hu:PO X hi th):PE X (.Subscript e (.Slice lo hi none p2) pos) (tSl r te tl th):=by intro pins s σ H Q I h;refine Subscript_ (zf (he pins s σ H _ I h) λv s1 ⟨x,H1,I1,r1,q1⟩=>?_);refine wpAny_Slice (zf (hl pins s1 σ H1 _ I1 q1) λvl s2 ⟨l,H2,I2,pl,q2⟩=>zf (hu pins s2 σ H2 _ I2 q2) λvu s3 ⟨u,H3,I3,pu,q3⟩=>?_);rw[evalPart_none];refine wpAny_pure ?_;have I4:zB X pins σ H3 {s3 with heap:=s3.heap.push {cls:=.type "slice",data:=.fields #[vl,vu,.none]}}:=I3.kept (t':=s3.toks) λb ob q=>aO _ q;obtain⟨T,id,hT,ht,hg⟩:=hr pins {s3 with heap:=s3.heap.push {cls:=.type "slice",data:=.fields #[vl,vu,.none]}} σ H3 x v vl vu l u s3.heap.objs.size Q I4 r1 (Heap.IsSliceOf.new ..) pl pu q3;show wpAny (model X.prog X.w) X.A (subscriptTail e (.Slice lo hi none p2) v (.ref s3.heap.objs.size)) (EP X pins σ Q) X.xe {s3 with heap:=s3.heap.push {cls:=.type "slice",data:=.fields #[vl,vu,.none]}};exact tail_any (ops:=[.ref s3.heap.objs.size,v]) ht hT hg (by with_unfolding_all rfl)
noncomputable def vA(xs:List V)(lo hi:Option Int):List V:=(xs.drop (HT.sIx xs.length 0 lo)).take (HT.sIx xs.length xs.length hi-HT.sIx xs.length 0 lo)
theorem zD4(xs)(lo hi):(vA xs lo hi).length<=xs.length:=by unfold vA;rw[aZ,cc];omega
def Qk(K:aH):V->Option Int->Option Int->Hp->VK->Prop:=λx lo hi H Q=>∃a xs,x=.ref a/\yZ K H a xs∧
 ¬(HT.sIx xs.length 0 lo=0/\HT.sIx xs.length xs.length hi=xs.length)/\∀p,H p=none->Q (.ref p) (zV H p (.tup (vA xs lo hi)))
theorem zQ1:gh X (Qk X.K):=by
 intro pins s σ H x v vl vu lo hi sl Q I rx hs pl pu h;obtain⟨a,xs,rfl,hx,hw,q⟩:=h;cases rx;obtain⟨its,r,ht,hz⟩:=I.tuple hx;have hlen:its.toArray.size=xs.length:=by rw[aY];exact r.length.symm
 refine⟨"tuple",_,PyProof.Rows.slot_tuple_getitem.lookup,ht.typeIs,?_⟩;refine HT.getItem_tuple_cut ht hs pl pu (by rw[hlen];exact hw) ?_ (by rw[hlen];exact hz);rw[hlen];refine⟨.ref s.heap.objs.size,_,I.laid (t':=s.toks) (o:=.tup (vA xs lo hi)) (λb ob q=>aO _ q) (aJ _) ?_,rfl,q _ (I.hok.fresh (aJ _))⟩;exact⟨bI (zD4 xs lo hi) hz,_,(r.drop (HT.sIx xs.length 0 lo)).take (HT.sIx xs.length xs.length hi-HT.sIx xs.length 0 lo),IsTup.new _ _⟩
def Yb(K:aH):R2:=λx y H Q=>∃a b xs ys,x=.ref a/\y=.ref b/\yZ K H a xs/\yZ K H b ys/\xs≠[]/\xs.length+ys.length<=sizeLine∧
 (ys=[]->Q (.ref a) H)/\(ys≠[]->∀p,H p=none->Q (.ref p) (zV H p (.tup (xs++ys))))
theorem zC.nil_iff(r:zC xs us):us=[]↔xs=[]:=by
 cases r with
 |nil=>simp
 |cons _ _=>simp
theorem zPJ:yV X (binaryOp .Add) (Yb X.K):=by intro pins s σ H x y v u Q I rx ry h;obtain⟨a,b,xs,ys,rfl,rfl,ha,hb,hx,hz,q1,q2⟩:=h;cases rx;cases ry;obtain⟨its,r1,p1,_⟩:=I.tuple ha;obtain⟨its2,r2,p2,_⟩:=I.tuple hb;refine HT.cat_tup p1 p2 (λz=>hx (r1.nil_iff.mp z)) (λz=>⟨.ref a,H,I,rfl,q1 (r2.nil_iff.mp z)⟩) (λz=>?_) (by rw[<- r1.length,<- r2.length];exact hz);refine⟨.ref s.heap.objs.size,_,I.laid (t':=s.toks) (o:=.tup (xs++ys)) (λb ob q=>aO _ q) (aJ _) ?_,rfl,q2 (λw=>z (r2.nil_iff.mpr w)) _ (I.hok.fresh (aJ _))⟩;exact⟨by rw[aF];exact hz,_,r1.append r2,IsTup.new _ _⟩
end
noncomputable def xw(n:Nat)(i:Int):Option Nat:=if 0<=i then(if i<n then some i.toNat else none) else if -(n:Int)<=i then some (i+n).toNat else none
noncomputable def yc{α:Type}(xs:List α)(i:Int):Option α:=(xw xs.length i).bind λj=>xs[j]?
theorem zKy(h:xw n i=some j):seqIndex? i n=some j/\j<n/\-(n:Int)<=i/\i<n:=by
 unfold xw at h;by_cases h0:0<=i
 ·rw[if_pos h0]at h;by_cases h1:i<n
  ·rw[if_pos h1]at h;have e:i.toNat=j:=Option.some.inj h;exact⟨by rw[seqIndex_of h0 h1,e],by omega,by omega,h1⟩
  ·rw[if_neg h1]at h;cases h
 ·rw[if_neg h0]at h;by_cases h1:-(n:Int)<=i
  ·rw[if_pos h1]at h;have e:(i+n).toNat=j:=Option.some.inj h;exact⟨by rw[seqIndex_neg (by omega) h1,e],by omega,h1,by omega⟩
  ·rw[if_neg h1]at h;cases h
theorem zLo{α:Type}{xs:List α}{i:Int}{v:α}(h:yc xs i=some v):∃j,seqIndex? i xs.length=some j/\xs[j]? =some v/\j<xs.length/\-(xs.length:Int)<=i/\i<xs.length:=by
 unfold yc at h;cases e:xw xs.length i with
 |none=>rw[e]at h;cases h
 |some j=>
  rw[e]at h;obtain⟨h1,h2,h3,h4⟩:=zKy e;exact⟨j,h1,h,h2,h3,h4⟩
theorem zLn{α:Type}{xs:List α}{j:Nat}{v:α}(h:xs[j]? =some v):yc xs (j:Int)=some v:=by
 have hj:j<xs.length:=(aN.mp h).1
 have e:xw xs.length (j:Int)=some j:=by unfold xw;rw[if_pos (by omega),if_pos (by omega)];simp
 unfold yc;rw[e];exact h
def Yc(b:Expr):Prop:=∀o i,subscripted b false o i=operate [o,i] (getItem o i)
def U3(X:Cx)(r:R2):Prop:=
 ∀(value slice:Expr)(pins:List (Addr×Obj))(s:Shared)(σ:St)(H:Hp)(x y:V)(v u:Value)(Q:VK),zB X pins σ H s->zM x v->zM y u->r x y H Q->
  subscripted slice false v u=operate [v,u] (getItem v u)->wpAny (model X.prog X.w) X.A (subscriptTail value slice v u) (EP X pins σ Q) X.xe s
def MtR(X:Cx)(id:String)(r:V->List V->Hp->VK->Prop):Prop:=
 ∀(pins:List (Addr×Obj))(s:Shared)(σ:St)(H:Hp)(x:V)(xs:List V)(v:Value)(us:List Value)(Q:VK),zB X pins σ H s->zM x v->zC xs us->r x xs H Q->
  wpAny (model X.prog X.w) X.A (call (.builtin id) (v::us)) (EP X pins σ Q) X.xe s
section
variable{X:Cx}{a b:Expr}{ta tb:TE}{pos:Pos}
theorem Ql(hr:U3 X r)(ha:PE X a ta)(hb:PE X b tb)(hs:Yc b):PE X (.Subscript a b pos) (ZI r ta tb):=by intro pins s σ H Q I h;exact Subscript_ (gX ha hb I h λv u s2 x y H2 I2 rx ry q=>hr a b pins s2 σ H2 x y v u Q I2 rx ry q (hs _ _))
def Yd(K:aH):R2:=λx y H Q=>∃p xs i v,x=.ref p/\y=.int i/\zW K H p xs/\yc xs i=some v/\Q v H
def Qm(K:aH):R2:=λx y H Q=>∃p xs i v,x=.ref p/\y=.int i/\yZ K H p xs/\yc xs i=some v/\Q v H
theorem Qn:U3 X (Yd X.K):=by
 intro value slice pins s σ H x y v u Q I rx ry h hs;obtain⟨p,xs,i,z,rfl,rfl,hq,he,q⟩:=h;cases rx;obtain⟨t,rfl⟩:=ry;obtain⟨its,r,pl,hz⟩:=I.list hq;obtain⟨j,h1,h2,h3,h4,h5⟩:=zLo he;obtain⟨w,ew,rw'⟩:=r.get h2;have hl:=r.length;have hn:=Ux;have fin:EP X pins σ Q w s:=⟨z,H,I,rw',q⟩
 by_cases h0:0<=i
 ·have hj:i.toNat=j:=by
   rw[seqIndex_of h0 h5]at h1;exact Option.some.inj h1
  exact item_listR pl.isList h0 (by omega) (by rw[hj];simpa using ew) fin hs
 ·have hj:(i+(its.toArray.size:Int)).toNat=j:=by
   rw[seqIndex_neg (by omega) h4]at h1;rw[aY,<- hl];exact Option.some.inj h1
  exact subscriptTail_builtinR (x:=w) pl.isList.typeIs slot_list_getitem.lookup
   (wpAny_getItem_list_neg (Q:=λr s'=>r=w/\EP X pins σ Q r s') pl.isList (by omega) (by rw[aY] <;> omega) (by omega) (by rw[hj];simpa using ew) ⟨rfl,fin⟩) hs
theorem zSF:U3 X (Qm X.K):=by
 intro value slice pins s σ H x y v u Q I rx ry h hs;obtain⟨p,xs,i,z,rfl,rfl,hq,he,q⟩:=h;cases rx;obtain⟨t,rfl⟩:=ry;obtain⟨its,r,pl,hz⟩:=I.tuple hq;obtain⟨j,h1,h2,h3,h4,h5⟩:=zLo he;obtain⟨w,ew,rw'⟩:=r.get h2;have hl:=r.length;have hn:=Ux;have fin:EP X pins σ Q w s:=⟨z,H,I,rw',q⟩
 exact subscriptTail_builtinR (x:=w) pl.typeIs slot_tuple_getitem.lookup
  (getItem_tuple (j:=j) (Q:=λr s'=>r=w/\EP X pins σ Q r s') pl (by omega) (by omega) (by rw[aY,<- hl];exact h1) (by simpa using ew) ⟨rfl,fin⟩) hs
theorem zIp(its:List Value)(n j)(u):Obj.mapSeq (·.setIfInBounds j u) {cls:=.type "list",data:=.seq its.toArray n}={cls:=.type "list",data:=.seq (its.set j u).toArray n}:=by simp[Obj.mapSeq]
theorem zB.lst{σ:St}(I:zB X pins σ H s)(h:H p=some (.lst xs)):
  ∃its n,zC xs its/\s.heap.get? p=some {cls:=.type "list",data:=.seq its.toArray n}/\xs.length<=sizeLine:=by
 obtain⟨z,its,n,r,e⟩:=I.hok p _ h;exact⟨its,n,r,e,z⟩
theorem zB.lstUpd{σ:St}{its its':List Value}(I:zB X pins σ H s)(h:H p=some (.lst xs))
  (ho:s.heap.get? p=some {cls:=.type "list",data:=.seq its.toArray n}) (hf:f {cls:=.type "list",data:=.seq its.toArray n}={cls:=.type "list",data:=.seq its'.toArray n'}) (r:zC ys its') (hz:ys.length<=sizeLine) (t):
  zB X pins σ (zV H p (.lst ys)) {s with heap:=s.heap.update p f,toks:=t}:=by
 have e:(s.heap.update p f).get? p=some {cls:=.type "list",data:=.seq its'.toArray n'}:=by rw[ff f ho (by rw[hf] <;> rfl),hf]
 refine I.write (x:=p) (e:=p) (by rw[h];trivial) (.inl rfl) (λb u hb q=>(eR _ _ (Ne.symm hb)).trans q) ⟨_,e⟩ ?_;exact⟨hz,its',n',r,e⟩
def zQ9:V->V->V->Hp->(Hp->Prop)->Prop:=λo i v H Q=>∃p xs k j,o=.ref p/\i=.int k/\H p=some (.lst xs)/\xw xs.length k=some j/\Q (zV H p (.lst (xs.set j v)))
theorem Qo:gM X zQ9:=by
 intro pins s σ H o i v ov iv u Q I ro ri rv h;obtain⟨p,xs,k,j,rfl,rfl,hp,hj,q⟩:=h;cases ro;obtain⟨t,rfl⟩:=ri;obtain⟨its,n,r,ho,hz⟩:=I.lst hp;obtain⟨h1,h2,h3,h4⟩:=zKy hj;have hl:=r.length;have hn:=Ux
 have I':zB X pins σ (zV H p (.lst (xs.set j v))) {s with heap:=s.heap.update p (Obj.mapSeq (·.setIfInBounds j u))}:=I.lstUpd hp ho (zIp its n j u) (r.set rv j) (by rw[bS];exact hz) s.toks
 by_cases h0:0<=k
 ·have hk:k.toNat=j:=by
   rw[seqIndex_of h0 h4]at h1;exact Option.some.inj h1
  exact PySem.W.ki_setAt ho h0 (by omega) (by rw[aY,<- hl];exact h4) (by rw[hk];exact⟨_,I',q⟩)
 ·have hk:(k+(its.toArray.size:Int)).toNat=j:=by
   rw[seqIndex_neg (by omega) h3]at h1;rw[aY,<- hl];exact Option.some.inj h1
  exact PySem.W.ki_setBack ho (by omega) (by rw[aY,<- hl];exact h3) (by omega) (by rw[hk];exact⟨_,I',q⟩)
theorem zFq(lo hi)(n):(sliceBounds lo hi none n).1=((HT.sIx n 0 lo:Nat):Int)/\(sliceBounds lo hi none n).2.1=((HT.sIx n n hi:Nat):Int)/\(sliceBounds lo hi none n).2.2=1:=by
 refine⟨?_,?_,rfl⟩
 ·cases lo with
  |none=>simp[sliceBounds,HT.sIx]
  |some i=>
   simp only[sliceBounds,HT.sIx,lE,show(1:Int)>0 by decide,if_true];by_cases h:i<0
   ·simp only[h,if_true] <;> omega
   ·simp only[h,if_false] <;> omega
 ·cases hi with
  |none=>simp[sliceBounds,HT.sIx]
  |some i=>
   simp only[sliceBounds,HT.sIx,lE,show(1:Int)>0 by decide,if_true];by_cases h:i<0
   ·simp only[h,if_true] <;> omega
   ·simp only[h,if_false] <;> omega
theorem zEy(its:List Value)(lo hi):slicePick its.toArray lo hi none=((its.drop (HT.sIx its.length 0 lo)).take (HT.sIx its.length its.length hi-HT.sIx its.length 0 lo)).toArray:=by obtain⟨h1,h2,h3⟩:=zFq lo hi its.toArray.size;unfold slicePick;rw[h1,h2,h3];simp only[sliceRange_one,pick_run,aY] <;> rfl
def Qp(K:aH):V->Option Int->Option Int->Hp->VK->Prop:=λx lo hi H Q=>∃a xs,x=.ref a/\zW K H a xs/\∀p,H p=none->Q (.ref p) (zV H p (.lst (vA xs lo hi)))
theorem zJf:gh X (Qp X.K):=by intro pins s σ H x v vl vu lo hi sl Q I rx hs pl pu h;obtain⟨a,xs,rfl,hx,q⟩:=h;cases rx;obtain⟨its,r,ht,hz⟩:=I.list hx;have hlen:=r.length;refine⟨"list",_,slot_list_getitem.lookup,ht.isList.typeIs,?_⟩;refine wpAny_getItem_list_slice ht.isList hs pl pu .none (by simp) ?_ (by rw[aY] <;> omega);rw[zEy,<- hlen];refine⟨.ref s.heap.objs.size,_,I.laid (t':=s.toks) (o:=.lst (vA xs lo hi)) (λb ob q=>aO _ q) (aJ _) ?_,rfl,q _ (I.hok.fresh (aJ _))⟩;exact⟨bI (zD4 xs lo hi) hz,_,0,(r.drop (HT.sIx xs.length 0 lo)).take (HT.sIx xs.length xs.length hi-HT.sIx xs.length 0 lo),a_ _ rfl⟩
theorem Ye:wg X (.builtin "len") (λxs H Q=>∃p ys,xs=[.ref p]/\(zW X.K H p ys\/yZ X.K H p ys)/\Q (.int ys.length) H):=by
 intro pins s σ H xs us Q I r h;obtain⟨p,ys,rfl,hq,q⟩:=h;obtain⟨u,rfl,rx⟩:=v8 r;cases rx;have hn:=Ux;rcases hq with hq|hq
 ·obtain⟨its,r',pl,hz⟩:=I.list hq;have hlen:=r'.length;exact Calls.call_len_list pl.isList (by simp only[aY] <;> omega) ⟨.int ys.length,H,I.tok _,⟨s.toks+1,by rw[aY,hlen]⟩,q⟩
 ·obtain⟨its,r',pl,hz⟩:=I.tuple hq;have hlen:=r'.length;exact len_tuple pl (by simp only[aY] <;> omega) ⟨.int ys.length,H,I.tok _,⟨s.toks+1,by rw[aY,hlen]⟩,q⟩
theorem Qq:wg X (.type "list") (λxs H Q=>∃p ys,xs=[.ref p]/\(zW X.K H p ys\/yZ X.K H p ys)/\∀l,H l=none->Q (.ref l) (zV H l (.lst ys))):=by
 intro pins s σ H xs us Q I r h;obtain⟨p,ys,rfl,hq,q⟩:=h;obtain⟨u,rfl,rx⟩:=v8 r;cases rx
 have fin:∀(its:List Value),zC ys its->ys.length<=sizeLine->∀(h':Heap)(c':Nat),(∀b o',s.heap.get? b=some o'->h'.get? b=some o')->
   h'.get? s.heap.objs.size=some {cls:=.type "list",dict:=none,data:=.seq its.toArray c',slots:=#[]}->EP X pins σ Q (.ref s.heap.objs.size) {s with heap:=h'}:=λits r' hz h' c' kp e=>
  ⟨.ref s.heap.objs.size,_,I.laid (t':=s.toks) kp (aJ _) (show wZ X.prog X.w _ h' _ (.lst ys)from⟨hz,its,c',r',e⟩),rfl,q _ (I.hok.fresh (aJ _))⟩
 rcases hq with hq|hq
 ·obtain⟨its,r',pl,hz⟩:=I.list hq;have hlen:=r'.length;obtain⟨o,ho,hc,n,hd⟩:=pl.isList;exact call_list_seq p (.inl rfl) ho hc hd (λh' c' kp e=>fin its r' hz h' c' kp e) (by simp only[aY] <;> omega)
 ·obtain⟨its,r',pl,hz⟩:=I.tuple hq;have hlen:=r'.length;obtain⟨o,ho,hc,n,hd⟩:=pl;exact call_list_seq p (.inr rfl) ho hc hd (λh' c' kp e=>fin its r' hz h' c' kp e) (by simp only[aY] <;> omega)
theorem zFY:wg X (.type "tuple") (λxs H Q=>∃p ys,xs=[.ref p]/\((zW X.K H p ys/\∀l,H l=none->Q (.ref l) (zV H l (.tup ys)))\/(yZ X.K H p ys/\Q (.ref p) H))):=by
 intro pins s σ H xs us Q I r h;obtain⟨p,ys,rfl,h⟩:=h;obtain⟨u,rfl,rx⟩:=v8 r;cases rx;rcases h with⟨hq,q⟩|⟨hq,q⟩
 ·obtain⟨its,r',pl,hz⟩:=I.list hq;have hlen:=r'.length;refine call_tuple_list pl.isList (λh' kp=>?_) (by simp only[aY] <;> omega);have I1:zB X pins σ H {s with heap:=h'}:=I.kept (t':=s.toks) kp
  have I2:zB X pins σ (zV H h'.objs.size (.tup ys)) {s with heap:=h'.push {cls:=.type "tuple",data:=.seq its.toArray}}:=I1.laid (t':=s.toks) (λb o e=>aO _ e) (aJ _) (show wZ X.prog X.w _ _ _ (.tup ys)from⟨hz,its,r',IsTup.new _ _⟩)
  exact⟨.ref h'.objs.size,_,I2,rfl,q _ (I1.hok.fresh (aJ _))⟩
 ·obtain⟨its,r',pl,hz⟩:=I.tuple hq;exact call_tuple_same pl ⟨.ref p,H,I,rfl,q⟩
def tyV(K:aH)(T:String)(x:V)(H:Hp):Prop:=match x with
 | .str _=>T="str"
 | .int _=>T="int"
 | .ref p=>(T="list"/\∃xs,zW K H p xs)\/(T="tuple"/\∃o,K.lookup p=some o/\o.cls=.type "tuple"/\o.dict=none)∨
   (T="dict"/\((∃kvs,H p=some (.dK kvs))\/∃kvs,H p=some (.dT kvs)))\/(T="set"/\∃S n,H p=some (.set S n))
 |_=>False
theorem zQi{σ:St}(I:zB X pins σ H s)(r:zM x v)(ty:tyV X.K T x H):
  s.TypeIs v T/\∀a,v=.ref a->∃ob,s.heap.get? a=some ob/\ob.dict=none:=by
 cases x with
 |str z=>
  obtain⟨t,rfl⟩:=r;cases(show T="str" from ty);exact⟨typeIs_str s z t,λ_ e=>nomatch e⟩
 |int i=>
  obtain⟨t,rfl⟩:=r;cases(show T="int" from ty);exact⟨typeIs_int s i t,λ_ e=>nomatch e⟩
 |ref p=>
  cases r;rcases ty with⟨rfl,xs,hq⟩|⟨rfl,o,hk,hc,hd⟩|⟨rfl,hk⟩|⟨rfl,S,n,hk⟩
  ·obtain⟨its,_,pl,_⟩:=I.list hq;refine⟨pl.isList.typeIs,λa e=>?_⟩;cases e;obtain⟨o,n,e,c,hd,_⟩:=pl;exact⟨o,e,hd⟩
  ·refine⟨⟨o,I.kIn p o hk,hc⟩,λa e=>?_⟩;cases e;exact⟨o,I.kIn _ o hk,hd⟩
  ·have z:∃o,s.heap.get? p=some o/\o.ExactDict:=by
    rcases hk with⟨kvs,hk⟩|⟨kvs,hk⟩
    ·obtain⟨_,_,_,_,o,_,_,e,ex,_⟩:=I.hok p _ hk;exact⟨o,e,ex⟩
    ·obtain⟨_,_,_,_,o,_,_,e,ex,_⟩:=I.hok p _ hk;exact⟨o,e,ex⟩
   obtain⟨o,e,ex⟩:=z;refine⟨⟨o,e,ex.1⟩,λa e2=>?_⟩;cases e2;exact⟨o,e,ex.2.1⟩
  ·obtain⟨o,_,_,_,e,ex,_⟩:=I.hok p _ hk;refine⟨⟨o,e,ex.1⟩,λa e2=>?_⟩;cases e2;exact⟨o,e,ex.2.1⟩
 |_=>exact False.elim ty
def tBM(K:aH)(T:String)(r:V->List V->Hp->VK->Prop)(to:TE)(t:TA):TE:=λσ H Q=>to σ H λx H1=>tyV K T x H1/\t σ H1 λxs H2=>r x xs H2 Q
variable{o e:Expr}{es:List Expr}{to:TE}{t:TA}{name:Str}{apos cpos:Pos}{T id:String}{r:V->List V->Hp->VK->Prop}
theorem zRe(pa:PlainAttrs T)(slot:Slot T name id)(hty:typeOf (.builtin id)=pure (.type "method_descriptor"))(hm:MtR X id r)(ho:PE X o to)(ha:PA X (e::es) t)
  (hbase:attributeBase o name X.env (eval o X.env)=eval o X.env:=by rfl)
  (hfew:((backTo cpos (starEach (e::es) X.env)).all (λx=>!x.1)&&(backToKw cpos (keywordEach [] X.env)).all (λx=>x.1.isSome)
   &&decide ((e::es).length+([]:List Keyword).length+(if([]:List Keyword).isEmpty then 0 else 1)<30))=true:=by rfl)
  (hline:(apos.endLine==cpos.line)=true:=by rfl) (hs:starEach (e::es) X.env=(false,eval e X.env)::starEach es X.env:=by rfl) (hplain:(backTo cpos (starEach es X.env)).any (·.1)=false:=by rfl):
  PE X (.Call (.Attribute o name apos) (e::es) [] cpos) (tBM X.K T r to t):=by
 intro pins s σ H Q I h;refine wpAny_Call_method_late hbase hfew hline rfl (zf (ho pins s σ H _ I h) λv s1 ⟨x,H1,I1,r1,ty,q1⟩=>?_);obtain⟨h1,h2⟩:=zQi I1 r1 ty;refine⟨T,id,pa,slot,hty,h1,h2,?_⟩;have hA:=ha cpos pins s1 σ H1 _ I1 q1;rw[hs]at hA|-
 refine Calls.callWith_builtin (by show(false||(backTo cpos (starEach es X.env)).any (·.1))=false;rw[hplain] <;> rfl) (Calls.evalArgs_plain ?_);exact zf hA λus s2 ⟨vs,H2,I2,r2,q2⟩=>hm pins s2 σ H2 x vs v us Q I2 r1 r2 q2
/- xs.append(e),list.index on a module's tuple .. are MtR facts of 06m -/
end
def MtM(X:Cx)(id:String)(r:V->List V->Hp->VK->Prop):Prop:=
 ∀(pins:List (Addr×Obj))(s:Shared)(σ:St)(H:Hp)(x:V)(xs:List V)(v:Value)(us:List Value)(Q:VK),zB X pins σ H s->zM x v->zC xs us->r x xs H Q->
  wpAny (model X.prog X.w) X.A (call (.builtin id) (v::us)) (EP X pins σ Q) X.xe s
theorem zC.one:∀{x:V}{us:List Value},zC [x] us->∃u,us=[u]/\zM x u
 |_,_,.cons r .nil=>⟨_,rfl,r⟩
theorem zC.reverse(h:zC xs us):zC xs.reverse us.reverse:=by
 induction h with
 |nil=>exact .nil
 |cons r t ih=>rw[eX,eX];exact zC.append ih (.cons r .nil)
theorem zC.rep(h:zC xs us):∀k,zC (aL k xs).flatten (aL k us).flatten
 |0=>.nil
 |k+1=>by
  rw[cC,cC,d5,d5];exact zC.append h (zC.rep h k)
theorem zGE(its:List Value):∀k acc,
  mf (λx1 x2=>x1++x2) acc.toArray (aL k its.toArray)=(acc++(aL k its).flatten).toArray
 |0,acc=>by simp
 |k+1,acc=>by
  have e:acc.toArray++its.toArray=(acc++its).toArray:=by simp
  have e2:(acc++its)++(aL k its).flatten=acc++(aL (k+1) its).flatten:=by rw[cC,d5,cv]
  rw[<- e2,<- zGE its k (acc++its),<- e,cC,eI]
section
variable{X:Cx}{pins:List (Addr×Obj)}{σ:St}{H:Hp}{s:Shared}{l b:Addr}{xs ys zs:List V}
theorem zB.lset{its its':List Value}(I:zB X pins σ H s)(hH:H l=some (.lst xs))
  (e:s.heap.get? l=some {cls:=.type "list",data:=.seq its.toArray n}) (hf:f its.toArray=its'.toArray) (hv:zC ys its') (hz:ys.length<=sizeLine):
  zB X pins σ (zV H l (.lst ys)) {s with heap:=s.heap.update l (Obj.mapSeq f),toks:=t'}:=by
 have q:=PySem.IsL.update e f;rw[hf]at q;refine I.write (x:=l) (e:=l) (by rw[hH];exact trivial) (.inl rfl) (λb' u hb hu=>(eR s.heap (Obj.mapSeq f) (Ne.symm hb)).trans hu) ⟨_,q⟩ ?_;exact⟨hz,its',_,hv,q⟩
theorem zB.lnew(I:zB X pins σ H s)(hv:zC ys its)(hz:ys.length<=sizeLine):
  zB X pins σ (zV H s.heap.objs.size (.lst ys)) {s with heap:=s.heap.push {cls:=.type "list",data:=.seq its.toArray},toks:=t'}:=
 I.laid (λ_ _ q=>aO _ q) (aJ _) ⟨hz,its,0,hv,a_ _ rfl⟩
theorem zB.fresh(I:zB X pins σ H s):H s.heap.objs.size=none:=I.hok.fresh (aJ _)
theorem zB.lstM(I:zB X pins σ H s)(hH:H l=some (.lst xs)):xs.length<=sizeLine/\∃its n,zC xs its/\xs.length=its.length/\s.heap.get? l=some {cls:=.type "list",data:=.seq its.toArray n}:=by obtain⟨z,its,n,r,e⟩:=I.hok l _ hH;exact⟨z,its,n,r,r.length,e⟩
theorem zMl(h:n<=sizeLine):Builtin.List.listTooLong n=false:=by unfold Builtin.List.listTooLong;exact decide_eq_false (by omega)
end
section
variable{X:Cx}
def zOs:V->List V->Hp->VK->Prop:=λx vs H Q=>∃l xs y,x=.ref l/\vs=[y]/\H l=some (.lst xs)/\xs.length<sizeLine/\Q .non (zV H l (.lst (xs++[y])))
theorem zKk:MtM X "list.append" zOs:=by intro pins s σ H x vs v us Q I rx rv h;obtain⟨l,xs,y,rfl,rfl,hH,hz,q⟩:=h;cases rx;obtain⟨u,rfl,ru⟩:=rv.one;obtain⟨z,its,n,r,hl,e⟩:=I.lstM hH;refine call_meets F.slot_list_append ⟨_,e,rfl⟩ F.entry_list_append (F.args_list_append_2 _ _) (PySem.list_append l its.toArray n u (by rw[aY];omega)) ⟨e,?_⟩;refine⟨.non,_,I.lset (its':=its++[u]) hH e (by simp) (r.append (.cons ru .nil)) ?_,rfl,q⟩;rw[aF,dW];omega
def Yg:R2:=λx y H Q=>∃l b xs zs,x=.ref l/\y=.ref b/\H l=some (.lst xs)/\H b=some (.lst zs)/\xs.length+zs.length<=sizeLine/\∀p,H p=none->Q (.ref p) (zV H p (.lst (xs++zs)))
theorem zOB:yV X (binaryOp .Add) Yg:=by
 intro pins s σ H x y v u Q I rx ry h;obtain⟨l,b,xs,zs,rfl,rfl,hH,hB,hz,q⟩:=h;cases rx;cases ry;obtain⟨z,its,n,r,hl,e⟩:=I.lstM hH;obtain⟨z2,its2,n2,r2,hl2,e2⟩:=I.lstM hB;refine PySem.P.add_list e e2 ?_ (by rw[aY,aY];omega);have ea:its.toArray++its2.toArray=(its++its2).toArray:=by simp
 rw[ea];exact⟨.ref _,_,I.lnew (t':=s.toks) (r.append r2) (by rw[aF];omega),rfl,q _ I.fresh⟩
def Yh:R2:=λx y H Q=>∃l k xs,x=.ref l/\y=.int k/\H l=some (.lst xs)/\-(2^63)<=k/\k<2^63/\xs.length*k.toNat<=sizeLine∧
 ∀p,H p=none->Q (.ref p) (zV H p (.lst (aL k.toNat xs).flatten))
theorem zPW{α:Type}(xs:List α)(k:Nat):(aL k xs).flatten.length=k*xs.length:=by
 induction k with
 |zero=>simp
 |succ k ih=>rw[cC,d5,aF,ih,Nat.succ_mul,Nat.add_comm]
theorem zRs:yV X (binaryOp .Mult) Yh:=by
 intro pins s σ H x y v u Q I rx ry h;obtain⟨l,k,xs,rfl,rfl,hH,h1,h2,hz,q⟩:=h;cases rx;obtain⟨t,rfl⟩:=ry;obtain⟨z,its,n,r,hl,e⟩:=I.lstM hH;have hlen:its.toArray.size*k.toNat<=sizeLine:=by rw[aY,<- hl];exact hz
 have hcap:¬its.toArray.size*k.toNat>(2^63-1)/8:=by
  have:(sizeLine:Nat)<=(2^63-1)/8:=by decide
  omega
 have hfit:¬(!Builtin.List.listFitsIndex k)=true:=by rw[fitsIndex_both h1 h2];exact bL
 have hlong:¬Builtin.List.listTooLong (its.toArray.size*k.toNat)=true:=by rw[zMl hlen];exact bL
 have hnew:mf (λx1 x2=>x1++x2) #[] (aL (if its.toArray.isEmpty=true then 0 else k.toNat) its.toArray)=(aL k.toNat its).flatten.toArray:=by
  have f0:∀m:Nat,mf (λx1 x2=>x1++x2) #[] (aL m its.toArray)=(aL m its).flatten.toArray:=λm=>by have:=zGE its m [];rw[h9]at this;exact this
  rw[f0];cases its with
  |nil=>simp
  |cons a r'=>rw[if_neg (by simp)]
 refine wpAny_binaryOp_repeat_ref (T:="list") (U:="int") (by decide) ⟨_,e,rfl⟩ (λs'=>typeIs_int s' k t) noFill_list_mul F.fills_int_mul F.slot_int_rmul repeat_list F.slot_int_index.lookup
  (call_meets F.slot_int_rmul (typeIs_int s k t) F.entry_int_rmul (F.args_int_rmul_2 _ _) (int___rmul___int_list k t l its.toArray n)
   ⟨e,rfl,⟨_,e,rfl⟩,call_meets F.slot_list_mul ⟨_,e,rfl⟩ F.entry_list_mul (F.args_list_mul_2 _ _) (AutoListH.list___mul___list_int_3 l its.toArray n k t hfit hcap hlong) ⟨e,?_⟩⟩)
 rw[hnew];exact⟨.ref _,_,I.lnew (t':=s.toks) (r.rep k.toNat) (by rw[zPW,h_];exact hz),rfl,q _ I.fresh⟩
end
end L2
namespace Att
open PySem PySem.W PySem.Calls PyProof.Rows
theorem zDz:∀ns vs,WellAll P h vs (ns.map WData.int)->IntsAre vs ns:=by
 intro ns
 induction ns with
 |nil=>
  intro vs w;rw[i8]at w;cases w;exact .nil
 |cons n ns ih=>
  intro vs w;rw[bg]at w;cases w with
  |cons a b=>
   cases a;exact .cons _ _ (ih _ b)
theorem zJi{l:OpenLaw}(hn:l.most=some n)
  (hpre:l.row.toRowW.claim.pre args=true) (hwl:WellAll P h vals args):
  ∃a vs ns,vals=[Value.ref a]/\args=[WData.list (ns.map WData.int)]/\h.get? a=some {cls:=.type "list",data:=.seq vs.toArray}/\IntsAre vs ns/\ns.length<=n:=by
 have hsh:WShape.hasAll [] args [.list .int]=true:=(pre_splitW hpre).1;have hc:l.pre.holds [] {args:=args}=true:=(pre_splitW hpre).2;obtain⟨d,r,rfl,h1,h2⟩:=hasAllW_cons hsh;obtain rfl:=hasAllW_nil h2;obtain⟨xs,rfl,h3⟩:=hasW_list h1;obtain⟨ns,rfl⟩:=items_int h3
 have hlen:ns.length<=n:=by
  unfold OpenLaw.pre at hc
  have h4:(WTm.not (.lt (.lit (.int (n:Int))) (.len (.arg 0)))).holds [] {args:=[.list (ns.map .int)]}=true:=by have h4:=(holds_andW hc).1;rw[hn]at h4;exact h4
  have h5:=condW_of h4 (w_not (w_lt w_lit (w_len_list (w_arg rfl))));rw[aB]at h5;refine Nat.le_of_not_lt λq=>?_;have q':(n:Int)<((ns.length:Nat):Int):=by omega
  first
   |(rw[decide_eq_true q']at h5;exact absurd h5 (by decide))
   |(simp at h5;omega)
 cases hwl with
 |cons w1 w2=>
  cases w2;cases w1 with
  |list ho hall=>exact⟨_,_,ns,rfl,rfl,ho,zDz ns _ hall,hlen⟩
theorem zJ6(l:OpenLaw)(args):l.row.toRowW.claim.post args (.bool true) args=true:=
 postW_of (r:=l.row.toRowW) (X:=(true==true))
  (show WShape.has [] (.bool true) .bool=true by first|rfl|decide|simp[WShape.has,WShape.arms,WShape.armsAll])
  (show(WTm.eq .res (.lit (.bool true))).value [] {args:=args,res:=some (.bool true),after:=args}=some (.bool (true==true))from w_eq_bool (w_res rfl) w_lit) rfl
theorem attach_call{l:OpenLaw}
  (hn:l.most=some n) (hdf:d.params.defaults=[])
  (call:∀(w:World)(s₀ s₁:Shared)(mg mb:Str->Option Value)(fa:Addr)(o:Obj)(pm cd doc:Value)(a:Addr)(vs:List Value)(ns:List Int),
   Ground q loose [] XP w s₀ mg mb s₁.heap->YP w s₁.heap->
   s₁.heap.get? fa=some o->o.data=.func (docDef d.name d.params d.body d.scope pm cd doc)->s₁.heap.CodeRec cd d.name->mg d.name=some (.ref fa)->
   s₁.heap.get? a=some {cls:=.type "list",data:=.seq vs.toArray}->IntsAre vs ns->ns.length<=n->s₁.gens=#[]->
   codeAny (model l.prog w) callerA (.call (.ref fa) ⟨[.ref a],[]⟩) (λr s'=>r=.ok (.ret (.bool true))/\OldK s₁.heap s'.heap/\s'.os=s₁.os/\AllBare s'.gens) s₁):
  WalkO q loose XP YP l.row.toRowW d [] (λf vs=>PySem.call f vs):=by
 intro w s₀ s₁ mg mb G Y fa o pm cd doc dV kV ho hd hcd hD hmg hg args vals as hpre hlay hrd hwl hlo;obtain rfl:dV=.none:=Dflts.none hD hdf;obtain rfl:kV=.none:=Dflts.noKw hD;obtain⟨a,vs,ns,rfl,rfl,hobj,hints,hlen⟩:=zJi hn hpre hwl;refine enter_call (codeAny_mono (call w s₀ s₁ mg mb fa o pm cd doc a vs ns G Y ho (fd_plain hd) hcd hmg hobj hints hlen hg) λr s' hq=>?_);obtain⟨rfl,h2,h3,h4⟩:=hq;exact⟨.inl ⟨.bool true,.bool true,[],rfl,λ_=>rfl,.bool true,zJ6 l _,λ_=>⟨List.Pairwise.nil,λ_ hm=>(nomatch hm)⟩⟩,h2,h3,h4⟩
end Att
namespace L2
open PySem PySem.Spec PyProof.Rows
theorem zFi:∀{vs:List Value}{ns:List Int},IntsAre vs ns->zC (ns.map V.int) vs
 |_,_,.nil=>.nil
 |_,_,.cons n t h=>.cons ⟨t,rfl⟩ (zFi h)
noncomputable def gj(s:Stmt)(j:Nat):Stmt:=match s with
 | .ClassDef _ _ _ body _ _ _ _ _ _ _=>body.getD j (.Pass ⟨0,0,0,0⟩)
 |_=>.Pass ⟨0,0,0,0⟩
noncomputable def wI(s:Stmt):Arguments:=match s with
 | .FunctionDef _ a _ _ _ _ _ _ _ _=>a
 |_=>{posonlyargs:=[],args:=[],vararg:=none,kwonlyargs:=[],kw_defaults:=[],kwarg:=none,defaults:=[]}
noncomputable def yG(s:Stmt):List Stmt:=match s with
 | .FunctionDef _ _ b _ _ _ _ _ _ _=>b
 |_=>[]
noncomputable def zX(s:Stmt):Scope:=match s with
 | .FunctionDef _ _ _ _ _ _ sc _ _ _=>sc
 |_=>{kind:=.function,names:=[],isGenerator:=false,isCoroutine:=false}
abbrev yN:gg:=λ_ _ _ _ _ _=>False
abbrev E0:XK:=λ_ _ _=>False
theorem Yi:ZK yN X E0:=λ_ _ _ _ _ _ _ h=>h.elim
structure wO(K:aH)(x qual:Str)(st:Stmt)(f:Addr)(fd:FuncData):Prop where
 ex:∃(oc:Value)(od:Option Addr)(kV doc pm:Value)(an:Option Addr)(cdv ct:Value)(osl:Array (Option Value)),
  fd=da x qual (wI st) (yG st) (zX st) .none kV doc pm an cdv ct/\K.lookup f=some ⟨oc,od,.func fd,osl⟩/\e8 K cdv qual=true
 kp:c_ K (.ref f)=true
section
variable{P:Program}{w:World}{K:aH}{mg:Str->Option Value}{base:Heap}
theorem wO.ok{st:Stmt}(F:wO K x qual st f fd)(S:wH N ps (zX st))(len:∀vs H Q E,sp vs H Q E->vs.length=ps.length)
  (hbody:∀(cdv:Value)(A:Around)(outer:List Env)(s:Shared)(H:Hp)(vs:List V)(Q:VK)(E:XK),zN k (A.deeper (envOfC qual (zX st) s.heap.objs.size f cdv))->sp vs H Q E->
   ∃t,yb (ym yN P w K mg base N qual (zX st) f cdv A outer s H E).nox (yG st) t/\t {nx:=λ_ H'=>Q .non H',rt:=Q} (wj N vs) H):zS P w K mg base yN (k+1) f fd ps sp:=by
 obtain⟨oc,od,kV,doc,pm,an,cdv,ct,osl,rfl,lk,hcd⟩:=F.ex;refine Qj lk hcd S len λA outer s H vs Q E hr hsp=>?_;obtain⟨t,h,q⟩:=hbody cdv A outer s H vs Q E hr hsp;exact⟨t,h.nox,q⟩
theorem wO.binds{st:Stmt}(F:wO K x qual st f fd)
  (h:∀(kV doc pm:Value)(an:Option Addr)(cdv ct:Value)(us:List Value),us.length=ps.length->bindArgs (da x qual (wI st) (yG st) (zX st) .none kV doc pm an cdv ct) ⟨us,[]⟩=pure (ps.zip us)):w8 K fd ps []:=by
 obtain⟨oc,od,kV,doc,pm,an,cdv,ct,osl,rfl,lk,hcd⟩:=F.ex;exact .all (h kV doc pm an cdv ct)
theorem Qr{st:Stmt}{kV doc pm cdv ct:Value}(l:K.lookup f=some ⟨oc,od,.func (da x qual (wI st) (yG st) (zX st) .none kV doc pm an cdv ct),osl⟩)
  (c:e8 K cdv qual=true) (k:c_ K (.ref f)=true):wO K x qual st f (da x qual (wI st) (yG st) (zX st) .none kV doc pm an cdv ct):=⟨⟨oc,od,kV,doc,pm,an,cdv,ct,osl,rfl,l,c⟩,k⟩
end
theorem Qs(h:n<=1000):n<sizeLine:=eF h (by decide)
section
variable{X:Cx}
theorem pv(i:Nat){x:Str}{pos:Pos}(hN:X.N[i]? =some x:=by rfl)(hv:j4 X.env.scope x:=by first|exact Or.inl rfl|exact Or.inr (Or.inl rfl)|exact Or.inr (Or.inr rfl))(hd:(x==("__debug__":Str))=false:=by decide)
  (hcd:(x==("__classdict__":Str))=false:=by decide):PE X (.Name x pos) (uO i):=QQ hN hv hd hcd
end
def zE(H H':Hp):Prop:=∀b o,H b=some o->H' b=some o
theorem zE.refl(H):zE H H:=λ_ _ h=>h
theorem zE.trans(a:zE H H1)(b:zE H1 H2):zE H H2:=λc o h=>b c o (a c o h)
theorem zE.free(e:zE H H')(h:H' l=Option.none):H l=Option.none:=by
 cases q:H l with
 |none=>rfl
 |some o=>
  rw[e l o q]at h;cases h
end L2
namespace Sh
noncomputable def cm(t b:Int):Int:=if b<0 then -(c8 t b:Int) else(c8 t b:Int)
noncomputable def ze(t b:Int):Int:=t.fdiv (cm t b)
noncomputable def zJ(t b:Int):Int:=b.fdiv (cm t b)
theorem zK3(h:b≠0):0<(c8 t b:Int):=by have:0<c8 t b:=Int.gcd_pos_of_ne_zero_right _ h;exact xR
theorem zND(t b):cm t b∣t:=by
 unfold cm;split
 ·exact Int.neg_dvd.mpr (f7 t b)
 ·exact f7 t b
theorem zNE(t b):cm t b∣b:=by
 unfold cm;split
 ·exact Int.neg_dvd.mpr (fU t b)
 ·exact fU t b
theorem zMv(t b):ze t b*cm t b=t:=iF (zND t b)
theorem zH8(t b):zJ t b*cm t b=b:=iF (zNE t b)
theorem qc(h:b≠0):0<zJ t b:=by
 have e:=zH8 t b;have g:=zK3 (t:=t) h;rcases eY (zJ t b) 0 with hl|hl|hl
 ·exfalso;unfold cm at e;split at e
  ·rename_i hb;have:=Int.mul_pos_of_neg_of_neg hl (show -(c8 t b:Int)<0 by omega);omega
  ·have:=fN hl g;omega
 ·exfalso;rw[hl,i9]at e;omega
 ·exact hl
theorem zKr(h:b≠0):ze t b*b=t*zJ t b:=by
 have e1:=zMv t b;have e2:=zH8 t b
 calc ze t b*b=ze t b*(zJ t b*cm t b):=by rw[e2]
  _=(ze t b*cm t b)*zJ t b:=by rw[Int.mul_assoc,fK (zJ t b)]
  _=t*zJ t b:=by rw[e1]
noncomputable def v9(st:Int×Int)(p:Int×Int×Int):Int×Int:=(st.1*p.2.2+p.1*p.2.1*st.2,st.2*p.2.2)
noncomputable def z9(ws:List Int)(pts:List (Int×Int)):Int×Int:=(ws.zip pts).foldl v9 (0,1)
section
variable{β γ:Type}
noncomputable def look(m:List (List Int×β))(k:List Int):Option β:=(m.find? λkv=>decide (kv.1=k)).map (·.2)
noncomputable def put(m:List (List Int×β))(k:List Int)(v:β):List (List Int×β):=if(m.any λkv=>decide (kv.1=k))=true then m.map (λkv=>if kv.1=k then(kv.1,v) else kv) else m++[(k,v)]
end
section
variable(num:List Int->Int)(den:Int)
noncomputable def hl(r:List Int×Int):Bool:=decide (num r.1<=r.2*den)
variable(hden:0<den)(lin:∀(ws:List Int)(c:Int),num (ws.map (·*c))=num ws*c)
include hden lin
end
end Sh
namespace L2
open PySem
noncomputable def u5(env:Env)(cs:List (Str×Addr))(p:Str×NameKind):List (Str×Addr):=if(p.2== .free)=true then(p.1,(env.cells.lookup p.1).getD 0)::cs else cs
noncomputable def vN(scope:Scope)(env:Env):List (Str×Addr):=scope.names.foldl (u5 env) []
theorem zI0:∀(names:List (Str×NameKind))(cs:List (Str×Addr)),(∀p∈names,p.2=.free->(env.cells.lookup p.1).isSome=true)->
  (forIn names cs (λ(p:Str×NameKind) (r:List (Str×Addr))=>(if(p.2== .free)=true then do let a <- cellOf env p.1;pure (ForInStep.yield ((p.1,a)::r)) else pure (ForInStep.yield r):Sem (ForInStep (List (Str×Addr))))))=pure (names.foldl (u5 env) cs):=by
 intro names
 induction names with
 |nil=>intro cs _;rfl
 |cons p r ih=>
  intro cs h;obtain⟨n,k⟩:=p;rw[lY];by_cases hk:k=.free
  ·subst hk;obtain⟨c,hc⟩:=cX.mp (h (n,.free) aR rfl);have e:cellOf env n=pure c:=by unfold cellOf;dsimp only at hc;rw[hc]
   have z:u5 env cs (n,.free)=(n,c)::cs:=by unfold u5;dsimp only at hc|-;rw[hc];rfl
   simp only[e,beq_self_eq_true,if_true,pure_bind,eI,z];exact ih _ λq hq=>h q (aK _ hq)
  ·have b:(k==NameKind.free)=false:=by simpa using hk
   have z:u5 env cs (n,k)=cs:=by unfold u5;dsimp only;rw[b];rfl
   simp only[b,di,if_false,pure_bind,eI,z];exact ih _ λq hq=>h q (aK _ hq)
theorem zEo(h:∀p∈scope.names,p.2=.free->(env.cells.lookup p.1).isSome=true):closureFor scope env=pure (vN scope env):=by unfold closureFor vN;have:=zI0 scope.names [] h;exact(congrArg (λm=>m>>= λr=>pure r) this).trans rfl
theorem zLK:∀(names:List (Str×NameKind))(cs:List (Str×Addr))(x:Str)(c:Addr),(x,c)∈names.foldl (u5 env) cs->(x,c)∈cs\/((x,NameKind.free)∈names/\c=(env.cells.lookup x).getD 0):=by
 intro names
 induction names with
 |nil=>intro cs x c h;exact .inl h
 |cons p r ih=>
  intro cs x c h;obtain⟨n,k⟩:=p;rw[eI]at h;rcases ih _ x c h with h1|⟨h1,h2⟩
  ·unfold u5 at h1;dsimp only at h1;by_cases hk:k=.free
   ·subst hk;simp only[beq_self_eq_true,if_true]at h1;rcases a8.mp h1 with e|h1
    ·injection e with e1 e2;subst e1;subst e2;exact .inr ⟨aR,rfl⟩
    ·exact .inl h1
   ·have b:(k==NameKind.free)=false:=by simpa using hk
    simp only[b,di,if_false]at h1;exact .inl h1
  ·exact .inr ⟨aK _ h1,h2⟩
theorem qd{α β:Type}[BEq α][LawfulBEq α]:∀{l:List (α×β)}{a:α}{b:β},l.lookup a=some b->(a,b)∈l
 |[],_,_,h=>by simp at h
 |(x,y)::r,a,b,h=>by
  rw[bV]at h;by_cases e:a=x
  ·subst e;simp only[beq_self_eq_true,if_true]at h;cases h;exact aR
  ·have:(a==x)=false:=by simpa using e
   simp only[this]at h;exact aK _ (qd h)
theorem zDu{α β:Type}[BEq α][LawfulBEq α]:∀{l:List (α×β)}{a:α}{b:β},(a,b)∈l->∃c,l.lookup a=some c
 |[],_,_,h=>by cases h
 |(x,y)::r,a,b,h=>by
  rw[bV];by_cases e:a=x
  ·subst e;exact⟨y,by simp⟩
  ·have z:(a==x)=false:=by simpa using e
   rcases a8.mp h with q|q
   ·injection q with q1 _;exact absurd q1 e
   ·obtain⟨c,hc⟩:=zDu q;exact⟨c,by simp only[z];exact hc⟩
theorem zLL:∀(names:List (Str×NameKind))(cs:List (Str×Addr))(x:Str),((x,NameKind.free)∈names\/∃c,(x,c)∈cs)->∃c,(x,c)∈names.foldl (u5 env) cs:=by
 intro names
 induction names with
 |nil=>
  intro cs x h;rcases h with h|h
  ·cases h
  ·exact h
 |cons p r ih=>
  intro cs x h;rw[eI];refine ih _ x ?_;rcases h with h|⟨c,h⟩
  ·rcases a8.mp h with e|h
   ·subst e;exact .inr ⟨_,by unfold u5;simp only[beq_self_eq_true,if_true];exact aR⟩
   ·exact .inl h
  ·refine .inr ⟨c,?_⟩;unfold u5;split
   ·exact aK _ h
   ·exact h
theorem gk(h:∀p∈scope.names,p.2=.free->(env.cells.lookup p.1).isSome=true)(e:(vN scope env).lookup x=some c):
  env.cells.lookup x=some c/\(x,NameKind.free)∈scope.names:=by
 rcases zLK scope.names [] x c (qd e)with z|⟨z,q⟩
 ·cases z
 ·obtain⟨d,hd⟩:=cX.mp (h _ z rfl);dsimp only at hd;rw[hd]at q;exact⟨by rw[hd,q];rfl,z⟩
theorem U4(h:(x,NameKind.free)∈scope.names):∃c,(vN scope env).lookup x=some c:=by obtain⟨c,hc⟩:=zLL (env:=env) scope.names [] x (.inl h);exact zDu hc
theorem zDB(h:(relabel scope env).names.lookup x=some k):(k=.cell/\((x,NameKind.free)∈scope.names\/(x,NameKind.cell)∈scope.names))\/(x,k)∈scope.names:=by have m:=qd h;unfold relabel at m;grind
open PySem.Spec PyProof.Rows
def Bd(n:Nat)(i:Int):Prop:=i.natAbs<2^n
theorem Bd.mono(h:Bd n i)(k:n<=m:=by decide):Bd m i:=a9 h (iA (by decide) k)
theorem Bd.of_le(h:Bd n j)(k:i.natAbs<=j.natAbs):Bd n i:=eF k h
theorem Bd.mul(h:Bd n i)(k:Bd m j):Bd (n+m) (i*j):=by
 unfold Bd;rw[Int.natAbs_mul,Nat.pow_add];rcases Nat.eq_zero_or_pos j.natAbs with z|z
 ·rw[z,Nat.mul_zero];exact Nat.mul_pos (fC _) (fC _)
 ·exact a9 (Nat.mul_lt_mul_of_pos_right h z) (iG _ (eB k))
theorem Bd.add(h:Bd n i)(k:Bd n j):Bd (n+1) (i+j):=by have h':i.natAbs<2^n:=h;have k':j.natAbs<2^n:=k;unfold Bd;omega
theorem Bd.neg(h:Bd n i):Bd n (-i):=by unfold Bd;rw[Int.natAbs_neg];exact h
theorem Bd.sub(h:Bd n i)(k:Bd n j):Bd (n+1) (i-j):=by rw[Int.sub_eq_add_neg];exact h.add k.neg
theorem Bd.lit{n:Nat}{i:Int}(h:i.natAbs<2^n:=by decide):Bd n i:=h
theorem Bd.bits(h:Bd n i):Builtin.Int.intBits i<=n:=by
 have h':i.natAbs<2^n:=h;unfold Builtin.Int.intBits;split
 ·exact eV _
 ·rename_i z
  have nz:i.natAbs≠0:=by intro q;apply z;rw[iM.mp q];rfl
  exact(Nat.log2_lt nz).mpr h'
theorem Bd.fdiv(h:Bd n i)(j):Bd n (i.fdiv j):=h.of_le (Int.natAbs_fdiv_le_natAbs i j)
def U5(i j:Int):Prop:=Bd 60000 i/\Bd 60000 j
def zS8(_ j:Int):Prop:=j≠0/\Bd 8000 j
section
variable{X:Cx}
theorem U5.ok(h:U5 i j):IntMulOk i j:=by
 have h1:=h.1.bits;have h2:=h.2.bits
 have hc:Builtin.Int.intTooBig (Builtin.Int.intBits i+Builtin.Int.intBits j)=false:=by unfold Builtin.Int.intTooBig;rw[bitsLine_eq];exact decide_eq_false (by omega)
 unfold IntMulOk;rw[hc];simp
theorem zPG:yV X (binaryOp .Mult) (rI U5 λi j=>.int (i*j)):=Ut λ_ _ _ _ _ _ _ hc q=>mul_int q hc.ok
theorem zHy:yV X (binaryOp .FloorDiv) (rI zS8 λi j=>.int (i.fdiv j)):=Ut λ_ _ _ _ _ _ _ hc q=>by refine floordiv_int hc.1 q (.inl (PyProof.noPylong_of_log2 ?_));have h':_<2^8000:=hc.2;have nz:_≠0:=λz=>hc.1 (iM.mp z);exact Nat.lt_trans ((Nat.log2_lt nz).mpr h') (by decide)
end
section
variable{X:Cx}
def zRA(K:aH):List V->Hp->VK->Prop:=λxs H Q=>∃x c t b,xs=[x,.ty c]/\yQ K H x t/\bG K t (.type c)=some b/\Q (.bl b) H
theorem zHC:wg X (.builtin "isinstance") (zRA X.K):=by intro pins s σ H xs us Q I r h;obtain⟨x,c,t,b,rfl,ty,e,q⟩:=h;obtain⟨u,v,rfl,ru,rv⟩:=YU r;cases(show v=Value.type c from rv);exact zGA I ru ty e λtk=>⟨.bl b,H,I.tok tk,rfl,q⟩
end
mutual
inductive Dp(K:aH)(H:Hp):V->PyData->Prop where
 |non:Dp K H .non .none
 |bl (b:Bool):Dp K H (.bl b) (.bool b)
 |int (i:Int):Dp K H (.int i) (.int i)
 |str (x:Str):Dp K H (.str x) (.str x)
 |lst {a:Addr} {xs:List V} {ds:List PyData} (e:zW K H a xs) (h:u6 K H xs ds):Dp K H (.ref a) (.list ds)
 |tup {a:Addr} {xs:List V} {ds:List PyData} (e:yZ K H a xs) (h:u6 K H xs ds):Dp K H (.ref a) (.tuple ds)
inductive u6(K:aH)(H:Hp):List V->List PyData->Prop where
 |nil:u6 K H [] []
 |cons {x:V} {xs:List V} {d:PyData} {ds:List PyData} (h:Dp K H x d) (t:u6 K H xs ds):u6 K H (x::xs) (d::ds)
end
section
variable{X:Cx}{pins:List (Addr×Obj)}{σ:St}{H:Hp}{s:Shared}
mutual
theorem Dp.reads(I:zB X pins σ H s):∀{x:V}{d:PyData}{u:Value},Dp X.K H x d->zM x u->∃as,Reads s.heap u d as
 |_,_,_,.non,r=>by cases r;exact⟨_,.none⟩
 |_,_,_,.bl b,r=>by cases r;exact⟨_,.bool b⟩
 |_,_,_,.int i,r=>by obtain⟨t,rfl⟩:=r;exact⟨_,.int i t⟩
 |_,_,_,.str x,r=>by obtain⟨t,rfl⟩:=r;exact⟨_,.str x t⟩
 |_,_,_,.lst e h,r=>by
  cases r;obtain⟨its,rv,⟨o,n,e1,e2,_,e3⟩,_⟩:=I.list e;obtain⟨as,q⟩:=u6.reads I h rv;exact⟨_,.list e1 e2 e3 (by simpa using q)⟩
 |_,_,_,.tup e h,r=>by
  cases r;obtain⟨its,rv,⟨o,e1,e2,n,e3⟩,_⟩:=I.tuple e;obtain⟨as,q⟩:=u6.reads I h rv;exact⟨_,.tuple e1 e2 e3 (by simpa using q)⟩
theorem u6.reads(I:zB X pins σ H s):∀{xs:List V}{ds:List PyData}{us:List Value},u6 X.K H xs ds->zC xs us->∃as,ReadsAll s.heap us ds as
 |_,_,_,.nil,r=>by cases r;exact⟨_,.nil⟩
 |_,_,_,.cons h t,r=>by
  cases r with
  |cons r1 r2=>
   obtain⟨_,q1⟩:=Dp.reads I h r1;obtain⟨_,q2⟩:=u6.reads I t r2;exact⟨_,.cons q1 q2⟩
end
end
section
variable{X:Cx}
theorem zNJ(hc:X.calm=true):wg X (.builtin "all") (λxs H Q=>∃(p:Addr)(bs:List Bool),xs=[.ref p]/\zW X.K H p (bs.map V.bl)/\Q (.bl (bs.all id)) H):=by
 intro pins s σ H xs us Q I r h;obtain⟨p,bs,rfl,hq,q⟩:=h;obtain⟨u,rfl,ru⟩:=v8 r;cases ru;obtain⟨its,rv,pl,hz⟩:=I.list hq;have hh:X.A.in1.handled=none:=I.ok.hd hc;have hlt:p<s.heap.objs.size:=by obtain⟨o,n,e,_⟩:=pl;exact aX e
 refine call_all_walk (wpAny_pyIter_list pl.isList ?_);have hlen:its.length=bs.length:=by rw[<- rv.length,aB]
 refine⟨s.heap.objs.size,_,_,_,_,_,λi=>bs.getD i true,rfl,Walks.list hh s.heap.objs.size p (bK hlt) its.toArray,⟨⟨_,a_ _ rfl,rfl,rfl⟩,pl.isList.push _⟩,?_,λh' tk kk=>?_⟩
 ·intro i v s' Q' E' hP hQ';have e1:its[i]? =some v:=by simpa using hP
  have hi:i<its.length:=(aN.mp e1).1
  have hb:(bs.map V.bl)[i]? =some (.bl (bs.getD i true)):=by rw[aV,aE xh,aD,aE xh];rfl
  obtain⟨u',e2,r2⟩:=rv.get hb;rw[e1]at e2;cases e2;cases r2;exact wpAny_truthy_bool hQ'
 ·have e:(aI its.toArray.size).all (λi=>bs.getD i true)=bs.all id:=by
   rw[aY,hlen];rw[de,aT,aT];constructor
   ·intro z b hb;obtain⟨i,hi,rfl⟩:=cz.mp hb;have:=z i (bj.mpr hi);rw[aD,aE hi]at this;exact this
   ·intro z i hi;have hi':=bj.mp hi;rw[aD,aE hi'];exact z _ (cq hi')
  refine⟨.bl (bs.all id),H,I.kept (h':=h') (t':=tk) λb o eb=>kk b o ?_ (aO _ eb),?_,q⟩
  ·intro hb;have:b=s.heap.objs.size:=by simpa using hb
   rw[this]at eb;exact absurd (aX eb) (bU _)
  ·rw[e];rfl
end
end L2
namespace L2
open PySem PySem.Spec PyProof.Rows
noncomputable def uR(own:List Str)(caps:List (Nat×Str))(σ:St):St:=own.map (λ_=>none)++caps.map λp=>(σ[p.1]?).getD none
noncomputable abbrev zZ(own:List Str)(caps:List (Nat×Str)):List Str:=own++caps.map (·.2)
theorem U6:(relabel scope env).names.lookup x=(scope.names.lookup x).map λk=>if(k== .free&&env.scope.kind== .function&&env.kindOf x==some .cell)=true then .cell else k:=by
 unfold relabel;generalize scope.names=l
 induction l with
 |nil=>rfl
 |cons p r ih=>
  obtain⟨n,k⟩:=p;rw[bg];by_cases e:x=n
  ·subst e;by_cases c:(k==NameKind.free&&env.scope.kind== .function&&env.kindOf x==some .cell)=true
   ·simp only[c,if_true,bV,beq_self_eq_true,dX]
   ·simp only[c,if_false,bV,beq_self_eq_true,dX,di]
  ·have z:(x==n)=false:=by simpa using e
   dsimp only;split<;> simp only[bV,z] <;> exact ih
section
variable{X:Cx}{scope:Scope}{own:List Str}{caps:List (Nat×Str)}{pins:List (Addr×Obj)}{σ:St}{H:Hp}{s s4:Shared}{C D:Addr}{fp:List Addr}
theorem zNM{i:Nat}(h1:(zZ own caps)[i]? =some x)(h2:(uR own caps σ)[i]? =some (some v)):∃j,(j,x)∈caps/\σ[j]? =some (some v):=by unfold uR at h2;grind
noncomputable abbrev xi(its:List Value)(k:Nat):Obj:={cls:=.type "list",data:=.seq its.toArray k}
theorem zNN(I:zB Y ((D,xi its k)::pl) σ H s)(hn:yP Y [] H D)(hp:Y.pn=[])(hz:its.length<=sizeLine)
  (q:∀h' k' tk,(∀b o,b≠D->s.heap.get? b=some o->h'.get? b=some o)->zB Y [(D,xi (its++[y]) k')] σ H {s with heap:=h',toks:=tk}->Q .none {s with heap:=h',toks:=tk}):
  wpAny (model Y.prog Y.w) Y.A (call (.builtin "list.append") [.ref D,y]) Q E s:=by
 have pD:=I.pin (D,xi its k) (aU _ aR);have e:s.heap.get? D=some (xi its k):=pD.1;refine call_meets F.slot_list_append ⟨_,e,rfl⟩ F.entry_list_append (F.args_list_append_2 _ _) (PySem.list_append D its.toArray k y (by rw[aY];exact hz)) ⟨e,?_⟩;have e2:=PySem.IsL.update e (·.push y);have ea:its.toArray.push y=(its++[y]).toArray:=by simp
 have keep:∀b o,b≠D->s.heap.get? b=some o->(s.heap.update D (Obj.mapSeq (·.push y))).get? b=some o:=λb o hb eb=>(eR s.heap _ (Ne.symm hb)).trans eb;have I0:zB Y [] σ H s:=I.pins_of λp hp'=>by cases hp'
 have I1:zB Y [] σ H {s with heap:=s.heap.update D (Obj.mapSeq (·.push y)),toks:=s.toks}:=I0.turned keep hn.1 hn.2.1 hn.2.2.2.1 hn.2.2.2.2.1 hn.2.2.2.2.2;have e3:(s.heap.update D (Obj.mapSeq (·.push y))).get? D=some (xi (its++[y]) _):=e2.trans (by rw[ea])
 have I2:zB Y [(D,xi (its++[y]) (if((its++[y]).toArray.size==its.toArray.size)=true then k else k+1))] σ H {s with heap:=s.heap.update D (Obj.mapSeq (·.push y)),toks:=s.toks}:=I1.pins_of λp hp'=>by rw[a6.mp hp'];exact⟨e3,hn.1,hn.2.1,hn.2.2.1,λv z=>by cases z⟩
 exact q _ _ s.toks keep I2
end
end L2
namespace L2
open PySem PySem.Spec PyProof.Rows
structure Fn(P:Program)(w:World)(K:aH)(mg:Str->Option Value)(base:Heap)(x:Str)(ps:List Str)(k:Nat)(sp:Sp):Prop where
 ex:∃f fd,zS P w K mg base yN k f fd ps sp/\mg x=some (.ref f)/\c_ K (.ref f)=true/\w8 K fd ps []
theorem Fn.mono{K:aH}(F:Fn P w K mg base x ps j sp)(h:j<=k:=by decide):Fn P w K mg base x ps k sp:=by obtain⟨f,fd,a,b,c,d⟩:=F.ex;exact⟨f,fd,a.mono h,b,c,d⟩
theorem zHw{X:Cx}{x:Str}{ps:List Str}{k:Nat}{sp:Sp}{e:Expr}{es:List Expr}{t:TA}{p pos:Pos}(F:Fn X.prog X.w X.K X.mg X.base x ps k sp)(hr:zN k X.A)(hg:Gl X x)(ha:PA X (e::es) t)
  (hdb:(x==("__debug__":Str))=false:=by decide) (he:starEach (e::es) X.env=(false,eval e X.env)::starEach es X.env:=by rfl) (hpl:(backTo pos (starEach es X.env)).any (·.1)=false:=by rfl):
  PE X (.Call (.Name x p) (e::es) [] pos) (Uz sp [] E0 t):=by
 obtain⟨f,fd,a,b,c,d⟩:=F.ex;exact zKL a hr hg b c d .nil Yi ha hdb he hpl
end L2
namespace L2
open PySem PySem.Spec PyProof.Rows
theorem zBz:bootBuiltins "isinstance"=some (.builtin "isinstance"):=by decide+kernel
theorem Yj:bootBuiltins "len"=some (.builtin "len"):=by decide+kernel
theorem zLW:bootBuiltins "abs"=some (.builtin "abs"):=by decide+kernel
theorem zLV:bootBuiltins "all"=some (.builtin "all"):=by decide+kernel
theorem zGM:bootBuiltins "int"=some (.type "int"):=by decide+kernel
theorem zI4:bootBuiltins "bool"=some (.type "bool"):=by decide+kernel
theorem zD8:bootBuiltins "tuple"=some (.type "tuple"):=by decide+kernel
theorem Yk:bootBuiltins "list"=some (.type "list"):=by decide+kernel
structure xU(K:aH)(x qual:Str)(st:Stmt)(f:Addr)(fd:FuncData)(d:Value):Prop where
 ex:∃(oc:Value)(od:Option Addr)(kV doc pm:Value)(an:Option Addr)(cdv ct:Value)(osl:Array (Option Value))(T:Addr)(oT:Obj)(n:Nat),
  fd=da x qual (wI st) (yG st) (zX st) (.ref T) kV doc pm an cdv ct/\K.lookup f=some ⟨oc,od,.func fd,osl⟩/\e8 K cdv qual=true/\K.lookup T=some oT/\oT.data=.seq #[d] n
 kp:c_ K (.ref f)=true
theorem xU.ok{K:aH}{st:Stmt}(F:xU K x qual st f fd d)(S:wH N ps (zX st))
  (len:∀vs H Q E,sp vs H Q E->vs.length=ps.length)
  (hbody:∀(cdv:Value)(A:Around)(outer:List Env)(s:Shared)(H:Hp)(vs:List V)(Q:VK)(E:XK),zN k (A.deeper (envOfC qual (zX st) s.heap.objs.size f cdv))->sp vs H Q E->
   ∃t,yb (ym yN P w K mg base N qual (zX st) f cdv A outer s H E).nox (yG st) t/\t {nx:=λ_ H'=>Q .non H',rt:=Q} (wj N vs) H):zS P w K mg base yN (k+1) f fd ps sp:=by
 obtain⟨oc,od,kV,doc,pm,an,cdv,ct,osl,T,oT,n,rfl,lk,hcd,_⟩:=F.ex;refine Qj lk hcd S len λA outer s H vs Q E hr hsp=>?_;obtain⟨t,h,q⟩:=hbody cdv A outer s H vs Q E hr hsp;exact⟨t,h.nox,q⟩
end L2
namespace L2
open PySem PySem.Spec PyProof.Rows
theorem zK5{K:aH}{st:Stmt}{oc kV doc pm cdv ct d:Value}(l:K.lookup f=some ⟨oc,od,.func (da x qual (wI st) (yG st) (zX st) (.ref T) kV doc pm an cdv ct),osl⟩)
  (c:e8 K cdv qual=true) (k:c_ K (.ref f)=true) (t:K.lookup T=some oT) (e:oT.data=.seq #[d] n):xU K x qual st f (da x qual (wI st) (yG st) (zX st) (.ref T) kV doc pm an cdv ct) d:=
 ⟨⟨oc,od,kV,doc,pm,an,cdv,ct,osl,T,oT,n,rfl,l,c,t,e⟩,k⟩
theorem xU.binds{K:aH}{st:Stmt}(F:xU K x qual st f fd d)
  (h:∀(T:Addr)(kV doc pm:Value)(an:Option Addr)(cdv ct:Value)(us:List Value),us.length=ps.length->∃k:Option (Array Value)->Sem (List (Str×Value)),
   bindArgs (da x qual (wI st) (yG st) (zX st) (.ref T) kV doc pm an cdv ct) ⟨us,[]⟩=seqItems? (.ref T)>>= k/\k (some #[d])=pure (ps.zip us)):w8 K fd ps []:=by
 obtain⟨oc,od,kV,doc,pm,an,cdv,ct,osl,T,oT,n,rfl,lk,hcd,t,e⟩:=F.ex;intro s us X hl;rw[cH]at hl|-
 obtain⟨k,h1,h2⟩:=h T kV doc pm an cdv ct us hl;exact .of_defaults (T:=T) rfl (X T oT t) e h1 h2
end L2
namespace L2
open PySem PySem.Spec PyProof.Rows
structure u7(P:Program)(w:World)(K:aH)(mg:Str->Option Value)(base:Heap)(x:Str)(ps:List Str)(k:Nat)(sp:Sp)(dv:V):Prop where
 ex:∃f fd d,zS P w K mg base yN k f fd ps sp/\mg x=some (.ref f)/\c_ K (.ref f)=true/\w8 K fd ps []/\w8 K fd ps [d]/\zM dv d
theorem u7.mono{K:aH}(F:u7 P w K mg base x ps j sp dv)(h:j<=k:=by decide):u7 P w K mg base x ps k sp dv:=by obtain⟨f,fd,d,a,b,c,e⟩:=F.ex;exact⟨f,fd,d,a.mono h,b,c,e⟩
theorem u7.fn{K:aH}(F:u7 P w K mg base x ps k sp dv):Fn P w K mg base x ps k sp:=by obtain⟨f,fd,d,a,b,c,e,_⟩:=F.ex;exact⟨f,fd,a,b,c,e⟩
theorem zKK{X:Cx}{x:Str}{ps:List Str}{k:Nat}{sp:Sp}{e:Expr}{es:List Expr}{t:TA}{p pos:Pos}{dv:V}(F:u7 X.prog X.w X.K X.mg X.base x ps k sp dv)(hr:zN k X.A)(hg:Gl X x)(ha:PA X (e::es) t)
  (hdb:(x==("__debug__":Str))=false:=by decide) (he:starEach (e::es) X.env=(false,eval e X.env)::starEach es X.env:=by rfl) (hpl:(backTo pos (starEach es X.env)).any (·.1)=false:=by rfl):
  PE X (.Call (.Name x p) (e::es) [] pos) (Uz sp [dv] E0 t):=by
 obtain⟨f,fd,d,a,b,c,_,h2,r⟩:=F.ex;exact zKL a hr hg b c h2 (.cons r .nil) Yi ha hdb he hpl
theorem xU.binds1{K:aH}{st:Stmt}(F:xU K x qual st f fd d)
  (h:∀(T:Addr)(kV doc pm:Value)(an:Option Addr)(cdv ct:Value)(us:List Value),us.length+1=ps.length->∃k:Option (Array Value)->Sem (List (Str×Value)),
   bindArgs (da x qual (wI st) (yG st) (zX st) (.ref T) kV doc pm an cdv ct) ⟨us,[]⟩=seqItems? (.ref T)>>= k/\k (some #[d])=pure (ps.zip (us++[d]))):w8 K fd ps [d]:=by
 obtain⟨oc,od,kV,doc,pm,an,cdv,ct,osl,T,oT,n,rfl,lk,hcd,t,e⟩:=F.ex;intro s us X hl;rw[aF,dW]at hl;obtain⟨k,h1,h2⟩:=h T kV doc pm an cdv ct us hl;exact .of_defaults (T:=T) rfl (X T oT t) e h1 h2
theorem zHD:bootBuiltins "range"=some (.type "range"):=by decide+kernel
end L2
namespace L2
open PySem
section
variable{prog:Program}{w:World}{A:Around}{E:Value->Shared->Prop}{s:Shared}
theorem zLE(hh:A.handled=none)(it t)(hne:t≠it)(items):
  Draws prog w A it [it,t] items.size (λi v=>items[i]? =some v) (λi h=>h.IsTupleIter it t i/\h.IsTuple t items) where
 live:=λ_ _ st=>let ⟨o,ho,_⟩:=st.1;⟨o,ho⟩
 frame:=λ_ _ _ st hk=>⟨let ⟨o,e,r⟩:=st.1;⟨o,hk it (by simp) o e,r⟩,let ⟨o,e,r⟩:=st.2;⟨o,hk t (by simp) o e,r⟩⟩
 item:=λi s Q E hi st hQ=>by
  obtain⟨hit,ht⟩:=st;obtain⟨o,ho,hc,hd⟩:=id hit;obtain⟨ol,hol,_,nl,hdl⟩:=id ht;have hx:items[i]? =some items[i]:=by simp[hi]
  unfold Builtin.SmallTypes.nextOf;refine wpAny_bind (wpAny_callSpecial?_slot (name:=bZ "__next__") hit.typeIs F.slot_tuple_iterator_next (wpAny_call_entry F.slot_tuple_iterator_next hit.typeIs F.entry_tuple_iterator_next ?_ (F.args_tuple_iterator_next_1 _)));change wpAny _ _ (field (.ref it) 0>>= _) _ _ s;refine wpAny_bind (wpAny_field ho hd (x:=.ref t) rfl ?_);change wpAny _ _ (if(Value.ref t==Value.none)=true then _ else _) _ _ s;rw[if_neg (show(Value.ref t==Value.none)≠true from bL)];change wpAny _ _ (field (.ref it) 1>>= _) _ _ s;refine wpAny_bind (wpAny_field ho hd (x:=.int i 0) rfl ?_);change wpAny _ _ (seqItems? (.ref t)>>= _) _ _ s;refine wpAny_bind (wpAny_seqItems hol hdl ?_);simp only[cJ,hx];refine wpAny_bind (wpAny_setField ho hd (by simp) (wpAny_pure ⟨items[i],rfl,wpAny_pure (hQ _ _ s.toks hx ⟨?_,?_⟩ (Heap.SameBut.update ..))⟩))
  ·exact⟨_,ff _ ho (Obj.isFreed_of_fields (Obj.data_mapFields hd _)),(Obj.cls_mapFields ..).trans hc,by rw[Obj.data_mapFields hd];simp[rawInt]⟩
  ·exact ht.extBut (Heap.SameBut.update ..).extBut hne
 done:=λs Q E st hE=>by
  obtain⟨hit,ht⟩:=st;obtain⟨o,ho,hc,hd⟩:=id hit;obtain⟨ol,hol,_,nl,hdl⟩:=id ht;have hx:items[items.size]? =none:=by simp
  unfold Builtin.SmallTypes.nextOf;refine wpAny_bind (wpAny_callSpecial?_slot (name:=bZ "__next__") hit.typeIs F.slot_tuple_iterator_next (wpAny_call_entry F.slot_tuple_iterator_next hit.typeIs F.entry_tuple_iterator_next ?_ (F.args_tuple_iterator_next_1 _)));change wpAny _ _ (field (.ref it) 0>>= _) _ _ s;refine wpAny_bind (wpAny_field ho hd (x:=.ref t) rfl ?_);change wpAny _ _ (if(Value.ref t==Value.none)=true then _ else _) _ _ s;rw[if_neg (show(Value.ref t==Value.none)≠true from bL)];change wpAny _ _ (field (.ref it) 1>>= _) _ _ s;refine wpAny_bind (wpAny_field ho hd (x:=.int items.size 0) rfl ?_);change wpAny _ _ (seqItems? (.ref t)>>= _) _ _ s;refine wpAny_bind (wpAny_seqItems hol hdl ?_);simp only[cJ,hx];refine wpAny_bind (wpAny_rule (wpAny_bind (wpAny_setField ho hd (by simp) ?_)));change wpAny _ _ (newExc (.type "StopIteration") []>>= _) _ _ _;refine wpAny_bind ?_;simp only[newExc,newTuple];refine wpAny_bind (wpAny_newObj_type ?_ (by size_fits));refine wpAny_bind (m:=firstArgMember _ _) (wpAny_of_eq (a:=Value.none) (by first|rfl|(simp only[firstArgMember];rfl)) ?_);refine wpAny_newObj_type ?_ (by size_fits);simp only[raiseNew];refine wpAny_bind (wpAny_handled ?_)
  first|rw[show A.in1.handled=none from hh]|rw[hh]
  refine wpAny_bind (wpAny_pure (wpAny_throw ?_));exact hE _ _ (((Heap.SameBut.update ..).extBut.push _).push _) ⟨_,a_ _ rfl,rfl⟩
end
end L2
namespace L2
open PySem PySem.Spec PyProof.Rows
theorem gm(v):Data.fields vs≠Data.cell v:=λz=>by cases z
theorem zDk(v):Data.seq vs n≠Data.cell v:=λz=>by cases z
theorem zB.turnT{σ:St}{ch:List Addr}{T:Addr}(I:zB X pins σ H s)(hf:∀b∈ch,yP X pins H b)(keep:∀b o,b∉ch->s.heap.get? b=some o->h'.get? b=some o)
  (hT:s.heap.objs.size<=T) (p:IsPair h' T u v) (rx:zM x u) (ry:zM y v):zB X pins σ (zV H T (.tup [x,y])) {s with heap:=h',toks:=tk}:=by
 have fr:H T=none:=I.hok.fresh hT;have nT:∀b o,s.heap.get? b=some o->b≠T:=λb o e z=>by rw[z]at e;exact absurd (a9 (aX e) hT) (bU _)
 have uL:∀b o,H b=some o->b∉ch:=λb o e z=>by rw[(hf b z).1]at e;cases e
 refine I.step (ch:=ch) (λb hb=>⟨(hf b hb).2.2.2.1,(hf b hb).2.1,(hf b hb).2.2.2.2.1,(hf b hb).2.2.2.2.2⟩) (λb o _ _ hc e _=>keep b o hc e) (λb o _ _ hc e _=>⟨o.slots,keep b o hc e⟩)
  (λb o _ e n=>by rw[zu (nT b o e)];exact n) (λb o hc e=>⟨o,keep b o hc e⟩) (λb xs e=>by rw[zu (xT e fr)];exact e) (λb o w e=>by rw[zu (xT e fr)];exact e)
  (λb ps e=>⟨#[],by rw[zu (xT e fr),e];simp⟩) (λm hm=>?_) (λb w e=>?_) I.bare
 ·obtain⟨o,es,ep,ho,r⟩:=hm;exact⟨o,es,ep,keep _ o (λz=>(hf _ z).2.1 rfl) ho,r⟩
 ·by_cases hb:b=T
  ·subst hb;rw[xS]at e;cases e;exact⟨by show 2<=sizeLine;decide,[u,v],.cons rx (.cons ry .nil),⟨_,p,rfl,_,rfl⟩⟩
  ·rw[zu hb]at e;refine(I.hok b w e).stay (λc q hc ec=>keep c q ?_ ec) (λc ec=>by rw[zu (xT ec fr)];exact ec) λc xs ec=>by rw[zu (xT ec fr)];exact ec
   rcases hc with z|z
   ·rw[z];exact uL b w e
   ·exact uL c _ z
theorem zB.turnN{σ:St}{ch:List Addr}(I:zB X pins σ H s)(hf:∀b∈ch,yP X pins H b)(keep:∀b o,b∉ch->s.heap.get? b=some o->h'.get? b=some o):
  zB X pins σ H {s with heap:=h',toks:=tk}:=by
 have uL:∀b o,H b=some o->b∉ch:=λb o e z=>by rw[(hf b z).1]at e;cases e
 refine I.step (ch:=ch) (λb hb=>⟨(hf b hb).2.2.2.1,(hf b hb).2.1,(hf b hb).2.2.2.2.1,(hf b hb).2.2.2.2.2⟩) (λb o _ _ hc e _=>keep b o hc e) (λb o _ _ hc e _=>⟨o.slots,keep b o hc e⟩)
  (λb o _ e n=>n) (λb o hc e=>⟨o,keep b o hc e⟩) (λb xs e=>e) (λb o w e=>e) (λb ps e=>⟨#[],by rw[e];simp⟩) (λm hm=>?_) (λb w e=>?_) I.bare
 ·obtain⟨o,es,ep,ho,r⟩:=hm;exact⟨o,es,ep,keep _ o (λz=>(hf _ z).2.1 rfl) ho,r⟩
 ·refine(I.hok b w e).stay (λc q hc ec=>keep c q ?_ ec) (λc ec=>ec) λc xs ec=>ec;rcases hc with z|z
  ·rw[z];exact uL b w e
  ·exact uL c _ z
end L2
namespace L2
open PySem PySem.Spec PyProof.Rows
def Qt(J:It)(g:TG)(tc:TT)(te:TE)(Q:VK)(σ0:St)(H0:Hp):Prop:=∃W:Nat->Nat->List V->St->Hp->Prop,(∃m,W 0 m [] σ0 H0)/\∀i m ys σ1 H,W i m ys σ1 H->
 (J.stop i H/\∀p,H p=none->Q (.ref p) (zV H p (.lst ys)))\/(J.go i H/\ys.length<sizeLine/\∃(N:V->St->Hp->Prop)(N0:St->Hp->Prop),(∀y σ' H',N y σ' H'->∃m',m'<m/\W (i+1) m' (ys++[y]) σ' H')/\(∀σ' H',N0 σ' H'->∃m',m'<m/\W (i+1) m' ys σ' H')∧
    ∀x H',J.yld i H x H'->g x σ1 H' λσ2 H2=>tc σ2 H2 λb H3=>if b=true then te σ2 H3 λy H4=>N y σ2 H4 else N0 σ2 H3)
def zNo(own:List Str)(caps:List (Nat×Str))(wi:TI)(g:TG)(tc:TT)(te:TE):TE:=λσ H Q=>wi σ H λJ H1=>Qt J g tc te Q (uR own caps σ) H1
end L2
namespace L2
open PySem PySem.Spec PyProof.Rows
section
variable{X:Cx}
theorem Qu(hu:X.A.units+64<cLine):yV X (compareOp .NotEq) (λx y H Q=>∃d e,Dp X.K H x d/\Dp X.K H y e/\d.canLay0=true/\e.canLay0=true/\d.depth<=60/\e.depth<=60/\Q (.bl (!PyData.eqv d e)) H):=by intro pins s σ H x y v u Q I rx ry h;obtain⟨d,e,hx,hy,hc,hc',hd,hd',q⟩:=h;obtain⟨_,r1⟩:=hx.reads I rx;obtain⟨_,r2⟩:=hy.reads I ry;exact SeqAt.compareNe_reads r1 r2 hc hc' (by omega) ⟨.bl _,H,I,rfl,q⟩
end
end L2
namespace L2
open PySem
theorem zGL:bootBuiltins "max"=some (.builtin "max"):=by decide+kernel
end L2
namespace L2
open PySem PySem.Spec PyProof.Rows
theorem zLT:bootBuiltins "sum"=some (.builtin "sum"):=by decide+kernel
theorem zGC:∀{ns:List Int}{its:List Value},zC (ns.map V.int) its->∃zs:List (Int×Tok),its=zs.map (λp=>Value.int p.1 p.2)/\zs.map (·.1)=ns
 |[],_,.nil=>⟨[],rfl,rfl⟩
 |n::r,_,.cons h t=>by
  obtain⟨zs,e1,e2⟩:=zGC t;obtain⟨tk,rfl⟩:=h;exact⟨(n,tk)::zs,by rw[e1];rfl,by rw[bg,e2]⟩
section
variable{X:Cx}
theorem zNH(hc:X.calm=true):wg X (.builtin "sum") (λxs H Q=>∃(p:Addr)(ns:List Int),xs=[.ref p]/\zW X.K H p (ns.map V.int)/\Q (.int ns.sum) H):=by
 intro pins s σ H xs us Q I r h;obtain⟨p,ns,rfl,hq,q⟩:=h;obtain⟨u,rfl,ru⟩:=v8 r;cases ru;obtain⟨its,rv,pl,hz⟩:=I.list hq;obtain⟨zs,e1,e2⟩:=zGC rv
 have e3:its.toArray=intItems zs.toArray:=by rw[e1];unfold intItems;simp
 have hl:=pl.isList;rw[e3]at hl;refine sum_intListG (I.ok.hd hc) hl λh' tk t' kk=>⟨.int ns.sum,H,I.kept (h':=h') (t':=tk) kk,⟨t',?_⟩,q⟩
 rw[preSum_eq,bO (by simp),e2]
end
end L2
namespace L2
open PySem PySem.Spec PyProof.Rows
theorem Yl(h1:a<b)(h2:b<=c)(h3:c+1<=d):d≠a:=by omega
theorem Qv(h1:c=a+1)(h2:c+1<=b):b≠a:=by omega
theorem U7:∀names n acc,(cellsFrom n names acc).lookup x=some c->((x,NameKind.cell)∈names/\n<=c)\/acc.lookup x=some c
 |[],_,_,h=>.inr h
 |(y,k)::r,n,acc,h=>by
  unfold cellsFrom at h;split at h
  ·rename_i hk;rcases U7 r (n+1) ((y,n)::acc) h with⟨a,b⟩|z
   ·exact .inl ⟨aK _ a,by exact xQ⟩
   grind
  ·rcases U7 r n acc h with⟨a,b⟩|z
   ·exact .inl ⟨aK _ a,b⟩
   ·exact .inr z
theorem Qw:∀names n acc,(x,NameKind.cell)∉names->(cellsFrom n names acc).lookup x=acc.lookup x
 |[],_,_,_=>rfl
 |(y,k)::r,n,acc,h=>by
  have hr:(x,NameKind.cell)∉r:=λz=>h (aK _ z);unfold cellsFrom;split
  ·rename_i hk;have e2:k=.cell:=eq_of_beq hk;rw[Qw r _ _ hr,bV];grind
  ·exact Qw r _ _ hr
theorem Qx:∀(names:List (Str×NameKind))(n:Nat)(acc:List (Str×Addr)),(∀x c,acc.lookup x=some c->c<n)->(∀x y c,acc.lookup x=some c->acc.lookup y=some c->x=y)->
  ∀x y c,(cellsFrom n names acc).lookup x=some c->(cellsFrom n names acc).lookup y=some c->x=y
 |[],_,_,_,h2=>h2
 |(z,k)::r,n,acc,h1,h2=>by
  unfold cellsFrom;split
  ·have look:∀x c,((z,n)::acc).lookup x=some c->(x=z/\c=n)\/acc.lookup x=some c:=λx c e=>by
    grind
   refine Qx r (n+1) ((z,n)::acc) (λx c e=>?_) λx y c e1 e2=>?_
   ·rcases look x c e with⟨_,e⟩|e
    ·rw[e];exact bW n
    ·exact cw (h1 x c e)
   ·rcases look x c e1 with⟨a1,b1⟩|a1 <;> rcases look y c e2 with⟨a2,b2⟩|a2
    ·rw[a1,a2]
    ·have:=h1 y c a2;rw[b1]at this;exact absurd this (bU n)
    ·have:=h1 x c a1;rw[b2]at this;exact absurd this (bU n)
    ·exact h2 x y c a1 a2
  ·exact Qx r n acc h1 h2
theorem Qy:∀names h acc,(cellsFrom h.objs.size names acc).lookup x=some c->acc.lookup x=some c\/(pushCells h names).IsCell c none
 |[],_,_,e=>.inl e
 |(y,k)::r,h,acc,e=>by
  unfold cellsFrom at e;unfold pushCells;split at e
  ·rename_i hk;rw[if_pos hk];have q:=Qy (x:=x) (c:=c) r (h.push {cls:=.type "cell",data:=.cell none}) ((y,h.objs.size)::acc) (by rw[cP];exact e);rcases q with q|q
   ·rw[bV]at q;cases z:x==y with
    |true=>
     simp only[z]at q;cases q;exact .inr ⟨_,pushCells_keeps r _ _ _ (a_ _ rfl),rfl⟩
    |false=>
     simp only[z]at q;exact .inl q
   ·exact .inr q
  ·rename_i hk;rw[if_neg hk];exact Qy r h acc e
theorem gn:∀{l:List (Str×NameKind)}{x:Str}{k:NameKind},(l.map (·.1)).Nodup->(x,k)∈l->l.lookup x=some k
 |[],_,_,_,h=>by cases h
 |(y,j)::r,x,k,nd,h=>by
  rw[bg,dU]at nd;rw[bV];rcases a8.mp h with e|h
  ·cases e;rw[beq_self_eq_true]
  ·have ne:(x==y)=false:=by
    cases q:x==y with
    |false=>rfl
    |true=>exact absurd (by rw[<- eq_of_beq q];exact aG.mpr ⟨(x,k),h,rfl⟩) nd.1
   simp only[ne];exact gn nd.2 h
theorem zFF{code:Value}
  (h:Q (newEnv scope s.heap.objs.size globals (cellsFrom (s.heap.objs.size+1) scope.names closure) qual func code (some env) builtins) {s with heap:=pushCells (s.heap.push {cls:=.type "dict",data:=.dict #[]}) scope.names}):
  wpAny M A (newFunctionEnv scope globals closure [] qual func code (some env) builtins) Q E s:=by
 simp only[newFunctionEnv,Option.isSome_some,if_true];refine wpAny_bind (wpAny_alloc ?_);refine wpAny_bind (wpAny_layCells _ (λname kind cells=>by cases hkc:kind==NameKind.cell <;> simp[hkc]) _ _ _ _ ?_);rw[show({s with heap:=s.heap.push {cls:=.type "dict",data:=.dict #[]}}:Shared).heap.objs.size=s.heap.objs.size+1 from cP ..];simp only[l_];exact wpAny_bind (wpAny_pure (wpAny_pure h))
noncomputable abbrev yX(X:Cx)(scope:Scope)(N:List Str)(C:Addr)(s₀:Shared)(H₀:Hp)(ex:List Addr):Cx:={X with N:=N,s₀:=s₀,H₀:=H₀,env:=compEnvC scope (cellsFrom (C+1) scope.names (vN scope X.env)) C X.env,outer:=X.stack,ex:=ex,fn:=λx=>scope.names.lookup x==some .cell,pn:=[],xe:=λ_ _=>False}
structure vO(X:Cx)(scope:Scope)(own:List Str)(caps:List (Nat×Str)):Prop where
 kind:scope.kind=.function
 nod:(scope.names.map (·.1)).Nodup
 locs:∀y∈scope.names,y.2=.local->scope.names.lookup y.1=some .local
 free:∀y∈scope.names,y.2=.free->(X.env.cells.lookup y.1).isSome=true
 caps:∀p∈caps,X.N[p.1]? =some p.2/\scope.names.lookup p.2=some .free/\(X.env.kindOf p.2=some .cell\/X.env.kindOf p.2=some .free)
section
variable{X:Cx}{scope:Scope}{own:List Str}{caps:List (Nat×Str)}{pins:List (Addr×Obj)}{σ:St}{H:Hp}{s s4:Shared}{C D:Addr}{fp:List Addr}
theorem U8(B:vO X scope own caps){c n:Nat}(e:(cellsFrom n scope.names (vN scope X.env)).lookup x=some c):((x,NameKind.cell)∈scope.names/\n<=c)\/X.env.cells.lookup x=some c:=(U7 _ _ _ e).imp id λz=>(gk B.free z).1
theorem zIT(I:zB X pins σ H s)(e:X.env.cells.lookup x=some c):c<s.heap.objs.size:=by obtain⟨v,o,ho,_⟩:=I.cell x c e;exact aX ho
theorem zQC(B:vO X scope own caps)(I:zB X pins σ H s)(hf:∀b∈fp,yP X pins H b)(hC:s.heap.objs.size<=C)(hlt:∀b∈fp,b<s.heap.objs.size):(yX X scope (zZ own caps) C s H fp).Ok where
 mod:=I.ok.mod
 kind:=B.kind
 glob:=I.ok.glob
 blt:=I.ok.blt
 above:=hC
 inj:=Qx _ _ _ (λx c e=>a9 (zIT I (gk B.free e).1) (dz hC)) λx y c h1 h2=>I.ok.inj x y c (gk B.free h1).1 (gk B.free h2).1
 has:=λx h=>by
  have fr:(x,NameKind.free)∈scope.names->∃c,(cellsFrom (C+1) scope.names (vN scope X.env)).lookup x=some c:=λz=>by obtain⟨c,e⟩:=U4 (env:=X.env) z;exact cX.mp (cB _ _ _ (.inr (by rw[e];rfl)))
  have ce:(x,NameKind.cell)∈scope.names->∃c,(cellsFrom (C+1) scope.names (vN scope X.env)).lookup x=some c:=λz=>cX.mp (cB _ _ _ (.inl (gn B.nod z)))
  rcases h with h|h
  ·rcases zDB (show(relabel scope X.env).names.lookup x=some .cell from h)with⟨_,z|z⟩|z
   ·exact fr z
   ·exact ce z
   ·exact ce z
  ·rcases zDB (show(relabel scope X.env).names.lookup x=some .free from h)with⟨z,_⟩|z
   ·cases z
   ·exact fr z
 cab:=λx c h e=>by
  have hx:scope.names.lookup x=some .cell:=eq_of_beq h;rcases U7 _ _ _ e with⟨_,z⟩|z
  ·exact bI hC (iX z)
  ·have:=gn B.nod (gk B.free z).2;rw[hx]at this;cases this
 hd:=I.ok.hd
 frames:=I.ok.frames
 stk:=.inl rfl
 exf:=λb hb=>⟨λe=>by have:=hlt b hb;rw[e]at this;exact absurd (a9 this hC) (bU _),λx c e=>by
  rcases U8 B e with⟨_,z⟩|z
  ·exact Yl (hlt b hb) hC z
  ·exact(hf b hb).2.2.2.2.1 x c z⟩
 bs:=I.bs
 bsz:=bI I.ok.bsz I.sz
 noex:=λb o e hb=>by
  rcases(hf b hb).2.2.2.1 with z|z
  ·exact I.ok.noex b o e z
  ·exact absurd (a9 (aX e) (bI I.ok.bsz z)) (bU _)
 exfs:=λb hb z=>by
  rcases a8.mp (I.stkSub b z)with e|z
  ·exact(hf b hb).2.1 e
  ·exact(hf b hb).2.2.1 z
 funs:=I.stack
 frf:=I.stkFree
theorem zNO(B:vO X scope own caps)(I:zB X pins σ H s)(hf:∀b∈fp,yP X pins H b)(hC:s.heap.objs.size<=C)(hlt:∀b∈fp,b<s.heap.objs.size)
  (hn:s4.heap.Ns C m) (hk:∀b o,s.heap.get? b=some o->s4.heap.get? b=some o) (hcell:∀x c,(cellsFrom (C+1) scope.names (vN scope X.env)).lookup x=some c->(vN scope X.env).lookup x=some c\/s4.heap.IsCell c none) (ho:s4.os=s.os) (hb:AllBare s4.gens):
  zB (yX X scope (zZ own caps) C s H fp) [] (uR own caps σ) H s4 where
 ok:=zQC B I hf hC hlt
 os:=ho
 bare:=hb
 base:=Un.kept hk
 loc:=⟨m,hn,λi x v h1 h2 h3=>by
  obtain⟨j,hm,hs⟩:=zNM h1 h2;obtain⟨c1,c2,c3⟩:=B.caps _ hm;obtain⟨m',_,hl⟩:=I.loc;have jq:j4 X.env.scope x:=c3.elim (λz=>.inr (.inl z)) λz=>.inr (.inr z);obtain⟨u,r,l⟩:=hl j x v c1 hs jq;refine⟨u,r,.inr ?_⟩;have hm2:(x,NameKind.free)∈scope.names:=qd c2;obtain⟨c',hc'⟩:=U4 (env:=X.env) hm2;have hc2:=(gk B.free hc').1
  have noc:(x,NameKind.cell)∉scope.names:=λz=>by have:=gn B.nod z;rw[c2]at this;cases this
  refine⟨?_,c',(Qw _ _ _ noc).trans hc',?_⟩
  ·show(relabel scope X.env).names.lookup x=some .cell\/(relabel scope X.env).names.lookup x=some .free;rw[U6,c2,dX];split
   ·exact .inl rfl
   ·exact .inr rfl
  ·rcases l with⟨k,_⟩|⟨_,c,e,z⟩
   ·rcases c3 with c3|c3 <;> rw[c3]at k <;> cases k
   ·rw[hc2]at e;cases e;obtain⟨o,e1,e2⟩:=z;exact⟨o,hk _ o e1,e2⟩⟩
 cell:=λx c e=>by
  rcases hcell x c e with z|z
  ·obtain⟨v,o,e1,e2⟩:=I.cell x c (gk B.free z).1;exact⟨v,o,hk _ o e1,e2⟩
  ·exact⟨none,z⟩
 free:=I.hok.fresh hC
 freeC:=λx c e=>by
  rcases U8 B e with⟨_,z⟩|z
  ·exact I.hok.fresh (bI hC (iX z))
  ·exact I.freeC x c z
 pin:=λp hp=>by simp at hp
 hok:=I.hok.kept hk
 len:=by show(uR own caps σ).length=(zZ own caps).length;unfold uR zZ;simp
end
theorem zNP(k:scope.kind=.function)(nd:(scope.names.map (·.1)).Nodup)
  (hS:X.env.scope=S) (hc:∃n,X.env.cells=cellsFrom n S.names []) (hN:X.N=N) (fr:scope.names.all (λy=>y.2 != .free||S.names.lookup y.1==some .cell)=true)
  (cp:caps.all (λp=>N[p.1]? ==some p.2&&scope.names.lookup p.2==some .free&&S.names.lookup p.2==some .cell)=true):vO X scope own caps:=by
 obtain⟨nn,hc⟩:=hc;refine⟨k,nd,λy hy e=>?_,λy hy e=>?_,λp hp=>?_⟩
 ·exact gn nd (by rw[<- e];exact hy)
 ·have q:=aT.mp fr y hy;rw[e]at q;have q2:S.names.lookup y.1=some .cell:=by simpa using q
  rw[hc];exact cB S.names nn [] (.inl q2)
 ·have q:=aT.mp cp p hp;simp only[bQ,beq_iff_eq]at q;refine⟨by rw[hN];exact q.1.1,q.1.2,.inl ?_⟩;show X.env.scope.names.lookup p.2=some .cell;rw[hS];exact q.2
theorem zSy(k:scope.kind=.function)(nd:(scope.names.map (·.1)).Nodup)
  (ndS:(S.names.map (·.1)).Nodup) (fr:scope.names.all (λy=>y.2 != .free||S.names.lookup y.1==some .cell||S.names.lookup y.1==some .free)=true)
  (cp:caps.all (λp=>(zZ own0 caps0)[p.1]? ==some p.2&&scope.names.lookup p.2==some .free)=true):vO (yX Y S (zZ own0 caps0) C s₀ H₀ ex) scope own caps:=by
 have fr':∀y∈scope.names,y.2=.free->S.names.lookup y.1=some .cell\/S.names.lookup y.1=some .free:=λy hy e=>by have q:=aT.mp fr y hy;rw[e]at q;simpa using q
 refine⟨k,nd,λy hy e=>?_,λy hy e=>?_,λp hp=>?_⟩
 ·exact gn nd (by rw[<- e];exact hy)
 ·show((cellsFrom (C+1) S.names (vN S Y.env)).lookup y.1).isSome=true;refine cB _ _ _ ?_;rcases fr' y hy e with z|z
  ·exact .inl z
  ·obtain⟨c,e⟩:=U4 (env:=Y.env) (qd z);exact .inr (by rw[e];rfl)
 ·have q:=aT.mp cp p hp;simp only[bQ,beq_iff_eq]at q;refine⟨q.1,q.2,?_⟩;show(relabel S Y.env).names.lookup p.2=some .cell\/(relabel S Y.env).names.lookup p.2=some .free;rw[U6];rcases fr' _ (qd q.2) rfl with z|z
  ·left;show(S.names.lookup p.2).map _=_;rw[z];rfl
  grind
end L2
namespace Sh
open PySem L2
theorem ZM(h:H p=none)(o):zE H (zV H p o):=λb u q=>by rw[zu (xT q h)];exact q
def Tp(H:Hp)(v:V)(xs:List V):Prop:=∃a,v=.ref a/\H a=some (.tup xs)
theorem Qz{α β:Type}{R:α->β->Prop}:∀{xs:List α}{ys:List β}{i:Nat}{x:α},Paired R xs ys->xs[i]? =some x->∃y,ys[i]? =some y/\R x y
 |_,_,_,_,.nil,e=>by simp at e
 |_,_,0,_,.cons r _,e=>by simp at e;subst e;exact⟨_,rfl,r⟩
 |_,_,i+1,x,.cons _ t,e=>by
  obtain⟨y,h1,h2⟩:=Qz (i:=i) (x:=x) t (by simpa using e);exact⟨y,by simpa using h1,h2⟩
theorem ZN{α β:Type}{R:α->β->Prop}{x:α}{y:β}(r:R x y):∀{xs:List α}{ys:List β},Paired R xs ys->Paired R (xs++[x]) (ys++[y])
 |_,_,.nil=>.cons r .nil
 |_,_,.cons q t=>.cons q (ZN r t)
theorem gr{α β:Type}{R:α->β->Prop}:∀{xs zs:List α}{ys us:List β},Paired R xs ys->Paired R zs us->Paired R (xs++zs) (ys++us)
 |_,_,_,_,.nil,h=>h
 |_,_,_,_,.cons q t,h=>.cons q (gr t h)
theorem Ym{α:Type}{l:List α}{i:Nat}{x:α}(h:l[i]? =some x):l.take (i+1)=l.take i++[x]:=by obtain⟨hi,e⟩:=aN.mp h;rw[eP hi,e]
abbrev Yn(H:Hp)(vs:List V)(ks:List (List Int)):Prop:=Paired (λv (k:List Int)=>Tp H v (k.map V.int)) vs ks
theorem Yo(h:j<n):xw n (j:Int)=some j:=by unfold xw;rw[if_pos (by exact zb),if_pos (by exact xR)];rfl
theorem zM2{xs:List Int}{i:Nat}(h:(xs.map V.int)[i]? =some x):∃z,xs[i]? =some z/\x=V.int z:=by
 rw[aV]at h;cases e:xs[i]? with
 |none=>rw[e]at h;cases h
 |some z=>rw[e]at h;exact⟨z,rfl,(Option.some.inj h).symm⟩
end Sh
namespace L2
open PySem PySem.Spec PyProof.Rows
section
variable{X:Cx}
def gt(K:aH):R2:=λx y H Q=>∃d e:PyData,Dp K H x d/\Dp K H y e/\d.canLay0=true/\e.canLay0=true/\d.depth<=60/\e.depth<=60/\Q (.bl (cE d e)) H
theorem U9(hu:X.A.units+64<cLine):yV X (compareOp .Eq) (gt X.K):=by intro pins s σ H x y v u Q I rx ry h;obtain⟨d,e,hx,hy,hc,hc',hd,hd',q⟩:=h;obtain⟨_,r1⟩:=hx.reads I rx;obtain⟨_,r2⟩:=hy.reads I ry;exact SeqAt.compareEq_reads r1 r2 hc hc' (by omega) ⟨.bl _,H,I,rfl,q⟩
end
end L2
namespace Sh
open PySem L2
theorem zGG:∀ns ms:List Int,c9 (ns.map PyData.int) (ms.map PyData.int)=decide (ns=ms)
 |[],[]=>by simp[c9]
 |[],_::_=>by simp[c9]
 |_::_,[]=>by simp[c9]
 |a::r,b::t=>by
  have ih:=zGG r t;simp only[bg,c9,cE,ih,List.cons.injEq];by_cases h1:a=b <;> by_cases h2:r=t <;> simp[h1,h2]
structure vb(ws:List Int)(n:Nat):Prop where
 len:ws.length=n
 bd:∀w∈ws,Bd 1000 w
noncomputable def j7(ws:List Int)(b:Int)(pts:List (Int×Int)):Bool:=decide ((z9 ws pts).1<=b*(z9 ws pts).2)
noncomputable def xB(rows:List (List Int))(nums:List Int)(j:Nat):Int:=((rows.zip nums).map λp=>p.1.getD j 0*p.2).sum
noncomputable def gu(rows:List (List Int))(tw:List Int)(o:Int)(nums:List Int)(n:Nat):Bool:=
 if o=0 then((aI n).map (xB rows nums)).all (λx=>decide (x=0))&&decide (xB rows nums n<0)
 else decide ((aI n).map (xB rows nums)=(tw.take n).map (o*·))&&decide (xB rows nums n<=o*tw.getD n 0)
noncomputable def lin(n:Nat)(c:Nat->Int)(r:List Int):Int:=((aI n).map λi=>r.getD i 0*c i).sum
end Sh
namespace L2
open PySem PySem.Spec PyProof.Rows
noncomputable def Q0(K:aH)(a:Addr):It:=
 ⟨λi H=>∃xs x,zW K H a xs/\xs[i]? =some x,
  λi H v H'=>∃T x,v=.ref T/\H T=none/\H'=zV H T (.tup [.int (i:Int),x])/\∀xs,zW K H a xs->xs[i]? =some x,
  λi H=>∃xs,zW K H a xs/\i=xs.length⟩
theorem JA{c x y:Addr}(h:c∉[x,y]):c≠x/\c≠y:=by simp only[a8,cR,or_false,not_or]at h;exact h
theorem zJX{K:aH}(ne:e≠it):
  w4 P w K (.Tuple es kk tp) (Q0 K a) [e,it] e (λi h=>(∃old,IsEnum h e it i old)/\h.IsListIter it a i) where
 mem:=by simp
 obj:=λi h ⟨⟨old,t1⟩,t2⟩ c hc=>by
  simp only[a8,cR,or_false]at hc;rcases hc with rfl|rfl
  ·exact⟨_,t1,gm⟩
  ·obtain⟨o,e,_,d⟩:=t2;exact⟨o,e,by rw[d];exact gm⟩
 keep:=λi h h' ⟨⟨old,t1⟩,t2⟩ k=>⟨⟨old,k e (by simp) _ t1⟩,(by obtain⟨o,q,r⟩:=t2;exact⟨o,k it (by simp) o q,r⟩)⟩
 item:=by
  intro X hP hw hK hc i pins s σ H E I hf ⟨⟨old,t1⟩,t2⟩ hg;subst hP hw hK;obtain⟨xs,x,hq,hx⟩:=hg;obtain⟨its,rv,p,_⟩:=I.list hq;obtain⟨u,hu,ru⟩:=rv.get hx;refine wpAny_pyNext_enum_item t1 t2 p.isList (x:=u) (by simpa using hu) ne ?_;intro h1 z1 z2 z3 z4 keep;refine⟨_,rfl,wpAny_letOwnedTupleGo_enum (s:={s with heap:=h1,toks:=s.toks+1}) z1 λh2 z5 sb=>?_⟩;have elt:e<s.heap.objs.size:=aX t1
  have keep2:∀c o,c∉[e,it]->s.heap.get? c=some o->h2.get? c=some o:=λc o hc q=>by obtain⟨c1,c2⟩:=JA hc;exact sb.extBut c o c1 (keep c o c1 c2 q)
  have pT:IsPair h2 s.heap.objs.size (.int i s.toks) u:=sb.extBut _ _ (eC elt) z3;have I':=I.turnT (h':=h2) (tk:=s.toks+1) (ch:=[e,it]) (x:=.int (i:Int)) (y:=x) hf keep2 (aJ _) pT ⟨_,rfl⟩ ru
  refine⟨.ref s.heap.objs.size,_,I',rfl,⟨s.heap.objs.size,x,rfl,I.hok.fresh (aJ _),rfl,λxs' q=>by rw[I.list_inj q hq];exact hx⟩,
   ⟨⟨u,by simpa using z5⟩,z2.extBut sb.extBut (Ne.symm ne)⟩,λc hc=>?_⟩
  have:=(hf c hc).1;rw[zu]
  ·exact this
  ·intro q
   obtain⟨o,e1⟩:∃o,s.heap.get? c=some o:=by
    simp only[a8,cR,or_false]at hc;rcases hc with rfl|rfl
    ·exact⟨_,t1⟩
    ·obtain⟨o,e1,_⟩:=t2;exact⟨o,e1⟩
   rw[q]at e1;exact absurd (aX e1) (bU _)
 done:=by intro X hP hw hK hc i pins s σ H E I hf ⟨⟨old,t1⟩,t2⟩ hg;subst hP hw hK;obtain⟨xs,hq,e1⟩:=hg;obtain⟨its,rv,p,_⟩:=I.list hq;have n1:its.length=xs.length:=rv.length.symm;refine wpAny_pyNext_enum_end (I.ok.hd hc) t1 t2 p.isList (by simp;omega) ?_;intro h1 ext;refine⟨rfl,I.turnN (h':=h1) (tk:=s.toks) (ch:=[e,it]) hf λc o hc q=>?_⟩;exact ext c o (JA hc).2 q
 self:=λ_ _ _ _ _ ⟨⟨_,st⟩,_⟩ h=>wpAny_pyIter_enum st h
section
variable{X:Cx}{es:List Expr}{kk:Nat}{tp:Pos}
def Yp(K:aH)(ta:TA):TI:=λσ H R=>ta σ H λvs H1=>∃a,vs=[.ref a]/\(∃xs,zW K H1 a xs)/\R (Q0 K a) H1
theorem zPB{e1:Expr}{ta:TA}{p pos:Pos}(hg:Gl X "enumerate")(hm:X.mg "enumerate"=none)(ha:PA X [e1] ta)(hs:starEach [e1] X.env=[(false,eval e1 X.env)]:=by rfl)(hs2:starEach [] X.env=[]:=by rfl):
  PI X (.Tuple es kk tp) (.Call (.Name "enumerate" p) [e1] [] pos) (Yp X.K ta):=by
 intro pins s σ H R I h;refine Call_ (j5 I hg hm (show bootBuiltins "enumerate"=some (.type "enumerate")by decide+kernel) (PyProof.Rows.callWith_type1 (zf (ha pos pins s σ H _ I h) λus s1 ⟨vs,H1,I1,r1,q1⟩=>?_) (by rw[hs,hs2]) (by rw[hs2];rfl)));obtain⟨a,e,⟨xs,hx⟩,q⟩:=q1;subst e;obtain⟨u,rfl,ru⟩:=v8 r1;cases ru;obtain⟨its,rv,p1,_⟩:=I1.list hx;have la:a<s1.heap.objs.size:=by obtain⟨o,n,e,_⟩:=p1;exact aX e
 refine call_enumerate_list p1.isList λh' z1 z2 _ keep=>wpAny_pyIter_enum z1 ?_;have I2:zB X pins σ H1 {s1 with heap:=h'}:=I1.kept (t':=s1.toks) keep;refine⟨s1.heap.objs.size+1,[s1.heap.objs.size+1,s1.heap.objs.size],_,_,H1,rfl,I2,zJX (a:=a) (lF _),⟨⟨_,z1⟩,z2⟩,λc hc=>?_,q⟩
 have ge:s1.heap.objs.size<=c:=by
  simp only[a8,cR,or_false]at hc;rcases hc with rfl|rfl
  ·exact bM _ 1
  ·exact aJ _
 exact I1.fpOk ge (I1.hok.fresh ge)
end
end L2
namespace L2
open PySem PySem.Spec PyProof.Rows
section
variable{prog:Program}{w:World}{A:Around}{E:Value->Shared->Prop}{s:Shared}
theorem zIb{T nw ini:String}{B1 B2:Builtin}{xs:List Value}{kw:List (Str×Value)}{S:PySem.Spec}{Q R1:Value->Shared->Prop}(ft:TypeCalled T nw ini)
  (c1:checkTypeCall T ⟨xs,kw⟩=pure ()) (c2:checkBuiltinCall nw ⟨.type T::xs,kw⟩=pure ())
  (e1:entryFor table nw=some B1) (e2:entryFor table ini=some B2) (m1:Meets (B1 ⟨.type T::xs,kw⟩) S)
  (hS:S A.in1 (wants R1 E) s)
  (nxt:∀o s1,R1 o s1->s1.TypeIs o T/\argsOk ini ⟨o::xs,kw⟩/\∃S2,Meets (B2 ⟨o::xs,kw⟩) S2/\S2 A.in1 (wants (λr s2=>r=.none/\Q o s2) E) s1):
  wpAny (model prog w) A (call (.type T) xs kw) Q E s:=by
 obtain⟨c,tl,k1⟩:=ft.mro;have k2:=ft.made;have k3:=ft.sub;have k4:=ft.notType;have k5:=ft.canCreate;refine wpAny_call (codeAny_of_tree ?_);show wpAny _ _ (callAny (.type T) _) _ _ _;refine wpAny_pure ⟨Code.quiet_builtin _ (by decide+kernel),codeAny_builtin F.entry_type_call ?_⟩;rw[Around.under_plain (weight_type_call_type T xs kw) (units_type_call_type T xs kw)]
 repeat(any_goals(first|assumption|wp_step))
 refine codeAny_mono (codeAny_call_builtin ft.plain e1 (wpAny_of_eq c2 (m1 prog w A.in1 _ s hS))) λr s1 z=>?_;cases r with
 |error e=>exact z
 |ok fl=>
  cases fl with
  |ret o=>
   obtain⟨hT,ok,S2,m2,z2⟩:=nxt _ _ z;have l1:=ft.init.lookup;have l2:=ft.init.bind o
   repeat(any_goals(first|assumption|wp_step))
   refine codeAny_mono (codeAny_call_builtin ft.init.plain e2 (ft.init.check _ _ _ _ _ _ _ _ hT ok (m2 prog w A.in1 _ s1 z2))) λr2 s2 y=>?_;cases r2 with
   |error e=>exact y
   |ok fl2=>
    cases fl2 with
    |ret r=>
     obtain⟨rfl,y⟩:=y
     repeat(any_goals(first|assumption|wp_step))
    |_=>exact y.elim
  |_=>exact z.elim
theorem zMi(h1:typeLookup (.type T) "__init__"=pure (some (.builtin "object.__init__")))
  (h2:Bind.madeBy (.type T)=pure (some nw)) (h3:(some nw != some "object.__new__")=true):
  Meets (Builtin.«object.__init__» ⟨[o,a],kw⟩) (λ_ R s=>s.TypeIs o T/\R (.ok (.ret .none)) s):=by
 refine Meets.of_wp λprog w A R s z=>?_;obtain⟨hT,q⟩:=z
 repeat(any_goals(first|assumption|wp_step))
 exact⟨_,rfl,q⟩
theorem zMj(o a v):argsOk "object.__init__" ⟨[o,a],[("start",v)]⟩:=by
 unfold argsOk
 rw[signature?_of (id:="object.__init__") (n:=['_','_','t','i','n','i','_','_'])
  (o:=['t','c','e','j','b','o']) (by kernel_rfl) F.owner_object]
 kernel_rfl
theorem zSo(a v):checkTypeCall "enumerate" ⟨[a],[("start",v)]⟩=pure ():=by kernel_rfl
theorem zSp(a v):checkBuiltinCall "enumerate.__new__" ⟨[.type "enumerate",a],[("start",v)]⟩=pure ():=by kernel_rfl
end
theorem Yq{x:Bool}(h:∀b,Q b s):wpAny (model P w) A (pure x) Q E s:=wpAny_pure (h x)
open AutoSeq1 in
theorem zGz(l)(its)(m)(dct)(sl)(n)(tn)(fit:Builtin.SmallTypes.fitsIndex n=true):
  Meets (Builtin.«enumerate.__new__» ⟨[.type "enumerate",.ref l],[("start",.int n tn)]⟩) (λ_ R s=>s.heap.get? l=some {cls:=.type "list",dict:=dct,data:=.seq its m,slots:=sl}∧
   R (.ok (.ret (.ref (s.heap.push {cls:=.type "list_iterator",data:=.fields #[.ref l,.int 0 0]}).objs.size)))
    {s with heap:=(s.heap.push {cls:=.type "list_iterator",data:=.fields #[.ref l,.int 0 0]}).push {cls:=.type "enumerate",data:=.fields #[.none,.bool false,.ref s.heap.objs.size,rawInt n,.none,.none]}}):=
 .of_wp λprog w A R s z=>by
  obtain⟨hp,g,d,tk,os⟩:=s;obtain⟨e1,z⟩:=z;have k0:=sub_enumerate;have k1:Heap.IsList (Shared.heap ⟨hp,g,d,tk,os⟩) l its:=⟨_,e1,rfl,m,rfl⟩
  wp_walk using wpAny_loadPart' e1
  refine wpAny_stack_any λst=>Yq λb=>?_;cases b
  all_goals
   wp_walk using wpAny_loadPart' e1,wpAny_pyIter_list k1
   simp only[fit,Bool.not_true,di,if_false]
   wp_walk using wpAny_loadPart' e1,wpAny_pyIter_list k1
   exact⟨_,rfl,z⟩
section
variable{prog:Program}{w:World}{A:Around}{E:Value->Shared->Prop}{s:Shared}
theorem zI3(hL:s.heap.IsList l its)(fit:Builtin.SmallTypes.fitsIndex n=true)
  (k:∀g,IsEnum g (s.heap.objs.size+1) s.heap.objs.size n .none->g.IsListIter s.heap.objs.size l 0->
   (∀b o,s.heap.get? b=some o->g.get? b=some o)->Q (.ref (s.heap.objs.size+1)) {s with heap:=g}):
  wpAny (model prog w) A (call (.type "enumerate") [.ref l] [("start",.int n tn)]) Q E s:=by
 obtain⟨⟨c,dc,dt,sl⟩,el,ec,m,ed⟩:=hL;replace ec:c=.type "list":=ec;replace ed:dt=.seq its m:=ed;subst ec ed
 refine zIb (R1:=λo s1=>s1.TypeIs o "enumerate"/\Q o s1) F.called_enumerate (zSo _ _) (zSp _ _) F.entry_enumerate_new F.entry_object_init
  (zGz l its m dc sl n tn fit) ⟨el,?_⟩ (λo s1 q=>⟨q.1,zMj o _ _,_,zMi F.called_enumerate.init.lookup F.called_enumerate.made (by decide),q.1,rfl,q.2⟩)
 have sz:(s.heap.push {cls:=.type "list_iterator",data:=.fields #[.ref l,.int 0 0]}).objs.size=s.heap.objs.size+1:=cP ..
 show _/\_;rw[sz]
 have ee:IsEnum ((s.heap.push {cls:=.type "list_iterator",data:=.fields #[.ref l,.int 0 0]}).push
   {cls:=.type "enumerate",data:=.fields #[.none,.bool false,.ref s.heap.objs.size,rawInt n,.none,.none]}) (s.heap.objs.size+1) s.heap.objs.size n .none:=by
  have y:=a_ (s.heap.push {cls:=.type "list_iterator",data:=.fields #[.ref l,.int 0 0]})
   (o:={cls:=.type "enumerate",data:=.fields #[.none,.bool false,.ref s.heap.objs.size,rawInt n,.none,.none]}) rfl
  rw[sz]at y;exact y
 exact⟨⟨_,ee,rfl⟩,k _ ee ⟨_,aO _ (a_ _ rfl),rfl,rfl⟩ λb o x=>aO _ (aO _ x)⟩
theorem zOQ(k)(hh:A.handled=none)(ne:l≠it):
  Draws prog w A it [it,l] (k+its.size) (λj x=>its[j-k]? =some x) (λj h=>k<=j/\h.IsListIter it l (j-k)/\h.IsList l its) where
 live:=λj h ⟨_,⟨o,e,_⟩,_⟩=>⟨o,e⟩
 frame:=λj h h' ⟨a,⟨o,e,r⟩,⟨o2,e2,r2⟩⟩ kp=>⟨a,⟨o,kp it (by simp) o e,r⟩,⟨o2,kp l (by simp) o2 e2,r2⟩⟩
 item:=λj s Q E lt ⟨le,hi,hl⟩ kQ=>by
  have jl:j-k<its.size:=by omega
  refine wpAny_nextOf_list_item hi hl (x:=its[j-k]) (by simp[jl]) λg gi same=>?_;refine kQ _ g s.toks (by simp[jl]) ⟨by exact yO,?_,hl.extBut same.extBut ne⟩ same;rw[show j+1-k=j-k+1 by omega];exact gi
 done:=λs Q E ⟨le,hi,hl⟩ kE=>wpAny_nextOf_list_end hh hi hl (by simp) kE
end
section
variable{M:Model}{A:Around}{E:Value->Shared->Prop}{s:Shared}
theorem zP0
  (p1:more.any (·.1)=false) (p2:kws.any (·.1.isNone)=false) (p3:kws.all (·.1.isSome)=true)
  (h:wpAny M A (spliced ((false,x)::more)) (λvs s1=>wpAny M A (evalAll (kws.map (·.2))) (λks s2=>wpAny M A (call (.type T) vs ((kws.filterMap (·.1)).zip ks)) Q E s2) E s1) E s):
  wpAny M A (callWith pos (.type T) [] ((false,x)::more) kws) Q E s:=by
 unfold callWith;refine wpAny_bind (wpAny_holding (wpAny_mono (evalArgs_kwB (f:=.type T) (Q:=λa s1=>wpAny M A (call (.type T) a.pos a.kw) Q E s1) p3 h) (λa s1 q=>wpAny_bind (wpAny_standAt ?_)) λ_ _ z=>z))
 have e:(((false,x)::more).any (·.1))=false:=by show(false||more.any (·.1))=false;rw[p1];rfl
 simp only[e,p2,Bool.or_false];refine wpAny_bind (wpAny_pure ?_);exact wpAny_bind (wpAny_mono q (λr s2 y=>wpAny_bind (wpAny_holding (wpAny_point (wpAny_pure y)))) λ_ _ z=>z)
end
noncomputable def gv(K:aH)(a:Addr)(k:Nat):It:=
 ⟨λi H=>∃xs x,zW K H a xs/\xs[i]? =some x,
  λi H v H'=>∃T x,v=.ref T/\H T=none/\H'=zV H T (.tup [.int ((k+i:Nat):Int),x])/\∀xs,zW K H a xs->xs[i]? =some x,
  λi H=>∃xs,zW K H a xs/\i=xs.length⟩
theorem zIf{K:aH}(ne:e≠it)(nl:a≠it):
  w4 P w K (.Tuple es kk tp) (gv K a k) [e,it] e (λi h=>(∃old,IsEnum h e it ((k+i:Nat):Int) old)/\h.IsListIter it a i) where
 mem:=by simp
 obj:=λi h ⟨⟨old,t1⟩,t2⟩ c hc=>by
  simp only[a8,cR,or_false]at hc;rcases hc with rfl|rfl
  ·exact⟨_,t1,gm⟩
  ·obtain⟨o,e,_,d⟩:=t2;exact⟨o,e,by rw[d];exact gm⟩
 keep:=λi h h' ⟨⟨old,t1⟩,t2⟩ z=>⟨⟨old,z e (by simp) _ t1⟩,(by obtain⟨o,q,r⟩:=t2;exact⟨o,z it (by simp) o q,r⟩)⟩
 item:=by
  intro X hP hw hK hc i pins s σ H E I hf ⟨⟨old,t1⟩,t2⟩ hg;subst hP hw hK;obtain⟨xs,x,hq,hx⟩:=hg;obtain⟨its,rv,p,_⟩:=I.list hq;obtain⟨u,hu,ru⟩:=rv.get hx;have li:i<its.length:=(aN.mp hu).1
  have nea:e≠a:=λz=>by obtain⟨o,eo,cl,_⟩:=p.isList;rw[z]at t1;rw[t1]at eo;cases eo;have cl2:Value.type "enumerate"=Value.type "list":=cl;exact absurd (Value.type.inj cl2) (by decide)
  have D:=zOQ (prog:=X.prog) (w:=X.w) (A:=X.A.in1) (it:=it) (l:=a) (its:=its.toArray) k (I.ok.hd hc) nl;refine wpAny_pyNext_enum_itemD D (i:=k+i) t1 ⟨by exact bM _ _,by rw[dG];exact t2,p.isList⟩ (by simp;omega) ne (by simp[ne,nea]) ?_;intro v h1 tk hv z1 z2 z3 z4 keep;rw[dG]at hv
  have ev:v=u:=by
   have:its[i]? =some v:=by simpa using hv
   rw[hu]at this;exact(Option.some.inj this).symm
  subst ev;refine⟨_,rfl,wpAny_letOwnedTupleGo_enum (s:={s with heap:=h1,toks:=tk+1}) z1 λh2 z5 sb=>?_⟩;have elt:e<s.heap.objs.size:=aX t1
  have keep2:∀c o,c∉[e,it]->s.heap.get? c=some o->h2.get? c=some o:=λc o hc q=>by obtain⟨c1,c2⟩:=JA hc;exact sb.extBut c o c1 (keep c o c1 c2 q)
  have pT:IsPair h2 s.heap.objs.size (.int ((k+i:Nat):Int) tk) v:=sb.extBut _ _ (eC elt) z3;have I':=I.turnT (h':=h2) (tk:=tk+1) (ch:=[e,it]) (x:=.int ((k+i:Nat):Int)) (y:=x) hf keep2 (aJ _) pT ⟨_,rfl⟩ ru
  have z2':h1.IsListIter it a (i+1):=by have:=z2.2.1;rw[show k+i+1-k=i+1 by omega]at this;exact this
  refine⟨.ref s.heap.objs.size,_,I',rfl,⟨s.heap.objs.size,x,rfl,I.hok.fresh (aJ _),rfl,λxs' q=>by rw[I.list_inj q hq];exact hx⟩,
   ⟨⟨v,by rw[show((k+(i+1):Nat):Int)=((k+i:Nat):Int)+1 by exact rfl];exact z5⟩,z2'.extBut sb.extBut (Ne.symm ne)⟩,λc hc=>?_⟩
  have:=(hf c hc).1;rw[zu]
  ·exact this
  ·intro q
   obtain⟨o,e1⟩:∃o,s.heap.get? c=some o:=by
    simp only[a8,cR,or_false]at hc;rcases hc with rfl|rfl
    ·exact⟨_,t1⟩
    ·obtain⟨o,e1,_⟩:=t2;exact⟨o,e1⟩
   rw[q]at e1;exact absurd (aX e1) (bU _)
 done:=by intro X hP hw hK hc i pins s σ H E I hf ⟨⟨old,t1⟩,t2⟩ hg;subst hP hw hK;obtain⟨xs,hq,e1⟩:=hg;obtain⟨its,rv,p,_⟩:=I.list hq;have n1:its.length=xs.length:=rv.length.symm;have D:=zOQ (prog:=X.prog) (w:=X.w) (A:=X.A.in1) (it:=it) (l:=a) (its:=its.toArray) k (I.ok.hd hc) nl;refine wpAny_pyNext_enum_endD D t1 ⟨by simp,by simp;rw[n1,<- e1];exact t2,p.isList⟩ ?_;intro h1 ext;refine⟨rfl,I.turnN (h':=h1) (tk:=s.toks) (ch:=[e,it]) hf λc o hc q=>?_⟩;exact ext c o (JA hc).2 q
 self:=λ_ _ _ _ _ ⟨⟨_,st⟩,_⟩ h=>wpAny_pyIter_enum st h
section
variable{X:Cx}{es:List Expr}{kk:Nat}{tp:Pos}
def zSO(K:aH)(ta:TA)(te:TE):TI:=λσ H R=>ta σ H λvs H1=>∃a,vs=[.ref a]/\te σ H1 λv H2=>∃k:Nat,v=.int (k:Int)/\Builtin.SmallTypes.fitsIndex (k:Int)=true/\(∃xs,zW K H2 a xs)/\R (gv K a k) H2
theorem zMc{e1 e2:Expr}{ta:TA}{te:TE}{p pos kp:Pos}(hg:Gl X "enumerate")(hm:X.mg "enumerate"=none)(ha:PA X [e1] ta)(he:PE X e2 te)(hs:starEach [e1] X.env=[(false,eval e1 X.env)]:=by rfl)(hs2:starEach [] X.env=[]:=by rfl):
  PI X (.Tuple es kk tp) (.Call (.Name "enumerate" p) [e1] [⟨some "start",e2,kp⟩] pos) (zSO X.K ta te):=by
 intro pins s σ H R I h;refine wpAny_Call_Name_kw (j5 I hg hm (show bootBuiltins "enumerate"=some (.type "enumerate")by decide+kernel) ?_);have h1:=ha pos pins s σ H _ I h;rw[hs]at h1|-
 refine zP0 (T:="enumerate") rfl rfl rfl (zf h1 λus s1 ⟨vs,H1,I1,r1,q1⟩=>?_);obtain⟨a,e,q2⟩:=q1;subst e;obtain⟨u,rfl,ru⟩:=v8 r1;cases ru;refine kws_cons (zf (he pins s1 σ H1 _ I1 q2) λu2 s2 ⟨v,H2,I2,r2,q3⟩=>kws_nil ?_);obtain⟨k,rfl,fit,⟨xs,hx⟩,q⟩:=q3;obtain⟨tk,rfl⟩:=r2;obtain⟨its,rv,p1,_⟩:=I2.list hx;have la:a<s2.heap.objs.size:=by obtain⟨o,n,e,_⟩:=p1;exact aX e
 refine zI3 p1.isList fit λh' z1 z2 keep=>wpAny_pyIter_enum z1 ?_;have I3:zB X pins σ H2 {s2 with heap:=h'}:=I2.kept (t':=s2.toks) keep;refine⟨s2.heap.objs.size+1,[s2.heap.objs.size+1,s2.heap.objs.size],_,_,H2,rfl,I3,zIf (a:=a) (k:=k) (lF _) (bK la),⟨⟨_,z1⟩,z2⟩,λc hc=>?_,q⟩
 have ge:s2.heap.objs.size<=c:=by
  simp only[a8,cR,or_false]at hc;rcases hc with rfl|rfl
  ·exact bM _ 1
  ·exact aJ _
 exact I2.fpOk ge (I2.hok.fresh ge)
end
end L2
namespace Sh
open PySem L2
inductive Kd where
 |int|bool|non|str|lst|tup|dic
 deriving DecidableEq
noncomputable def Kd.nm:Kd->String
 | .int=>"int"| .bool=>"bool"| .non=>"NoneType"| .str=>"str"| .lst=>"list"| .tup=>"tuple"| .dic=>"dict"
noncomputable def Kd.whole:Kd->Bool
 | .int=>true
 |_=>false
noncomputable def Kd.isInt:Kd->Bool
 | .int=>true
 | .bool=>true
 |_=>false
noncomputable def Kd.isBool:Kd->Bool
 | .bool=>true
 |_=>false
noncomputable def Kd.isTup:Kd->Bool
 | .tup=>true
 |_=>false
noncomputable def Kd.isLst:Kd->Bool
 | .lst=>true
 |_=>false
section
variable(K:aH)
theorem qe(k:Kd):bG K (.type k.nm) (.type "int")=some k.isInt:=by cases k <;> first|rfl|decide+kernel|(unfold bG;rw[if_pos (by decide+kernel)];rfl)|(unfold bG;rw[if_neg (by decide+kernel)];rfl)
theorem qf(k:Kd):bG K (.type k.nm) (.type "bool")=some k.isBool:=by cases k <;> first|rfl|decide+kernel|(unfold bG;rw[if_pos (by decide+kernel)];rfl)|(unfold bG;rw[if_neg (by decide+kernel)];rfl)
theorem qg(k:Kd):bG K (.type k.nm) (.type "tuple")=some k.isTup:=by cases k <;> first|rfl|decide+kernel|(unfold bG;rw[if_pos (by decide+kernel)];rfl)|(unfold bG;rw[if_neg (by decide+kernel)];rfl)
theorem qh(k:Kd):bG K (.type k.nm) (.type "list")=some k.isLst:=by cases k <;> first|rfl|decide+kernel|(unfold bG;rw[if_pos (by decide+kernel)];rfl)|(unfold bG;rw[if_neg (by decide+kernel)];rfl)
end
end Sh
namespace L2
open PySem PySem.Spec PyProof.Rows
section
variable{X:Cx}
theorem zRw:yV X (compareOp .Is) (λx y H Q=>∃a b,x=.bl a/\y=.bl b/\Q (.bl (a==b)) H):=by intro pins s σ H x y v u Q I rx ry h;obtain⟨a,b,rfl,rfl,q⟩:=h;cases rx;cases ry;exact is_bool ⟨.bl (a==b),H,I,rfl,q⟩
end
end L2
namespace L2
open PySem PySem.Spec PyProof.Rows
structure xV(K:aH)(mg:Str->Option Value)(x:Str)(C:Addr):Prop where
 cl:u4 K C
 mgC:mg x=some (.ref C)
 ha:cO K (.ref C) "__class__"=some (some (.builtin "object.__class__"))
 hn:iS K (.builtin "object.__class__") "__get__"=some (some (.builtin "getset_descriptor.__get__"))
 htk:lX K (.builtin "object.__class__")=some true
 hm:mh K C (.type "object")=some true
theorem xV.ty{K:aH}(T:xV K mg x C)(e:H a=some (.ins C dx fs)):yQ K H (.ref a) (.ref C):=.ins e T.cl T.ha T.hn T.htk T.hm
structure qi(P:Program)(w:World)(K:aH)(mg:Str->Option Value)(base:Heap)(C:Addr)(m:Str)(ps:List Str)(k:Nat)(sp:Sp):Prop where
 ex:∃f fd,zS P w K mg base yN k f fd ps sp/\gZ K C m f/\w8 K fd ps []
structure jh(P:Program)(w:World)(K:aH)(mg:Str->Option Value)(base:Heap)(C:Addr)(ps:List Str)(k:Nat)(sp:Sp):Prop where
 ex:∃f fd,zS P w K mg base yN k f fd ps sp/\Mk K C f/\w8 K fd ps []
structure xj(P:Program)(w:World)(K:aH)(mg:Str->Option Value)(base:Heap)(C:Addr)(ps:List Str)(k:Nat)(sp:Sp)(dv:V):Prop where
 ex:∃f fd d,zS P w K mg base yN k f fd ps sp/\Mk K C f/\w8 K fd ps []/\w8 K fd ps [d]/\zM dv d
theorem qi.mono{K:aH}(F:qi P w K mg base C m ps j sp)(h:j<=k:=by decide):qi P w K mg base C m ps k sp:=by obtain⟨f,fd,a,b,c⟩:=F.ex;exact⟨f,fd,a.mono h,b,c⟩
theorem jh.mono{K:aH}(F:jh P w K mg base C ps j sp)(h:j<=k:=by decide):jh P w K mg base C ps k sp:=by obtain⟨f,fd,a,b,c⟩:=F.ex;exact⟨f,fd,a.mono h,b,c⟩
theorem xj.mono{K:aH}(F:xj P w K mg base C ps j sp dv)(h:j<=k:=by decide):xj P w K mg base C ps k sp dv:=by obtain⟨f,fd,d,a,b,c⟩:=F.ex;exact⟨f,fd,d,a.mono h,b,c⟩
theorem xj.fn{K:aH}(F:xj P w K mg base C ps k sp dv):jh P w K mg base C ps k sp:=by obtain⟨f,fd,d,a,b,c,_⟩:=F.ex;exact⟨f,fd,a,b,c⟩
section
variable{X:Cx}{C:Addr}{m x:Str}{ps:List Str}{k:Nat}{sp:Sp}{o e:Expr}{es:List Expr}{ta:TE}{t:TA}{p pos apos:Pos}{dv:V}
theorem zKG{pl:Sem Bool}(F:qi X.prog X.w X.K X.mg X.base C m ps k sp)(T:xV X.K X.mg x C)(hr:zN k X.A)(he:PE X o ta)
  (ht:eval (.Call (.Attribute o m apos) [] [] pos) X.env=(do
   let ov <- eval o X.env
   standAt apos.atName
   let (f,first) <- holding [ov] (getMethod ov m pl)
   callWith pos f first (backTo pos (starEach [] X.env)) (backToKw pos (keywordEach [] X.env))):=by rfl):
  PE X (.Call (.Attribute o m apos) [] [] pos) (zQq C m sp [] E0 ta w6):=by
 obtain⟨f,fd,a,b,c⟩:=F.ex;exact zMd he T.cl b a hr c .nil Yi ht
theorem zMe(F:jh X.prog X.w X.K X.mg X.base C ps k sp)(T:xV X.K X.mg x C)(hr:zN (k+1) X.A)(hg:Gl X x)(ha:PA X (e::es) t)
  (hdb:(x==("__debug__":Str))=false:=by decide) (he:starEach (e::es) X.env=(false,eval e X.env)::starEach es X.env:=by rfl) (hpl:(backTo pos (starEach es X.env)).any (·.1)=false:=by rfl):
  PE X (.Call (.Name x p) (e::es) [] pos) (YX C sp [] E0 t):=by
 obtain⟨f,fd,a,b,c⟩:=F.ex;exact zKI b a hr hg T.mgC c .nil Yi ha hdb he hpl
theorem zKH(F:xj X.prog X.w X.K X.mg X.base C ps k sp dv)(T:xV X.K X.mg x C)(hr:zN (k+1) X.A)(hg:Gl X x)(ha:PA X (e::es) t)
  (hdb:(x==("__debug__":Str))=false:=by decide) (he:starEach (e::es) X.env=(false,eval e X.env)::starEach es X.env:=by rfl) (hpl:(backTo pos (starEach es X.env)).any (·.1)=false:=by rfl):
  PE X (.Call (.Name x p) (e::es) [] pos) (YX C sp [dv] E0 t):=by
 obtain⟨f,fd,d,a,b,_,c,r⟩:=F.ex;exact zKI b a hr hg T.mgC c (.cons r .nil) Yi ha hdb he hpl
theorem zRd(T:xV X.K X.mg x C)(hg:Gl X x)(hd:(x==("__debug__":Str))=false:=by decide):PE X (.Name x pos) (tC (.ref C)):=zKJ hg T.mgC rfl hd
def zNs(K:aH):List V->Hp->VK->Prop:=λxs H Q=>∃x C t b,xs=[x,.ref C]/\yQ K H x t/\bG K t (.ref C)=some b/\Q (.bl b) H
theorem zGJ:wg X (.builtin "isinstance") (zNs X.K):=by intro pins s σ H xs us Q I r h;obtain⟨x,C,t,b,rfl,ty,e,q⟩:=h;obtain⟨u,v,rfl,ru,rv⟩:=YU r;cases(show v=Value.ref C from rv);exact zGA I ru ty e λtk=>⟨.bl b,H,I.tok tk,rfl,q⟩
end
end L2
namespace L2
open PySem PySem.Spec PyProof.Rows
open PySem
def SqE(K:aH)(H:Hp)(a:Addr)(xs:List V):Prop:=yZ K H a xs\/zW K H a xs
section
variable{X:Cx}{es:List Expr}{kk:Nat}{tp:Pos}
def Yr(K:aH):R2:=λx y H Q=>∃p xs i v,x=.ref p/\y=.int i/\SqE K H p xs/\yc xs i=some v/\Q v H
theorem zPZ:U3 X (Yr X.K):=by
 intro value slice pins s σ H x y v u Q I rx ry h hs;obtain⟨p,xs,i,z,e1,e2,hq,he,q⟩:=h;rcases hq with hq|hq
 ·exact zSF value slice pins s σ H x y v u Q I rx ry ⟨p,xs,i,z,e1,e2,hq,he,q⟩ hs
 ·exact Qn value slice pins s σ H x y v u Q I rx ry ⟨p,xs,i,z,e1,e2,hq,he,q⟩ hs
end
section
variable{prog:Program}{w:World}{A:Around}{E:Value->Shared->Prop}
theorem zSr(ne:l≠it):∀m j s R,s.heap.IsListIter it l j->s.heap.IsList l xs->j+m<=xs.size->
  (∀g,g.IsListIter it l (j+m)->Heap.SameBut it s.heap g->R ((xs.toList.drop j).take m) {s with heap:=g})->wpAny (model prog w) A (draw (.ref it) m) R E s
 |0,j,s,R,hi,_,_,k=>wpAny_pure (by simpa using k s.heap hi (Heap.SameBut.refl ..))
 |m+1,j,s,R,hi,hl,le,k=>by
  have lt:j<xs.size:=by omega
  have step:=λg (z:Heap.SameBut it s.heap g)=>(hl.extBut z.extBut ne:g.IsList l xs)
  show wpAny _ _ (pyNext (.ref it)>>= _) R E s;refine wpAny_bind (wpAny_pyNext_list_item hi hl (x:=xs[j]) (by simp[lt]) λg1 i1 b1=>?_);refine wpAny_bind (wpAny_holding (zSr ne m (j+1) _ _ i1 (step g1 b1) (by omega) λg2 i2 b2=>wpAny_pure ?_));have z:=k g2 (by rw[show j+(m+1)=j+1+m by omega];exact i2) (b1.trans b2);rw[show xs.toList.drop j=xs[j]::xs.toList.drop (j+1)by simp[dw,lt],List.take_succ_cons]at z;exact z
theorem zSH(hd:A.handled=none)(hl:s.heap.IsList l xs)
  (k:∀g,Heap.ExtBut s.heap.objs.size s.heap g->R xs.toList {s with heap:=g}):wpAny (model prog w) A (unpackItems (.ref l) xs.size none) R E s:=by
 have ne:l≠s.heap.objs.size:=by obtain⟨o,eo,_⟩:=hl;exact bK (aX eo)
 unfold unpackItems;refine wpAny_bind ?_;unfold notIterableAtAll;refine wpAny_bind (wpAny_specialOf hl.typeIs slot_list_iter.lookup ?_);refine wpAny_pure ?_;simp only[di,if_false];refine wpAny_bind (wpAny_holding (wpAny_pyIter_list hl ?_));refine wpAny_bind (wpAny_holding (zSr ne xs.size 0 _ _ ⟨_,a_ _ rfl,rfl,rfl⟩ (hl.push _) (by omega) λg1 i1 b1=>?_));rw[show List.take xs.size (List.drop 0 xs.toList)=xs.toList by rw[d_];exact bO (by simp),if_neg (by simp)];refine wpAny_bind (wpAny_holding (wpAny_pyNext_list_end hd i1 ((hl.push _).extBut b1.extBut ne) (by simp) λg2 x2=>?_));simp only[Option.isSome_none,di,if_false];exact wpAny_pure (k g2 λc o n e=>x2 c o n (b1.extBut c o n (aO _ e)))
end
section
variable{X:Cx}{pos:Pos}
def Q1(K:aH)(n:Nat)(t:u3):TG:=λv σ H Q=>∃a xs,v=.ref a/\zW K H a xs/\xs.length=n/\t xs σ H Q
theorem zRW{es:List Expr}{k:Nat}{t:u3}{n:Nat}(hc:X.calm=true)(h:ZG X es t)
  (hn:(assignEach es X.env).length=n:=by rfl) (hst:(assignEach es X.env).findIdx? (·.1)=none:=by rfl):PG X (.Tuple es k pos) (Q1 X.K n t):=by
 intro pins s σ H v u Q I r hw;obtain⟨a,xs,e1,hq,hl,hw⟩:=hw;subst e1;cases r;obtain⟨its,rv,ht,hz⟩:=I.list hq;rw[assign_Tuple];refine wpAny_bind (wpAny_standAt ?_);unfold unpack;rw[show(assignEach es X.env).length=its.toArray.size by simp[hn,<- hl,rv.length],hst];refine wpAny_bind (wpAny_holding (zSH (I.ok.hd hc) ht.isList λg hx=>?_));have I1:zB X pins σ H {s with heap:=g}:=I.kept (t':=s.toks) λb o e=>hx b o (bK (aX e)) e;exact h pins _ σ H xs _ Q I1 (by simpa using rv) hw
end
end L2
namespace L2
open PySem PySem.Spec PyProof.Rows
inductive vB(i:Nat)(σ:St)(H:Hp)(Q:VK):Prop
 |mk (v:V) (_:σ[i]? =some (some v)) (_:Q v H):vB i σ H Q
inductive gw(x:V)(vs:List V)(H:Hp)(Q:VK):Prop
 |mk (l:Addr) (xs:List V) (y:V) (_:x=.ref l) (_:vs=[y]) (_:H l=some (.lst xs)) (_:xs.length<sizeLine) (_:Q .non (zV H l (.lst (xs++[y])))):gw x vs H Q
inductive gy(o i v:V)(H:Hp)(Q:Hp->Prop):Prop
 |mk (p:Addr) (xs:List V) (k:Int) (j:Nat) (_:o=.ref p) (_:i=.int k) (_:H p=some (.lst xs)) (_:xw xs.length k=some j) (_:Q (zV H p (.lst (xs.set j v)))):gy o i v H Q
section
variable{X:Cx}
theorem Ys:MtM X "list.append" gw:=λpins s σ H x xs v us Q I rx rv ⟨l,ys,y,h1,h2,h3,h4,q⟩=>zKk pins s σ H x xs v us Q I rx rv ⟨l,ys,y,h1,h2,h3,h4,q⟩
theorem Yt:gM X gy:=λpins s σ H o i v ov iv u Q I h1 h2 h3 ⟨p,xs,k,j,a,b,c,d,q⟩=>Qo pins s σ H o i v ov iv u Q I h1 h2 h3 ⟨p,xs,k,j,a,b,c,d,q⟩
theorem ji(i:Nat){x:Str}{pos:Pos}(hN:X.N[i]? =some x:=by rfl)(hv:j4 X.env.scope x:=by first|exact Or.inl rfl|exact Or.inr (Or.inl rfl)|exact Or.inr (Or.inr rfl))(hd:(x==("__debug__":Str))=false:=by decide)
  (hcd:(x==("__classdict__":Str))=false:=by decide):PE X (.Name x pos) (vB i):=λpins s σ H Q I ⟨v,e,h⟩=>QQ hN hv hd hcd pins s σ H Q I ⟨v,e,h⟩
end
end L2
namespace Sh
open PySem L2
def j8(H:Hp)(v:V)(r:List Int):Prop:=∃a,v=.ref a/\H a=some (.lst (r.map V.int))
abbrev u8(H:Hp)(vs:List V)(tab:List (List Int)):Prop:=Paired (j8 H) vs tab
theorem j8.same(s:zE H H')(h:j8 H v r):j8 H' v r:=let ⟨a,e,q⟩:=h;⟨a,e,s _ _ q⟩
theorem u8.same(s:zE H H')(h:u8 H vs tab):u8 H' vs tab:=Paired.mapP h λ_ _ z=>z.same s
structure MD where
 rows:List (List Int)
 nexts:List (List Int)
 steer:List Int
 push:List (List Int)
 add:List Int
 div:Int
structure yf(m:MD)(n p:Nat):Prop where
 rows:∀r∈m.rows,r.length=n+1
 few:m.rows.length<=900
 nexts:m.nexts.length=n/\∀r∈m.nexts,r.length=n
 steer:m.steer.length=n
 push:m.push.length=n/\∀r∈m.push,r.length=p
 add:m.add.length=n
 div:1<=m.div
 n3:n<=3
 p6:p<=12
noncomputable def Yu(r n s p a:V)(d:Int):List (Str×V):=[("rows",r),("nexts",n),("steer",s),("push",p),("add",a),("divisor",.int d)]
structure zOT(C:Addr)(H:Hp)(o:Addr)(m:MD)where
 dx:Addr
 r:Addr
 rv:List V
 n:Addr
 nv:List V
 s:Addr
 p:Addr
 pv:List V
 a:Addr
structure zOT.Ok{C:Addr}{H:Hp}{o:Addr}{m:MD}(M:zOT C H o m):Prop where
 ins:H o=some (.ins C M.dx (Yu (.ref M.r) (.ref M.n) (.ref M.s) (.ref M.p) (.ref M.a) m.div))
 hr:H M.r=some (.lst M.rv)
 hrv:Yn H M.rv m.rows
 hn:H M.n=some (.lst M.nv)
 hnv:u8 H M.nv m.nexts
 hs:H M.s=some (.lst (m.steer.map V.int))
 hp:H M.p=some (.lst M.pv)
 hpv:u8 H M.pv m.push
 ha:H M.a=some (.lst (m.add.map V.int))
structure vd(n:Nat)(bs:List (Int×Int))(ms:List MD):Prop where
 n1:1<=n
 n3:n<=3
 bok:∀b∈bs,b.1<=b.2
 b6:bs.length<=6
 m1:1<=ms.length
 m40:ms.length<=40
 mok:∀m∈ms,yf m n bs.length
theorem Q2:bG K (.ref C) (.ref C)=some true:=by unfold bG;rw[if_pos (by simp)]
end Sh
namespace Sh
open PySem L2
def u9(B:List Addr)(H H':Hp):Prop:=∀b o,H b=some o->b∉B->H' b=some o
theorem u9.refl(B)(H):u9 B H H:=λ_ _ e _=>e
theorem zJj(hx:H x=none)(hdx:H dx=none)(ne:dx≠x)(u o):zE H (zV (zV H dx u) x o):=(ZM hdx _).trans (ZM ((zu (Ne.symm ne)).trans hx) _)
end Sh
namespace L2
open PySem PySem.Spec PyProof.Rows
theorem zS.no{K:aH}(hn:∀vs H Q E,¬sp vs H Q E):zS P w K mg base CX k f fd ps sp:=⟨λ_ _ _ _ h=>(hn _ _ _ _ h).elim,λ_ _ _ _ _ _ _ _ _ _ _ _ _ h=>(hn _ _ _ _ h).elim⟩
end L2
namespace Sh
inductive RT where
 |str (ns:List Int) (a d:Int)
 |stp (t:RT) (lo hi:Int)
 |prt (row:List Int) (x y:RT)
noncomputable def RT.dep:RT->Nat
 | .str _ _ _=>1
 | .stp t _ _=>t.dep+1
 | .prt _ x y=>max x.dep y.dep+1
noncomputable def RT.rows:RT->List (List Int)
 | .str _ _ _=>[]
 | .stp t _ _=>t.rows
 | .prt r x y=>[r]++x.rows++y.rows
noncomputable def xW(pts:List (Int×Int)):RT->Int×Int
 | .str ns a d=>(ze ((z9 ns pts).1+a*(z9 ns pts).2) ((z9 ns pts).2*d),zJ ((z9 ns pts).1+a*(z9 ns pts).2) ((z9 ns pts).2*d))
 | .stp t lo hi=>if(xW pts t).1<lo*(xW pts t).2 then(lo,1) else if hi*(xW pts t).2<(xW pts t).1 then(hi,1) else xW pts t
 | .prt row x y=>if(z9 (row.take pts.length) pts).1<=row.getD pts.length 0*(z9 (row.take pts.length) pts).2 then xW pts x else xW pts y
end Sh
namespace L2
open PySem PySem.Spec PyProof.Rows Sh
section
variable{X:Cx}
inductive zRB(K:aH)(x y:V)(H:Hp)(Q:VK):Prop
 |mk (a b:Addr) (xs ys:List V) (_:x=.ref a) (_:y=.ref b) (_:H a=some (.tup xs)) (_:H b=some (.tup ys)) (_:xs≠[]) (_:xs.length+ys.length<=sizeLine) (_:∀p H',zE H H'->H' p=some (.tup (xs++ys))->Q (.ref p) H'):zRB K x y H Q
theorem zPI:yV X (binaryOp .Add) (zRB X.K):=by intro pins s σ H x y v u Q I rx ry h;obtain⟨a,b,xs,ys,rfl,rfl,ha,hb,hne,hz,q⟩:=h;exact zPJ pins s σ H _ _ v u Q I rx ry ⟨a,b,xs,ys,rfl,rfl,yZ.of ha,yZ.of hb,hne,hz,λz=>q a H (zE.refl _) (ha.trans (by rw[z,cH])),λ_ p hp=>q p _ (ZM hp _) xS⟩
end
end L2
namespace Sh
section
variable{pts:List (Int×Int)}(hp:∀p∈pts,0<p.2)
include hp
end
end Sh
namespace L2
open PySem PySem.Spec PyProof.Rows
abbrev Q3:=Array Value->Option Addr->Prop
def Q4(base:Heap)(l:List Env)(e:Addr)(cls:Value)(P:Q3)(fl:Value)(h:Heap):Prop:=base.StaysIn h/\base.get? e=none/\h.FunFrames base l/\∃(oe:Obj)(vs:Array Value)(T:Addr)(oT:Obj)(ts:Array Value),h.get? e=some oe/\oe.cls=cls/\oe.data=.fields vs/\P vs oe.dict/\vs[1]? =some (.ref T)/\base.get? T=none/\T≠e/\h.get? T=some oT/\oT.data=.fields ts/\ts[3]? =some fl
def P0:Q3:=λvs _=>vs[2]? =some .none
end L2
namespace L2
open PySem PySem.Spec PyProof.Rows
structure XL(P:Program)(w:World)(outer:List Env)(H H':Hp)(s s':Shared)(B:Heap)(e:Addr)(cls a0:Value):Prop where
 os:s'.os=s.os
 bare:AllBare s'.gens
 keep:∀b o,s.heap.get? b=some o->H b=none->b∉vY outer->B.get? b=some o
 slot:∀b o,s.heap.get? b=some o->H b=none->b∈vY outer->∃sl,s'.heap.get? b=some {o with slots:=sl}
 free:∀b o,s.heap.get? b=some o->H b=none->H' b=none
 there:∀b o,s.heap.get? b=some o->b∉vY outer->∃o',B.get? b=some o'
 tups:∀b xs,H b=some (.tup xs)->H' b=some (.tup xs)
 frzs:∀b o u,H b=some (.frz o u)->H' b=some (.frz o u)
 tbls:∀b ps,H b=some (.tbl ps)->∃more,H' b=some (.tbl (ps++more))
 hok:xZ P w H' B
 fly:Q4 B outer e cls P0 .none s'.heap
end L2
namespace L2
open PySem PySem.Spec PyProof.Rows
def XP(X:Cx)(pins:List (Addr×Obj))(ES:St->XK)(ev:Value)(s':Shared):Prop:=∃(σ1:St)(s1:Shared)(H1 H2:Hp)(e:Addr)(cls a0:Value)(B:Heap),zB X pins σ1 H1 s1/\ev=.ref e/\XL X.prog X.w X.stack H1 H2 s1 s' B e cls a0/\ES σ1 cls none H2
end L2
namespace Sh
open PySem L2
inductive AK where
 |int (i:Int)
 |bool (b:Bool)
 |non
 |str (x:Str)
 |dic
 |lst (as:List AK)
 |tup (as:List AK)
 |mode (r n s p a d:AK)
noncomputable def AK.isInt:AK->Bool
 | .int _=>true
 | .bool _=>true
 |_=>false
noncomputable def AK.isBool:AK->Bool
 | .bool _=>true
 |_=>false
noncomputable def AK.isLst:AK->Bool
 | .lst _=>true
 |_=>false
noncomputable def AK.isTup:AK->Bool
 | .tup _=>true
 |_=>false
inductive Yv where
 |made|bad|many
noncomputable def Yv.str:Yv->Str
 | .made=>"made"
 | .bad=>"bad"
 | .many=>"many"
end Sh
namespace HT
open PySem PySem.Spec PyProof.Rows
section
variable{prog:Program}{w:World}{A:Around}{E:Value->Shared->Prop}{s:Shared}
theorem cat_tup0{vs ws:List Value}(ht:IsTup s.heap t vs.toArray)(hb:IsTup s.heap b ws.toArray)(hv:vs=[])(h0:Q (.ref b) s):wpAny (model prog w) A (binaryOp .Add (.ref t) (.ref b)) Q E s:=by
 obtain⟨⟨cls,dd,data,sl⟩,ho,hc,n,hd⟩:=id ht;obtain⟨⟨cls2,dd2,data2,sl2⟩,ho2,hc2,n2,hd2⟩:=id hb;simp only at hc hd hc2 hd2;subst hc hd hc2 hd2
 exact concat_meets ⟨_,ho,rfl⟩ ⟨_,ho2,rfl⟩ noFill_tuple_add seq_tuple_add eQ eG (eD _ _)
  (tuple_addW0 t b vs.toArray ws.toArray n n2 dd dd2 sl sl2 (by simp[hv])) ⟨ho,ho2,h0⟩
theorem getItem_tuple_all{lo hi:Option Int}(ht:IsTup s.heap t items)(hs:s.heap.IsSliceOf sl vl vu .none)(pl:IsPart vl lo)(pu:IsPart vu hi)
  (hw:sIx items.size 0 lo=0/\sIx items.size items.size hi=items.size) (h:Q (.ref t) s):wpAny (model prog w) A (getItem (.ref t) (.ref sl)) Q E s:=by
 obtain⟨os,hos,hcs,hds⟩:=id hs;have hTs:s.TypeIs (.ref sl) "slice":=⟨os,hos,hcs⟩
 unfold getItem
 try with_reducible refine wpAny_holding ?_
 first|refine wpAny_bind (wpAny_pure ?_)|skip
 refine wpAny_bind (wpAny_sequenceKey ht.typeIs (by decide) ?_)
 refine wpAny_bind (wpAny_callSpecial?_slot (name:=bZ "__getitem__") ht.typeIs PyProof.Rows.slot_tuple_getitem
  (wpAny_call_entry PyProof.Rows.slot_tuple_getitem ht.typeIs entry_tuple_getitem ?_ (args_tuple_getitem _ _)))
 show wpAny _ _ (Builtin.Tuple.tupleItemsOf (.ref t)>>= _) _ _ s;refine wpAny_bind (tupleItemsOf_ ht ?_);refine wpAny_bind (wpAny_typeOf hTs ?_);rw[if_pos (by decide)];refine wpAny_bind (zBx hs pl pu ?_)
 have hyes:(((sIx items.size 0 lo:Nat):Int)==0&&(1:Int)==1&&(sIx items.size items.size hi-sIx items.size 0 lo)==items.size)=true:=by rw[hw.1,hw.2];simp
 show wpAny _ _ (if(((sIx items.size 0 lo:Nat):Int)==0&&(1:Int)==1&&(sIx items.size items.size hi-sIx items.size 0 lo)==items.size)=true then _ else _) _ _ s;rw[if_pos hyes];unfold Builtin.Tuple.tupleIsExact;refine wpAny_bind (wpAny_bind (wpAny_typeOf ht.typeIs (wpAny_pure ?_)));rw[if_pos (by decide)];refine wpAny_bind (wpAny_rule ?_);exact wpAny_pure ⟨_,rfl,wpAny_pure h⟩
end
end HT
namespace L2
open PySem PySem.Spec PyProof.Rows
section
variable{X:Cx}
inductive Q5(x y:V)(H:Hp)(Q:VK):Prop
 |mk (a b:Addr) (xs ys:List V) (_:x=.ref a) (_:y=.ref b) (_:H a=some (.tup xs)) (_:H b=some (.tup ys)) (_:xs.length+ys.length<=sizeLine) (_:∀p H',zE H H'->H' p=some (.tup (xs++ys))->Q (.ref p) H'):Q5 x y H Q
theorem zSE:yV X (binaryOp .Add) Q5:=by
 intro pins s σ H x y v u Q I rx ry h;obtain⟨a,b,xs,ys,rfl,rfl,ha,hb,hz,q⟩:=h;by_cases hne:xs=[]
 ·subst hne;cases rx;cases ry;obtain⟨its,r1,p1,_⟩:=I.tuple (yZ.of ha);obtain⟨its2,r2,p2,_⟩:=I.tuple (yZ.of hb);exact HT.cat_tup0 p1 p2 (r1.nil_iff.mpr rfl) ⟨.ref b,H,I,rfl,q b H (zE.refl _) hb⟩
 ·exact zPI pins s σ H _ _ v u Q I rx ry ⟨a,b,xs,ys,rfl,rfl,ha,hb,hne,hz,q⟩
inductive Yw(x:V)(lo hi:Option Int)(H:Hp)(Q:VK):Prop
 |mk (a:Addr) (xs:List V) (_:x=.ref a) (_:H a=some (.tup xs)) (_:∀p H',zE H H'->H' p=some (.tup (vA xs lo hi))->Q (.ref p) H'):Yw x lo hi H Q
theorem zMx:gh X Yw:=by
 intro pins s σ H x v vl vu lo hi sl Q I rx hs pl pu h;obtain⟨a,xs,rfl,hx,q⟩:=h;by_cases hw:HT.sIx xs.length 0 lo=0/\HT.sIx xs.length xs.length hi=xs.length
 ·cases rx;obtain⟨its,r,ht,hz⟩:=I.tuple (yZ.of hx);have hlen:its.toArray.size=xs.length:=by rw[aY];exact r.length.symm
  refine⟨"tuple",_,PyProof.Rows.slot_tuple_getitem.lookup,ht.typeIs,?_⟩;refine HT.getItem_tuple_all ht hs pl pu (by rw[hlen];exact hw) ⟨.ref a,H,I,rfl,q a H (zE.refl _) (hx.trans ?_)⟩;unfold vA;rw[hw.1,hw.2,d_,ia,List.take_length]
 ·exact zQ1 pins s σ H _ v vl vu lo hi sl Q I rx hs pl pu ⟨a,xs,rfl,yZ.of hx,hw,λp hp=>q p _ (Sh.ZM hp _) xS⟩
end
end L2
namespace Sh
noncomputable def bt:List (Int×Int)->Int
 |[]=>1
 |p::ps=>p.2*bt ps
noncomputable def tp:List Int->List (Int×Int)->Int
 |w::ws,p::ps=>w*p.1*bt ps+p.2*tp ws ps
 |_,_=>0
noncomputable def Q6(r:Int)(c d:List Int):List Int:=b_ (λx y=>r*x+y) c d
noncomputable def comb(n:Nat):List Int->List (List Int)->List Int
 |r::rs,c::cs=>Q6 r c (comb n rs cs)
 |_,_=>aL n 0
noncomputable def zD:List Int->List Int->Int
 |r::rs,a::as=>r*a+zD rs as
 |_,_=>0
noncomputable def zH(nums:List Int)(ls:List (List Int))(j:Nat):Int:=((nums.zip ls).map λq=>q.1*q.2.getD j 0).sum
theorem gz(r)(rs)(c)(cs)(j):zH (r::rs) (c::cs) j=r*c.getD j 0+zH rs cs j:=by simp only[zH,eJ,bg,iN]
end Sh
namespace Sh
noncomputable def yH(pl:Int)(n:Nat)(nu:Int):List Int:=(aI n).map λ(i:Nat)=>if(i:Int)=pl then nu else 0
theorem qj(pl)(n)(nu):(yH pl n nu).length=n:=by unfold yH;rw[aB,aM]
noncomputable def wa(n p:Nat)(r:List Int):List Int:=(r.take n++aL p 0)++[r.getD n 0]
noncomputable def uS(n p:Nat)(i:Nat)(b:Int×Int):List (List Int):=[yH ((n+i:Nat):Int) (n+p) 1++[b.2],yH ((n+i:Nat):Int) (n+p) (-1)++[-b.1]]
noncomputable def jA(n:Nat)(bs:List (Int×Int))(rows:List (List Int)):List (List Int):=rows.map (wa n bs.length)++(bs.mapIdx (uS n bs.length)).flatten
theorem zJU:(aL n (0:Int)).set j x=yH (j:Int) n x:=by
 refine dg (by simp[yH]) λi h1 h2=>?_;simp only[yH,dh,f_,fu,dP];by_cases e:j=i
 ·simp[e]
 ·rw[if_neg e,if_neg (by omega)]
theorem zLz{j n:Nat}(h:j<n):yH (j:Int) n x=aL j 0++x::aL (n-j-1) 0:=by
 rw[<- zJU];refine dg (by simp;omega) λi h1 h2=>?_;simp only[dh,f_,List.getElem_append,bX,List.getElem_cons];split
 ·rename_i e;rw[dif_neg (by omega),dif_pos (by omega)]
 ·split
  ·rfl
  ·rw[dif_neg (by omega)]
noncomputable def hB(pts:List (Int×Int))(ws:List Int)(b:Int):Bool:=decide (tp ws pts<=b*bt pts)
noncomputable def hR(pts:List (Int×Int))(r:List Int):Bool:=hB pts (r.take pts.length) (r.getD pts.length 0)
end Sh
namespace Sh
noncomputable def yR(T O:List (List Int))(w:Nat):List (List Int):=T.map λns=>(aI w).map (zH ns O)
noncomputable def ve(n:Nat):List (List Int):=(aI n).map λ(i:Nat)=>yH (i:Int) n 1
theorem qk:∀ns ls j,zH ns ls j=zD ns (ls.map λr=>r.getD j 0)
 |[],_,_=>by simp[zH,zD]
 |_::_,[],_=>by simp[zH,zD]
 |n::ns,l::ls,j=>by rw[gz,bg,qk ns ls j];rfl
theorem zHZ{α:Type}(x:Int)(f g:α->Int):∀(l:List α)(v:List Int),zD (l.map λj=>x*f j+g j) v=x*zD (l.map f) v+zD (l.map g) v
 |[],_=>by simp[zD]
 |_::_,[]=>by simp[zD]
 |a::l,y::v=>by
  simp only[bg,zD,zHZ x f g l v];grind
theorem Q7{α:Type}:∀(l:List α)(v:List Int),zD (l.map λ_=>(0:Int)) v=0
 |[],_=>by simp[zD]
 |_::_,[]=>by simp[zD]
 |a::l,y::v=>by
  simp only[bg,zD,Q7 l v];grind
theorem JB{a:List Int}(h:a.length=k):(aI k).map (λj=>a.getD j 0)=a:=by refine dg (by simp[h]) λi h1 h2=>?_;simp only[fu,dP,aD,aE h2];rfl
theorem JC:∀r A,(∀a∈A,a.length=k)->zD ((aI k).map (zH r A)) v=zD r (A.map λa=>zD a v)
 |[],A,_=>by
  rw[show(zH ([]:List Int) A)=λ_=>(0:Int)from funext λj=>by simp[zH],Q7];simp[zD]
 |x::r,[],_=>by
  rw[show(zH (x::r) [])=λ_=>(0:Int)from funext λj=>by simp[zH],Q7];simp[zD]
 |x::r,a::A,h=>by
  rw[show(zH (x::r) (a::A))=λj=>x*a.getD j 0+zH r A j from funext λj=>gz x r a A j,zHZ,JB (h a (by simp)),JC r A λc m=>h c (by simp[m])];rfl
theorem Yx{f g:Nat->Int}(h:∀j,j<n->f j=g j):(aI n).map f=(aI n).map g:=a7 λj m=>h j (bj.mp m)
theorem zEk{f:Nat->Int}(h:j<n):((aI n).map f).getD j 0=f j:=by rw[aD,aV,bY h];rfl
theorem Yy(hA:∀a∈A,a.length=k)(x):(aI w).map (zH ((aI k).map (zH x A)) B)=(aI w).map (zH x (yR A B w)):=by refine Yx λj hj=>?_;rw[qk,JC x A hA,qk x];unfold yR;rw[aQ];congr 1;refine a7 λa _=>?_;show _=((aI w).map (zH a B)).getD j 0;rw[zEk hj,qk]
theorem Q8(hA:∀a∈A,a.length=k):yR (yR X A k) B w=yR X (yR A B w) w:=by unfold yR;rw[aQ];exact a7 λx _=>Yy hA x
theorem zFn:∀k v,zD (aL k (0:Int)) v=0
 |0,_=>by simp[zD]
 |_+1,[]=>by simp[zD,cC]
 |k+1,y::v=>by
  simp only[cC,zD,zFn k v];grind
theorem zHY(k):∀i v,i<v.length->zD (aL i 0++1::aL k 0) v=v.getD i 0
 |0,y::v,_=>by
  simp only[List.replicate_zero,h9,zD,zFn];show _=y;omega
 |i+1,y::v,h=>by
  simp only[cC,f8,zD,zHY k i v (by simpa using h)];show _=v.getD i 0;omega
 |_,[],h=>by simp at h
theorem Q9{n i:Nat}(h:v.length=n)(hi:i<n):zD (yH (i:Int) n 1) v=v.getD i 0:=by rw[zLz hi];exact zHY _ i v zz
theorem zFo:∀a b,zD a b=zD b a
 |[],b=>by cases b <;> simp[zD]
 |_::_,[]=>by simp[zD]
 |x::a,y::b=>by
  simp only[zD,zFo a b];grind
theorem zJT(h:j<n):(ve n).map (λr=>r.getD j 0)=yH (j:Int) n 1:=by unfold ve;rw[aQ];unfold yH;refine a7 λi _=>?_;grind
theorem zMG(h:x.length=n):(aI n).map (zH x (ve n))=x:=by refine Eq.trans (Yx λj hj=>?_) (JB h);rw[qk,zJT hj,zFo,Q9 h hj]
theorem zJR{X:List (List Int)}(hX:X.length=n)(hf:∀i,i<n->f (yH (i:Int) n 1)=X.getD i []):(ve n).map f=X:=by unfold ve;rw[aQ];refine dg (by simp[hX]) λi h1 h2=>?_;simp only[fu,dP,Function.comp];rw[hf i xh,aD,aE h2];rfl
theorem zEa(hX:X.length=n)(h:∀x∈X,x.length=w):yR (ve n) X w=X:=by
 refine zJR hX λi hi=>?_;have lt:i<X.length:=by exact zz
 have e:X.getD i []=X[i]:=by rw[aD,aE lt];rfl
 rw[e];refine Eq.trans (Yx λj hj=>?_) (JB (h X[i] (cq _)));rw[qk,Q9 (by rw[aB,hX]) hi,aD,aV,aE lt];rfl
theorem zJS(h:v.length=n):(ve n).map (λr=>zD r v)=v:=by unfold ve;rw[aQ];refine Eq.trans (a7 λi hi=>?_) (JB h);exact Q9 h (bj.mp hi)
theorem zNC(hT:∀r∈T,r.length=n)(e:yR B T n=ve n)(h:v.length=n):B.map (λns=>zD ns (T.map λq=>zD q v))=v:=by
 have:B.map (λns=>zD ns (T.map λq=>zD q v))=(yR B T n).map (λr=>zD r v):=by unfold yR;rw[aQ];exact a7 λr _=>(JC r T hT).symm
 rw[this,e,zJS h]
noncomputable def Sg(n:Nat)(f:Nat->Int):Int:=((aI n).map f).sum
theorem ZO(n)(f):Sg (n+1) f=Sg n f+f n:=by unfold Sg;rw[ic,aS,lZ];simp
theorem zLq(f):Sg 0 f=0:=rfl
theorem uh(h:∀k,k<n->f k=g k):Sg n f=Sg n g:=by unfold Sg;rw[Yx h]
theorem ql(x)(f g):∀n,Sg n (λk=>f k+x*g k)=Sg n f+x*Sg n g
 |0=>by simp[zLq]
 |n+1=>by
  rw[ZO,ZO,ZO,ql x f g n];grind
theorem JD(x):∀n,Sg n (λk=>if k=i then x else 0)=if i<n then x else 0
 |0=>by simp[zLq]
 |n+1=>by
  rw[ZO,JD x n];omega
def ui(n:Nat)(t b:Nat->Nat->Int):Prop:=∀r c,r<n->c<n->Sg n (λk=>t r k*b k c)=if r=c then 1 else 0
noncomputable def xx(i j:Nat)(y:Int)(t:Nat->Nat->Int)(r k:Nat):Int:=if r=i then t i k+y*t j k else t r k
noncomputable def xG(i j:Nat)(y:Int)(b:Nat->Nat->Int)(k c:Nat):Int:=if c=j then b k j-y*b k i else b k c
noncomputable def xk(i:Nat)(t:Nat->Nat->Int)(r k:Nat):Int:=if r=i then 0-t i k else t r k
noncomputable def xy(i:Nat)(b:Nat->Nat->Int)(k c:Nat):Int:=if c=i then 0-b k i else b k c
theorem zPc(h:ui n t b)(hi:i<n)(hj:j<n)(ne:i≠j):ui n (xx i j y t) (xG i j y b):=λr c hr hc=>by
 have col:∀r,r<n->∀x:Nat->Int,(∀k,x k=t r k)->Sg n (λk=>x k*xG i j y b k c)=(if r=c then 1 else 0)+(if c=j then -y else 0)*(if r=i then 1 else 0):=λr hr x hx=>by
  by_cases cj:c=j
  ·have e1:=h r j hr hj;have e2:=h r i hr hi;rw[uh (g:=λk=>t r k*b k j+(-y)*(t r k*b k i)) (λk _=>by rw[hx];unfold xG;rw[if_pos cj];grind),ql,e1,e2,cj,if_pos rfl]
  ·rw[uh (g:=λk=>t r k*b k c) (λk _=>by rw[hx];unfold xG;rw[if_neg cj]),h r c hr hc,if_neg cj];omega
 by_cases ri:r=i
 ·have e1:=col i hi (t i) (λ_=>rfl);have e2:=col j hj (t j) (λ_=>rfl);rw[uh (g:=λk=>t i k*xG i j y b k c+y*(t j k*xG i j y b k c)) (λk _=>by unfold xx;rw[if_pos ri];grind),ql,e1,e2,ri];grind
 ·rw[uh (g:=λk=>t r k*xG i j y b k c) (λk _=>by unfold xx;rw[if_neg ri]),col r hr (t r) (λ_=>rfl),if_neg ri];omega
theorem zM1(h:ui n b t)(hi:i<n)(hj:j<n)(ne:i≠j):ui n (xG i j y b) (xx i j y t):=λr c hr hc=>by
 have e:∀k,xG i j y b r k*xx i j y t k c=(b r k*t k c+1*(if k=i then y*(b r i*t j c) else 0))+(-1)*(if k=j then y*(b r i*t j c) else 0):=λk=>by unfold xG xx;grind
 rw[uh (λk _=>e k),ql,ql,JD,JD,if_pos hi,if_pos hj,h r c hr hc];omega
theorem zPb(h:ui n t b)(hi:i<n):ui n (xk i t) (xy i b):=λr c hr hc=>by
 by_cases ri:r=i
 ·by_cases ci:c=i
  ·rw[uh (g:=λk=>t r k*b k c) (λk _=>by unfold xk xy;rw[if_pos ri,if_pos ci,ri,ci];grind)];exact h r c hr hc
  ·rw[uh (g:=λk=>(0-t r k*b k c)+0*0) (λk _=>by unfold xk xy;rw[if_pos ri,if_neg ci,ri];grind)];have:=h r c hr hc;rw[if_neg (by omega)]at this|-
   rw[uh (g:=λk=>0*0+(-1)*(t r k*b k c)) (λk _=>by grind),ql,this];have z:=ql 0 (λ_=>(0:Int)) (λ_=>0) n;simp only[i_]at z|-
   have z2:∀n,Sg n (λ_=>(0:Int))=0:=λn=>by
    induction n with
    |zero=>rfl
    |succ n ih=>rw[ZO,ih];rfl
   rw[z2];rfl
 ·by_cases ci:c=i
  ·have:=h r c hr hc;rw[if_neg (by omega)]at this|-
   have z2:∀n,Sg n (λ_=>(0:Int))=0:=λn=>by
    induction n with
    |zero=>rfl
    |succ n ih=>rw[ZO,ih];rfl
   rw[uh (g:=λk=>0+(-1)*(t r k*b k c)) (λk _=>by unfold xk xy;rw[if_neg ri,if_pos ci,ci];grind),ql,this,z2];rfl
  ·rw[uh (g:=λk=>t r k*b k c) (λk _=>by unfold xk xy;rw[if_neg ri,if_neg ci])];exact h r c hr hc
theorem zM0(h:ui n b t):ui n (xy i b) (xk i t):=λr c hr hc=>by
 rw[uh (g:=λk=>b r k*t k c) (λk _=>by
  unfold xk xy;by_cases ki:k=i
  ·rw[if_pos ki,if_pos ki,ki];grind
  ·rw[if_neg ki,if_neg ki])]
 exact h r c hr hc
noncomputable def xH(n:Nat)(t:Nat->Nat->Int):List (List Int):=(aI n).map λr=>(aI n).map (t r)
theorem JE(n)(t):(xH n t).length=n:=by unfold xH;rw[aB,aM]
theorem zHV(h:r∈xH n t):r.length=n:=by obtain⟨i,_,rfl⟩:=aG.mp h;rw[aB,aM]
theorem zEb(f g):∀l:List Nat,zD (l.map f) (l.map g)=(l.map λk=>f k*g k).sum
 |[]=>rfl
 |a::l=>by
  simp only[bg,zD,iN,zEb f g l]
theorem zIB(h:ui n t b):yR (xH n t) (xH n b) n=ve n:=by unfold yR ve;rw[show xH n t=(aI n).map λr=>(aI n).map (t r)from rfl,aQ];refine a7 λr hr=>?_;have hr:=bj.mp hr;unfold yH;refine Yx λc hc=>?_;rw[qk];unfold xH;rw[aQ,show((λr:List Int=>r.getD c 0) ∘ λr=>(aI n).map (b r))=λk=>b k c from funext λk=>zEk hc,zEb];have:=h r c hr hc;unfold Sg at this;omega
theorem zIA(n):ui n (λr k=>if r=k then 1 else 0) (λr k=>if r=k then 1 else 0):=λr c hr hc=>by
 rw[uh (g:=λk=>if k=r then(if r=c then 1 else 0) else 0) (λk _=>by
  show(if r=k then(1:Int) else 0)*(if k=c then 1 else 0)=_;by_cases e:k=r
  ·rw[if_pos e.symm,if_pos e,e,Int.one_mul]
  ·rw[if_neg (λz:r=k=>e z.symm),if_neg e,i9]),JD,if_pos hr]
end Sh
namespace Sh
noncomputable def zY(n:Nat)(B:List (List Int))(r:List Int):List Int:=(aI n).map (zH (r.take n) B)++r.drop n
theorem KA(h:n<=r.length):(zY n B r).length=r.length:=by unfold zY;rw[aF,aB,aM,cc];omega
theorem zL3(h:j<n):(zY n B r).getD j 0=zH (r.take n) B j:=by unfold zY;grind
theorem JF(h:n<=j):(zY n B r).getD j 0=r.getD j 0:=by unfold zY;grind
theorem zHs(B)(j):zH [] B j=0:=by unfold zH;simp
theorem KB{α:Type}(c:Int)(f g:α->Int):∀(l:List α)(B:List (List Int))(j:Nat),zH (l.map λi=>f i*c+g i) B j=zH (l.map f) B j*c+zH (l.map g) B j
 |[],B,j=>by simp[zHs]
 |a::l,[],j=>by unfold zH;simp
 |a::l,b::B,j=>by
  have:=KB c f g l B j;rw[bg,bg,bg,gz,gz,gz,this];grind
theorem ZP{α:Type}:∀(l:List α)(B:List (List Int))(j:Nat),zH (l.map λ_=>(0:Int)) B j=0
 |[],B,j=>by simp[zHs]
 |a::l,[],j=>by unfold zH;simp
 |a::l,b::B,j=>by
  rw[bg,gz,ZP l B j];omega
theorem Yz(r)(rows)(x)(nums)(j):xB (r::rows) (x::nums) j=r.getD j 0*x+xB rows nums j:=by unfold xB;simp
theorem zHr(nums)(j):xB [] nums j=0:=by unfold xB;simp
theorem JG(rows)(j):xB rows [] j=0:=by unfold xB;simp
theorem zL7{r:List Int}(h:n<=r.length):(aI n).map (λi=>r.getD i 0)=r.take n:=by apply eZ;grind
theorem zHq(hj:j<n):∀rows nums,(∀r∈rows,n<=r.length)->xB (rows.map (zY n B)) nums j=zH ((aI n).map (xB rows nums)) B j
 |[],nums,_=>by
  rw[i8,zHr,show(aI n).map (xB [] nums)=(aI n).map λ_=>(0:Int)from a7 λi _=>zHr nums i,ZP]
 |r::rows,[],_=>by
  rw[JG,show(aI n).map (xB (r::rows) [])=(aI n).map λ_=>(0:Int)from a7 λi _=>JG _ i,ZP]
 |r::rows,x::nums,h=>by
  have ih:=zHq (B:=B) hj rows nums λq hq=>h q (aK _ hq);rw[bg,Yz,ih,zL3 hj,show(aI n).map (xB (r::rows) (x::nums))=(aI n).map λi=>r.getD i 0*x+xB rows nums i from a7 λi _=>Yz r rows x nums i,KB,zL7 (h r aR)]
theorem KC(hj:n<=j):∀rows nums,xB (rows.map (zY n B)) nums j=xB rows nums j
 |[],nums=>rfl
 |r::rows,[]=>by rw[JG,JG]
 |r::rows,x::nums=>by rw[bg,Yz,Yz,KC hj rows nums,JF hj]
structure TB(n:Nat)(T B:List (List Int)):Prop where
 tl:T.length=n
 tr:∀r∈T,r.length=n
 bl:B.length=n
 br:∀r∈B,r.length=n
 tb:yR T B n=ve n
 bt:yR B T n=ve n
noncomputable def fB(n:Nat)(B:List (List Int))(x:List Int):List Int:=(aI n).map (zH x B)
theorem zLC(h:TB n T B)(l:x.length=n):fB n T (fB n B x)=x:=by unfold fB;rw[Yy h.br x,h.bt];exact zMG l
theorem zOP(h:TB n T B)(lx:x.length=n)(ly:y.length=n)(e:fB n B x=fB n B y):x=y:=by rw[<- zLC h lx,e,zLC h ly]
theorem zSl(n)(B)(o)(x):fB n B (x.map (o*·))=(fB n B x).map (o*·):=by
 unfold fB;rw[aQ];refine a7 λj _=>?_;have:=KB o (λi:Int=>i) (λ_=>0) x B j;rw[ZP]at this;have e1:x.map (λi=>i*o+0)=x.map (o*·):=a7 λi _=>by show i*o+0=o*i;rw[fL,fK]
 rw[e1,List.map_id']at this;show zH (x.map (o*·)) B j=o*zH x B j;rw[this,fL,fK]
theorem JH(n p)(f:Nat->Int):(aI (n+p)).map f=(aI n).map f++(aI p).map λj=>f (n+j):=by rw[List.range_add,aS,aQ];rfl
theorem zIX{l:List Int}:(l.all λx=>decide (x=0))=true↔l=l.map λ_=>0:=by
 induction l with
 |nil=>simp
 |cons a t ih=>
  rw[dj,bQ,decide_eq_true_iff,bg,List.cons.injEq,ih]
theorem zIi(h:TB n T B)(hr:∀r∈rows,r.length=n+p+1)(ht:tw.length=n+p+1):
  gu (rows.map (zY n B)) (zY n B tw) o nums (n+p)=gu rows tw o nums (n+p):=by
 have lo:(aI n).map (xB (rows.map (zY n B)) nums)=fB n B ((aI n).map (xB rows nums)):=a7 λj hj=>zHq (bj.mp hj) rows nums λr hr'=>by have:=hr r hr';omega
 have hi:(aI p).map (λj=>xB (rows.map (zY n B)) nums (n+j))=(aI p).map λj=>xB rows nums (n+j):=a7 λj _=>KC (bM _ _) rows nums;have la:xB (rows.map (zY n B)) nums (n+p)=xB rows nums (n+p):=KC (bM _ _) rows nums;have lv:((aI n).map (xB rows nums)).length=n:=by rw[aB,aM]
 unfold gu;by_cases c:o=0
 ·rw[if_pos c,if_pos c,la,JH,JH,hi,lo,l3,l3];congr 2;rw[de,zIX,zIX];generalize(aI n).map (xB rows nums)=v at lv
  have z:fB n B (v.map λ_=>0)=(fB n B v).map λ_=>0:=by unfold fB;rw[aQ];exact a7 λj _=>ZP v B j
  constructor
  ·intro e;exact zOP h lv (by rw[aB];exact lv) (e.trans z.symm)
  ·intro e;rw[<- z,<- e]
 ·rw[if_neg c,if_neg c,la,JF (show n<=n+p by exact bM _ _),JH,JH,hi,lo];congr 2
  have t1:(zY n B tw).take (n+p)=fB n B (tw.take n)++(tw.drop n).take p:=by unfold zY fB;grind
  have t2:tw.take (n+p)=tw.take n++(tw.drop n).take p:=List.take_add;have lt:(tw.take n).length=n:=by rw[aZ];omega
  rw[t1,t2,aS,aS,<- zSl];generalize(aI n).map (xB rows nums)=v at lv;have lf:∀x:List Int,(fB n B x).length=n:=λx=>by unfold fB;rw[aB,aM]
  refine propext ⟨?_,?_⟩
  ·intro e;obtain⟨e1,e2⟩:=l5 e (by rw[lf,lf]);rw[zOP h lv (by rw[aB];exact lt) e1,e2]
  ·intro e;obtain⟨e1,e2⟩:=l5 e (by rw[lv,aB,lt]);rw[e1,e2]
theorem zJI(h:r.length=n+1):wa n p (zY n B r)=zY n B (wa n p r):=by
 have e1:(zY n B r).take n=fB n B (r.take n):=by unfold zY fB;grind
 have lt:(r.take n).length=n:=by rw[aZ];omega
 have e2:(wa n p r).take n=r.take n:=by unfold wa;rw[cv,List.take_append,lt,dE,ma,cH,bO wc]
 have e3:(wa n p r).drop n=aL p 0++[r.getD n 0]:=by unfold wa;rw[cv,List.drop_append,lt,dE,d_,dM wc,h9]
 rw[show zY n B (wa n p r)=fB n B ((wa n p r).take n)++(wa n p r).drop n from rfl,e2,e3];unfold wa;rw[e1,JF (aJ n),cv]
theorem zFj(hi:i<p):zY n B (yH ((n+i:Nat):Int) (n+p) x++[c])=yH ((n+i:Nat):Int) (n+p) x++[c]:=by
 have lu:=qj ((n+i:Nat):Int) (n+p) x
 have z:(yH ((n+i:Nat):Int) (n+p) x++[c]).take n=(aI n).map λ_=>(0:Int):=by rw[cY (by omega)];unfold yH;rw[<- dk,List.take_range,dQ (bM _ _)];exact a7 λj hj=>if_neg (by have:=bj.mp hj;omega)
 have e:(aI n).map (zH ((yH ((n+i:Nat):Int) (n+p) x++[c]).take n) B)=(yH ((n+i:Nat):Int) (n+p) x++[c]).take n:=by rw[z];exact a7 λj _=>ZP _ B j
 unfold zY;rw[e,fb]
theorem zIh(h:∀r∈rows,r.length=n+1):jA n bs (rows.map (zY n B))=(jA n bs rows).map (zY n B):=by
 unfold jA;rw[aS,aQ,aQ];congr 1
 ·exact a7 λr hr=>zJI (h r hr)
 ·symm;refine(a7 (g:=id) λr hr=>?_).trans (dH _);obtain⟨l,hl,hr⟩:=f9.mp hr;obtain⟨i,hi,rfl⟩:=ie.mp hl;rcases a8.mp hr with rfl|hr
  ·exact zFj hi
  ·rw[a6.mp hr];exact zFj hi
noncomputable def KD(n p:Nat)(ws:List Int)(b:Int)(N P:List (List Int))(A:List Int)(d:Int):List Int:=((aI n).map (zH ws N)++(aI p).map (zH ws P))++[d*b-zD ws A]
theorem zIl(h:TB n T B)(lw:ws.length=n)(lN:N.length=n)(hN:∀r∈N,r.length=n)(lP:P.length=n)(hP:∀r∈P,r.length=p)(lA:A.length=n):
  KD n p (fB n B ws) b (yR (yR T N n) B n) (yR T P p) (T.map λq=>zD q A) d=zY n B (KD n p ws b N P A d):=by
 have pr:∀(X:List (List Int))(w:Nat),∀r∈yR T X w,r.length=w:=λX w r hr=>by obtain⟨q,_,rfl⟩:=aG.mp hr;rw[aB,aM]
 have e1:fB n (yR (yR T N n) B n) (fB n B ws)=fB n B (fB n N ws):=by unfold fB;rw[Yy h.br,Yy hN,<- Q8 (pr N n),<- Q8 h.tr,h.bt,zEa lN hN]
 have e2:(aI p).map (zH (fB n B ws) (yR T P p))=(aI p).map (zH ws P):=by unfold fB;rw[Yy h.br,<- Q8 h.tr,h.bt,zEa lP hP]
 have e3:zD (fB n B ws) (T.map λq=>zD q A)=zD ws A:=by unfold fB;rw[JC ws B h.br,zNC h.tr h.bt lA]
 have lf:(fB n N ws).length=n:=by unfold fB;rw[aB,aM]
 unfold KD;rw[e3,e2,show(aI n).map (zH (fB n B ws) (yR (yR T N n) B n))=fB n B (fB n N ws)from e1];show _=fB n B (((fB n N ws++(aI p).map (zH ws P))++[d*b-zD ws A]).take n)++((fB n N ws++(aI p).map (zH ws P))++[d*b-zD ws A]).drop n;grind
end Sh
namespace Sh
noncomputable def wv(f:Nat->Int):Nat->Nat->Option Nat
 |_,0=>none
 |p,m+1=>if f p≠0 then some p else wv f (p+1) m
noncomputable def ya(rows:List (List Int))(p f:Nat):List (List Int):=(rows.set p (rows.getD f [])).set f (rows.getD p [])
noncomputable def uT(row piv:List Int)(p:Nat)(last:Int):List Int:=(row.zip piv).map λq=>(piv.getD p 0*q.1-row.getD p 0*q.2).fdiv last
noncomputable def jB(l2:List (List Int))(p:Nat)(last:Int):List (List Int):=(aI l2.length).map λi=>if i=p then l2.getD i [] else uT (l2.getD i []) (l2.getD p []) p last
noncomputable def vC(st:List (List Int)×Int)(p:Nat):Option (List (List Int)×Int):=(wv (λk=>(st.1.getD k []).getD p 0) p (st.1.length-p)).map λf=>(jB (ya st.1 p f) p st.2,((ya st.1 p f).getD p []).getD p 0)
noncomputable def yo(rows:List (List Int)):Nat->Option (List (List Int)×Int)
 |0=>some (rows,1)
 |i+1=>(yo rows i).bind λst=>vC st i
theorem KF{x a q:Int}(ha:a≠0)(h:x=a*q):x.fdiv a=q:=by rw[h];exact fV q ha
theorem zSX(x:Int):x.fdiv 1=x:=by rw[Int.fdiv_one]
noncomputable def r4(a b c d:Int):List Int:=[a,b,c,d]
noncomputable def Y0(a0 a1 a2 b0 b1 b2 c0 c1 c2:Int):Int:=a0*(b1*c2-b2*c1)+a1*(b2*c0-b0*c2)+a2*(b0*c1-b1*c0)
def KG(R:Option (List (List Int)×Int))(a0 a1 a2 b0 b1 b2:Int):Prop:=(R=none/\a0*b1-a1*b0=0)\/∃D E0 E1:Int,R=some ([[D,0,E0],[0,D,E1]],D)/\D≠0/\a0*b1-a1*b0≠0/\a0*E0+a1*E1=a2*D/\b0*E0+b1*E1=b2*D
theorem zOL(a0 a1 a2 b0 b1 b2)(ha:a0≠0):KG (vC (jB [[a0,a1,a2],[b0,b1,b2]] 0 1,a0) 1) a0 a1 a2 b0 b1 b2:=by
 have e1:jB [[a0,a1,a2],[b0,b1,b2]] 0 1=[[a0,a1,a2],[0,a0*b1-b0*a1,a0*b2-b0*a2]]:=by show[[a0,a1,a2],[(a0*b0-b0*a0).fdiv 1,(a0*b1-b0*a1).fdiv 1,(a0*b2-b0*a2).fdiv 1]]=_;simp only[zSX];rw[show a0*b0-b0*a0=0 by grind]
 rw[e1];unfold vC;have hf:wv (λk=>(([[a0,a1,a2],[0,a0*b1-b0*a1,a0*b2-b0*a2]]:List (List Int)).getD k []).getD 1 0) 1 1=if a0*b1-b0*a1≠0 then some 1 else none:=rfl
 show KG (e6 _ (wv _ 1 1)) _ _ _ _ _ _;rw[hf];by_cases hd:a0*b1-b0*a1≠0
 ·rw[if_pos hd];refine .inr ⟨a0*b1-b0*a1,b1*a2-a1*b2,a0*b2-b0*a2,?_,hd,by grind,by grind,by grind⟩;show some ([[((a0*b1-b0*a1)*a0-a1*0).fdiv a0,((a0*b1-b0*a1)*a1-a1*(a0*b1-b0*a1)).fdiv a0,((a0*b1-b0*a1)*a2-a1*(a0*b2-b0*a2)).fdiv a0],[0,a0*b1-b0*a1,a0*b2-b0*a2]],a0*b1-b0*a1)=_;rw[KF (q:=a0*b1-b0*a1) ha (by grind),KF (q:=0) ha (by grind),KF (q:=b1*a2-a1*b2) ha (by grind)]
 ·rw[if_neg hd];exact .inl ⟨rfl,by grind⟩
theorem Y2(a0 a1 a2 b0 b1 b2):KG (yo [[a0,a1,a2],[b0,b1,b2]] 2) a0 a1 a2 b0 b1 b2:=by
 have hf:wv (λk=>(([[a0,a1,a2],[b0,b1,b2]]:List (List Int)).getD k []).getD 0 0) 0 2=if a0≠0 then some 0 else if b0≠0 then some 1 else none:=rfl
 have hr:yo [[a0,a1,a2],[b0,b1,b2]] 2=(vC ([[a0,a1,a2],[b0,b1,b2]],1) 0).bind λst=>vC st 1:=rfl;rw[hr];by_cases ha:a0≠0
 ·have hs:vC ([[a0,a1,a2],[b0,b1,b2]],1) 0=some (jB [[a0,a1,a2],[b0,b1,b2]] 0 1,a0):=by
   unfold vC;show e6 _ (wv _ 0 2)=_;rw[hf,if_pos ha];rfl
  rw[hs];exact zOL _ _ _ _ _ _ ha
 ·by_cases hb:b0≠0
  ·have hs:vC ([[a0,a1,a2],[b0,b1,b2]],1) 0=some (jB [[b0,b1,b2],[a0,a1,a2]] 0 1,b0):=by
    unfold vC;show e6 _ (wv _ 0 2)=_;rw[hf,if_neg ha,if_pos hb];rfl
   rw[hs];rcases zOL b0 b1 b2 a0 a1 a2 hb with⟨h1,h2⟩|⟨D,E0,E1,h1,h2,h3,h4,h5⟩
   ·exact .inl ⟨h1,by grind⟩
   ·exact .inr ⟨D,E0,E1,h1,h2,by grind,h5,h4⟩
  ·have hs:vC ([[a0,a1,a2],[b0,b1,b2]],1) 0=none:=by
    unfold vC;show e6 _ (wv _ 0 2)=_;rw[hf,if_neg ha,if_neg hb];rfl
   rw[hs];exact .inl ⟨rfl,by rw[show a0=0 by omega,show b0=0 by omega];grind⟩
theorem Y3(a0 a1):(yo [[a0,a1]] 1=none/\a0=0)\/(yo [[a0,a1]] 1=some ([[a0,a1]],a0)/\a0≠0):=by
 have hr:yo [[a0,a1]] 1=vC ([[a0,a1]],1) 0:=rfl;have hf:wv (λk=>(([[a0,a1]]:List (List Int)).getD k []).getD 0 0) 0 1=if a0≠0 then some 0 else none:=rfl
 rw[hr];unfold vC;show(e6 _ (wv _ 0 1)=_/\_)\/(e6 _ (wv _ 0 1)=_/\_)
 rw[hf];by_cases ha:a0≠0
 ·rw[if_pos ha];exact .inr ⟨rfl,ha⟩
 ·rw[if_neg ha];exact .inl ⟨rfl,by omega⟩
noncomputable def x8(rows:List (List Int)):Int:=
 if rows.length=1 then(rows.getD 0 []).getD 0 0
 else if rows.length=2 then(rows.getD 0 []).getD 0 0*(rows.getD 1 []).getD 1 0-(rows.getD 0 []).getD 1 0*(rows.getD 1 []).getD 0 0
 else Y0 ((rows.getD 0 []).getD 0 0) ((rows.getD 0 []).getD 1 0) ((rows.getD 0 []).getD 2 0) ((rows.getD 1 []).getD 0 0) ((rows.getD 1 []).getD 1 0) ((rows.getD 1 []).getD 2 0) ((rows.getD 2 []).getD 0 0) ((rows.getD 2 []).getD 1 0) ((rows.getD 2 []).getD 2 0)
structure JI(rows L:List (List Int))(D:Int)(n:Nat):Prop where
 run:yo rows n=some (L,D)
 ne:D≠0
 det:x8 rows≠0
 len:L.length=n
 dia:∀i,i<n->(L.getD i []).length=n+1/\(L.getD i []).getD i 0=D
 eqs:∀r∈rows,((aI n).map λj=>r.getD j 0*(L.getD j []).getD n 0).sum=r.getD n 0*D
theorem zMC(hl:rows.length=n)(hr:∀r∈rows,r.length=n+1)(h1:1<=n)(h3:n<=2):(yo rows n=none/\x8 rows=0)\/∃L D,JI rows L D n:=by
 rcases(by omega:n=1\/n=2)with rfl|rfl
 ·match rows,hl,hr with
  |[A],_,hr=>
   match A,hr A (by simp)with
   |[a0,a1],_=>
    rcases Y3 a0 a1 with⟨e1,e2⟩|⟨e1,e2⟩
    ·exact .inl ⟨e1,e2⟩
    ·refine .inr ⟨_,_,e1,e2,e2,rfl,λi hi=>?_,λr hr=>?_⟩
     ·rcases(by omega:i=0)with rfl;exact⟨rfl,rfl⟩
     ·rw[a6.mp hr];show a0*a1+0=a1*a0;grind
 ·match rows,hl,hr with
  |[A,B],_,hr=>
   match A,B,hr A (by simp),hr B (by simp)with
   |[a0,a1,a2],[b0,b1,b2],_,_=>
    rcases Y2 a0 a1 a2 b0 b1 b2 with⟨e1,e2⟩|⟨D,E0,E1,e1,e2,e3,e4,e5⟩
    ·exact .inl ⟨e1,e2⟩
    ·refine .inr ⟨_,_,e1,e2,e3,rfl,λi hi=>?_,λr hr=>?_⟩
     ·rcases(by omega:i=0\/i=1)with rfl|rfl
      ·exact⟨rfl,rfl⟩
      ·exact⟨rfl,rfl⟩
     ·rcases a8.mp hr with e|hr
      ·rw[e];show a0*E0+(a1*E1+0)=a2*D;omega
      ·rw[a6.mp hr];show b0*E0+(b1*E1+0)=b2*D;omega
end Sh
namespace Sh
theorem zO6{a b:Int}(h:0<a*b):(0<a/\0<b)\/(a<0/\b<0):=by
 rcases eY a 0 with x|x|x
 ·rcases eY b 0 with y|y|y
  ·exact .inr ⟨x,y⟩
  ·rw[y,i_]at h;omega
  ·have:=fN x y;omega
 ·rw[x,i9]at h;omega
 ·rcases eY b 0 with y|y|y
  ·have:=Int.mul_neg_of_pos_of_neg x y;omega
  ·rw[y,i_]at h;omega
  ·exact .inl ⟨x,y⟩
structure BR where
 p:Nat
 c:Int
 v:Int
noncomputable def BR.ws(n:Nat)(r:BR):List Int:=yH (r.p:Int) n r.c
noncomputable def BR.row(n:Nat)(r:BR):List Int:=r.ws n++[r.c*r.v]
noncomputable def g4(rs:List BR)(cs:List Nat)(q:Nat):BR:=rs.getD (cs.getD q 0) ⟨0,1,0⟩
theorem JJ{α:Type}{l:List α}{i j:Nat}{x d:α}(h:i<l.length):(l.set i x).getD j d=if j=i then x else l.getD j d:=by grind
noncomputable def tight(rs:List BR)(cs:List Nat)(r:BR):Bool:=decide (0<r.c*(g4 rs cs r.p).c)&&decide (r.c*r.v<r.c*(g4 rs cs r.p).v)
noncomputable def j9(us:List Int)(rs:List BR)(count:Nat)(cs:List Nat)(q:Nat):Bool:=decide (us.getD q 0*(g4 rs cs q).c<0)||(decide (count<=cs.getD q 0)&&decide (us.getD q 0≠0))
end Sh
namespace Bl
noncomputable def lsum(l:List Nat)(f:Nat->Rat):Rat:=l.foldr (λi s=>f i+s) 0
theorem lsum_cons(i)(l)(f):lsum (i::l) f=f i+lsum l f:=rfl
theorem KH(f g):∀l,lsum l f-lsum l g=lsum l λi=>f i-g i
 |[]=>by show(0:Rat)-0=0;grind
 |i::l=>by
  have:=KH f g l;rw[lsum_cons,lsum_cons,lsum_cons];grind
theorem zEh:∀{l:List Nat},(∀i∈l,f i=g i)->lsum l f=lsum l g
 |[],_=>rfl
 |i::l,h=>by rw[lsum_cons,lsum_cons,h i aR,zEh λj hj=>h j (aK _ hj)]
theorem zDs:∀{l:List Nat},(∀i∈l,0<=f i)->0<=lsum l f
 |[],_=>fD
 |i::l,h=>by
  have h1:=h i aR;have h2:=zDs λj hj=>h j (aK _ hj);rw[lsum_cons];grind
theorem JK:∀{l:List Nat},(∀i∈l,0<=f i)->(∃i∈l,0<f i)->0<lsum l f
 |[],_,⟨_,h,_⟩=>by cases h
 |i::l,h,⟨j,hj,pj⟩=>by
  have h1:=h i aR;have h2:=zDs λj hj=>h j (aK _ hj);rw[lsum_cons];rcases a8.mp hj with rfl|hj
  ·grind
  ·have:=JK (λj hj=>h j (aK _ hj)) ⟨j,hj,pj⟩;grind
theorem zR{r:Nat->Nat}:∀{m:Nat},0<m->∃u,u<m/\∀t,t<m->r t<=r u
 |0,h=>absurd h (bU 0)
 |1,_=>⟨0,by decide,λt ht=>by rw[show t=0 by omega];exact aJ _⟩
 |m+2,_=>by
  obtain⟨u,hu,h⟩:=zR (r:=r) (m:=m+1) (Nat.succ_pos m);by_cases c:r u<=r (m+1)
  ·exact⟨m+1,by exact aJ _,λt ht=>by
    by_cases e:t=m+1
    ·rw[e];exact aJ _
    ·exact bI (h t (by omega)) c⟩
  ·exact⟨u,by exact yO,λt ht=>by
    by_cases e:t=m+1
    ·rw[e];omega
    ·exact h t (by omega)⟩
section
variable{B:Nat->List Nat}{r p:Nat->Nat}{m:Nat}
def Nx(B B':List Nat)(p r:Nat):Prop:=p∈B/\r∉B/\∀i,i∈B'↔(i∈B/\i≠p)\/i=r
theorem zQv(h:∀t,t<m->Nx (B t) (B (t+1)) (p t) (r t))(no:∀t,t<m->p t≠i):∀{s t:Nat},s<=t->t<=m->i∈B s->i∈B t:=by
 intro s t hst ht hi
 induction t with
 |zero=>rw[show s=0 by omega]at hi;exact hi
 |succ t ih=>
  by_cases e:s=t+1
  ·rw[<- e];exact hi
  ·exact((h t (by omega)).2.2 i).mpr (.inl ⟨ih (by omega) xQ,λz=>no t (by omega) z.symm⟩)
theorem zSw(h:∀t,t<m->Nx (B t) (B (t+1)) (p t) (r t))(no:∀t,t<m->r t≠i):∀{s t:Nat},s<=t->t<=m->i∈B t->i∈B s:=by
 intro s t hst ht hi
 induction t with
 |zero=>rw[show s=0 by omega];exact hi
 |succ t ih=>
  by_cases e:s=t+1
  ·rw[e];exact hi
  ·rcases((h t (by omega)).2.2 i).mp hi with z|z
   ·exact ih (by omega) xQ z.1
   ·exact absurd z.symm (no t (by omega))
theorem zEn(h:∀t,t<m->Nx (B t) (B (t+1)) (p t) (r t))(c:∀i,i∈B m↔i∈B 0)(hu:u<m):∃v,v<m/\p v=r u:=by apply bA;intro no;have no':∀t,t<m->p t≠r u:=λt ht z=>no ⟨t,ht,z⟩;have i1:r u∈B (u+1):=((h u hu).2.2 _).mpr (.inr rfl);have i2:=zQv h no' (show u+1<=m by omega) (aJ m) i1;exact(h u hu).2.1 (zQv h no' (eV u) xQ ((c _).mp i2))
theorem JL(h:∀t,t<m->Nx (B t) (B (t+1)) (p t) (r t))(c:∀i,i∈B m↔i∈B 0)(hu:u<m)(hv:v<m)(iv:i∈B v)(iu:i∉B u):∃t,t<m/\r t=i:=by apply bA;intro no;have no':∀t,t<m->r t≠i:=λt ht z=>no ⟨t,ht,z⟩;have i0:=zSw h no' (eV v) xQ iv;exact iu (zSw h no' (show u<=m by exact xQ) (aJ m) ((c i).mpr i0))
theorem zIt(h:∀t,t<m->Nx (B t) (B (t+1)) (p t) (r t))(c:∀i,i∈B m↔i∈B 0)(hv:v<m):∃t,t<m/\r t=p v:=by
 have iv:=(h v hv).1
 have nv:p v∉B (v+1):=λz=>by
  rcases((h v hv).2.2 _).mp z with z|z
  ·exact z.2 rfl
  ·exact(h v hv).2.1 (z▸iv)
 by_cases e:v+1<m
 ·exact JL h c e hv iv nv
 ·have e1:v+1=m:=by omega
  rw[e1]at nv;exact JL h c (show 0<m by exact uJ) hv iv λz=>nv ((c _).mpr z)
end
structure FStep{P:Type}(val:Nat->P->Rat)(b:Nat->Rat)(count:Nat)(B B':List Nat)(x:P)(p r:Nat)(w:Nat->Rat):Prop where
 nx:∀i,i∈B'↔(i∈B/\i≠p)\/i=r
 tight:∀i∈B,val i x=b i
 brk:b r<val r x
 lt:r<count
 least:∀i,i<r->val i x<=b i
 comb:∀z:P,val r z=lsum B λi=>w i*val i z
 pin:p∈B
 pos:0<w p
 pl:∀i∈B,i<p->w i<=0
theorem FStep.out{P:Type}{val:Nat->P->Rat}{b:Nat->Rat}{count:Nat}{B B':List Nat}{x:P}{p r:Nat}{w:Nat->Rat}(h:FStep val b count B B' x p r w):Nx B B' p r:=⟨h.pin,λz=>by have:=h.tight r z;have:=h.brk;grind,h.nx⟩
theorem zK8{P:Type}{val:Nat->P->Rat}{b:Nat->Rat}{count m:Nat}{B:Nat->List Nat}{x:Nat->P}{p r:Nat->Nat}{w:Nat->Nat->Rat}(m0:0<m)(h:∀t,t<m->FStep val b count (B t) (B (t+1)) (x t) (p t) (r t) (w t)):¬∀i,i∈B m↔i∈B 0:=λc=>by
 have N:∀t,t<m->Nx (B t) (B (t+1)) (p t) (r t):=λt ht=>(h t ht).out;obtain⟨u,hu,hT⟩:=zR (r:=r) m0;obtain⟨v,hv,ev⟩:=zEn N c hu;have su:=h u hu;have sv:=h v hv
 have nr:r v<r u:=by have l:=hT v hv;have ne:r v≠r u:=λz=>(N v hv).2.1 (by rw[z,<- ev];exact sv.pin);omega
 have e1:=sv.comb (x u);have e2:=sv.comb (x v);have d:=KH (λi=>w v i*val i (x u)) (λi=>w v i*val i (x v)) (B v);rw[<- e1,<- e2]at d;have k1:=su.least (r v) nr;have k2:=sv.brk
 have pos:0<lsum (B v) λi=>w v i*val i (x u)-w v i*val i (x v):=by
  refine JK (λi hi=>?_) ⟨p v,sv.pin,?_⟩
  ·rw[sv.tight i hi];by_cases iu:i∈B u
   ·rw[su.tight i iu];grind
   ·by_cases ep:i=p v
    ·have k3:=su.brk;rw[ep,ev];have k4:=sv.pos;rw[ev]at k4;have:=fv (cK k3) (cK k4);grind
    ·obtain⟨t,ht,et⟩:=JL N c hu hv hi iu
     have lt:i<r u:=by have:=hT t ht;have ne:i≠r u:=λz=>ep (z.trans ev.symm);omega
     have k5:=sv.pl i hi (by rw[ev];exact lt);have k6:=su.least i lt;have:=fv k6 (show 0<=-(w v i)by grind);grind
  ·rw[sv.tight _ sv.pin,ev];have k3:=su.brk;have k4:=sv.pos;rw[ev]at k4;have:=Rat.mul_lt_mul_of_pos_left k3 k4;grind
 grind
structure CStep{P:Type}(val:Nat->P->Rat)(b:Nat->Rat)(obj:P->Rat)(count:Nat)(B B':List Nat)(x x' d:P)(p r:Nat)(y:Nat->Rat)(s:Rat):Prop where
 nx:∀i,i∈B'↔(i∈B/\i≠p)\/i=r
 tight:∀i∈B,val i x=b i
 feas:∀i,i<count->val i x<=b i
 comb:∀z:P,obj z=lsum B λi=>y i*val i z
 pin:p∈B
 fit:y p<0\/(count<=p/\y p≠0)
 pl:∀i∈B,i<p->¬(y i<0\/(count<=i/\y i≠0))
 dir:∀i∈B,i≠p->val i d=0
 dp:val p d=if 0<y p then 1 else -1
 lt:r<count
 up:0<val r d
 first:∀k,k<r->0<val k d->(b r-val r x)*val k d<(b k-val k x)*val r d
 far:s*val r d=b r-val r x
 mv:∀i,val i x'=val i x+s*val i d
 mo:obj x'=obj x+s*obj d
section
variable{P:Type}{val:Nat->P->Rat}{b:Nat->Rat}{obj:P->Rat}{count:Nat}{B B':List Nat}{x x' d:P}{p r:Nat}{y:Nat->Rat}{s:Rat}
theorem CStep.out(h:CStep val b obj count B B' x x' d p r y s):Nx B B' p r:=⟨h.pin,λz=>by
 by_cases e:r=p
 ·
  have k:=h.up;have f:=h.fit;have l:=h.lt;rw[e]at k l;rw[h.dp]at k
  have yp:¬0<y p:=by
   rcases f with f|f
   ·grind
   ·omega
  rw[if_neg yp]at k;grind
 ·have:=h.dir r z e;have:=h.up;grind,h.nx⟩
theorem CStep.nonneg(h:CStep val b obj count B B' x x' d p r y s):0<=s:=by
 have k:=h.far;have f:=h.feas r h.lt;have u:=h.up;apply bA;intro c;have c':s<0:=by grind
 have:=bP c' u;grind
theorem CStep.gain(h:CStep val b obj count B B' x x' d p r y s):0<obj d:=by
 rw[h.comb]
 have pp:0<y p*val p d:=by
  rw[h.dp];by_cases c:0<y p
  ·rw[if_pos c];grind
  ·rw[if_neg c];rcases h.fit with f|f
   ·grind
   ·have:=f.2;grind
 refine JK (λi hi=>?_) ⟨p,h.pin,pp⟩;by_cases e:i=p
 ·rw[e];exact cK pp
 ·rw[h.dir i hi e];grind
theorem CStep.next(h:CStep val b obj count B B' x x' d p r y s):∀i∈B',val i x'=b i:=λi hi=>by
 rw[h.mv i];rcases(h.nx i).mp hi with z|z
 ·rw[h.dir i z.1 z.2,h.tight i z.1];grind
 ·rw[z,h.far];grind
end
theorem zMt(h:∀i∈l,f i<=0)(k:∃i∈l,f i<0):lsum l f<0:=by
 have z:=JK (f:=λi=>0-f i) (l:=l) (λi hi=>by have:=h i hi;grind) (by obtain⟨i,hi,q⟩:=k;exact⟨i,hi,by grind⟩)
 have e:=KH (λ_=>0) f l
 have z0:lsum l (λ_=>0)=0:=by
  clear z e h k
  induction l with
  |nil=>rfl
  |cons a l ih=>rw[lsum_cons,ih];grind
 rw[<- e,z0]at z;grind
theorem zI2{P:Type}{val:Nat->P->Rat}{b:Nat->Rat}{obj:P->Rat}{count m:Nat}{B:Nat->List Nat}{x d:Nat->P}{p r:Nat->Nat}{y:Nat->Nat->Rat}{s:Nat->Rat}(m0:0<m)(h:∀t,t<m->CStep val b obj count (B t) (B (t+1)) (x t) (x (t+1)) (d t) (p t) (r t) (y t) (s t)):¬∀i,i∈B m↔i∈B 0:=λc=>by
 have N:∀t,t<m->Nx (B t) (B (t+1)) (p t) (r t):=λt ht=>(h t ht).out
 have same:obj (x m)=obj (x 0):=by
  obtain⟨k,ek⟩:∃k,m=k+1:=⟨m-1,by omega⟩
  have e0:=(h 0 m0).comb;rw[e0 (x m),e0 (x 0)];refine zEh λi hi=>?_;have i1:=(c i).mpr hi
  have t1:val i (x m)=b i:=by
   rw[ek]at i1|-
   exact(h k yx).next i i1
  rw[t1,(h 0 m0).tight i hi]
 have mono:∀t,t<m->obj (x t)<=obj (x (t+1)):=λt ht=>by have st:=h t ht;have g:=e_ st.nonneg (cK st.gain);rw[st.mo];grind
 have up:∀j t,t+j<=m->obj (x t)<=obj (x (t+j)):=λj=>by
  induction j with
  |zero=>exactλt _=>fD
  |succ j ih=>
   intro t ht;have h1:=ih t xQ;have h2:=mono (t+j) (by omega);have e:t+(j+1)=t+j+1:=by exact rfl
   rw[e];exact Rat.le_trans h1 h2
 have s0:∀t,t<m->s t=0:=λt ht=>by
  have st:=h t ht;have a1:=up t 0 (by omega);have a2:=up (m-(t+1)) (t+1) (by omega);rw[cW]at a1;rw[show t+1+(m-(t+1))=m by omega,same,st.mo]at a2;have g:=st.gain;have n:=st.nonneg;apply bA;intro ne;have ps:0<s t:=by grind
  have:=fE ps g;grind
 have pt:∀t,t<=m->∀i,val i (x t)=val i (x 0):=λt=>by
  induction t with
  |zero=>exactλ_ _=>rfl
  |succ t ih=>
   intro ht i;rw[(h t (by omega)).mv i,s0 t (by omega),ih xQ i];grind
 obtain⟨u,hu,hT⟩:=zR (r:=r) m0;obtain⟨v,hv,ev⟩:=zEn N c hu;have su:=h u hu;have sv:=h v hv;have Tc:=su.lt
 have yT:y v (p v)<0:=by
  rcases sv.fit with f|f
  ·exact f
  ·rw[ev]at f;omega
 have yl:∀i∈B v,i<r u->0<=y v i:=λi hi lt=>by have:=sv.pl i hi (by rw[ev];exact lt);grind
 have g:=su.gain;rw[sv.comb]at g
 have neg:lsum (B v) (λi=>y v i*val i (d u))<0:=by
  refine zMt (λi hi=>?_) ⟨p v,sv.pin,?_⟩
  ·by_cases eT:i=r u
   ·have:=su.up;have k:=yT;rw[ev]at k;rw[eT];have:=bP k this;grind
   by_cases iu:i∈B u
   ·by_cases ep:i=p u
    ·obtain⟨t,ht,et⟩:=zIt N c hu;have lt:i<r u:=by have:=hT t ht;omega
     have yi:=yl i hi lt;have dpu:=su.dp
     have yn:¬0<y u (p u):=by
      rcases su.fit with f|f
      ·grind
      ·omega
     rw[if_neg yn]at dpu;rw[ep]at yi|-
     rw[dpu];grind
    ·rw[su.dir i iu ep];grind
   ·obtain⟨t,ht,et⟩:=JL N c hu hv hi iu;have lt:i<r u:=by have:=hT t ht;omega
    have yi:=yl i hi lt;have ti:val i (x u)=b i:=by rw[pt u xQ i,<- pt v xQ i];exact sv.tight i hi
    have vi:val i (d u)<=0:=by
     apply bA;intro k;have k':0<val i (d u):=by grind
     have f:=su.first i lt k';have fe:=su.feas (r u) Tc;have:=e_ (show 0<=b (r u)-val (r u) (x u)by grind) (cK k');rw[ti]at f;grind
    have:=e_ yi (show 0<=-(val i (d u))by grind);grind
  ·have:=su.up;have k:=yT;rw[ev]at k|-
   have:=bP k this;grind
 grind
theorem KI:∀(M:Nat)(l:List Nat),l.Nodup->(∀x∈l,x<M)->l.length<=M
 |0,l,_,h=>by
  cases l with
  |nil=>exact aJ 0
  |cons a l=>exact absurd (h a aR) (df a)
 |M+1,l,nd,h=>by
  by_cases c:M∈l
  ·have e:=List.length_erase_of_mem c;have p:0<l.length:=List.length_pos_of_mem c
   have k:=KI M (l.erase M) (nd.erase M) λx hx=>by
    have h1:=h x (List.mem_of_mem_erase hx);have ne:x≠M:=λz=>(nd.not_mem_erase (a:=M)) (z▸hx)
    omega
   omega
  ·have k:=KI M l nd λx hx=>by
    have h1:=h x hx;have ne:x≠M:=λz=>c (z▸hx);omega
   exact yO
noncomputable def code(N:Nat):List Nat->Nat
 |[]=>0
 |a::l=>a+N*code N l
theorem zLJ:∀{l:List Nat},(∀i∈l,i<N)->code N l<N^l.length
 |[],_=>by show 0<N^0;rw[Nat.pow_zero];decide
 |a::l,h=>by
  have h1:=h a aR;have h2:=zLJ λi hi=>h i (aK _ hi);show a+N*code N l<N^(l.length+1);rw[Nat.pow_succ,h_ (N^l.length) N];have h3:=iG N (show code N l+1<=N^l.length from h2);rw[Nat.mul_add]at h3;omega
theorem zIQ:∀{l k:List Nat},l.length=k.length->(∀i∈l,i<N)->(∀i∈k,i<N)->code N l=code N k->l=k
 |[],[],_,_,_,_=>rfl
 |[],_::_,h,_,_,_=>nomatch h
 |_::_,[],h,_,_,_=>nomatch h
 |a::l,c::k,h,hl,hk,e=>by
  have a1:=hl a aR;have c1:=hk c aR;have e':a+N*code N l=c+N*code N k:=e;have m1:(a+N*code N l) % N=a:=by rw[fO];exact lG a1
  have m2:(c+N*code N k) % N=c:=by rw[fO];exact lG c1
  have ac:a=c:=by rw[<- m1,<- m2,e']
  have np:0<N:=by exact uJ
  have q:code N l=code N k:=Nat.eq_of_mul_eq_mul_left np (by omega);rw[ac,zIQ (Nat.succ.inj h) (λi hi=>hl i (aK _ hi)) (λi hi=>hk i (aK _ hi)) q]
theorem zHA{S:List (List Nat)}(nd:S.Nodup)(h:∀c∈S,c.length=n/\∀i∈c,i<N):S.length<=N^n:=by
 have k:=KI (N^n) (S.map (code N)) (by
  refine iY.mpr (List.Pairwise.imp_of_mem ?_ nd);intro x y hx hy ne e;exact ne (zIQ ((h x hx).1.trans (h y hy).1.symm) (h x hx).2 (h y hy).2 e)) λz hz=>by
  obtain⟨c,hc,rfl⟩:=aG.mp hz;have:=zLJ (h c hc).2;rw[(h c hc).1]at this;exact this
 rw[aB]at k;exact k
noncomputable def d3(a0 a1 a2 b0 b1 b2 c0 c1 c2:Rat):Rat:=a0*(b1*c2-b2*c1)+a1*(b2*c0-b0*c2)+a2*(b0*c1-b1*c0)
noncomputable def d2(a0 a1 b0 b1:Rat):Rat:=a0*b1-a1*b0
theorem zGF{B:Nat->List Nat}(ne:∀s t,s<t->t<=m->B s≠B t)(h:∀t,t<=m->(B t).length=n/\∀i∈B t,i<N):m<N^n:=by
 have k:=zHA (N:=N) (n:=n) (S:=(aI (m+1)).map B) (by
  refine iY.mpr (List.Pairwise.imp_of_mem ?_ List.pairwise_lt_range);intro s t _ ht lt;exact ne s t lt (by have:=bj.mp ht;exact jz)) λc hc=>by
  obtain⟨t,ht,rfl⟩:=aG.mp hc;exact h t (by have:=bj.mp ht;exact jz)
 rw[aB,aM]at k;exact‹_›
theorem feas_few{P:Type}{val:Nat->P->Rat}{b:Nat->Rat}{count m N n:Nat}{B:Nat->List Nat}{x:Nat->P}{p r:Nat->Nat}{w:Nat->Nat->Rat}(h:∀t,t<m->FStep val b count (B t) (B (t+1)) (x t) (p t) (r t) (w t))(k:∀t,t<=m->(B t).length=n/\∀i∈B t,i<N):m<N^n:=
 zGF (λs t st tm e=>zK8 (m:=t-s) (B:=λj=>B (s+j)) (x:=λj=>x (s+j)) (p:=λj=>p (s+j)) (r:=λj=>r (s+j)) (w:=λj=>w (s+j)) (by omega) (λj hj=>h (s+j) (by omega)) λi=>by show i∈B (s+(t-s))↔i∈B (s+0);rw[show s+(t-s)=t by omega,j_,e]) k
theorem climb_few{P:Type}{val:Nat->P->Rat}{b:Nat->Rat}{obj:P->Rat}{count m N n:Nat}{B:Nat->List Nat}{x d:Nat->P}{p r:Nat->Nat}{y:Nat->Nat->Rat}{s:Nat->Rat}(h:∀t,t<m->CStep val b obj count (B t) (B (t+1)) (x t) (x (t+1)) (d t) (p t) (r t) (y t) (s t))(k:∀t,t<=m->(B t).length=n/\∀i∈B t,i<N):m<N^n:=
 zGF (λs0 t st tm e=>zI2 (m:=t-s0) (B:=λj=>B (s0+j)) (x:=λj=>x (s0+j)) (d:=λj=>d (s0+j)) (p:=λj=>p (s0+j)) (r:=λj=>r (s0+j)) (y:=λj=>y (s0+j)) (s:=λj=>s (s0+j)) (by omega) (λj hj=>h (s0+j) (by omega)) λi=>by show i∈B (s0+(t-s0))↔i∈B (s0+0);rw[show s0+(t-s0)=t by omega,j_,e]) k
end Bl
namespace Sh
noncomputable def zF:Nat->(Nat->Rat)->Rat
 |0,_=>0
 |n+1,f=>zF n f+f n
theorem xX:∀{n:Nat},(∀j,j<n->f j=g j)->zF n f=zF n g
 |0,_=>rfl
 |n+1,h=>by
  show zF n f+f n=zF n g+g n;rw[xX λj hj=>h j (cw hj),h n (bW n)]
theorem Y4(f g):∀n,zF n (λj=>f j+g j)=zF n f+zF n g
 |0=>by show(0:Rat)=0+0;grind
 |n+1=>by
  show zF n (λj=>f j+g j)+(f n+g n)=(zF n f+f n)+(zF n g+g n)
  rw[Y4 f g n];grind
theorem qA(c)(f):∀n,zF n (λj=>c*f j)=c*zF n f
 |0=>by show(0:Rat)=c*0;grind
 |n+1=>by
  show zF n (λj=>c*f j)+c*f n=c*(zF n f+f n)
  rw[qA c f n];grind
theorem KJ:∀n,zF n (λ_=>0)=0
 |0=>rfl
 |n+1=>by
  show zF n (λ_=>0)+0=0;rw[KJ n];grind
theorem KL(f:Nat->Nat->Rat)(m):∀n,zF n (λj=>zF m (λi=>f i j))=zF m (λi=>zF n (λj=>f i j))
 |0=>by
  show(0:Rat)=zF m (λi=>0);rw[KJ]
 |n+1=>by
  show zF n (λj=>zF m (λi=>f i j))+zF m (λi=>f i n)=zF m (λi=>zF n (λj=>f i j)+f i n);rw[KL f m n,Y4]
theorem Y5(f):∀n,zF (n+1) f=f 0+zF n (λj=>f (j+1))
 |0=>by show(0:Rat)+f 0=f 0+0;grind
 |n+1=>by
  show zF (n+1) f+f (n+1)=f 0+(zF n (λj=>f (j+1))+f (n+1))
  rw[Y5 f n];grind
noncomputable def yI(ws:List Int)(q:Nat->Rat):Rat:=zF ws.length λj=>(ws.getD j 0:Rat)*q j
theorem KM:∀{xs ys:List Int},xs.length=ys.length->((zD xs ys:Int):Rat)=zF xs.length λi=>(xs.getD i 0:Rat)*(ys.getD i 0:Rat)
 |[],[],_=>by show((0:Int):Rat)=0;rfl
 |[],_::_,h=>nomatch h
 |_::_,[],h=>nomatch h
 |x::xs,y::ys,h=>by
  show((x*y+zD xs ys:Int):Rat)=zF (xs.length+1) λi=>((x::xs).getD i 0:Rat)*((y::ys).getD i 0:Rat)
  rw[Y5,eK,bE,KM (Nat.succ.inj h)];rfl
theorem qm{D:Int}(h:0<D):(0:Rat)<(D:Rat):=by exact_mod_cast h
noncomputable def zc(p:Int×Int):Rat:=(p.1:Rat)/(p.2:Rat)
noncomputable def zi(pts:List (Int×Int))(j:Nat):Rat:=zc (pts.getD j (0,1))
theorem jC(h:0<p.2):zc p*(p.2:Rat)=(p.1:Rat):=by unfold zc;have d:=qm h;grind
theorem JM(h:0<p.2)(e:(p.1:Rat)=x*(p.2:Rat)):zc p=x:=by
 have d:=qm h;have ne:(p.2:Rat)≠0:=λz=>by rw[z]at d;exact absurd d d6
 unfold zc;rw[e,cZ,d7,eL _ ne,ey]
theorem zHS(q:Nat->Rat):∀(ws:List Int)(pts:List (Int×Int))(st:Int×Int)(k:Nat),ws.length=pts.length->(∀p∈pts,0<p.2)->(∀j,j<pts.length->q (k+j)=zc (pts.getD j (0,1)))->0<st.2->
  0<((ws.zip pts).foldl v9 st).2/\((((ws.zip pts).foldl v9 st).1:Int):Rat)=(zc st+zF ws.length λj=>(ws.getD j 0:Rat)*q (k+j))*((((ws.zip pts).foldl v9 st).2:Int):Rat)
 |[],[],st,k,_,_,_,s0=>⟨s0,by
  show(st.1:Rat)=(zc st+0)*(st.2:Rat)
  rw[Rat.add_zero,jC s0]⟩
 |[],_::_,_,_,h,_,_,_=>nomatch h
 |_::_,[],_,_,h,_,_,_=>nomatch h
 |x::ws,p::pts,st,k,h,hp,hq,s0=>by
  have p0:=hp p aR;have s1:0<(v9 st (x,p)).2:=dY s0 p0
  obtain⟨z1,z2⟩:=zHS q ws pts (v9 st (x,p)) (k+1) (Nat.succ.inj h) (λr hr=>hp r (aK _ hr)) (λj hj=>by have:=hq (j+1) (lH hj);rw[show k+1+j=k+(j+1)by omega,this];rfl) s1
  refine⟨z1,z2.trans ?_⟩;show _=(zc st+zF (ws.length+1) λj=>((x::ws).getD j 0:Rat)*q (k+j))*_;rw[Y5];congr 1
  have e1:zc (v9 st (x,p))=zc st+(x:Rat)*zc p:=JM s1 (by
   show((st.1*p.2+x*p.1*st.2:Int):Rat)=_*((st.2*p.2:Int):Rat)
   rw[eK,bE,bE,bE,bE,<- jC s0,<- jC p0];grind)
  grind
theorem Y6(h:b≠0):0<zJ t b/\zc (ze t b,zJ t b)=(t:Rat)/(b:Rat):=by
 have p:=qc (t:=t) h;refine⟨p,JM p ?_⟩;have c:=zKr (t:=t) h;have ne:(b:Rat)≠0:=λz=>h (by exact_mod_cast z);have c':((ze t b*b:Int):Rat)=((t*zJ t b:Int):Rat):=by rw[c]
 grind
end Sh
namespace Sh
noncomputable def vl(n:Nat)(r:List Int)(z:Nat->Rat):Rat:=zF n λj=>(r.getD j 0:Rat)*z j
noncomputable def bo(n:Nat)(r:List Int):Rat:=((r.getD n 0:Int):Rat)
noncomputable def ZQ(L:List (List Int))(D:Int)(n:Nat):List (Int×Int):=(aI n).map λi=>(ze ((L.getD i []).getD n 0) D,zJ ((L.getD i []).getD n 0) D)
noncomputable def yS(rows:List (List Int))(n:Nat):List (Int×Int):=match yo rows n with
 |some (L,D)=>ZQ L D n
 |none=>[]
theorem JN(S:JI rows L D n):yS rows n=ZQ L D n:=by unfold yS;rw[S.run]
theorem zIU(f):∀n,((((aI n).map f).sum:Int):Rat)=zF n λj=>(f j:Rat)
 |0=>rfl
 |n+1=>by
  rw[ic,aS,lZ,eK,zIU f n];show _+(((f n+0:Int)):Rat)=zF n (λj=>(f j:Rat))+(f n:Rat)
  rw[fL]
theorem zRM(h:j<n):(ZQ L D n).getD j (0,1)=(ze ((L.getD j []).getD n 0) D,zJ ((L.getD j []).getD n 0) D):=by unfold ZQ;rw[aD,aV,bY h];rfl
theorem zOm(S:JI rows L D n)(hr:r∈rows):vl n r (zi (yS rows n))=bo n r:=by
 have ne:(D:Rat)≠0:=λz=>S.ne (by exact_mod_cast z)
 have e:∀j,j<n->zi (yS rows n) j=(((L.getD j []).getD n 0:Int):Rat)*(D:Rat)⁻¹:=λj hj=>by unfold zi;rw[JN S,zRM hj,(Y6 S.ne).2,cZ]
 have z:=S.eqs r hr;have z':((((aI n).map λj=>r.getD j 0*(L.getD j []).getD n 0).sum:Int):Rat)=((r.getD n 0*D:Int):Rat):=by rw[z]
 rw[zIU,bE]at z';unfold vl bo;rw[xX (g:=λj=>(D:Rat)⁻¹*(((r.getD j 0*(L.getD j []).getD n 0:Int)):Rat)) λj hj=>by rw[e j hj,bE];grind,qA,z',Rat.mul_comm,d7,eL _ ne,ey]
structure Sq(rows:List (List Int))(n:Nat):Prop where
 len:rows.length=n
 row:∀r∈rows,r.length=n+1
 n1:1<=n
 n3:n<=2
theorem zNq(h:Sq rows n)(d:x8 rows≠0):∃L D,JI rows L D n:=by
 rcases zMC h.len h.row h.n1 h.n3 with⟨_,z⟩|z
 ·exact absurd z d
 ·exact z
theorem g5(h:Sq rows n)(d:x8 rows≠0):(yS rows n).length=n/\(∀p∈yS rows n,0<p.2)/\∀r∈rows,vl n r (zi (yS rows n))=bo n r:=by
 obtain⟨L,D,S⟩:=zNq h d;refine⟨?_,λp hp=>?_,λr hr=>zOm S hr⟩
 ·rw[JN S];unfold ZQ;rw[aB,aM]
 ·rw[JN S]at hp;obtain⟨i,_,e⟩:=aG.mp hp;rw[<- e];exact qc S.ne
noncomputable def xl(n:Nat)(f:Nat->Nat->Int):Int:=if n=1 then f 0 0 else if n=2 then f 0 0*f 1 1-f 0 1*f 1 0 else Y0 (f 0 0) (f 0 1) (f 0 2) (f 1 0) (f 1 1) (f 1 2) (f 2 0) (f 2 1) (f 2 2)
theorem ZR(rows):x8 rows=xl rows.length λq j=>(rows.getD q []).getD j 0:=rfl
theorem ZS(n1:1<=n)(n3:n<=2)(h:∀q j,q<n->j<n->f q j=g q j):xl n f=xl n g:=by
 rcases(by omega:n=1\/n=2\/n=3)with rfl|rfl|rfl
 ·exact h 0 0 (by decide) (by decide)
 ·show f 0 0*f 1 1-f 0 1*f 1 0=_;rw[h 0 0 (by decide) (by decide),h 1 1 (by decide) (by decide),h 0 1 (by decide) (by decide),h 1 0 (by decide) (by decide)];rfl
 omega
theorem zLF(n1:1<=n)(n3:n<=2):xl n (λq j=>f j q)=xl n f:=by
 rcases(by omega:n=1\/n=2\/n=3)with rfl|rfl|rfl
 ·rfl
 ·show f 0 0*f 1 1-f 1 0*f 0 1=f 0 0*f 1 1-f 0 1*f 1 0;grind
 omega
theorem zLG{R:Nat->Int}{w:Nat->Rat}(n1:1<=n)(n3:n<=2)(hp:p<n)(h:∀j,j<n->(R j:Rat)=zF n λk=>(f k j:Rat)*w k):
  ((xl n (λq j=>if q=p then R j else f q j):Int):Rat)=w p*((xl n f:Int):Rat):=by
 rcases(by omega:n=1\/n=2\/n=3)with rfl|rfl|rfl
 ·have p0:p=0:=by omega
  subst p0;have h0:=h 0 (by decide);have h0':(R 0:Rat)=0+(f 0 0:Rat)*w 0:=h0;show((R 0:Int):Rat)=w 0*((f 0 0:Int):Rat)
  rw[h0'];grind
 ·have h0:(R 0:Rat)=0+(f 0 0:Rat)*w 0+(f 1 0:Rat)*w 1:=h 0 (by decide);have h1:(R 1:Rat)=0+(f 0 1:Rat)*w 0+(f 1 1:Rat)*w 1:=h 1 (by decide)
  have e:((xl 2 f:Int):Rat)=(f 0 0:Rat)*(f 1 1:Rat)-(f 0 1:Rat)*(f 1 0:Rat):=by show((f 0 0*f 1 1-f 0 1*f 1 0:Int):Rat)=_;rw[fF,bE,bE]
  rw[e];rcases(by omega:p=0\/p=1)with rfl|rfl
  ·show((R 0*f 1 1-R 1*f 1 0:Int):Rat)=_;rw[fF,bE,bE,h0,h1];grind
  ·show((f 0 0*R 1-f 0 1*R 0:Int):Rat)=_;rw[fF,bE,bE,h0,h1];grind
 omega
end Sh
namespace Sh
noncomputable def yy(rows:List (List Int))(cs:List Nat):List (List Int):=cs.map λc=>rows.getD c []
noncomputable def xn(rows:List (List Int))(cs:List Nat)(us:List Int)(n:Nat):List (List Int):=(aI n).map λj=>(cs.map λc=>(rows.getD c []).getD j 0)++[us.getD j 0]
noncomputable def xD(rows:List (List Int))(cs:List Nat)(p:Nat)(nu:Int)(n:Nat):List (List Int):=cs.map λc=>(rows.getD c []).take n++[if c=cs.getD p 0 then nu else 0]
noncomputable def vD(rows:List (List Int))(cs:List Nat)(p:Nat)(n:Nat):List (List Int):=(aI n).map λk=>(rows.getD (cs.getD k 0) []).take n++[if k=p then 1 else 0]
structure Cr(rows:List (List Int))(n:Nat)(cs:List Nat):Prop where
 n1:1<=n
 n3:n<=2
 row:∀r∈rows,r.length=n+1
 len:cs.length=n
 lt:∀c∈cs,c<rows.length
 det:x8 (yy rows cs)≠0
theorem vE{α β:Type}{f:α->β}{l:List α}{k:Nat}{d:α}{e:β}(h:k<l.length):(l.map f).getD k e=f (l.getD k d):=by rw[aD,aD,aV,aE h];rfl
theorem qB{α:Type}{f:Nat->α}{n k:Nat}{d:α}(h:k<n):((aI n).map f).getD k d=f k:=by rw[aD,aV,bY h];rfl
theorem yJ{α:Type}{l:List α}{k:Nat}{d:α}(h:k<l.length):l.getD k d∈l:=by rw[aD,aE h];exact cq _
theorem qr{x:Int}(hl:l.length=n)(h:j<n):(l++[x]).getD j 0=l.getD j 0:=by rw[aD,du zz,<- aD]
theorem KN{x:Int}(hl:l.length=n):(l++[x]).getD n 0=x:=by rw[aD,cS wc,hl,dE];rfl
theorem g6{l:List Int}(h:j<n):(l.take n).getD j 0=l.getD j 0:=by rw[aD,fT h,<- aD]
theorem KO{f:Nat->Rat}(hp:p<n):zF n (λk=>f k*(if k=p then c else 0))=f p*c:=by
 induction n with
 |zero=>omega
 |succ n ih=>
  show zF n (λk=>f k*(if k=p then c else 0))+f n*(if n=p then c else 0)=f p*c;by_cases e:p=n
  ·rw[if_pos e.symm,xX (g:=λ_=>0) λj hj=>by rw[if_neg (by omega)];grind,KJ,e];grind
  ·rw[if_neg (λz=>e z.symm),ih (by omega)];grind
section
variable{rows:List (List Int)}{n:Nat}{cs:List Nat}
theorem Cr.at_(C:Cr rows n cs)(h:k<n):cs.getD k 0<rows.length/\(rows.getD (cs.getD k 0) []).length=n+1:=by have:=C.lt _ (yJ (d:=0) (show k<cs.length by rw[C.len];exact h));exact⟨this,C.row _ (yJ this)⟩
theorem Cr.sqC(C:Cr rows n cs):Sq (yy rows cs) n:=⟨by unfold yy;rw[aB,C.len],λr hr=>by obtain⟨c,hc,e⟩:=aG.mp hr;rw[<- e];exact C.row _ (yJ (C.lt c hc)),C.n1,C.n3⟩
theorem Cr.sqW(C:Cr rows n cs)(us):Sq (xn rows cs us n) n:=⟨by unfold xn;rw[aB,aM],λr hr=>by obtain⟨c,hc,e⟩:=aG.mp hr;rw[<- e,aF,aB,C.len];rfl,C.n1,C.n3⟩
theorem Cr.sqD(C:Cr rows n cs)(p)(nu):Sq (xD rows cs p nu n) n:=⟨by unfold xD;rw[aB,C.len],λr hr=>by obtain⟨c,hc,e⟩:=aG.mp hr;have:=C.row _ (yJ (C.lt c hc) (d:=[]));rw[<- e,aF,aZ,this];show min n (n+1)+1=n+1;omega,C.n1,C.n3⟩
theorem Cr.sqP(C:Cr rows n cs)(p):Sq (vD rows cs p n) n:=⟨by unfold vD;rw[aB,aM],λr hr=>by obtain⟨c,hc,e⟩:=aG.mp hr;have:=(C.at_ (bj.mp hc)).2;rw[<- e,aF,aZ,this];show min n (n+1)+1=n+1;omega,C.n1,C.n3⟩
theorem Cr.detC(C:Cr rows n cs):xl n (λq j=>(rows.getD (cs.getD q 0) []).getD j 0)≠0:=by
 have d:=C.det;rw[ZR,C.sqC.len]at d;rw[ZS (g:=λq j=>((yy rows cs).getD q []).getD j 0) C.n1 C.n3 λq j hq hj=>?_]
 ·exact d
 ·unfold yy;rw[vE (d:=0) (by rw[C.len];exact hq)]
theorem Cr.detW(C:Cr rows n cs)(us):x8 (xn rows cs us n)≠0:=by
 rw[ZR,(C.sqW us).len,<- zLF C.n1 C.n3,ZS (g:=λq j=>(rows.getD (cs.getD q 0) []).getD j 0) C.n1 C.n3 λq j hq hj=>?_]
 ·exact C.detC
 ·unfold xn;rw[qB hj,qr (by rw[aB];exact C.len) hq,vE (d:=0) (by rw[C.len];exact hq)]
theorem Cr.detD(C:Cr rows n cs)(p)(nu):x8 (xD rows cs p nu n)≠0:=by
 rw[ZR,(C.sqD p nu).len,ZS (g:=λq j=>(rows.getD (cs.getD q 0) []).getD j 0) C.n1 C.n3 λq j hq hj=>?_]
 ·exact C.detC
 ·unfold xD;rw[vE (d:=0) (by rw[C.len];exact hq),qr (n:=n) (by rw[aZ,(C.at_ hq).2];omega) hj,g6 hj]
theorem Cr.detP(C:Cr rows n cs)(p):x8 (vD rows cs p n)≠0:=by
 rw[ZR,(C.sqP p).len,ZS (g:=λq j=>(rows.getD (cs.getD q 0) []).getD j 0) C.n1 C.n3 λq j hq hj=>?_]
 ·exact C.detC
 ·unfold vD;rw[qB hq,qr (n:=n) (by rw[aZ,(C.at_ hq).2];omega) hj,g6 hj]
noncomputable def xo(rows:List (List Int))(cs:List Nat)(n:Nat):List (Int×Int):=yS (yy rows cs) n
noncomputable def zq(rows:List (List Int))(cs:List Nat)(us:List Int)(n:Nat):List (Int×Int):=yS (xn rows cs us n) n
theorem Cr.pt(C:Cr rows n cs)(h:k<n):vl n (rows.getD (cs.getD k 0) []) (zi (xo rows cs n))=bo n (rows.getD (cs.getD k 0) []):=
 (g5 C.sqC C.det).2.2 _ (by unfold yy;exact aG.mpr ⟨_,yJ (by rw[C.len];exact h),rfl⟩)
theorem Cr.wt(C:Cr rows n cs)(us)(h:j<n):((us.getD j 0:Int):Rat)=zF n λk=>(((rows.getD (cs.getD k 0) []).getD j 0:Int):Rat)*zi (zq rows cs us n) k:=by
 have z:=(g5 (C.sqW us) (C.detW us)).2.2 ((cs.map λc=>(rows.getD c []).getD j 0)++[us.getD j 0]) (by unfold xn;exact aG.mpr ⟨j,bj.mpr h,rfl⟩)
 unfold vl bo at z;rw[KN (by rw[aB];exact C.len)]at z;rw[<- z];refine xX λk hk=>?_;rw[qr (by rw[aB];exact C.len) hk,vE (d:=0) (by rw[C.len];exact hk)];rfl
theorem Cr.comb(C:Cr rows n cs)(us)(z):vl n us z=zF n λk=>zi (zq rows cs us n) k*vl n (rows.getD (cs.getD k 0) []) z:=by
 unfold vl;rw[xX (g:=λj=>zF n λk=>zi (zq rows cs us n) k*((((rows.getD (cs.getD k 0) []).getD j 0:Int):Rat)*z j)) λj hj=>?_,KL]
 ·exact xX λk hk=>qA _ _ n
 ·rw[C.wt us hj,Rat.mul_comm,<- qA];exact xX λk _=>by grind
theorem Cr.way(C:Cr rows n cs)(p)(nu)(h:k<n):vl n (rows.getD (cs.getD k 0) []) (zi (yS (xD rows cs p nu n) n))=if cs.getD k 0=cs.getD p 0 then(nu:Rat) else 0:=by
 have z:=(g5 (C.sqD p nu) (C.detD p nu)).2.2 ((rows.getD (cs.getD k 0) []).take n++[if cs.getD k 0=cs.getD p 0 then nu else 0]) (by unfold xD;exact aG.mpr ⟨_,yJ (by rw[C.len];exact h),rfl⟩)
 have lt:((rows.getD (cs.getD k 0) []).take n).length=n:=by rw[aZ,(C.at_ h).2];omega
 unfold bo at z;rw[KN lt]at z
 have e:vl n ((rows.getD (cs.getD k 0) []).take n++[if cs.getD k 0=cs.getD p 0 then nu else 0]) (zi (yS (xD rows cs p nu n) n))=vl n (rows.getD (cs.getD k 0) []) (zi (yS (xD rows cs p nu n) n)):=by unfold vl;exact xX λj hj=>by rw[qr lt hj,g6 hj]
 rw[<- e,z];split<;> rfl
theorem Cr.dual(C:Cr rows n cs)(p):∃d,∀k,k<n->vl n (rows.getD (cs.getD k 0) []) d=if k=p then 1 else 0:=by
 refine⟨zi (yS (vD rows cs p n) n),λk h=>?_⟩
 have z:=(g5 (C.sqP p) (C.detP p)).2.2 ((rows.getD (cs.getD k 0) []).take n++[if k=p then 1 else 0]) (by unfold vD;exact aG.mpr ⟨k,bj.mpr h,rfl⟩)
 have lt:((rows.getD (cs.getD k 0) []).take n).length=n:=by rw[aZ,(C.at_ h).2];omega
 unfold bo at z;rw[KN lt]at z
 have e:vl n ((rows.getD (cs.getD k 0) []).take n++[if k=p then 1 else 0]) (zi (yS (vD rows cs p n) n))=vl n (rows.getD (cs.getD k 0) []) (zi (yS (vD rows cs p n) n)):=by unfold vl;exact xX λj hj=>by rw[qr lt hj,g6 hj]
 rw[<- e,z];split<;> rfl
theorem Cr.inj(C:Cr rows n cs)(hk:k<n)(hl:l<n)(e:cs.getD k 0=cs.getD l 0):k=l:=by obtain⟨d,hd⟩:=C.dual k;grind
theorem Cr.nodup(C:Cr rows n cs):cs.Nodup:=by
 refine List.pairwise_iff_getElem.mpr λi j hi hj hij e=>?_
 have:=C.inj (k:=i) (l:=j) (by rw[<- C.len];exact hi) (by rw[<- C.len];exact hj) (by rw[aD,aD,aE hi,aE hj,e])
 omega
theorem Cr.one(C:Cr rows n cs)(h:∀k,k<n->vl n (rows.getD (cs.getD k 0) []) z=vl n (rows.getD (cs.getD k 0) []) z')(hj:j<n):z j=z' j:=by
 have e:∀y:Nat->Rat,vl n ((aI n).map λi=>if i=j then 1 else 0) y=y j:=λy=>by
  unfold vl;rw[xX (g:=λi=>y i*(if i=j then 1 else 0)) λi hi=>?_,KO hj]
  ·grind
  ·rw[qB hi];split
   ·show((1:Int):Rat)*y i=y i*1;grind
   ·show((0:Int):Rat)*y i=y i*0;grind
 have a:=C.comb ((aI n).map λi=>if i=j then 1 else 0) z;have b:=C.comb ((aI n).map λi=>if i=j then 1 else 0) z';rw[e]at a b;rw[a,b];exact xX λk hk=>by rw[h k hk]
theorem Cr.exch(C:Cr rows n cs)(hp:p<n)(hr:r<rows.length)(w0:zi (zq rows cs (rows.getD r []) n) p≠0):Cr rows n (cs.set p r):=by
 have lp:p<cs.length:=by rw[C.len];exact hp
 have D:((xl n (λq j=>if q=p then(rows.getD r []).getD j 0 else(rows.getD (cs.getD q 0) []).getD j 0):Int):Rat)=_:=zLG (f:=λq j=>(rows.getD (cs.getD q 0) []).getD j 0) (R:=λj=>(rows.getD r []).getD j 0) C.n1 C.n3 hp λj hj=>C.wt (rows.getD r []) hj;refine⟨C.n1,C.n3,C.row,by rw[bS];exact C.len,λc hc=>?_,λz=>?_⟩
 ·rcases eg hc with hc|hc
  ·exact C.lt c hc
  ·rw[hc];exact hr
 ·have e:x8 (yy rows (cs.set p r))=xl n (λq j=>if q=p then(rows.getD r []).getD j 0 else(rows.getD (cs.getD q 0) []).getD j 0):=by
   rw[ZR,show(yy rows (cs.set p r)).length=n by unfold yy;rw[aB,bS,C.len]];refine ZS C.n1 C.n3 λq j hq hj=>?_;unfold yy;rw[vE (d:=0) (by rw[bS,C.len];exact hq),JJ lp];by_cases eq:q=p
   ·rw[if_pos eq,if_pos eq]
   ·rw[if_neg eq,if_neg eq]
  rw[<- e,z]at D;have c0:((xl n λq j=>(rows.getD (cs.getD q 0) []).getD j 0:Int):Rat)≠0:=λy=>C.detC (by exact_mod_cast y);grind
end
end Sh
namespace Sh
theorem Y7{α:Type}(S:α->α->Prop)(M:Nat)(h:∀(B:Nat->α)(m:Nat),(∀t,t<m->S (B t) (B (t+1)))->m<M){P:α->Prop}(step:∀a,(∀b,S a b->P b)->P a)(a:α):P a:=by
 apply bA;intro na
 have nx:∀a:{a//¬P a},∃b:{b//¬P b},S a.1 b.1:=λa=>by apply bA;intro no;exact a.2 (step a.1 λb sb=>bA λnb=>no ⟨⟨b,nb⟩,sb⟩)
 let f:=λa=>Classical.choose (nx a)
 have hf:∀a,S a.1 (f a).1:=λa=>ig (nx a)
 let B:Nat->{a//¬P a}:=λt=>Nat.rec (⟨a,na⟩:{a//¬P a}) (λ_ b=>f b) t
 have:=h (λt=>(B t).1) M λt _=>hf (B t);omega
theorem zKq(g):∀l,Bl.lsum l g=zF l.length λk=>g (l.getD k 0)
 |[]=>rfl
 |a::l=>by
  rw[Bl.lsum_cons,zKq g l];show _=zF (l.length+1) _;rw[Y5];rfl
theorem zNi(n)(r)(z d)(s):vl n r (λj=>z j+s*d j)=vl n r z+s*vl n r d:=by unfold vl;rw[<- qA,<- Y4];exact xX λj _=>by grind
theorem zLy(h:∀j,j<n->z j=z' j):vl n r z=vl n r z':=by unfold vl;exact xX λj hj=>by rw[h j hj]
theorem ZT{cs:List Nat}(nd:cs.Nodup)(h:k<cs.length):cs.idxOf (cs.getD k 0)=k:=by rw[aD,aE h];exact nd.idxOf_getElem k h
theorem zKp{cs:List Nat}(nd:cs.Nodup)(hp:p<cs.length):i∈cs.set p r↔(i∈cs/\i≠cs.getD p 0)\/i=r:=by
 have at_:∀k,k<cs.length->cs.getD k 0=cs[k]!:=λk hk=>by rw[aD,aE hk];simp[hk]
 constructor
 ·intro h;obtain⟨k,hk,e⟩:=cU h;rw[bS]at hk;by_cases z:p=k
  ·rw[dh,if_pos z]at e;exact .inr e.symm
  ·rw[dh,if_neg z]at e;refine .inl ⟨by rw[<- e];exact cq _,λy=>z ?_⟩;have e1:=ZT nd hp;rw[<- y,<- e]at e1;rw[<- e1];exact nd.idxOf_getElem k hk
 ·rintro(⟨h,ne⟩|rfl)
  ·obtain⟨k,hk,e⟩:=cU h
   have z:p≠k:=λz=>ne (by subst z;rw[<- e,aD,aE hk];rfl)
   rw[<- e];refine cz.mpr ⟨k,by rw[bS];exact hk,?_⟩;rw[dh,if_neg z]
  ·exact cz.mpr ⟨p,by rw[bS];exact hp,by rw[dh,if_pos rfl]⟩
section
variable(rows:List (List Int))(n:Nat)
noncomputable abbrev VA(i:Nat)(z:Nat->Rat):Rat:=vl n (rows.getD i []) z
noncomputable abbrev BA(i:Nat):Rat:=bo n (rows.getD i [])
noncomputable abbrev XC(cs:List Nat):Nat->Rat:=zi (xo rows cs n)
noncomputable abbrev YC(cs:List Nat)(us:List Int):Nat->Rat:=zi (zq rows cs us n)
def Fe(count:Nat)(cs:List Nat):Prop:=∀i,i<count->VA rows n i (XC rows n cs)<=BA rows n i
end
section
variable{rows:List (List Int)}{n count:Nat}{cs:List Nat}{us:List Int}
theorem Cr.tight(C:Cr rows n cs):∀i∈cs,VA rows n i (XC rows n cs)=BA rows n i:=λi hi=>by
 obtain⟨k,hk,e⟩:=cU hi;have z:=C.pt (k:=k) (by rw[<- C.len];exact hk)
 have ek:cs.getD k 0=i:=by rw[aD,aE hk];exact e
 rw[ek]at z;exact z
theorem Cr.combL(C:Cr rows n cs)(us)(z):vl n us z=Bl.lsum cs λi=>YC rows n cs us (cs.idxOf i)*VA rows n i z:=by rw[zKq,C.len,C.comb us z];exact xX λk hk=>by rw[ZT C.nodup (by rw[C.len];exact hk)]
theorem zK7(C:Cr rows n cs)(hc:count<=rows.length)(hr:r<count)(hb:BA rows n r<VA rows n r (XC rows n cs))(hl:∀i,i<r->VA rows n i (XC rows n cs)<=BA rows n i)(hp:p<n)
  (fp:0<YC rows n cs (rows.getD r []) p) (lp:∀k,k<n->0<YC rows n cs (rows.getD r []) k->cs.getD p 0<=cs.getD k 0):
  Bl.FStep (VA rows n) (BA rows n) count cs (cs.set p r) (XC rows n cs) (cs.getD p 0) r λi=>YC rows n cs (rows.getD r []) (cs.idxOf i):=by
 have lcp:p<cs.length:=by rw[C.len];exact hp
 refine⟨λi=>zKp C.nodup lcp,C.tight,hb,hr,hl,C.combL _,yJ lcp,?_,λi hi lt=>?_⟩
 ·rw[ZT C.nodup lcp];exact fp
 ·obtain⟨k,hk,e⟩:=cU hi
  have ek:cs.getD k 0=i:=by rw[aD,aE hk];exact e
  rw[<- ek]at lt|-
  rw[ZT C.nodup hk];have:=lp k (by rw[<- C.len];exact hk);grind
def x9(rows:List (List Int))(n count:Nat)(us:List Int)(cs:List Nat)(k:Nat):Prop:=YC rows n cs us k<0\/(count<=cs.getD k 0/\YC rows n cs us k≠0)
structure vg(rows:List (List Int))(n count:Nat)(x d:Nat->Rat)(r:Nat):Prop where
 lt:r<count
 up:0<VA rows n r d
 first:∀k,k<r->0<VA rows n k d->(BA rows n r-VA rows n r x)*VA rows n k d<(BA rows n k-VA rows n k x)*VA rows n r d
 all:∀k,k<count->0<VA rows n k d->(BA rows n r-VA rows n r x)*VA rows n k d<=(BA rows n k-VA rows n k x)*VA rows n r d
structure g9(rows:List (List Int))(n:Nat)(cs:List Nat)(us:List Int)(p:Nat)(d:Nat->Rat):Prop where
 at_:∀k,k<n->k≠p->VA rows n (cs.getD k 0) d=0
 p:VA rows n (cs.getD p 0) d=if 0<YC rows n cs us p then 1 else -1
theorem g9.val(C:Cr rows n cs){p:Nat}(hp:p<n)(W:g9 rows n cs us p d)(vs):vl n vs d=YC rows n cs vs p*(if 0<YC rows n cs us p then 1 else -1):=by
 rw[C.comb vs d,xX (g:=λk=>YC rows n cs vs k*(if k=p then(if 0<YC rows n cs us p then 1 else -1) else 0)) λk hk=>?_,KO hp];by_cases e:k=p
 ·rw[if_pos e,e];rw[show vl n (rows.getD (cs.getD p 0) []) d=_ from W.p]
 ·rw[if_neg e,show vl n (rows.getD (cs.getD k 0) []) d=_ from W.at_ k hk e]
theorem KP(C:Cr rows n cs)(hc:count<=rows.length)(hp:p<n)(W:g9 rows n cs us p d)(hr:r<count)(up:0<VA rows n r d):Cr rows n (cs.set p r)/\YC rows n cs (rows.getD r []) p≠0:=by
 have z:YC rows n cs (rows.getD r []) p≠0:=λz=>by have e:=W.val C hp (rows.getD r []);have up':0<vl n (rows.getD r []) d:=up;rw[e,z]at up';grind
 exact⟨C.exch hp jy z,z⟩
theorem KQ(C:Cr rows n cs)(hc:count<=rows.length)(hp:p<n)(W:g9 rows n cs us p d)(hr:r<count)(up:0<VA rows n r d)(far:s*VA rows n r d=BA rows n r-VA rows n r (XC rows n cs))(vs):
  vl n vs (XC rows n (cs.set p r))=vl n vs (XC rows n cs)+s*vl n vs d:=by
 have C':=(KP C hc hp W hr up).1;have lp:p<cs.length:=by rw[C.len];exact hp
 rw[<- zNi];refine zLy λj hj=>C'.one (z:=XC rows n (cs.set p r)) (z':=λj=>XC rows n cs j+s*d j) (λk hk=>?_) hj;have e:vl n (rows.getD ((cs.set p r).getD k 0) []) (XC rows n (cs.set p r))=bo n (rows.getD ((cs.set p r).getD k 0) []):=C'.tight _ (yJ (by rw[C'.len];exact hk));rw[e,zNi,JJ lp];by_cases z:k=p
 ·rw[if_pos z];have:s*vl n (rows.getD r []) d=bo n (rows.getD r [])-vl n (rows.getD r []) (XC rows n cs):=far;grind
 ·rw[if_neg z];have h1:vl n (rows.getD (cs.getD k 0) []) d=0:=W.at_ k hk z;have h2:=C.pt hk;rw[h1];show bo n (rows.getD (cs.getD k 0) [])=vl n (rows.getD (cs.getD k 0) []) (zi (xo rows cs n))+s*0;rw[h2];grind
theorem zI1(C:Cr rows n cs)(F:Fe rows n count cs)(hc:count<=rows.length)(hp:p<n)(fp:x9 rows n count us cs p)(lp:∀k,k<n->x9 rows n count us cs k->cs.getD p 0<=cs.getD k 0)(W:g9 rows n cs us p d)(M:vg rows n count (XC rows n cs) d r):
  ∃s,Bl.CStep (VA rows n) (BA rows n) (vl n us) count cs (cs.set p r) (XC rows n cs) (XC rows n (cs.set p r)) d (cs.getD p 0) r (λi=>YC rows n cs us (cs.idxOf i)) s:=by
 have lcp:p<cs.length:=by rw[C.len];exact hp
 have ne:VA rows n r d≠0:=λz=>by have:=M.up;rw[z]at this;exact absurd this d6
 have far:((BA rows n r-VA rows n r (XC rows n cs))/VA rows n r d)*VA rows n r d=BA rows n r-VA rows n r (XC rows n cs):=by rw[cZ,d7,dl _ ne,ey]
 have fitI:∀k,k<n->(x9 rows n count us cs k↔(YC rows n cs us (cs.idxOf (cs.getD k 0))<0\/(count<=cs.getD k 0/\YC rows n cs us (cs.idxOf (cs.getD k 0))≠0))):=λk hk=>by rw[ZT C.nodup (by rw[C.len];exact hk)];exact Iff.rfl
 refine⟨(BA rows n r-VA rows n r (XC rows n cs))/VA rows n r d,λi=>zKp C.nodup lcp,C.tight,F,C.combL us,yJ lcp,(fitI p hp).mp fp,λi hi lt=>?_,λi hi ne=>?_,?_,M.lt,M.up,M.first,far,λi=>KQ C hc hp W M.lt M.up far _,KQ C hc hp W M.lt M.up far us⟩
 ·obtain⟨k,hk,e⟩:=cU hi
  have ek:cs.getD k 0=i:=by rw[aD,aE hk];exact e
  rw[<- ek]at lt|-
  have hkn:k<n:=by rw[<- C.len];exact hk
  intro z;have:=lp k hkn ((fitI k hkn).mpr z);omega
 ·obtain⟨k,hk,e⟩:=cU hi
  have ek:cs.getD k 0=i:=by rw[aD,aE hk];exact e
  rw[<- ek]at ne|-
  exact W.at_ k (by rw[<- C.len];exact hk) λz=>ne (by rw[z])
 ·show VA rows n (cs.getD p 0) d=if 0<YC rows n cs us (cs.idxOf (cs.getD p 0)) then 1 else -1
  rw[ZT C.nodup lcp];exact W.p
theorem zNG(C:Cr rows n cs)(F:Fe rows n count cs)(hc:count<=rows.length)(hp:p<n)(W:g9 rows n cs us p d)(M:vg rows n count (XC rows n cs) d r):Fe rows n count (cs.set p r):=λi hi=>by
 have up:=M.up;have ne:VA rows n r d≠0:=λz=>by rw[z]at up;exact absurd up d6
 obtain⟨s,far⟩:∃s,s*VA rows n r d=BA rows n r-VA rows n r (XC rows n cs):=⟨(BA rows n r-VA rows n r (XC rows n cs))/VA rows n r d,by rw[cZ,d7,dl _ ne,ey]⟩
 have e:VA rows n i (XC rows n (cs.set p r))=VA rows n i (XC rows n cs)+s*VA rows n i d:=KQ C hc hp W M.lt up far _;rw[e];have fr:=F r M.lt
 have s0:0<=s:=by apply bA;intro c;have:=bP (show s<0 by grind) up;grind
 have fi:=F i hi;by_cases z:0<VA rows n i d
 ·have a:=M.all i hi z;rw[<- far]at a;apply bA;intro c;have c':BA rows n i-VA rows n i (XC rows n cs)<s*VA rows n i d:=by grind
  have:=bP c' up;grind
 ·have:=e_ s0 (show 0<=-(VA rows n i d)by grind);grind
end
end Sh
namespace Sh
noncomputable def yK(pts:List (Int×Int)):Int:=pts.foldl (λD p=>(D*p.2).fdiv (c8 D p.2:Int)) 1
noncomputable def yB(pts:List (Int×Int)):List Int:=pts.map λp=>p.1*(yK pts).fdiv p.2
theorem zF9{D b:Int}(hD:0<D)(hb:0<b):0<(D*b).fdiv (c8 D b:Int)/\D∣(D*b).fdiv (c8 D b:Int)/\b∣(D*b).fdiv (c8 D b:Int):=by
 have g0:(0:Int)<(c8 D b:Int):=by have:=Int.gcd_pos_of_ne_zero_left b (show D≠0 by exact vU);exact xR
 obtain⟨x,hx⟩:(c8 D b:Int)∣D:=f7 ..;obtain⟨y,hy⟩:(c8 D b:Int)∣b:=fU ..;generalize(c8 D b:Int)=g at*
 have e1:(D*b).fdiv g=D*y:=by rw[show D*b=(D*y)*g by rw[hy];grind];exact Int.mul_fdiv_cancel _ vU
 have e2:D*y=x*b:=by rw[hx,hy];grind
 rw[e1];refine⟨?_,⟨y,rfl⟩,⟨x,by rw[e2,fK]⟩⟩;refine dY hD ?_;rw[hy]at hb;rcases zO6 hb with⟨_,z⟩|⟨z,_⟩
 ·exact z
 ·omega
theorem KR:∀(pts:List (Int×Int))(D:Int),0<D->(∀p∈pts,0<p.2)->0<pts.foldl (λD p=>(D*p.2).fdiv (c8 D p.2:Int)) D/\D∣pts.foldl (λD p=>(D*p.2).fdiv (c8 D p.2:Int)) D/\∀p∈pts,p.2∣pts.foldl (λD p=>(D*p.2).fdiv (c8 D p.2:Int)) D
 |[],D,h,_=>⟨h,Int.dvd_refl _,λp hp=>nomatch hp⟩
 |q::pts,D,h,hp=>by
  obtain⟨c1,c2,c3⟩:=zF9 h (hp q aR);obtain⟨i1,i2,i3⟩:=KR pts _ c1 λp hp'=>hp p (aK _ hp');refine⟨i1,mi c2 i2,λp hp'=>?_⟩;rcases a8.mp hp' with rfl|hp'
  ·exact mi c3 i2
  ·exact i3 p hp'
theorem zPR(h:∀p∈pts,0<p.2):0<yK pts:=(KR pts 1 (by decide) h).1
theorem zPQ(h:∀p∈pts,0<p.2)(hk:k<pts.length):(((yB pts).getD k 0:Int):Rat)=(yK pts:Rat)*zi pts k:=by
 obtain⟨D0,_,dv⟩:=KR pts 1 (by decide) h;have hm:=yJ (d:=(0,1)) hk;have p0:=h _ hm;obtain⟨c,hc⟩:=dv _ hm;unfold yB zi;rw[vE (d:=(0,1)) hk]
 have e:(yK pts).fdiv (pts.getD k (0,1)).2=c:=by rw[show yK pts=(pts.getD k (0,1)).2*c from hc];exact fV _ vU
 rw[e,show yK pts=(pts.getD k (0,1)).2*c from hc,bE,bE,<- jC p0];grind
theorem zKd(pts):(yB pts).length=pts.length:=by unfold yB;rw[aB]
noncomputable def Y8(count:Nat)(cs:List Nat)(xs:List Int):List Int:=(cs.zip xs).foldl (λns q=>if q.1<count then ns.set q.1 q.2 else ns) (aL count 0)
inductive ZU where
 |emp (ns:List Int)
 |mst (f:Int×Int) (D:Int) (ns:List Int) (pts:List (Int×Int))
 |opn (pts:List (Int×Int)) (way:List Int)
structure uU(F:Nat->Prop)(cs:List Nat)(n p:Nat):Prop where
 lt:p<n
 fit:F p
 least:∀k,k<n->F k->cs.getD p 0<=cs.getD k 0
theorem KS(F)(cs)(n):(∀k,k<n->¬F k)\/∃p,uU F cs n p:=by
 induction n with
 |zero=>exact .inl λk hk=>absurd hk (df k)
 |succ n ih=>
  by_cases fn:F n
  ·right;rcases ih with ih|⟨p,h1,h2,h3⟩
   ·exact⟨n,bW n,fn,λk hk fk=>by
     by_cases e:k=n
     ·rw[e];exact aJ _
     ·exact absurd fk (ih k (by omega))⟩
   ·by_cases le:cs.getD p 0<=cs.getD n 0
    ·exact⟨p,by exact yO,h2,λk hk fk=>by
      by_cases e:k=n
      ·rw[e];exact le
      ·exact h3 k (by omega) fk⟩
    ·exact⟨n,bW n,fn,λk hk fk=>by
      by_cases e:k=n
      ·rw[e];exact aJ _
      ·have:=h3 k (by omega) fk;omega⟩
  ·rcases ih with ih|⟨p,h1,h2,h3⟩
   ·exact .inl λk hk fk=>by
     by_cases e:k=n
     ·exact fn (e▸fk)
     ·exact ih k (by omega) fk
   ·exact .inr ⟨p,by exact yO,h2,λk hk fk=>by
     by_cases e:k=n
     ·exact absurd (e▸fk) fn
     ·exact h3 k (by omega) fk⟩
noncomputable def vh(y:Rat):Int:=if 0<y then 1 else -1
noncomputable def vF(rows:List (List Int))(cs:List Nat)(us:List Int)(p n:Nat):List (Int×Int):=yS (xD rows cs p (vh (YC rows n cs us p)) n) n
section
variable(rows:List (List Int))(n count:Nat)(us:List Int)
inductive qC:Nat->List Nat->ZU->Prop
 |mst {m:Nat} {cs:List Nat} (h:∀k,k<n->¬x9 rows n count us cs k):qC m cs (.mst (ze (z9 us (xo rows cs n)).1 (z9 us (xo rows cs n)).2,zJ (z9 us (xo rows cs n)).1 (z9 us (xo rows cs n)).2) (yK (zq rows cs us n)) (Y8 count cs (yB (zq rows cs us n))) (xo rows cs n))
 |opn {m:Nat} {cs:List Nat} {p:Nat} (h:uU (x9 rows n count us cs) cs n p) (no:∀k,k<count->¬0<VA rows n k (zi (vF rows cs us p n))):qC m cs (.opn (xo rows cs n) (yB (vF rows cs us p n)))
 |go {m:Nat} {cs:List Nat} {p r:Nat} {R:ZU} (h:uU (x9 rows n count us cs) cs n p) (M:vg rows n count (XC rows n cs) (zi (vF rows cs us p n)) r) (z:qC m (cs.set p r) R):qC (m+1) cs R
def kB(cs:List Nat)(r:Nat):Prop:=r<count/\BA rows n r<VA rows n r (XC rows n cs)/\∀i,i<r->VA rows n i (XC rows n cs)<=BA rows n i
noncomputable def turn(w:List (Int×Int)):List (Int×Int):=w.map λp=>(ze (-p.1) p.2,zJ (-p.1) p.2)
inductive qD:Nat->List Nat->ZU->Prop
 |done{m k:Nat} {cs:List Nat} {R:ZU} (h:Fe rows n count cs) (z:qC rows n count us k cs R):qD m cs R
 |emp {m:Nat} {cs:List Nat} {r:Nat} (h:kB rows n count cs r) (no:∀k,k<n->¬0<YC rows n cs (rows.getD r []) k):qD m cs (.emp (Y8 count (cs++[r]) (yB (turn (zq rows cs (rows.getD r []) n)++[(ze 1 1,zJ 1 1)]))))
 |go {m:Nat} {cs:List Nat} {p r:Nat} {R:ZU} (h:kB rows n count cs r) (l:uU (λk=>0<YC rows n cs (rows.getD r []) k) cs n p) (z:qD m (cs.set p r) R):qD (m+1) cs R
end
end Sh
namespace Sh
section
variable{rows:List (List Int)}{n count:Nat}{cs:List Nat}{us:List Int}
theorem Cr.wLen(C:Cr rows n cs)(us):(zq rows cs us n).length=n/\∀p∈zq rows cs us n,0<p.2:=⟨(g5 (C.sqW us) (C.detW us)).1,(g5 (C.sqW us) (C.detW us)).2.1⟩
theorem Cr.wayIs(C:Cr rows n cs)(hp:p<n):g9 rows n cs us p (zi (vF rows cs us p n)):=by
 refine⟨λk hk ne=>?_,?_⟩
 ·have z:=C.way p (vh (YC rows n cs us p)) hk;rw[if_neg (λe=>ne (C.inj hk hp e))]at z;exact z
 ·have z:=C.way p (vh (YC rows n cs us p)) hp;rw[if_pos rfl]at z;refine Eq.trans z ?_;unfold vh;split<;> rfl
theorem JO(lu:us.length=n)(q):yI us q=vl n us q:=by unfold yI vl;rw[lu]
theorem KT(lu:us.length=pts.length)(hp:∀p∈pts,0<p.2):0<(z9 us pts).2/\(((z9 us pts).1:Int):Rat)=yI us (zi pts)*(((z9 us pts).2:Int):Rat):=by
 obtain⟨h1,h2⟩:=zHS (zi pts) us pts (0,1) 0 lu hp (λj _=>by rw[cW];rfl) (by decide);refine⟨h1,h2.trans ?_⟩;show _=yI us (zi pts)*((((us.zip pts).foldl v9 (0,1)).2:Int):Rat)
 congr 1
 have z:zc (0,1)=0:=by
  refine JM (by decide) ?_;show((0:Int):Rat)=0*((1:Int):Rat)
  rw[k_];rfl
 rw[z,Rat.zero_add];exact xX λj _=>by rw[cW]
end
end Sh
namespace Sh
theorem zIO{a1 b1 a2 b2 a3 b3:Rat}(p1:0<b1)(p2:0<b2)(p3:0<b3)(h:a1*b2<a2*b1)(k:a2*b3<=a3*b2):a1*b3<a3*b1:=by
 apply bA;intro c;have c':a3*b1<=a1*b3:=by grind
 have x:=bP h p3;have y:=cr k (cK p1);have z:=cr c' (cK p2);grind
theorem KU(rows)(n)(x d):∀count,(∀k,k<count->¬0<VA rows n k d)\/∃r,vg rows n count x d r
 |0=>.inl λk hk=>absurd hk (df k)
 |c+1=>by
  by_cases p:0<VA rows n c d
  ·right;rcases KU rows n x d c with no|⟨r,h1,h2,h3,h4⟩
   ·exact⟨c,bW c,p,λk hk z=>absurd z (no k hk),λk hk z=>by
     by_cases e:k=c
     ·rw[e];exact fD
     ·exact absurd z (no k (by omega))⟩
   ·by_cases lt:(BA rows n c-VA rows n c x)*VA rows n r d<(BA rows n r-VA rows n r x)*VA rows n c d
    ·have all:∀k,k<c->0<VA rows n k d->(BA rows n c-VA rows n c x)*VA rows n k d<(BA rows n k-VA rows n k x)*VA rows n c d:=λk hk z=>zIO p h2 z lt (h4 k hk z)
     exact⟨c,bW c,p,all,λk hk z=>by
      by_cases e:k=c
      ·rw[e];exact fD
      ·exact cK (all k (by omega) z)⟩
    ·exact⟨r,by exact yO,h2,h3,λk hk z=>by
      by_cases e:k=c
      ·rw[e];grind
      ·exact h4 k (by omega) z⟩
  ·rcases KU rows n x d c with no|⟨r,h1,h2,h3,h4⟩
   ·exact .inl λk hk z=>by
     by_cases e:k=c
     ·exact p (e▸z)
     ·exact no k (by omega) z
   ·exact .inr ⟨r,by exact yO,h2,h3,λk hk z=>by
     by_cases e:k=c
     ·exact absurd (e▸z) p
     ·exact h4 k (by omega) z⟩
theorem zIE(P:Nat->Prop):∀c,(∀i,i<c->¬P i)\/∃r,r<c/\P r/\∀i,i<r->¬P i
 |0=>.inl λk hk=>absurd hk (df k)
 |c+1=>by
  rcases zIE P c with no|⟨r,h1,h2,h3⟩
  ·grind
  ·exact .inr ⟨r,by exact yO,h2,h3⟩
section
variable{rows:List (List Int)}{n count:Nat}{us:List Int}
theorem zIR{S:List Nat->List Nat->Prop}{B:Nat->List Nat}(hS:∀a b,S a b->Cr rows n a/\Cr rows n b)(h:∀t,t<m->S (B t) (B (t+1)))(m0:0<m):∀t,t<=m->(B t).length=n/\∀i∈B t,i<rows.length:=λt ht=>by
 have C:Cr rows n (B t):=by
  by_cases e:t<m
  ·exact(hS _ _ (h t e)).1
  ·have z:=(hS _ _ (h (t-1) (by omega))).2;rw[show t-1+1=t by omega]at z;exact z
 exact⟨C.len,C.lt⟩
theorem zNF(hc:count<=rows.length)(cs):Cr rows n cs->Fe rows n count cs->∃m R,qC rows n count us m cs R:=by
 refine Y7 (λcs cs'=>(Cr rows n cs/\Cr rows n cs')/\∃q:(Nat->Rat)×Nat×Nat×(Nat->Rat)×Rat,Bl.CStep (VA rows n) (BA rows n) (vl n us) count cs cs' (XC rows n cs) (XC rows n cs') q.1 q.2.1 q.2.2.1 q.2.2.2.1 q.2.2.2.2) (rows.length^n+1) (λB m h=>?_)
  (P:=λcs=>Cr rows n cs->Fe rows n count cs->∃m R,qC rows n count us m cs R) (λcs ih C F=>?_) cs
 ·by_cases m0:0<m
  ·have F:∀t,∃q:(Nat->Rat)×Nat×Nat×(Nat->Rat)×Rat,t<m->Bl.CStep (VA rows n) (BA rows n) (vl n us) count (B t) (B (t+1)) (XC rows n (B t)) (XC rows n (B (t+1))) q.1 q.2.1 q.2.2.1 q.2.2.2.1 q.2.2.2.2:=λt=>by
    by_cases e:t<m
    ·obtain⟨q,hq⟩:=(h t e).2;exact⟨q,λ_=>hq⟩
    ·exact⟨(λ_=>0,0,0,λ_=>0,0),λz=>absurd z e⟩
   obtain⟨f,hf⟩:=fZ F;have:=Bl.climb_few (B:=B) (x:=λt=>XC rows n (B t)) (d:=λt=>(f t).1) (p:=λt=>(f t).2.1) (r:=λt=>(f t).2.2.1) (y:=λt=>(f t).2.2.2.1) (s:=λt=>(f t).2.2.2.2) (N:=rows.length) (n:=n) hf (zIR (S:=λa b=>Cr rows n a/\Cr rows n b) (λa b z=>z) (λt ht=>(h t ht).1) m0);exact yO
  ·omega
 ·rcases KS (x9 rows n count us cs) cs n with no|⟨p,L⟩
  ·exact⟨0,_,.mst no⟩
  ·have W:=C.wayIs (us:=us) L.lt;rcases KU rows n (XC rows n cs) (zi (vF rows cs us p n)) count with no|⟨r,M⟩
   ·exact⟨0,_,.opn L no⟩
   ·have C':=(KP C hc L.lt W M.lt M.up).1;obtain⟨s,st⟩:=zI1 C F hc L.lt L.fit L.least W M;obtain⟨m,R,h1⟩:=ih _ ⟨⟨C,C'⟩,(_,_,_,_,_),st⟩ C' (zNG C F hc L.lt W M);exact⟨m+1,R,.go L M h1⟩
theorem zPT(hc:count<=rows.length)(cs):Cr rows n cs->∃m R,qD rows n count us m cs R:=by
 refine Y7 (λcs cs'=>(Cr rows n cs/\Cr rows n cs')/\∃q:Nat×Nat×(Nat->Rat),Bl.FStep (VA rows n) (BA rows n) count cs cs' (XC rows n cs) q.1 q.2.1 q.2.2) (rows.length^n+1) (λB m h=>?_)
  (P:=λcs=>Cr rows n cs->∃m R,qD rows n count us m cs R) (λcs ih C=>?_) cs
 ·by_cases m0:0<m
  ·have F:∀t,∃q:Nat×Nat×(Nat->Rat),t<m->Bl.FStep (VA rows n) (BA rows n) count (B t) (B (t+1)) (XC rows n (B t)) q.1 q.2.1 q.2.2:=λt=>by
    by_cases e:t<m
    ·obtain⟨q,hq⟩:=(h t e).2;exact⟨q,λ_=>hq⟩
    ·exact⟨(0,0,λ_=>0),λz=>absurd z e⟩
   obtain⟨f,hf⟩:=fZ F;have:=Bl.feas_few (B:=B) (x:=λt=>XC rows n (B t)) (p:=λt=>(f t).1) (r:=λt=>(f t).2.1) (w:=λt=>(f t).2.2) (N:=rows.length) (n:=n) hf (zIR (S:=λa b=>Cr rows n a/\Cr rows n b) (λa b z=>z) (λt ht=>(h t ht).1) m0);exact yO
  ·omega
 ·rcases zIE (λi=>BA rows n i<VA rows n i (XC rows n cs)) count with no|⟨r,r1,r2,r3⟩
  ·have F:Fe rows n count cs:=λi hi=>by
    have:=no i hi;grind
   obtain⟨k,R,h1⟩:=zNF hc cs C F;exact⟨0,R,.done F h1⟩
  ·have FB:kB rows n count cs r:=⟨r1,r2,λi hi=>by
    have:=r3 i hi;grind⟩
   rcases KS (λk=>0<YC rows n cs (rows.getD r []) k) cs n with no|⟨p,L⟩
   ·exact⟨0,_,.emp FB no⟩
   ·have w0:YC rows n cs (rows.getD r []) p≠0:=λz=>by
     have:=L.fit;rw[z]at this;exact absurd this d6
    have C':=C.exch L.lt jy w0;obtain⟨m,R,h1⟩:=ih _ ⟨⟨C,C'⟩,(_,_,_),zK7 C hc r1 r2 FB.2.2 L.lt L.fit L.least⟩ C';exact⟨m+1,R,.go FB L h1⟩
end
end Sh
namespace Sh
def vj(rows:List (List Int))(n count:Nat)(us:List Int)(cs:List Nat)(k:Nat):Prop:=count<=cs.getD k 0/\YC rows n cs us k≠0
open Classical in
noncomputable def FC(rows:List (List Int))(n count:Nat):Nat->List Nat
 |0=>(aI n).map λk=>count+k
 |i+1=>if h:∃p,uU (vj rows n count (rows.getD i []) (FC rows n count i)) (FC rows n count i) n p then(FC rows n count i).set (Classical.choose h) i else FC rows n count i
structure jD(rows:List (List Int))(n count:Nat):Prop where
 n1:1<=n
 n3:n<=2
 row:∀r∈rows,r.length=n+1
 len:rows.length=count+n
 ax:∀k,k<n->∀j,j<n->(rows.getD (count+k) []).getD j 0=if j=k then 1 else 0
section
variable{rows:List (List Int)}{n count:Nat}
theorem zPi(h:jD rows n count):Cr rows n (FC rows n count 0):=by
 have n1:=h.n1;have n3:=h.n3
 have hl:(FC rows n count 0).length=n:=by show((aI n).map λk=>count+k).length=n;rw[aB,aM]
 refine⟨n1,n3,h.row,hl,λc hc=>?_,?_⟩
 ·have hc':c∈(aI n).map λk=>count+k:=hc;obtain⟨k,hk,e⟩:=aG.mp hc';have:=bj.mp hk;have:=h.len;omega
 ·rw[ZR,show(yy rows (FC rows n count 0)).length=n by unfold yy;rw[aB,hl],ZS (g:=λq j=>if j=q then 1 else 0) n1 n3 λq j hq hj=>?_]
  ·rcases(by omega:n=1\/n=2\/n=3)with rfl|rfl|rfl <;> decide
  ·unfold yy;rw[vE (d:=0) (by rw[hl];exact hq)];show(rows.getD (((aI n).map λk=>count+k).getD q 0) []).getD j 0=_;rw[qB hq];exact h.ax q hq j hj
theorem uU.one(C:Cr rows n cs)(h:uU F cs n p)(k:uU F cs n q):p=q:=C.inj h.lt k.lt (Nat.le_antisymm (h.least q k.lt k.fit) (k.least p h.lt h.fit))
open Classical in
theorem zLA(i)(C:Cr rows n (FC rows n count i))(h:uU (vj rows n count (rows.getD i []) (FC rows n count i)) (FC rows n count i) n p):FC rows n count (i+1)=(FC rows n count i).set p i:=by
 have ex:∃p,uU (vj rows n count (rows.getD i []) (FC rows n count i)) (FC rows n count i) n p:=⟨p,h⟩
 show(if h:_ then _ else _)=_;rw[dif_pos ex,uU.one C (ig ex) h]
open Classical in
theorem KW(i)(h:∀k,k<n->¬vj rows n count (rows.getD i []) (FC rows n count i) k):FC rows n count (i+1)=FC rows n count i:=by show(if h:_ then _ else _)=_;rw[dif_neg λ⟨p,z⟩=>h p z.lt z.fit]
theorem JP(h:jD rows n count):∀i,i<=count->Cr rows n (FC rows n count i)
 |0,_=>zPi h
 |i+1,hi=>by
  have C:=JP h i xQ;have hl:=h.len;rcases KS (vj rows n count (rows.getD i []) (FC rows n count i)) (FC rows n count i) n with no|⟨p,L⟩
  ·rw[KW i no];exact C
  ·rw[zLA i C L];exact C.exch L.lt (by omega) L.fit.2
theorem zK9(h:∀k,k<n->¬count<=(FC rows n count i).getD k 0):∀j,FC rows n count (i+j)=FC rows n count i
 |0=>rfl
 |j+1=>by
  have z:=zK9 h j
  have e:=KW (rows:=rows) (n:=n) (count:=count) (i+j) λk hk f=>h k hk (by have:=f.1;rw[z]at this;exact this)
  show FC rows n count (i+j+1)=_;rw[e,z]
theorem zMn(h:jD rows n count):∃m R,qD rows n count us m (FC rows n count count) R:=zPT (by have:=h.len;omega) _ (JP h count (aJ _))
end
end Sh
namespace L2
open PySem PySem.Spec PyProof.Rows
def ww(t:Bool)(K:aH)(H:Hp)(a:Addr)(xs:List V):Prop:=match t with
 |true=>yZ K H a xs
 |false=>zW K H a xs
def uj(t:Bool)(h:Heap)(a:Addr)(its:Array Value):Prop:=match t with
 |true=>h.IsTuple a its
 |false=>h.IsList a its
def jj(t:Bool)(h:Heap)(i a:Addr)(n:Nat):Prop:=match t with
 |true=>h.IsTupleIter i a n
 |false=>h.IsListIter i a n
noncomputable def KY(t:Bool)(a:Addr):Obj:=match t with
 |true=>{cls:=.type "tuple_iterator",data:=.fields #[.ref a,.int 0 0]}
 |false=>{cls:=.type "list_iterator",data:=.fields #[.ref a,.int 0 0]}
section
variable{X:Cx}{pins:List (Addr×Obj)}{σ:St}{H:Hp}{s:Shared}{a i:Addr}{xs ys:List V}{h h':Heap}{n:Nat}{its:Array Value}{prog:Program}{w:World}{A:Around}{E:Value->Shared->Prop}
theorem Y9:∀{t:Bool},jj t h i a n->∃o,h.get? i=some o/\∀v,o.data≠.cell v
 |true,⟨o,e,_,d⟩=>⟨o,e,by rw[d];exact gm⟩
 |false,⟨o,e,_,d⟩=>⟨o,e,by rw[d];exact gm⟩
theorem XA(k:∀o,h.get? i=some o->h'.get? i=some o):∀{t:Bool},jj t h i a n->jj t h' i a n
 |true,⟨o,e,r⟩=>⟨o,k o e,r⟩
 |false,⟨o,e,r⟩=>⟨o,k o e,r⟩
theorem zOI(k:∀o,h.get? a=some o->h'.get? a=some o):∀{t:Bool},uj t h a its->uj t h' a its
 |true,⟨o,e,r⟩=>⟨o,k o e,r⟩
 |false,⟨o,e,r⟩=>⟨o,k o e,r⟩
theorem zSJ:∀{t:Bool},uj t h a its->a<h.objs.size
 |true,⟨_,e,_⟩=>aX e
 |false,⟨_,e,_⟩=>aX e
theorem XB(e:h.get? i=some (KY t a)):jj t h i a 0:=by
 cases t
 ·exact⟨_,e,rfl,rfl⟩
 ·exact⟨_,e,rfl,rfl⟩
theorem XD:(KY t a).isFreed=false:=by cases t <;> rfl
theorem KZ(I:zB X pins σ H s):∀{t:Bool},ww t X.K H a xs->∃its,zC xs its/\uj t s.heap a its.toArray
 |true,q=>let ⟨its,r,p,_⟩:=I.tuple q;⟨its,r,p⟩
 |false,q=>let ⟨its,r,p,_⟩:=I.list q;⟨its,r,p.isList⟩
theorem zOl(I:zB X pins σ H s):∀{t:Bool},ww t X.K H a xs->ww t X.K H a ys->xs=ys
 |true,q,r=>I.tuple_inj q r
 |false,q,r=>I.list_inj q r
theorem zSq(hh:A.handled=none)(hne:a≠i)(its):∀t,Draws prog w A i [i,a] its.size (λn v=>its[n]? =some v) (λn h=>jj t h i a n/\uj t h a its)
 |true=>zLE hh i a hne its
 |false=>Draws.list hh i a hne its
theorem XE:∀{t:Bool},uj t s.heap a its->Q (.ref s.heap.objs.size) {s with heap:=s.heap.push (KY t a)}->wpAny (model prog w) A (pyIter (.ref a)) Q E s
 |true,q,r=>wpAny_pyIter_tuple q r
 |false,q,r=>wpAny_pyIter_list q r
end
end L2
namespace L2
open PySem PySem.Spec PyProof.Rows Sh
structure xP where
 t:Bool
 i:Addr
 a:Addr
 its:Array Value
abbrev xP.At(x:xP)(k:Nat)(h:Heap):Prop:=jj x.t h x.i x.a k/\uj x.t h x.a x.its
abbrev yU(h:Heap)(T:Addr)(vs:List Value):Prop:=h.get? T=some {cls:=.type "tuple",data:=.seq vs.toArray}
noncomputable abbrev vG(ss:List xP):List Value:=ss.map λx=>.ref x.i
structure Zn(z TI TO:Addr)(ss:List xP):Prop where
 zI:TI≠z
 zO:TO≠z
 IO:TI≠TO
 iz:∀x∈ss,x.i≠z/\x.i≠TI/\x.i≠TO
 ap:∀x∈ss,x.a≠z/\x.a≠TO/\∀y∈ss,x.a≠y.i
 nd:(ss.map xP.i).Nodup
section
variable{prog:Program}{w:World}{A:Around}{E:Value->Shared->Prop}{s:Shared}{z TI TO:Addr}{ss:List xP}{n:Nat}
theorem xP.At.fr{x:xP}(p:x.At k h)(f:∀c,(c=x.i\/c=x.a)->∀o,h.get? c=some o->h'.get? c=some o):x.At k h':=⟨XA (f _ (.inl rfl)) p.1,zOI (f _ (.inr rfl)) p.2⟩
theorem Ka{α β:Type}{f:α->β->Sem (ForInStep β)}{Q:β->Shared->Prop}(Iv:List α->β->Shared->Prop)(step:∀x r b s,Iv (x::r) b s->wpAny (model prog w) A (f x b) (λy s'=>match y with| .yield b'=>Iv r b' s'| .done b'=>Q b' s') E s)(hd:∀b s,Iv [] b s->Q b s):∀(l:List α)(b:β)(s:Shared),Iv l b s->wpAny (model prog w) A (forIn l b f) Q E s
 |[],b,s,h=>by rw[l_];exact wpAny_pure (hd b s h)
 |x::r,b,s,h=>by
  rw[lY];refine wpAny_bind (zf (step x r b s h) λy s1 k=>?_);cases y with
  |done b'=>exact wpAny_pure k
  |yield b'=>exact Ka Iv step hd r b' s1 k
theorem zOv{T k:Nat}(l:vs.length<=9)(hT:yU s.heap T vs)(h:∀g,yU g T (vs.set k x)->Heap.SameBut T s.heap g->Q () {s with heap:=g}):wpAny (model prog w) A (updateSeq T (·.setIfInBounds k x)) Q E s:=wpAny_updateSeq hT rfl (h _ (by unfold yU;rw[ff _ hT rfl];simp[Obj.mapSeq]) (Heap.SameBut.update ..)) (by rw[aY];exact bI l (by decide)) (by rw[Array.size_setIfInBounds,aY];exact bI l (by decide))
structure Zi(z TI TO:Addr)(ss:List xP)(n:Nat)(vs0:List Value)(s:Shared)(pre suf:List xP)(vs:List Value)(g:Heap):Prop where
 sp:ss=pre++suf
 hv:Paired (λ(x:xP) v=>x.its[n]? =some v) pre vs
 hz:IsZip g z TI TO .ellipsis
 ho:yU g TO (vs++vs0.drop pre.length)
 hp:∀x∈pre,x.At (n+1) g
 hq:∀x∈suf,x.At n g
 fr:∀c o,c≠z->c≠TO->(∀x∈ss,c≠x.i)->s.heap.get? c=some o->g.get? c=some o
 sz:g.objs.size=s.heap.objs.size
theorem zLs{Q:Value->Shared->Prop}(hh:A.handled=none)(Z:Zn z TI TO ss)(ne:ss≠[])(hz:IsZip s.heap z TI TO .none)(hI:yU s.heap TI (vG ss))(hO:yU s.heap TO vs0)(l0:vs0.length=ss.length)(few:ss.length<=9)(hs:∀x∈ss,x.At n s.heap/\n<=x.its.size)
  (hQ:∀vs h' tk,Paired (λ(x:xP) v=>x.its[n]? =some v) ss vs->IsZip h' z TI TO (rawInt s.heap.objs.size)->yU h' TI (vG ss)->yU h' TO vs->(∀x∈ss,x.At (n+1) h')->yU h' s.heap.objs.size vs->(∀c o,c≠z->c≠TO->(∀x∈ss,c≠x.i)->s.heap.get? c=some o->h'.get? c=some o)->Q (.ref s.heap.objs.size) {s with heap:=h',toks:=tk})
  (hE:(∃x∈ss,n=x.its.size)->∀h' e tk,(∀c o,c≠z->c≠TO->(∀x∈ss,c≠x.i)->s.heap.get? c=some o->h'.get? c=some o)->(∃o,h'.get? e=some o/\o.cls=.type "StopIteration")->E (.ref e) {s with heap:=h',toks:=tk}):
  wpAny (model prog w) A (Builtin.«zip.__next__» ⟨[.ref z],[]⟩) (λfin s'=>∃v,fin=.done (.ret v)/\Q v s') E s:=by
 change wpAny _ _ (field (.ref z) 2>>= _) _ _ _;refine wpAny_bind (wpAny_field hz rfl (x:=.bool false) rfl ?_);change wpAny _ _ (field (.ref z) 3>>= _) _ _ _;refine wpAny_bind (wpAny_field hz rfl (x:=.ref TI) rfl ?_);refine wpAny_bind (wpAny_seqItems hI rfl ?_);have em:(vG ss).toArray.isEmpty=false:=by cases ss with|nil=>exact absurd rfl ne|cons=>rfl
 dsimp only;rw[em];change wpAny _ _ (Builtin.SmallTypes.ownedTupleIsFree (.ref z)>>= _) _ _ _;refine wpAny_bind ?_;unfold Builtin.SmallTypes.ownedTupleIsFree;refine wpAny_bind (wpAny_field hz rfl (x:=.none) rfl (wpAny_pure ?_));simp only[if_true];refine wpAny_bind (wpAny_rule ?_);refine wpAny_bind (wpAny_field hz rfl (x:=.ref TO) rfl ?_);refine wpAny_bind (wpAny_setField_rec hz (by simp) λg1 z1 m1=>?_);replace z1:IsZip g1 z TI TO .ellipsis:=z1;have ext1:∀c o,c≠z->s.heap.get? c=some o->g1.get? c=some o:=λc o k e=>m1.extBut c o k e;refine wpAny_bind ?_;refine Ka (λl b s'=>∃pre suf vs g tk,l=(vG suf).zipIdx pre.length/\b=⟨none,⟨⟩⟩/\s'={s with heap:=g,toks:=tk}/\Zi z TI TO ss n vs0 s pre suf vs g) ?_ ?_ _ _ _ ⟨[],ss,[],g1,s.toks,by simp,rfl,rfl,rfl,.nil,z1,ext1 _ _ Z.zO hO,λ_ h=>(nomatch h),λx hx=>(hs x hx).1.fr λc hc o e=>ext1 c o (hc.elim (λq=>q▸(Z.iz x hx).1) λq=>q▸(Z.ap x hx).1) e,λc o c1 _ _ e=>ext1 c o c1 e,m1.1⟩
 ·rintro⟨v,k⟩ r b s' ⟨pre,suf,vs,g,tk,e1,rfl,rfl,I⟩;cases suf with
  |nil=>cases e1
  |cons x suf=>
  cases(show(v,k)::r=(Value.ref x.i,pre.length)::(vG suf).zipIdx (pre.length+1)from e1);have xm:x∈ss:=by rw[I.sp];simp
  obtain⟨xz,xI,xO⟩:=Z.iz x xm;have D:=zSq (prog:=prog) (w:=w) hh ((Z.ap x xm).2.2 x xm) x.its x.t;have q:=I.hq x aR;refine wpAny_bind (wpAny_onRaise ?_);change wpAny _ _ (Builtin.SmallTypes.nextOf (.ref x.i)>>= _) _ _ _;by_cases c:n=x.its.size
  ·refine wpAny_bind (D.done _ _ _ (c▸q) λg2 e m2 he=>?_);obtain⟨oe,he1,he2⟩:=he;have z2:IsZip g2 z TI TO .ellipsis:=m2 _ _ xz.symm I.hz;have nez:e≠z:=λq=>by subst q;rw[z2]at he1;cases he1;simp at he2
   exact wpAny_setField_rec z2 (by simp) λg3 _ m3=>hE ⟨x,xm,c⟩ g3 e _ (λc o c1 c2 c3 q=>m3.extBut _ _ c1 (m2 _ _ (c3 x xm) (I.fr c o c1 c2 c3 q))) ⟨oe,m3.extBut _ _ nez he1,he2⟩
  have lp:pre.length=vs.length:=Paired.length I.hv;have ls:ss.length=pre.length+(suf.length+1):=by rw[I.sp];simp
  refine wpAny_bind (D.item n _ _ _ (by have:=(hs x xm).2;omega) q λy g2 t2 py s2 m2=>wpAny_pure ?_);have o2:=m2.extBut _ _ xO.symm I.ho;refine wpAny_bind (wpAny_seqItems o2 rfl ?_);refine wpAny_bind (zOv (by rw[aF,cc];omega) o2 λg3 o3 m3=>?_);refine wpAny_bind (wpAny_letGo (wpAny_pure ?_));have f3:∀c o,c≠x.i->c≠TO->g.get? c=some o->g3.get? c=some o:=λc o c1 c2 e=>m3.extBut _ _ c2 (m2.extBut _ _ c1 e);have nd:=Z.nd;rw[I.sp,aS,bg,iZ]at nd;obtain⟨_,n2,n3⟩:=nd;have old:∀{y:xP}{k:Nat},y∈ss->y.i≠x.i->y.At k g->y.At k g3:=λ{y k} m d p=>p.fr λc hc o e=>f3 c o (hc.elim (λq=>q▸d) λq=>q▸(Z.ap y m).2.2 x xm) (hc.elim (λq=>q▸(Z.iz y m).2.2) λq=>q▸(Z.ap y m).2.1) e;refine⟨pre++[x],suf,vs++[y],g3,t2,by rw[aF];rfl,rfl,rfl,by rw[I.sp];simp,ZN (R:=λ(x:xP) v=>x.its[n]? =some v) py I.hv,f3 _ _ xz.symm Z.zO.symm I.hz,?_,λy m=>?_,λy m=>?_,λc o c1 c2 c3 e=>f3 c o (c3 x xm) c2 (I.fr c o c1 c2 c3 e),m3.1.trans (m2.1.trans I.sz)⟩
  ·rw[lp,ik _ _ (aJ _),dE,dw (by omega)]at o3;rw[aF,lp,cv];exact o3
  ·rcases be.mp m with m|m
   ·exact old (by rw[I.sp];exact cQ _ m) (n3 _ (cV m) _ aR) (I.hp y m)
   ·rw[a6.mp m];exact xP.At.fr (x:=x) s2 λc hc o e=>m3.extBut _ _ (hc.elim (λq=>q▸xO) λq=>q▸(Z.ap x xm).2.1) e
  ·exact old (by rw[I.sp];exact aU _ (aK _ m)) (λe=>(dU.mp n2).1 (e▸cV m)) (I.hq y (aK _ m))
 ·rintro b s' ⟨pre,suf,vs,g,tk,e1,rfl,rfl,I⟩;cases suf with
  |cons x suf=>cases e1
  |nil=>
  have sp:=I.sp;rw[cH]at sp;subst sp;have o5:=I.ho;rw[eS wc,cH]at o5;refine wpAny_bind (wpAny_seqItems o5 rfl ?_);have lv:vs.length<=9:=by rw[<- Paired.length I.hv];exact few
  refine wpAny_bind (wpAny_newTuple ?_ (by rw[List.toList_toArray];exact bI lv (by decide)));have lt:z<g.objs.size:=aX I.hz;change wpAny _ _ (Builtin.SmallTypes.ownedTupleHandOut (.ref z) (.ref g.objs.size)>>= _) _ _ _;refine wpAny_bind ?_;unfold Builtin.SmallTypes.ownedTupleHandOut;have z6:IsZip (g.push {cls:=.type "tuple",data:=.seq vs.toArray}) z TI TO .ellipsis:=aO _ I.hz;refine wpAny_bind (wpAny_setField_rec z6 (by simp) λg7 z7 m7=>?_);replace z7:IsZip g7 z TI TO (rawInt g.objs.size):=z7;refine wpAny_setField_rec z7 (by simp) λg8 z8 m8=>?_;replace z8:IsZip g8 z TI TO (rawInt g.objs.size):=z8;have up:∀c o,c≠z->g.get? c=some o->g8.get? c=some o:=λc o c1 e=>m8.extBut _ _ c1 (m7.extBut _ _ c1 (aO _ e));have T8:yU g8 g.objs.size vs:=m8.extBut _ _ (eC lt) (m7.extBut _ _ (eC lt) (a_ _ rfl));rw[I.sz]at z8 T8;refine wpAny_pure ⟨_,rfl,?_⟩;change Q (.ref g.objs.size) _;rw[I.sz];exact hQ vs g8 _ I.hv z8 (up _ _ Z.zI (I.fr _ _ Z.zI Z.IO (λx m=>(Z.iz x m).2.1.symm) hI)) (up _ _ Z.zO o5) (λx m=>(I.hp x m).fr λc hc o e=>up c o (hc.elim (λq=>q▸(Z.iz x m).1) λq=>q▸(Z.ap x m).1) e) T8 λc o c1 c2 c3 e=>up c o c1 (I.fr c o c1 c2 c3 e)
theorem zHN(hh:A.in1.handled=none)(Z:Zn z TI TO ss)(ne:ss≠[])(hz:IsZip s.heap z TI TO .none)(hI:yU s.heap TI (vG ss))(hO:yU s.heap TO vs0)(l0:vs0.length=ss.length)(few:ss.length<=9)(hs:∀x∈ss,x.At n s.heap/\n<=x.its.size)
  (hQ:∀vs h' tk,Paired (λ(x:xP) v=>x.its[n]? =some v) ss vs->IsZip h' z TI TO (rawInt s.heap.objs.size)->yU h' TI (vG ss)->yU h' TO vs->(∀x∈ss,x.At (n+1) h')->yU h' s.heap.objs.size vs->(∀c o,c≠z->c≠TO->(∀x∈ss,c≠x.i)->s.heap.get? c=some o->h'.get? c=some o)->Q (some (.ref s.heap.objs.size)) {s with heap:=h',toks:=tk})
  (hE:(∃x∈ss,n=x.its.size)->∀h' tk,(∀c o,c≠z->c≠TO->(∀x∈ss,c≠x.i)->s.heap.get? c=some o->h'.get? c=some o)->Q none {s with heap:=h',toks:=tk}):
  wpAny (model prog w) A (pyNext (.ref z)) Q E s:=by
 have ty:s.TypeIs (.ref z) "zip":=⟨_,hz,rfl⟩
 unfold pyNext
 refine wpAny_bind (wpAny_attempt (wpAny_callSpecial?_slot (name:=bZ "__next__") ty F.slot_zip_next (wpAny_call_entry F.slot_zip_next ty F.entry_zip_next
  (zLs hh Z ne hz hI hO l0 few hs (λvs h' tk c1 c2 c3 c4 c5 c6 c7=>wpAny_pure (hQ vs h' tk c1 c2 c3 c4 c5 c6 c7)) λx h' e tk keep he=>?_) (F.args_zip_next_1 _))))
 obtain⟨o,ho,hc⟩:=he;refine wpAny_bind (wpAny_isInstance (T:="StopIteration") (b:=true) ⟨o,ho,hc⟩ isSubtype_stop ?_);exact wpAny_pure (hE x _ _ keep)
end
noncomputable def jk(h:Heap)(a:Addr):Array Value:=match(h.get? a).map Obj.data with
 |some (.seq its _)=>its
 |_=>#[]
theorem zKz:∀{t:Bool},uj t h a its->jk h a=its
 |true,⟨o,e,_,n,d⟩=>by unfold jk;rw[e,dX,d]
 |false,⟨o,e,_,n,d⟩=>by unfold jk;rw[e,dX,d]
noncomputable abbrev kC(h:Heap)(x:xP):xP:={x with its:=jk h x.a}
theorem Zn.fill{z TI TO:Addr}(Z:Zn z TI TO ki)(h):Zn z TI TO (ki.map (kC h)) where
 zI:=Z.zI
 zO:=Z.zO
 IO:=Z.IO
 iz:=λx m=>by obtain⟨y,my,rfl⟩:=aG.mp m;exact Z.iz y my
 ap:=λx m=>by obtain⟨y,my,rfl⟩:=aG.mp m;exact⟨(Z.ap y my).1,(Z.ap y my).2.1,λx' m'=>by obtain⟨y',my',rfl⟩:=aG.mp m';exact(Z.ap y my).2.2 y' my'⟩
 nd:=by rw[aQ];exact Z.nd
noncomputable abbrev jE(ki:List xP):List (Bool×Addr):=ki.map λx=>(x.t,x.a)
noncomputable abbrev kD(z TI TO:Addr)(ki:List xP):List Addr:=z::TI::TO::ki.map xP.i
theorem zJM{i:Nat}:∀{ki:List xP}{us:List Value},(∀x∈ki,∃v u,S (x.t,x.a) v/\(f x).its[i]? =some u/\zM v u)->Paired (λ(x:xP) v=>x.its[i]? =some v) (ki.map f) us->∃vs,zC vs us/\Paired S (jE ki) vs
 |[],_,_,.nil=>⟨[],.nil,.nil⟩
 |x::ki,u::us,h,.cons e t=>by
  obtain⟨vs,a,b⟩:=zJM (λy m=>h y (aK _ m)) t;obtain⟨v,u',s,e',r⟩:=h x aR;cases e.symm.trans e';exact⟨v::vs,.cons r a,.cons s b⟩
theorem JQ{α β:Type}{R:α->β->Prop}:∀{xs:List α}{ys:List β},Paired R xs ys->∀x∈xs,∃y,R x y
 |_,_,.nil,_,m=>nomatch m
 |_,_,.cons h t,x,m=>(a8.mp m).elim (λe=>e▸⟨_,h⟩) (JQ t x)
theorem zB.turnM{σ:St}{ch:List Addr}{T:Addr}(I:zB X pins σ H s)(hf:∀b∈ch,yP X pins H b)(keep:∀b o,b∉ch->s.heap.get? b=some o->h'.get? b=some o)
  (hT:s.heap.objs.size<=T) (p:yU h' T us) (r:zC vs us) (l:vs.length<=9):zB X pins σ (zV H T (.tup vs)) {s with heap:=h',toks:=tk}:=by
 have fr:H T=none:=I.hok.fresh hT;have nT:∀b o,s.heap.get? b=some o->b≠T:=λb o e z=>by rw[z]at e;exact absurd (a9 (aX e) hT) (bU _)
 have uL:∀b o,H b=some o->b∉ch:=λb o e z=>by rw[(hf b z).1]at e;cases e
 refine I.step (ch:=ch) (λb hb=>⟨(hf b hb).2.2.2.1,(hf b hb).2.1,(hf b hb).2.2.2.2.1,(hf b hb).2.2.2.2.2⟩) (λb o _ _ hc e _=>keep b o hc e) (λb o _ _ hc e _=>⟨o.slots,keep b o hc e⟩)
  (λb o _ e n=>by rw[zu (nT b o e)];exact n) (λb o hc e=>⟨o,keep b o hc e⟩) (λb xs e=>by rw[zu (xT e fr)];exact e) (λb o w e=>by rw[zu (xT e fr)];exact e)
  (λb ps e=>⟨#[],by rw[zu (xT e fr),e];simp⟩) (λm hm=>?_) (λb w e=>?_) I.bare
 ·obtain⟨o,es,ep,ho,r⟩:=hm;exact⟨o,es,ep,keep _ o (λz=>(hf _ z).2.1 rfl) ho,r⟩
 ·by_cases hb:b=T
  ·subst hb;rw[xS]at e;cases e;exact⟨bI l (by decide),us,r,⟨_,p,rfl,_,rfl⟩⟩
  ·rw[zu hb]at e;refine(I.hok b w e).stay (λc q hc ec=>keep c q ?_ ec) (λc ec=>by rw[zu (xT ec fr)];exact ec) λc xs ec=>by rw[zu (xT ec fr)];exact ec
   rcases hc with z|z
   ·rw[z];exact uL b w e
   ·exact uL c _ z
noncomputable def JR(ka:List (Bool×Addr))(K:aH):It:=
 ⟨λi H=>∀p∈ka,∃xs v,ww p.1 K H p.2 xs/\xs[i]? =some v,
  λi H v H'=>∃T vs,v=.ref T/\H T=none/\H'=zV H T (.tup vs)/\Paired (λp v=>∀xs,ww p.1 K H p.2 xs->xs[i]? =some v) ka vs,
  λi H=>(∀p∈ka,∃xs,ww p.1 K H p.2 xs/\i<=xs.length)/\∃p∈ka,∃xs,ww p.1 K H p.2 xs/\i=xs.length⟩
theorem zJW{K:aH}{tp:Pos}{z TI TO:Addr}(Z:Zn z TI TO ki)(ne:ki≠[])(few:ki.length<=9):
  w4 P w K (.Tuple es kk tp) (JR (jE ki) K) (kD z TI TO ki) z (λi h=>IsZip h z TI TO .none/\yU h TI (vG ki)/\(∃vs,vs.length=ki.length/\yU h TO vs)/\∀x∈ki,jj x.t h x.i x.a i):=by
 have ob:∀{i h},(IsZip h z TI TO .none/\yU h TI (vG ki)/\(∃vs,vs.length=ki.length/\yU h TO vs)/\∀x∈ki,jj x.t h x.i x.a i)->∀c∈kD z TI TO ki,∃o,h.get? c=some o/\∀v,o.data≠.cell v:=λ{i h} ⟨t1,t2,⟨vs,_,t3⟩,t4⟩ c hc=>by
  rcases a8.mp hc with rfl|hc
  ·exact⟨_,t1,gm⟩
  rcases a8.mp hc with rfl|hc
  ·exact⟨_,t2,zDk⟩
  rcases a8.mp hc with rfl|hc
  ·exact⟨_,t3,zDk⟩
  obtain⟨x,m,rfl⟩:=aG.mp hc;exact Y9 (t4 x m)
 have nf:∀{c},c∉kD z TI TO ki->∀x∈ki,c≠x.i:=λh x m e=>h (by rw[e];simp;exact .inr (.inr (.inr ⟨x,m,rfl⟩)));have ri:∀h,vG (ki.map (kC h))=vG ki:=λh=>by unfold vG;rw[aQ];rfl
 refine⟨aR,λi h=>ob,λi h h' ⟨t1,t2,⟨vs,l,t3⟩,t4⟩ k=>⟨k z (by simp) _ t1,k TI (by simp) _ t2,⟨vs,l,k TO (by simp) _ t3⟩,λx m=>XA (k x.i (by simp;exact .inr (.inr (.inr ⟨x,m,rfl⟩)))) (t4 x m)⟩,?_,?_,λ_ _ _ _ _ st h=>wpAny_pyIter_zip st.1 h⟩
 ·rintro X rfl rfl rfl hc i pins s σ H E I hf ⟨t1,t2,⟨vs0,l0,t3⟩,t4⟩ hg
  have src:∀x∈ki,∃v u,(∀ys,ww x.t X.K H x.a ys->ys[i]? =some v)/\(kC s.heap x).its[i]? =some u/\zM v u/\uj x.t s.heap x.a (jk s.heap x.a):=λx m=>by obtain⟨xs,v,hq,hv⟩:=hg (x.t,x.a) (cV (f:=λx:xP=>(x.t,x.a)) m);obtain⟨its,rv,p⟩:=KZ I hq;obtain⟨u,hu,ru⟩:=rv.get hv;show∃v u,_/\(jk s.heap x.a)[i]? =some u/\_;rw[zKz p];exact⟨v,u,λys q=>by rw[zOl I q hq];exact hv,by rw[List.getElem?_toArray];exact hu,ru,p⟩
  refine zHN (ss:=ki.map (kC s.heap)) (n:=i) (I.ok.hd hc) (Z.fill _) (by simpa using ne) t1 (by rw[ri];exact t2) t3 (by rw[aB];exact l0) (by rw[aB];exact few) (λx m=>?_) (λus h1 tk pu z1 z2 z3 z4 z6 keep=>?_) λ⟨x,m,e⟩=>?_
  ·obtain⟨y,my,rfl⟩:=aG.mp m;obtain⟨v,u,_,hu,_,p⟩:=src y my;exact⟨⟨t4 y my,p⟩,eB (d9.mp hu).1⟩
  ·refine⟨_,rfl,wpAny_letOwnedTupleGo_zip (s:={s with heap:=h1,toks:=tk}) z1 λh2 z7 sb=>?_⟩;have zlt:=aX t1;rw[ri]at z2;obtain⟨vs,r1,r2⟩:=zJM (S:=λp v=>∀ys,ww p.1 X.K H p.2 ys->ys[i]? =some v) (λx m=>let ⟨v,u,a,b,c,_⟩:=src x m;⟨v,u,a,b,c⟩) pu;have lu:us.length=ki.length:=by rw[<- Paired.length pu,aB]
   have I':=I.turnM (h':=h2) (tk:=tk) (ch:=kD z TI TO ki) hf (λc o hc e=>sb.extBut c o (λq=>hc (by rw[q];simp)) (keep c o (λq=>hc (by rw[q];simp)) (λq=>hc (by rw[q];simp)) (λx m=>by obtain⟨y,my,rfl⟩:=aG.mp m;exact nf hc y my) e)) (aJ _) (sb.extBut _ _ (eC zlt) z6) r1 (by rw[Paired.length r1,lu];exact few);refine⟨.ref s.heap.objs.size,_,I',rfl,⟨s.heap.objs.size,vs,rfl,I.hok.fresh (aJ _),rfl,r2⟩,⟨z7,sb.extBut _ _ Z.zI z2,⟨us,lu,sb.extBut _ _ Z.zO z3⟩,λx m=>XA (λo=>sb.extBut _ o (Z.iz x m).1) (z4 (kC s.heap x) (cV m)).1⟩,λc hc=>?_⟩;have:=(hf c hc).1;rw[zu]
   ·exact this
   ·intro q;obtain⟨o,e,_⟩:=ob ⟨t1,t2,⟨vs0,l0,t3⟩,t4⟩ c hc;rw[q]at e;exact absurd (aX e) (bU _)
  ·obtain⟨y,my,rfl⟩:=aG.mp m;obtain⟨v,u,_,hu,_⟩:=src y my;exact absurd (d9.mp hu).1 (by rw[e];exact bU _)
 ·rintro X rfl rfl rfl hc i pins s σ H E I hf ⟨t1,t2,⟨vs0,l0,t3⟩,t4⟩ ⟨ha,p0,m0,xs0,q0,e0⟩
  have src:∀x∈ki,∀xs,ww x.t X.K H x.a xs->(jk s.heap x.a).size=xs.length/\uj x.t s.heap x.a (jk s.heap x.a):=λx m xs hq=>by obtain⟨its,rv,p⟩:=KZ I hq;rw[zKz p];exact⟨by rw[aY];exact rv.length.symm,p⟩
  refine zHN (ss:=ki.map (kC s.heap)) (n:=i) (I.ok.hd hc) (Z.fill _) (by simpa using ne) t1 (by rw[ri];exact t2) t3 (by rw[aB];exact l0) (by rw[aB];exact few) (λx m=>?_) (λus h1 tk pu _ _ _ _ _ _=>?_) λ_ h1 tk keep=>⟨rfl,I.turnN (h':=h1) (tk:=tk) (ch:=kD z TI TO ki) hf λc o hc e=>keep c o (λq=>hc (by rw[q];simp)) (λq=>hc (by rw[q];simp)) (λx m=>by obtain⟨y,my,rfl⟩:=aG.mp m;exact nf hc y my) e⟩
  ·obtain⟨y,my,rfl⟩:=aG.mp m;obtain⟨xs,hq,l⟩:=ha (y.t,y.a) (cV (f:=λx:xP=>(x.t,x.a)) my);obtain⟨e,p⟩:=src y my xs hq;exact⟨⟨t4 y my,p⟩,by show i<=(jk s.heap y.a).size;rw[e];exact l⟩
  ·obtain⟨y,my,rfl⟩:=aG.mp m0;obtain⟨v,hv⟩:=JQ pu _ (cV (f:=kC s.heap) my);exact absurd (d9.mp hv).1 (by show¬i<(jk s.heap y.a).size;rw[(src y my xs0 q0).1,e0];exact bU _)
structure Zs(h0:Heap)(ki:List xP)(z TI TO:Addr)(h:Heap):Prop where
 hz:IsZip h z TI TO .none
 hI:yU h TI (vG ki)
 hO:∃vs,vs.length=ki.length/\yU h TO vs
 it:∀x∈ki,jj x.t h x.i x.a 0
 keep:∀c o,h0.get? c=some o->h.get? c=some o
 Z:Zn z TI TO ki
 new:∀c∈kD z TI TO ki,h0.objs.size<=c
theorem zLt(ka)(few:ka.length<=9):Meets (Builtin.«zip.__new__» ⟨.type "zip"::ka.map (λp=>.ref p.2),[]⟩) (λ_ R s=>(∀p∈ka,∃xs,uj p.1 s.heap p.2 xs)/\∀h' ki z TI TO,jE ki=ka->Zs s.heap ki z TI TO h'->R (.ok (.ret (.ref z))) {s with heap:=h'}):=
 .of_wp λprog w A R s h=>by
  obtain⟨hp,g,d,tk,os⟩:=s;obtain⟨h1,h⟩:=h;have hsub:=sub_zip
  wp_walk
  refine Ka (λl its s'=>∃suf ki g1,l=suf.map (λp:Bool×Addr=>Value.ref p.2)/\ka=jE ki++suf/\its=(vG ki).toArray/\s'=⟨g1,g,d,tk,os⟩/\(∀x∈ki,jj x.t g1 x.i x.a 0/\hp.objs.size<=x.i/\x.i<g1.objs.size)/\(ki.map xP.i).Nodup/\(∀c o,hp.get? c=some o->g1.get? c=some o)/\hp.objs.size<=g1.objs.size) ?_ ?_ (ka.map λp=>Value.ref p.2) #[] _ ⟨ka,[],hp,rfl,rfl,rfl,rfl,λ_ m=>(nomatch m),.nil,λ_ _ e=>e,aJ _⟩
  ·rintro v r its s' ⟨suf,ki,g1,e1,e2,rfl,rfl,hi,nd,keep,le⟩;cases suf with
   |nil=>cases e1
   |cons p suf=>
   cases e1;obtain⟨xs,hx⟩:=h1 p (by rw[e2];simp);refine wpAny_bind (wpAny_holding (XE (zOI (λo=>keep _ o) hx) (wpAny_pure ⟨suf,ki++[⟨p.1,g1.objs.size,p.2,#[]⟩],_,rfl,by rw[e2];simp,by simp,rfl,λx m=>?_,?_,λc o e=>aO _ (keep c o e),by rw[cP];exact dz le⟩)))
   ·rw[cP];rcases be.mp m with m|m
    ·obtain⟨a,b,c⟩:=hi x m;exact⟨XA (λo=>aO _) a,b,cw c⟩
    ·rw[a6.mp m];exact⟨XB (a_ _ XD),le,bW _⟩
   ·rw[aS];refine iZ.mpr ⟨nd,by simp,λa ha b hb e=>?_⟩;obtain⟨x,m,rfl⟩:=aG.mp ha;rw[a6.mp hb]at e;exact absurd (hi x m).2.2 (by rw[e];exact bU _)
  ·rintro its s' ⟨suf,ki,g1,e1,e2,rfl,rfl,hi,nd,keep,le⟩;cases suf with
   |cons p suf=>cases e1
   |nil=>
   rw[cH]at e2;have lk:ki.length=ka.length:=by rw[e2,aB]
   have few9:(vG ki).length<=sizeLine:=by rw[aB,lk];exact bI few (by decide)
   refine wpAny_pure (wpAny_bind (wpAny_newTuple ?_ few9));refine wpAny_bind (wpAny_newTuple ?_ (by rw[aB];exact few9));change wpAny _ _ (newObj (.type "zip") (.fields #[.none,.bool false,.bool false,.ref g1.objs.size,.ref (g1.push {cls:=.type "tuple",data:=.seq (vG ki).toArray}).objs.size])>>= _) _ _ _;refine wpAny_bind (wpAny_newObj_type ?_);have up:∀{h:Heap}{c:Addr}{o o':Obj},h.get? c=some o->(h.push o').get? c=some o:=λe=>aO _ e;refine wpAny_pure ⟨_,rfl,h _ ki _ _ _ e2.symm ⟨a_ _ rfl,up (up (a_ _ rfl)),⟨(vG ki).map λ_=>.none,by rw[aB,aB],up (a_ _ rfl)⟩,λx m=>XA (λo e=>up (up (up e))) (hi x m).1,λc o e=>up (up (up (keep c o e))),?_,λc m=>?_⟩⟩
   ·have ai:∀x∈ki,x.a<hp.objs.size:=λx m=>by
     obtain⟨xs,hx⟩:=h1 (x.t,x.a) (by rw[e2];exact cV (f:=λx:xP=>(x.t,x.a)) m);exact zSJ hx
    simp only[cP];refine⟨bK (cw (bW _)),bK (bW _),bK (bW _),λx m=>?_,λx m=>?_,nd⟩
    ·have l:=(hi x m).2.2;exact⟨bK (cw (cw l)),bK l,bK (cw l)⟩
    ·have l:=a9 (ai x m) le;exact⟨bK (cw (cw l)),bK (cw l),λy n=>bK (a9 (ai x m) (hi y n).2.1)⟩
   ·simp only[cP,a8,aG]at m;show hp.objs.size<=c;rcases m with rfl|rfl|rfl|⟨x,m,rfl⟩
    ·exact dz (dz le)
    ·exact le
    ·exact dz le
    ·exact(hi x m).2.1
theorem zLN(few:ka.length<=9)(ct:checkTypeCall "zip" ⟨ka.map λp=>.ref p.2,[]⟩=pure ())(cb:checkBuiltinCall "zip.__new__" ⟨.type "zip"::ka.map (λp=>.ref p.2),[]⟩=pure ())(ob:∀o,argsOk "object.__init__" ⟨o::ka.map (λp=>.ref p.2),[]⟩)(hs:∀p∈ka,∃xs,uj p.1 s.heap p.2 xs)
  (h:∀h' ki z TI TO,jE ki=ka->Zs s.heap ki z TI TO h'->Q (.ref z) {s with heap:=h'}):wpAny (model prog w) A (call (.type "zip") (ka.map λp=>.ref p.2)) Q E s:=
 callType_new F.called_zip (by decide) ct cb ob F.entry_zip_new (zLt ka few) ⟨hs,λh' ki z TI TO e Z=>⟨⟨_,Z.hz,rfl⟩,h h' ki z TI TO e Z⟩⟩
end L2
namespace L2
open PySem PySem.Spec PyProof.Rows Sh
theorem zFh:∀{ka:List (Bool×Addr)}{us:List Value},zC (ka.map λp=>V.ref p.2) us->us=ka.map λp=>Value.ref p.2
 |[],_,.nil=>rfl
 |_::_,_,.cons h t=>by cases h;rw[zFh t];rfl
def XF(K:aH)(ta:TA):TI:=λσ H R=>ta σ H λvs H1=>∃ka,vs=ka.map (λp:Bool×Addr=>V.ref p.2)/\(ka.length=2\/ka.length=3)/\(∀p∈ka,∃xs,ww p.1 K H1 p.2 xs)/\R (JR ka K) H1
theorem zLu(vs)(l:vs.length=2\/vs.length=3):checkTypeCall "zip" ⟨vs,[]⟩=pure ()/\checkBuiltinCall "zip.__new__" ⟨.type "zip"::vs,[]⟩=pure ()/\∀o,argsOk "object.__init__" ⟨o::vs,[]⟩:=by
 match vs,l with
 |[a,b],_=>exact⟨F.typeCall_zip_2 _ _,F.newCall_zip_2 _ _,λo=>F.args_object_init_3 o _ _⟩
 |[a,b,c],_=>exact⟨by kernel_rfl,by kernel_rfl,λo=>by rw[argsOk,signature?_of (id:="object.__init__") (n:=['_','_','t','i','n','i','_','_']) (o:=['t','c','e','j','b','o']) (by kernel_rfl) F.owner_object];kernel_rfl⟩
theorem zJ9{X:Cx}{ts es:List Expr}{kk:Nat}{tp:Pos}{e1:Expr}{ta:TA}{p pos:Pos}(hg:Gl X "zip")(hm:X.mg "zip"=none)(ha:PA X (e1::es) ta)(hs:starEach (e1::es) X.env=(false,eval e1 X.env)::starEach es X.env:=by rfl)(hpl:(backTo pos (starEach es X.env)).any (·.1)=false:=by rfl):
  PI X (.Tuple ts kk tp) (.Call (.Name "zip" p) (e1::es) [] pos) (XF X.K ta):=by
 intro pins s σ H R I h;refine Call_ (j5 I hg hm (show bootBuiltins "zip"=some (.type "zip")by decide+kernel) (PyProof.Rows.callWith_type1 (zf (ha pos pins s σ H _ I h) λus s1 ⟨vs,H1,I1,r1,q1⟩=>?_) hs hpl));obtain⟨ka,rfl,l,hq,q⟩:=q1;cases zFh r1;obtain⟨c1,c2,c3⟩:=zLu (ka.map λp=>Value.ref p.2) (by rw[aB];exact l);refine zLN (l.elim (λl=>by rw[l];decide) λl=>by rw[l];decide) c1 c2 c3 (λp m=>let ⟨xs,hx⟩:=hq p m;let ⟨_,_,e⟩:=KZ I1 hx;⟨_,e⟩) λh' ki z TI TO ek Z=>wpAny_pyIter_zip Z.hz ?_;subst ek;rw[aB]at l;exact⟨z,kD z TI TO ki,_,_,H1,rfl,I1.kept (t':=s1.toks) Z.keep,zJW Z.Z (λz=>by rw[z]at l;cases l <;> contradiction) (l.elim (λl=>by rw[l];decide) λl=>by rw[l];decide),⟨Z.hz,Z.hI,Z.hO,Z.it⟩,λc hc=>I1.fpOk (Z.new c hc) (I1.hok.fresh (Z.new c hc)),q⟩
end L2
namespace L2
open PySem PySem.Spec PyProof.Rows
def tsK(prog:Program)(w:World)(A:Around)(cs:List Expr)(env:Env)(Q:Bool->Shared->Prop)(s:Shared):Prop:=match cs with
 |[]=>Q true s
 |c::_=>wpAny (model prog w) A (isTrue c env (eval c env)) Q (λ_ _=>False) s
def XG(X:Cx)(cs:List Expr)(tc:TT):Prop:=match cs with
 |[]=>∀σ H Q,tc σ H Q->Q true H
 |c::_=>PT X c tc
theorem zQj{σ:St}(h:XG (yX X scope b0 C s₀ H₀ ex) cs tc)(I:zB (yX X scope b0 C s₀ H₀ ex) pins σ H s)(q:tc σ H Q)
  (k:∀ok s' H',zB (yX X scope b0 C s₀ H₀ ex) pins σ H' s'->Q ok H'->G ok s'):tsK X.prog X.w X.A cs (yX X scope b0 C s₀ H₀ ex).env G s:=by
 cases cs with
 |nil=>exact k true s H I (h _ _ _ q)
 |cons c cs=>exact zf (h pins s σ H _ I q) λok s' ⟨H',I',q'⟩=>k ok s' H' I' q'
section
variable{prog:Program}{w:World}{A:Around}{R:Result->Shared->Prop}{s:Shared}
theorem zHB{elt target iter:Expr}{cs:List Expr}{scope:Scope}{pos:Pos}{it acc:Value}{env:Env}(Wd:Nat->Shared->Prop)
  (turn:∀n s,Wd n s->wpAny (model prog w) A (pyNext it) (λr s1=>match r with
   |none=>R (.ok .next) s1
   |some v=>wpAny (model prog w) A (letOwnedTupleGo target it v) (λ_ s2=>wpAny (model prog w) A (assign target env v) (λ_ s3=>tsK prog w A cs env (λok s4=>
     if ok=true then wpAny (model prog w) A (eval elt env) (λx s5=>wpAny (model prog w) A (call (.builtin "list.append") [acc,x]) (λ_ s6=>∃m,m<n/\Wd m s6) (λ_ _=>False) s5) (λ_ _=>False) s4
     else∃m,m<n/\Wd m s4) s3) (λ_ _=>False) s2) (λ_ _=>False) s1) (λ_ _=>False) s)
  (hcs:cs=[]\/∃c,cs=[c]) (n:Nat) (h:Wd n s):codeAny (model prog w) A (.compLoop (.ListComp elt [⟨target,iter,cs,0⟩] scope pos) 0 it acc env) R s:=by
 refine codeAny_loop rfl Wd (λn s hI=>?_) n h;show wpAny _ _ (Sem.onRaise (compTurn (.ListComp elt [⟨target,iter,cs,0⟩] scope pos) 0 it acc env) _) _ _ s;refine wpAny_noted ?_;have go:wpAny (model prog w) A (pyNext it) _ _ s:=turn n s hI;rcases hcs with rfl|⟨c,rfl⟩
 ·rw[compTurn_list1];refine wpAny_bind (wpAny_standAt (wpAny_bind (wpAny_mono go (λr s1 h1=>?_) λ_ _ z=>False.elim z)));cases r with
  |none=>exact wpAny_pure h1
  |some v=>
   refine wpAny_bind (wpAny_mono h1 (λ_ s2 h2=>?_) λ_ _ z=>False.elim z);refine wpAny_bind (wpAny_mono h2 (λ_ s3 h3=>?_) λ_ _ z=>False.elim z);refine wpAny_bind (wpAny_bind (wpAny_mono h3 (λx s4 h4=>?_) λ_ _ z=>False.elim z));exact wpAny_bind (wpAny_mono h4 (λ_ s5 h5=>wpAny_pure (wpAny_pure ⟨rfl,h5⟩)) λ_ _ z=>False.elim z)
 ·rw[compTurn_list];refine wpAny_bind (wpAny_standAt (wpAny_bind (wpAny_mono go (λr s1 h1=>?_) λ_ _ z=>False.elim z)));cases r with
  |none=>exact wpAny_pure h1
  |some v=>
   refine wpAny_bind (wpAny_mono h1 (λ_ s2 h2=>?_) λ_ _ z=>False.elim z);refine wpAny_bind (wpAny_mono h2 (λ_ s3 h3=>?_) λ_ _ z=>False.elim z);refine wpAny_bind (wpAny_tests_one (wpAny_mono h3 (λok s4 h4=>?_) λ_ _ z=>False.elim z));cases ok with
   |false=>exact wpAny_pure ⟨rfl,h4⟩
   |true=>exact wpAny_bind (wpAny_bind (wpAny_mono h4 (λx s5 h5=>wpAny_bind (wpAny_mono h5 (λ_ s6 h6=>wpAny_pure (wpAny_pure ⟨rfl,h6⟩)) λ_ _ z=>False.elim z)) λ_ _ z=>False.elim z))
end
section
variable{X:Cx}{scope:Scope}{own:List Str}{caps:List (Nat×Str)}{elt tg iter:Expr}{cs:List Expr}{wi:TI}{g:TG}{tc:TT}{te:TE}{pos:Pos}
theorem zEm{σ:St}{W:Nat->Nat->List V->St->Hp->Prop}{Q:VK}{RR:Value->Addr->Result->Shared->Prop}
  (B:vO X scope own caps) (hc:X.calm=true) (hg:∀C s₀ H₀ ex,PG (yX X scope (zZ own caps) C s₀ H₀ ex) tg g) (hcs:cs=[]\/∃c,cs=[c]) (ht:∀C s₀ H₀ ex,XG (yX X scope (zZ own caps) C s₀ H₀ ex) cs tc) (he:∀C s₀ H₀ ex,PE (yX X scope (zZ own caps) C s₀ H₀ ex) elt te)
  (I2:zB X pins σ H2 s2) (T:w4 X.prog X.w X.K tg J fp it tn) (st2:tn 0 s2.heap) (f2:∀b∈fp,yP X pins H2 b) (w0:W 0 m0 [] (uR own caps σ) H2)
  (turn:∀i m ys σ1 H,W i m ys σ1 H->(J.stop i H/\∀p,H p=none->Q (.ref p) (zV H p (.lst ys)))∨
   (J.go i H/\ys.length<sizeLine/\∃(N:V->St->Hp->Prop)(N0:St->Hp->Prop),(∀y σ' H',N y σ' H'->∃m',m'<m/\W (i+1) m' (ys++[y]) σ' H')/\(∀σ' H',N0 σ' H'->∃m',m'<m/\W (i+1) m' ys σ' H')∧
    ∀x H',J.yld i H x H'->g x σ1 H' λσ2 H2=>tc σ2 H2 λb H3=>if b=true then te σ2 H3 λy H4=>N y σ2 H4 else N0 σ2 H3))
  (hRR:∀D C s6 H6 ys m,s6.heap.Ns C m->s2.heap.objs.size<=C->(∀h',Heap.SameBut C s6.heap h'->zB X pins σ (zV H6 D (.lst ys)) {s6 with heap:=h'})->zV H6 D (.lst ys) C=none->Q (.ref D) (zV H6 D (.lst ys))->RR (.ref D) C (.ok .next) s6):
  wpAny (model X.prog X.w) X.A (newList []) (λacc s3=>wpAny (model X.prog X.w) X.A (newFunctionEnv scope X.env.globals (vN scope X.env) [] X.env.qual none .none (some X.env)) (λcenv s4=>codeAny (model X.prog X.w) X.A (.compStart (.ListComp elt [⟨tg,iter,cs,0⟩] scope pos) 0 (.ref it) acc {cenv with scope:=relabel scope X.env}) (RR acc cenv.locals) s4) E s3) E s2:=by
 have hlt:∀b∈fp,b<s2.heap.objs.size:=λb hb=>by obtain⟨o,ho,_⟩:=T.obj _ _ st2 b hb;exact aX ho
 refine wpAny_newObj_type (zFF ?_);dsimp only;generalize hP:s2.heap.push {cls:=.type "list",dict:=none,data:=.seq ([]:List Value).toArray}=HD;have hns:(pushCells (HD.push {cls:=.type "dict",data:=.dict #[]}) scope.names).Ns HD.objs.size (λ_=>none):=(Heap.Ns.new HD (.type "dict")).keeps (pushCells_keeps _ _);have hkp:∀b o,HD.get? b=some o->(pushCells (HD.push {cls:=.type "dict",data:=.dict #[]}) scope.names).get? b=some o:=λb o e=>pushCells_keeps _ _ b o (aO _ e)
 have hcell:∀x c,(cellsFrom (HD.objs.size+1) scope.names (vN scope X.env)).lookup x=some c->(vN scope X.env).lookup x=some c\/(pushCells (HD.push {cls:=.type "dict",data:=.dict #[]}) scope.names).IsCell c none:=λx c e=>Qy _ _ _ (by rw[cP];exact e)
 generalize hP4:pushCells (HD.push {cls:=.type "dict",data:=.dict #[]}) scope.names=h4 at hns hkp hcell|-
 have hCD:HD.objs.size=s2.heap.objs.size+1:=by rw[<- hP,cP]
 have hDC:s2.heap.objs.size≠HD.objs.size:=by omega
 have hle:s2.heap.objs.size<=HD.objs.size:=by omega
 have old:∀b o,s2.heap.get? b=some o->h4.get? b=some o:=λb o eb=>hkp b o (by rw[<- hP];exact aO _ eb);have hD4:h4.get? s2.heap.objs.size=some {cls:=.type "list",data:=.seq ([]:List Value).toArray 0}:=hkp _ _ (by rw[<- hP];exact a_ _ rfl)
 have IY:zB (yX X scope (zZ own caps) HD.objs.size s2 H2 fp) [] (uR own caps σ) H2 {s2 with heap:=h4}:=zNO B I2 f2 (by omega) hlt hns old hcell rfl I2.bare
 have stat:∀{H':Hp},(∀b∈fp,H' b=none)->∀b∈fp,yP (yX X scope (zZ own caps) HD.objs.size s2 H2 fp) [] H' b:=λ{H'} hn b hb=>by
  have hb2:=hlt b hb;refine⟨hn b hb,?_,λz=>?_,.inl hb,λx c ec=>(match U8 B ec with| .inl z=>Yl hb2 hle z.2| .inr z=>(f2 b hb).2.2.2.2.1 x c z),λp hp=>by simp at hp⟩
  ·exact bK (a9 hb2 hle)
  ·rcases a8.mp (I2.stkSub b z)with e|z
   ·exact(f2 b hb).2.1 e
   ·exact(f2 b hb).2.2.1 z
 have statD:∀{H':Hp},H' s2.heap.objs.size=none->yP (yX X scope (zZ own caps) HD.objs.size s2 H2 fp) [] H' s2.heap.objs.size:=λ{H'} hn=>by
  refine⟨hn,hDC,λz=>?_,.inr (aJ _),λx c ec z=>?_,λp hp=>by simp at hp⟩
  ·obtain⟨_,o,ho,_⟩:=I2.stack.mem z;exact absurd (aX ho) (bU _)
  ·rcases U8 B ec with⟨_,y⟩|y
   ·exact Qv hCD y z
   ·have:=zIT I2 y;rw[z]at this;exact bU _ this
 have kI:∀b∈fp,b≠s2.heap.objs.size:=λb hb=>bK (hlt b hb)
 have IY':zB (yX X scope (zZ own caps) HD.objs.size s2 H2 fp) [(s2.heap.objs.size,xi [] 0)] (uR own caps σ) H2 {s2 with heap:=h4}:=
  IY.pins_of λp hp=>by rw[a6.mp hp];have z:=statD (I2.hok.fresh (aJ _));exact⟨hD4,z.1,z.2.1,z.2.2.1,λv z=>by cases z⟩
 have loop:∀s3:Shared,s3={s2 with heap:=h4}->
   codeAny (model X.prog X.w) X.A (.compLoop (.ListComp elt [⟨tg,iter,cs,0⟩] scope pos) 0 (.ref it) (.ref s2.heap.objs.size) (compEnvC scope (cellsFrom (HD.objs.size+1) scope.names (vN scope X.env)) HD.objs.size X.env))
    (RR (.ref s2.heap.objs.size) HD.objs.size) s3:=by
  rintro s3 rfl
  refine zHB (λn s'=>∃i ys σ' H' its k,zB (yX X scope (zZ own caps) HD.objs.size s2 H2 fp) [(s2.heap.objs.size,xi its k)] σ' H' s'/\tn i s'.heap/\(∀b∈fp,H' b=none)∧
   zC ys its/\ys.length<=sizeLine/\W i n ys σ' H') ?_ hcs m0 ⟨0,[],_,H2,[],0,IY',T.keep _ _ _ st2 λb hb o eb=>old b o eb,λb hb=>(f2 b hb).1,.nil,eV _,w0⟩
  rintro n s5 ⟨i,ys,σ5,H5,its,k,I5,st5,fr5,rv5,hz5,w5⟩
  have stat5:∀{H':Hp},(∀b∈fp,H' b=none)->∀b∈fp,yP (yX X scope (zZ own caps) HD.objs.size s2 H2 fp) [(s2.heap.objs.size,xi its k)] H' b:=λ{H'} hn b hb=>by obtain⟨a1,a2,a3,a4,a5,_⟩:=stat hn b hb;refine⟨a1,a2,a3,a4,a5,λp hp=>?_⟩;have hp':p∈[(s2.heap.objs.size,xi its k)]:=hp;rw[a6.mp hp'];exact Ne.symm (kI b hb)
  rcases turn i n ys σ5 H5 w5 with⟨stop,qn⟩|⟨go,hlen,N,N0,hN,hN0,step⟩
  ·refine zf (T.done (yX X scope (zZ own caps) HD.objs.size s2 H2 fp) rfl rfl rfl hc i _ s5 σ5 H5 _ I5 (stat5 fr5) st5 stop) λr s6 ⟨hr,I6⟩=>?_;subst hr;obtain⟨pD1,pD2,_⟩:=I6.pin (s2.heap.objs.size,xi its k) (aU _ aR);obtain⟨m6,hn6,_⟩:=I6.loc;refine hRR _ _ s6 H5 ys m6 hn6 (by omega) (λh' sb=>?_) (by rw[zu (Ne.symm hDC)];exact I6.free) (qn _ pD2);have hC5:H5 HD.objs.size=none:=I6.free
   have nb:∀b o,s2.heap.get? b=some o->b≠HD.objs.size/\b≠s2.heap.objs.size:=λb o eb=>by have hb:=aX eb;exact⟨bK (a9 hb hle),bK hb⟩
   have nt:∀b o,H5 b=some o->b≠s2.heap.objs.size:=λb o eb z=>by rw[z]at eb;rw[show H5 s2.heap.objs.size=none from pD2]at eb;cases eb
   have un:Un (vY X.stack) fp H2 (zV H5 s2.heap.objs.size (.lst ys)) s2.heap h':=
    ⟨λb o eb n1 n2 n3=>sb.extBut b o (nb b o eb).1 (I6.base.keep b o eb n1 n2 n3),
     λb o eb n1 n2 n3=>by obtain⟨sl,e1⟩:=I6.base.slot b o eb n1 n2 n3;exact⟨sl,sb.extBut b _ (nb b o eb).1 e1⟩,
     λb o eb n1 n3=>by rw[zu (nb b o eb).2];exact I6.base.free b o eb n1 n3,
     λb o eb n3=>by obtain⟨o',e1⟩:=I6.base.there b o eb n3;exact⟨o',sb.extBut b _ (nb b o eb).1 e1⟩,
     λb xs eb=>by have e1:=I6.base.tups b xs eb;rw[zu (nt b _ e1)];exact e1,
     λb o u eb=>by have e1:=I6.base.frzs b o u eb;rw[zu (nt b _ e1)];exact e1,
     λb ps eb=>by obtain⟨more,e1⟩:=I6.base.tbls b ps eb;refine⟨more,?_⟩;rw[zu (nt b _ e1)];exact e1⟩
   have ok5:xZ X.prog X.w (zV H5 s2.heap.objs.size (.lst ys)) h':=λb u eb=>by
    by_cases hb:b=s2.heap.objs.size
    ·subst hb;rw[xS]at eb;cases eb;exact⟨hz5,its,k,rv5,sb.extBut _ _ hDC pD1⟩
    ·rw[zu hb]at eb;refine(I6.hok b u eb).stay (λc v hcv ev=>sb.extBut c v ?_ ev) (λc ec=>by rw[zu (nt c _ ec)];exact ec) λc xs ec=>by rw[zu (nt c _ ec)];exact ec
     rintro rfl;rcases hcv with z|z
     ·rw[<- z,hC5]at eb;cases eb
     ·rw[hC5]at z;cases z
   exact I2.call' (s':={s6 with heap:=h'}) (ch:=fp) I6.os un ok5 I6.bare λb hb=>⟨(f2 b hb).2.2.2.1,(f2 b hb).2.1,(f2 b hb).2.2.2.2.1,(f2 b hb).2.2.2.2.2⟩
  ·refine zf (T.item (yX X scope (zZ own caps) HD.objs.size s2 H2 fp) rfl rfl rfl hc i _ s5 σ5 H5 _ I5 (stat5 fr5) st5 go) λr s6 ⟨u,hr,h6⟩=>?_;subst hr;refine zf h6 λ_ s7 ⟨x,H7,I7,r7,y7,st7,fr7⟩=>?_;have I7':=I7.pinned (stat5 fr7) (T.obj _ _ st7);refine zf (hg HD.objs.size s2 H2 fp _ s7 σ5 H7 x u _ I7' r7 (step x H7 y7)) λ_ s8 ⟨σ8,H8,I8,q8⟩=>?_;refine zQj (ht HD.objs.size s2 H2 fp) I8 q8 λok sT HT IT qT=>?_;cases ok with
   |false=>
    obtain⟨m',hm',w9⟩:=hN0 σ8 HT qT;refine⟨m',hm',i+1,ys,σ8,HT,its,k,IT.unpinned,?_,λb hb=>?_,rv5,hz5,w9⟩
    ·refine T.keep _ _ _ st7 λb hb o eb=>?_;exact(IT.pin (b,o) (aU _ (aU _ (ZH hb eb)))).1
    ·obtain⟨o,eb,_⟩:=T.obj _ _ st7 b hb;exact(IT.pin (b,o) (aU _ (aU _ (ZH hb eb)))).2.1
   |true=>
    refine zf (he HD.objs.size s2 H2 fp _ sT σ8 HT _ IT qT) λyv s9 ⟨y,H9,I9,r9,n9⟩=>?_;obtain⟨m',hm',w9⟩:=hN y σ8 H9 n9;have pD9:=(I9.pin (s2.heap.objs.size,xi its k) (aU _ (cQ _ aR))).2.1;have hl:its.length=ys.length:=rv5.length.symm;refine zNN (Y:=yX X scope (zZ own caps) HD.objs.size s2 H2 fp) (its:=its) (k:=k) (pl:=YL fp s7.heap) I9 (statD pD9) rfl zg λh' k' tk keep I'=>?_;refine⟨m',hm',i+1,ys++[y],σ8,H9,its++[yv],k',I',?_,λb hb=>?_,rv5.append (.cons r9 .nil),?_,w9⟩
    ·refine T.keep _ _ _ st7 λb hb o eb=>keep b o (kI b hb) ?_;exact(I9.pin (b,o) (aU _ (aU _ (ZH hb eb)))).1
    ·obtain⟨o,eb,_⟩:=T.obj _ _ st7 b hb;exact(I9.pin (b,o) (aU _ (aU _ (ZH hb eb)))).2.1
    ·rw[aF,dW];exact zA
 exact codeAny_compStart_list (loop _ rfl) (T.self _ 0 _ _ _ (T.keep _ _ _ st2 λb hb o eb=>old b o eb) (loop _ rfl))
theorem zHo{i:Nat}{y:Str}{py spos:Pos}(hN:X.N.Nodup)(hy:X.N[i]? =some y)(hl:X.env.scope.names.lookup y=some .local)(B:vO X scope own caps)(hc:X.calm=true)(hi:PI X tg iter wi)(hg:∀C s₀ H₀ ex,PG (yX X scope (zZ own caps) C s₀ H₀ ex) tg g)
  (hcs:cs=[]\/∃c,cs=[c]) (ht:∀C s₀ H₀ ex,XG (yX X scope (zZ own caps) C s₀ H₀ ex) cs tc) (he:∀C s₀ H₀ ex,PE (yX X scope (zZ own caps) C s₀ H₀ ex) elt te) (hsw:swapsWith (.ListComp elt [⟨tg,iter,cs,0⟩] scope pos) (some (.Name y py)) spos.line X.env=pure true) (hs:∀x,foldedSetIterable iter X.env x=pure x:=by intro _;rfl):
  PS X (.Assign [.Name y py] (.ListComp elt [⟨tg,iter,cs,0⟩] scope pos) spos) (wf (zNo own caps wi g tc te) (gN i)):=by
 intro pins s σ H D0 I h;rw[exec_Assign_Name_used _ _ _ _ hsw];refine wpAny_bind (wpAny_standAt (wpAny_bind ?_));change wpAny _ X.A (do let _ <- comprehension (.ListComp elt [⟨tg,iter,cs,0⟩] scope pos) scope X.env _ (newList []) false (eval iter X.env) (some (assign (.Name y py) X.env))) _ _ s;refine wpAny_bind (wpAny_mono (wpAny_comprehension_free (use:=some (assign (.Name y py) X.env)) (Q:=λ_ s'=>SP X pins D0 .next s') rfl hs (zEo B.free) B.kind B.locs ?_) (λ_ s' hq=>wpAny_pure (wpAny_pure hq)) λ_ _ e=>e);refine zf (hi pins s σ H _ I h) λxv s1 h1=>zf h1 λitv s2 h2=>?_;obtain⟨it,fp,tn,J,H2,e,I2,T,st2,f2,W,⟨m0,w0⟩,turn⟩:=h2;subst e;refine zEm (Q:=λx H1=>D0.nx (σ.set i (some x)) H1) (RR:=λacc C=>compPost (model X.prog X.w) X.A X.xe (some (assign (.Name y py) X.env)) (λ_ s'=>SP X pins D0 .next s') acc C) B hc hg hcs ht he I2 T st2 f2 w0 turn λD C s6 H6 ys m hn hC J6 hC6 q=>?_;have I6:zB X pins σ (zV H6 D (.lst ys)) s6:=J6 s6.heap (.refl ..);have CL:C≠X.env.locals:=λz=>by rw[z]at hC;exact absurd (a9 I2.lt hC) (bU _)
 have CC:∀x c,X.env.cells.lookup x=some c->c≠C:=λx c ec z=>by obtain⟨v,o,ho,_⟩:=I2.cell x c ec;rw[z]at ho;exact absurd (a9 (aX ho) hC) (bU _)
 have CP:∀p∈X.pn++pins,p.1≠C:=λp hp z=>by have hl:=aX (I2.pin p hp).1;rw[z]at hl;exact absurd (a9 hl hC) (bU _)
 change wpAny _ X.A (assign (.Name y py) X.env (.ref D)) _ _ s6;refine wpAny_assign_Name (zFp I6 hN hy (.inl hl) (v:=.ref D) rfl (λs7 I7 ⟨a,sb,ha⟩=>?_) (.inr hl))
 have aC:C≠a:=λz=>by
  rcases ha with e|e
  ·exact CL (z.trans e)
  ·exact CC _ _ e z.symm
 refine⟨m,hn.sameBut sb aC,λh' sb'=>⟨_,_,I7.turned (h':=h') (t':=s7.toks) (it:=C) (λb o hb eb=>sb'.extBut b o hb eb) hC6 CL (.inr (bI I2.sz hC)) CC CP,q⟩⟩
theorem zHv(B:vO X scope own caps)(hc:X.calm=true)(hi:PI X tg iter wi)(hg:∀C s₀ H₀ ex,PG (yX X scope (zZ own caps) C s₀ H₀ ex) tg g)
  (hcs:cs=[]\/∃c,cs=[c]) (ht:∀C s₀ H₀ ex,XG (yX X scope (zZ own caps) C s₀ H₀ ex) cs tc) (he:∀C s₀ H₀ ex,PE (yX X scope (zZ own caps) C s₀ H₀ ex) elt te) (hs:∀x,foldedSetIterable iter X.env x=pure x:=by intro _;rfl):
  PE X (.ListComp elt [⟨tg,iter,cs,0⟩] scope pos) (zNo own caps wi g tc te):=by
 intro pins s σ H Q I h;rw[eval_ListComp];refine wpAny_comprehension_free (use:=none) rfl hs (zEo B.free) B.kind B.locs ?_;refine zf (hi pins s σ H _ I h) λxv s1 h1=>zf h1 λitv s2 h2=>?_;obtain⟨it,fp,tn,J,H2,e,I2,T,st2,f2,W,⟨m0,w0⟩,turn⟩:=h2;subst e;refine zEm (RR:=λacc C=>compPost (model X.prog X.w) X.A X.xe none (EP X pins σ Q) acc C) B hc hg hcs ht he I2 T st2 f2 w0 turn λD C s6 H6 ys m hn hC J6 hC6 q=>?_;exact⟨m,hn,λh' sb=>⟨.ref D,_,J6 h' sb,rfl,q⟩⟩
end
end L2
namespace Pu
open PySem L2 Sh
inductive D where
 |int (i:Int)
 |bool (b:Bool)
 |non
 |str (x:Str)
 |scr (ns:List Int)
 |lst (ds:List D)
 |tup (ds:List D)
 |obj (c:Addr) (ns:List Str) (ds:List D)
 |raw (a:Addr)
inductive DV(H:Hp):V->D->Prop where
 |int (i:Int):DV H (.int i) (.int i)
 |bool (b:Bool):DV H (.bl b) (.bool b)
 |non:DV H .non .non
 |str (x:Str):DV H (.str x) (.str x)
 |scr {a:Addr} {ns:List Int} (e:Rd H a (.lst (ns.map V.int))):DV H (.ref a) (.scr ns)
 |lst {a:Addr} {xs:List V} {ds:List D} (e:H a=some (.lst xs)) (h:Paired (DV H) xs ds):DV H (.ref a) (.lst ds)
 |tup {a:Addr} {xs:List V} {ds:List D} (e:H a=some (.tup xs)) (h:Paired (DV H) xs ds):DV H (.ref a) (.tup ds)
 |obj {o dx c:Addr} {ns:List Str} {xs:List V} {ds:List D} (e:H o=some (.ins c dx (ns.zip xs))) (l:ns.length=xs.length) (h:Paired (DV H) xs ds):DV H (.ref o) (.obj c ns ds)
 |raw (a:Addr):DV H (.ref a) (.raw a)
theorem JS(s:zE H H')(h:Rd H a u):Rd H' a u:=h.imp (s _ _) λ⟨o,e⟩=>⟨o,s _ _ e⟩
theorem DV.same(s:zE H H'):∀{v:V}{d:D},DV H v d->DV H' v d
 |_,_,.int i=>.int i
 |_,_,.bool b=>.bool b
 |_,_,.raw v=>.raw v
 |_,_,.non=>.non
 |_,_,.str x=>.str x
 |_,_,.scr e=>.scr (JS s e)
 |_,_,.lst e h=>.lst (s _ _ e) (go s h)
 |_,_,.tup e h=>.tup (s _ _ e) (go s h)
 |_,_,.obj e l h=>.obj (s _ _ e) l (go s h)
where
 go {H H':Hp} (s:zE H H'):∀{xs:List V}{ds:List D},Paired (DV H) xs ds->Paired (DV H') xs ds
  |_,_,.nil=>.nil
  |_,_,.cons h t=>.cons (DV.same s h) (go s t)
abbrev yD(H:Hp):List V->List D->Prop:=Paired (DV H)
theorem yq(s:zE H H')(h:yD H xs ds):yD H' xs ds:=DV.same.go s h
theorem kF:∀{xs:List V}{ns:List Int},yD H xs (ns.map D.int)->xs=ns.map V.int
 |_,[],.nil=>rfl
 |_,_::_,.cons h t=>by cases h;rw[kF t];rfl
theorem Kb:∀{xs:List V}{bs:List Bool},yD H xs (bs.map D.bool)->xs=bs.map V.bl
 |_,[],.nil=>rfl
 |_,_::_,.cons h t=>by cases h;rw[Kb t];rfl
theorem JT:∀{ns:List Int},yD H (ns.map V.int) (ns.map D.int)
 |[]=>.nil
 |_::_=>.cons (.int _) JT
noncomputable def jF:HO->Bool
 | .tbl _=>true
 |_=>false
noncomputable def uV:HO->Bool
 | .lst _=>true
 | .ins _ _ _=>true
 |_=>false
class Tbl where
 I:Hp->Prop
 same:∀{H H':Hp},I H->zE H H'->I H'
 but:∀{H H':Hp}{l:Addr}{o:HO},I H->H l=some o->uV o=true->(∀b,b≠l->H' b=H b)->I H'
variable[Tbl]
theorem Tbl.put{H:Hp}{l:Addr}{u o:HO}(i:Tbl.I H)(e:H l=some u)(n:uV u=true:=by rfl):Tbl.I (zV H l o):=Tbl.but i e n λ_ c=>zu c
noncomputable def less(l:Addr)(H:Hp):Hp:=λb=>if b=l then none else H b
theorem Tbl.less{H:Hp}{l:Addr}{u:HO}(i:Tbl.I H)(e:H l=some u)(n:uV u=true:=by rfl):Tbl.I (less l H):=Tbl.but i e n λ_ c=>if_neg c
theorem Kc:zE (less l H) H:=λb o e=>by
 by_cases c:b=l
 ·rw[show less l H b=none from if_pos c]at e;cases e
 ·exact(if_neg c).symm.trans e
structure Sm(H H':Hp):Prop where
 s:∀b o,H b=some o->jF o=false->H' b=some o
 t:∀b o,H b=some o->jF o=true->∃o',H' b=some o'/\jF o'=true
 k:Tbl.I H->Tbl.I H'
theorem Sm.at{H H':Hp}(s:Sm H H'){b:Addr}{o:HO}(e:H b=some o)(n:jF o=false:=by rfl):H' b=some o:=s.s b o e n
theorem Sm.of(s:zE H H'):Sm H H':=⟨λb o e _=>s b o e,λb o e n=>⟨o,s b o e,n⟩,λi=>Tbl.same i s⟩
theorem Sm.refl(H):Sm H H:=.of (zE.refl H)
theorem Sm.trans(a:Sm H H1)(b:Sm H1 H2):Sm H H2:=⟨λc o e n=>b.s c o (a.s c o e n) n,λc o e n=>let ⟨o1,e1,n1⟩:=a.t c o e n;b.t c o1 e1 n1,λi=>b.k (a.k i)⟩
theorem Sm.free(s:Sm H H')(n:H' b=none):H b=none:=by
 cases e:H b with
 |none=>rfl
 |some o=>
  cases q:jF o with
  |false=>have:=s.s b o e q;rw[n]at this;cases this
  |true=>obtain⟨o',e',_⟩:=s.t b o e q;rw[n]at e';cases e'
theorem Sm.put{H0 H:Hp}{l:Addr}{x o:HO}(s:Sm H0 H)(n:H0 l=none)(e:H l=some x)(li:uV x=true:=by rfl):Sm H0 (zV H l o):=⟨λb u q t=>(zu (xT q n)).trans (s.s b u q t),λb u q t=>let ⟨o',e',t'⟩:=s.t b u q t;⟨o',(zu (xT q n)).trans e',t'⟩,λi=>Tbl.put (s.k i) e li⟩
theorem zQz{H H1 H2:Hp}{x:Addr}{u:HO}(s:Sm H H1)(e:H1 x=some u)(b:Sm (less x H1) H2)(n:H x=none)(li:uV u=true:=by rfl):Sm H H2:=⟨λc o q t=>b.s c o ((if_neg (xT q n)).trans (s.s c o q t)) t,λc o q t=>let ⟨o',e',t'⟩:=s.t c o q t;b.t c o' ((if_neg (xT q n)).trans e') t',λi=>b.k (Tbl.less (s.k i) e li)⟩
theorem xJ(h:H a=none)(o):Sm H (zV H a o):=.of (ZM h o)
open Classical in
noncomputable def zG(Z:Addr->Prop)(H:Hp):Hp:=λb=>if Z b then none else(H b).filter λo=>!(jF o)
theorem wb{Z:Addr->Prop}{H:Hp}{b:Addr}{o:HO}(h:¬Z b)(e:H b=some o)(n:jF o=false:=by rfl):zG Z H b=some o:=by unfold zG;rw[if_neg h,e,Option.filter_some,n];rfl
theorem jG(h:zG Z H b=some o):jF o=false:=by
 unfold zG at h;by_cases c:Z b
 ·rw[if_pos c]at h;cases h
 ·rw[if_neg c]at h;have:=(fP.mp h).2;cases q:jF o with
  |false=>rfl
  |true=>rw[q]at this;cases this
theorem vP(h:zG Z H b=some o):¬Z b/\H b=some o:=by
 unfold zG at h;by_cases c:Z b
 ·rw[if_pos c]at h;cases h
 ·rw[if_neg c]at h;exact⟨c,(fP.mp h).1⟩
theorem zx:zE (zG Z H) H:=λ_ _ h=>(vP h).2
theorem yL(s:Sm H H'):zE (zG Z H) (zG Z H'):=λb o h=>by exact wb (vP h).1 (s.s _ _ (vP h).2 (jG h)) (jG h)
theorem kG(s:∀b,Z' b->Z b):zE (zG Z H) (zG Z' H):=λb o h=>by exact wb (λz=>(vP h).1 (s _ z)) (vP h).2 (jG h)
structure ZL(Z:Addr->Prop)(H:Hp):Prop where
 z:∀b,Z b->∃u,H b=some u/\∀xs,u≠.tup xs
 i:Tbl.I H
theorem ZL.same(z:ZL Z H)(s:Sm H H'):ZL Z H':=⟨λb hb=>by
 obtain⟨u,e,n⟩:=z.z b hb;cases q:jF u with
 |false=>exact⟨u,s.s _ _ e q,n⟩
 |true=>
  obtain⟨u',e',n'⟩:=s.t _ _ e q;exact⟨u',e',λxs y=>by rw[y]at n';cases n'⟩,s.k z.i⟩
theorem ZL.new(z:ZL Z H)(h:H p=none):¬Z p:=λq=>by obtain⟨u,e,_⟩:=z.z p q;rw[h]at e;cases e
inductive Sl where
 |no
 |sh (d:D)
 |ow (ds:List D)
 |ob (o c:Addr) (ns:List Str) (ds:List D)
noncomputable def slot:List Sl->Nat->Sl
 |[],_=>.no
 |x::_,0=>x
 |_::t,i+1=>slot t i
noncomputable def zL:List Sl->Nat->Sl->List Sl
 |[],_,_=>[]
 |_::t,0,y=>y::t
 |x::t,i+1,y=>x::zL t i y
theorem wl:∀Γ i y,(zL Γ i y).length=Γ.length
 |[],_,_=>rfl
 |_::_,0,_=>rfl
 |_::t,i+1,y=>by show(zL t i y).length+1=_;rw[wl t i y];rfl
theorem yd:∀Γ i j y,slot (zL Γ i y) j=if j=i/\i<Γ.length then y else slot Γ j
 |[],i,j,y=>by rw[if_neg (λh=>absurd h.2 (df _))];rfl
 |x::t,0,0,y=>(if_pos ⟨rfl,lI _⟩).symm
 |x::t,0,j+1,y=>(if_neg (λh=>nomatch h.1)).symm
 |x::t,i+1,0,y=>(if_neg (λh=>nomatch h.1)).symm
 |x::t,i+1,j+1,y=>by
  show slot (zL t i y) j=if j+1=i+1/\i+1<t.length+1 then y else slot t j
  rw[yd t i j y];by_cases c:j=i/\i<t.length
  ·rw[if_pos c,if_pos ⟨by omega,by omega⟩]
  ·rw[if_neg c,if_neg (λh=>c ⟨by omega,by omega⟩)]
theorem uW:∀{Γ:List Sl}{i:Nat},slot Γ i≠.no->i<Γ.length
 |[],_,h=>absurd rfl h
 |_::_,0,_=>lI _
 |_::_,_+1,h=>lH (uW (Γ:=_) h)
structure zr(Z:Addr->Prop)(Γ:List Sl)(σ:St)(H:Hp):Prop where
 sh:∀i d,slot Γ i=.sh d->∃v,σ[i]? =some (some v)/\DV (zG Z H) v d
 ow:∀i ds,slot Γ i=.ow ds->∃l xs,σ[i]? =some (some (.ref l))/\Z l/\H l=some (.lst xs)/\yD (zG Z H) xs ds
 ob:∀i o c ns ds,slot Γ i=.ob o c ns ds->∃dx xs,σ[i]? =some (some (.ref o))/\Z o/\H o=some (.ins c dx (ns.zip xs))/\ns.length=xs.length/\yD (zG Z H) xs ds
 ne:∀i j as bs l,slot Γ i=.ow as->slot Γ j=.ow bs->σ[i]? =some (some (.ref l))->σ[j]? =some (some (.ref l))->i=j
 zd:ZL Z H
 len:Γ.length=σ.length
theorem zr.same(E:zr Z Γ σ H)(s:Sm H H'):zr Z Γ σ H' where
 sh:=λi d e=>let ⟨v,h1,h2⟩:=E.sh i d e;⟨v,h1,h2.same (yL s)⟩
 ow:=λi ds e=>let ⟨l,xs,h1,h2,h3,h4⟩:=E.ow i ds e;⟨l,xs,h1,h2,s.at h3,yq (yL s) h4⟩
 ob:=λi o c ns ds e=>let ⟨dx,xs,h1,h2,h3,h5,h4⟩:=E.ob i o c ns ds e;⟨dx,xs,h1,h2,s.at h3,h5,yq (yL s) h4⟩
 ne:=E.ne
 zd:=E.zd.same s
 len:=E.len
theorem zr.set(E:zr Z Γ σ H)(h:DV (zG Z H) v d)(i):zr Z (zL Γ i (.sh d)) (σ.set i (some v)) H where
 sh:=λj e q=>by
  rw[yd]at q;by_cases c:j=i/\i<Γ.length
  ·rw[if_pos c]at q;cases q;rw[c.1];exact⟨v,by rw[cD (by have:=E.len;omega)],h⟩
  ·rw[if_neg c]at q;obtain⟨u,h1,h2⟩:=E.sh j e q;have hj:=uW (Γ:=Γ) (i:=j) (by rw[q];exactλz=>nomatch z);exact⟨u,by rw[bv (λz=>c ⟨z.symm,by exact vW⟩)];exact h1,h2⟩
 ow:=λj e q=>by
  rw[yd]at q;by_cases c:j=i/\i<Γ.length
  ·rw[if_pos c]at q;cases q
  ·rw[if_neg c]at q;obtain⟨l,xs,h1,h2⟩:=E.ow j e q;have hj:=uW (Γ:=Γ) (i:=j) (by rw[q];exactλz=>nomatch z);exact⟨l,xs,by rw[bv (λz=>c ⟨z.symm,by exact vW⟩)];exact h1,h2⟩
 ob:=λj o0 c0 ns e q=>by
  rw[yd]at q;by_cases c:j=i/\i<Γ.length
  ·rw[if_pos c]at q;cases q
  ·rw[if_neg c]at q;obtain⟨dx,xs,h1,h2⟩:=E.ob j o0 c0 ns e q;have hj:=uW (Γ:=Γ) (i:=j) (by rw[q];exactλz=>nomatch z);exact⟨dx,xs,by rw[bv (λz=>c ⟨z.symm,by exact vW⟩)];exact h1,h2⟩
 ne:=λj k as bs l q r e f=>by
  rw[yd]at q r;by_cases c:j=i/\i<Γ.length
  ·rw[if_pos c]at q;cases q
  ·by_cases c':k=i/\i<Γ.length
   ·rw[if_pos c']at r;cases r
   ·rw[if_neg c]at q;rw[if_neg c']at r;have hj:=uW (Γ:=Γ) (i:=j) (by rw[q];exactλz=>nomatch z);have hk:=uW (Γ:=Γ) (i:=k) (by rw[r];exactλz=>nomatch z);rw[bv (λz=>c ⟨z.symm,by exact vW⟩)]at e;rw[bv (λz=>c' ⟨z.symm,by exact vW⟩)]at f;exact E.ne j k as bs l q r e f
 zd:=E.zd
 len:=by rw[wl,bS];exact E.len
abbrev zj:=List Sl->(D->Prop)->Prop
abbrev xq:=List Sl->(Bool->Prop)->Prop
abbrev yY:=List Sl->(List D->Prop)->Prop
abbrev ZV:=List Sl->(Option Int->Prop)->Prop
inductive tP(p:zj)(σ:St)(H:Hp)(Q:VK):Prop
 |mk (Z:Addr->Prop) (Γ:List Sl) (R:D->Prop) (E:zr Z Γ σ H) (h:p Γ R) (q:∀d v H',R d->Sm H H'->DV (zG Z H') v d->Q v H'):tP p σ H Q
inductive y8(p:xq)(σ:St)(H:Hp)(Q:Bool->Hp->Prop):Prop
 |mk (Z:Addr->Prop) (Γ:List Sl) (R:Bool->Prop) (E:zr Z Γ σ H) (h:p Γ R) (q:∀b H',R b->Sm H H'->Q b H'):y8 p σ H Q
inductive xb(p:yY)(σ:St)(H:Hp)(Q:List V->Hp->Prop):Prop
 |mk (Z:Addr->Prop) (Γ:List Sl) (R:List D->Prop) (E:zr Z Γ σ H) (h:p Γ R) (q:∀ds vs H',R ds->Sm H H'->yD (zG Z H') vs ds->Q vs H'):xb p σ H Q
inductive qt(p:ZV)(σ:St)(H:Hp)(Q:Option Int->Hp->Prop):Prop
 |mk (Z:Addr->Prop) (Γ:List Sl) (R:Option Int->Prop) (E:zr Z Γ σ H) (h:p Γ R) (q:∀o H',R o->Sm H H'->Q o H'):qt p σ H Q
section
variable{X:Cx}{a b e c:Expr}{es:List Expr}{pos:Pos}{pa pb pc:zj}{qa qb:xq}{pl:yY}
theorem yz(h:PE X e t)(w:∀σ H Q,t' σ H Q->t σ H Q):PE X e t':=λpins s σ H Q I q=>h pins s σ H Q I (w σ H Q q)
theorem XH(h:PT X e t)(w:∀σ H Q,t' σ H Q->t σ H Q):PT X e t':=λpins s σ H Q I q=>h pins s σ H Q I (w σ H Q q)
theorem pww(h:PW X e t)(w:∀σ H Q,t' σ H Q->t σ H Q):PW X e t':=λwh pins s σ H Q I q=>h wh pins s σ H Q I (w σ H Q q)
theorem paw(h:PA X es t)(w:∀σ H Q,t' σ H Q->t σ H Q):PA X es t':=λpos pins s σ H Q I q=>h pos pins s σ H Q I (w σ H Q q)
def qE(i:Nat):zj:=λΓ R=>match slot Γ i with| .sh d=>R d|_=>False
theorem zK(i:Nat){x:Str}{pos:Pos}(hN:X.N[i]? =some x:=by rfl)(hv:j4 X.env.scope x:=by first|exact Or.inl rfl|exact Or.inr (Or.inl rfl)|exact Or.inr (Or.inr rfl))(hd:(x==("__debug__":Str))=false:=by decide)
  (hcd:(x==("__classdict__":Str))=false:=by decide):PE X (.Name x pos) (tP (qE i)):=yz (QQ hN hv hd hcd) λσ H Q ⟨Z,Γ,R,E,h,q⟩=>by
 unfold qE at h;cases s:slot Γ i with
 |sh d=>
  rw[s]at h;obtain⟨v,e,k⟩:=E.sh i d s;exact⟨v,e,q d v H h (Sm.refl _) k⟩
 |_=>rw[s]at h;exact h.elim
def pC(d:D):zj:=λ_ R=>R d
theorem yM{i j pos}:PE X (.Constant (.int i) j pos) (tP (pC (.int i))):=yz zN3 λ_ H _ ⟨_,_,_,_,h,q⟩=>q _ _ H h (Sm.refl _) (.int i)
theorem Ke{i j pos}:PE X (.Constant (.bool i) j pos) (tP (pC (.bool i))):=yz Z8 λ_ H _ ⟨_,_,_,_,h,q⟩=>q _ _ H h (Sm.refl _) (.bool i)
theorem zRI{j pos}:PE X (.Constant .none j pos) (tP (pC .non)):=yz zN1 λ_ H _ ⟨_,_,_,_,h,q⟩=>q _ _ H h (Sm.refl _) .non
theorem zRF{i j pos}:PE X (.Constant (.str i) j pos) (tP (pC (.str i))):=yz zRY λ_ H _ ⟨_,_,_,_,h,q⟩=>q _ _ H h (Sm.refl _) (.str i)
theorem zMU{x:Str}{i:Int}{pos:Pos}(hg:Gl X x)(hm:∃t,X.mg x=some (.int i t))(hd:(x==("__debug__":Str))=false:=by decide):PE X (.Name x pos) (tP (pC (.int i))):=
 let ⟨_,e⟩:=hm
 yz (zKJ (v:=.int i) hg e ⟨_,rfl⟩ hd) λ_ H _ ⟨_,_,_,_,h,q⟩=>q _ _ H h (Sm.refl _) (.int i)
abbrev F2:=D->D->(D->Prop)->Prop
def wm(f:F2)(pa pb:zj):zj:=λΓ R=>pa Γ λx=>pb Γ λy=>f x y R
def xE(r:R2)(f:F2):Prop:=∀(Z:Addr->Prop)(H:Hp)(x y:V)(a b:D)(R:D->Prop)(Q:VK),ZL Z H->DV (zG Z H) x a->DV (zG Z H) y b->f a b R->(∀d v H',R d->Sm H H'->DV (zG Z H') v d->Q v H')->r x y H Q
theorem JU(o:xE r f)(σ)(H)(Q):tP (wm f pa pb) σ H Q->ZI r (tP pa) (tP pb) σ H Q:=λ⟨Z,Γ,R,E,h,q⟩=>⟨Z,Γ,_,E,h,λd v H1 hd s1 hv=>⟨Z,Γ,_,E.same s1,hd,λd2 v2 H2 hd2 s2 hv2=>o Z H2 v v2 d d2 R Q (E.same (s1.trans s2)).zd (hv.same (yL s2)) hv2 hd2 λd3 v3 H3 h3 s3 hv3=>q d3 v3 H3 h3 (s1.trans (s2.trans s3)) hv3⟩⟩
theorem XI(ho:yV X (binaryOp op) r)(o:xE r f)(ha:PE X a (tP pa))(hb:PE X b (tP pb)):PE X (.BinOp a op b pos) (tP (wm f pa pb)):=yz (YM ho ha hb) (JU o)
theorem zNw(ho:yV X (compareOp op) r)(o:xE r f)(hm:behindInMarks op b=false)(ha:PE X a (tP pa))(hb:PE X b (tP pb)):PE X (.Compare a [op] [b] pos) (tP (wm f pa pb)):=yz (zPD ho ha hb hm) (JU o)
theorem uX(zd:ZL Z H)(hp:H p=none)(h:yD (zG Z H) xs ds):DV (zG Z (zV H p (.lst xs))) (.ref p) (.lst ds):= .lst (wb (zd.new hp) xS) (yq (yL (xJ hp _)) h)
theorem XJ(zd:ZL Z H)(hp:H p=none)(h:yD (zG Z H) xs ds):DV (zG Z (zV H p (.tup xs))) (.ref p) (.tup ds):= .tup (wb (zd.new hp) xS) (yq (yL (xJ hp _)) h)
theorem zKf(zd:ZL Z H)(e:H p=some (.tup xs))(h:yD (zG Z H) xs ds):DV (zG Z H) (.ref p) (.tup ds):=
 .tup (wb (λz=>by obtain⟨u,e',n⟩:=zd.z p z;rw[e]at e';cases e';exact n xs rfl) e) h
theorem DV.lst_inv(h:DV H v (.lst ds)):∃p xs,v=.ref p/\H p=some (.lst xs)/\yD H xs ds:=by cases h with|lst e h=>exact⟨_,_,rfl,e,h⟩
theorem DV.tup_inv(h:DV H v (.tup ds)):∃p xs,v=.ref p/\H p=some (.tup xs)/\yD H xs ds:=by cases h with|tup e h=>exact⟨_,_,rfl,e,h⟩
theorem DV.int_inv(h:DV H v (.int i)):v=.int i:=by cases h;rfl
theorem few(h:n<=1000):n<=sizeLine:=eB (Qs h)
def qF:F2
 | .int i,.int j,R=>R (.int (i+j))
 | .lst as,.lst bs,R=>as.length+bs.length<=1000/\R (.lst (as++bs))
 | .tup as,.tup bs,R=>as.length+bs.length<=1000/\R (.tup (as++bs))
 |_,_,_=>False
theorem zKc:xE (λx y H Q=>uf (λi j=>.int (i+j)) x y H Q\/(Yg x y H Q\/Q5 x y H Q)) qF:=λZ H x y a b R Q zd hx hy h q=>by
 unfold qF at h;cases a <;> cases b <;> first|exact False.elim h|dsimp only at h
 ·cases hx;cases hy;exact .inl ⟨_,_,rfl,rfl,q _ _ H h (Sm.refl _) (.int _)⟩
 ·obtain⟨p,xs,rfl,e1,h1⟩:=hx.lst_inv;obtain⟨r,ys,rfl,e2,h2⟩:=hy.lst_inv;have l1:=Paired.length h1;have l2:=Paired.length h2;exact .inr (.inl ⟨p,r,xs,ys,rfl,rfl,zx _ _ e1,zx _ _ e2,few (by omega),λn hn=>q _ _ _ h.2 (xJ hn _) (uX zd hn (gr h1 h2))⟩)
 ·obtain⟨p,xs,rfl,e1,h1⟩:=hx.tup_inv;obtain⟨r,ys,rfl,e2,h2⟩:=hy.tup_inv;have l1:=Paired.length h1;have l2:=Paired.length h2;exact .inr (.inr ⟨p,r,xs,ys,rfl,rfl,zx _ _ e1,zx _ _ e2,few (by omega),λn H' s e=>have s:=Sm.of s;q _ _ _ h.2 s (zKf (zd.same s) e (yq (yL s) (gr h1 h2)))⟩)
def kH:F2
 | .int i,.int j,R=>R (.int (i-j))
 |_,_,_=>False
theorem zOE{k:Int->Int->D}(hg:∀i j H,DV H (g i j) (k i j))(hf:∀a b R,f a b R->∃i j,a=.int i/\b=.int j/\R (k i j)):xE (uf g) f:=λZ H x y a b R Q zd hx hy h q=>by obtain⟨i,j,rfl,rfl,k⟩:=hf a b R h;cases hx;cases hy;exact⟨_,_,rfl,rfl,q _ _ H k (Sm.refl _) (hg i j _)⟩
theorem Kf{k:Int->Int->D}(hg:∀i j H,DV H (g i j) (k i j))(hf:∀a b R,f a b R->∃i j,a=.int i/\b=.int j/\C i j/\R (k i j)):xE (rI C g) f:=λZ H x y a b R Q zd hx hy h q=>by obtain⟨i,j,rfl,rfl,c,k⟩:=hf a b R h;cases hx;cases hy;exact⟨_,_,rfl,rfl,c,q _ _ H k (Sm.refl _) (hg i j _)⟩
theorem zKX:xE (uf λi j=>.int (i-j)) kH:=zOE (k:=λi j=>.int (i-j)) (λ_ _ _=>.int _) λa b R h=>by
 cases a <;> try exact h.elim
 cases b <;> try exact h.elim
 exact⟨_,_,rfl,rfl,h⟩
def XM:F2
 | .int i,.int j,R=>Bd 60000 i/\Bd 60000 j/\R (.int (i*j))
 | .lst [d],.int k,R=>0<=k/\k<=1000/\R (.lst (aL k.toNat d))
 |_,_,_=>False
theorem XN{α:Type}(x:α):∀n:Nat,(aL n [x]).flatten=aL n x
 |0=>rfl
 |n+1=>by rw[cC,d5,XN x n];rfl
theorem zEg{α β:Type}{R:α->β->Prop}{x:α}{y:β}(h:R x y):∀n:Nat,Paired R (aL n x) (aL n y)
 |0=>.nil
 |n+1=>.cons h (zEg h n)
theorem zPM:xE (λx y H Q=>rI U5 (λi j=>.int (i*j)) x y H Q\/Yh x y H Q) XM:=λZ H x y a b R Q zd hx hy h q=>by
 cases a <;> try exact h.elim
 ·cases b <;> try exact h.elim
  cases hx;cases hy;exact .inl ⟨_,_,rfl,rfl,⟨h.1,h.2.1⟩,q _ _ H h.2.2 (Sm.refl _) (.int _)⟩
 ·rename_i ds;rcases ds with _|⟨d,_|_⟩ <;> try exact h.elim
  cases b <;> try exact h.elim
  rename_i k;obtain⟨n1,n2,h⟩:=h;obtain⟨p,xs,rfl,e1,h1⟩:=hx.lst_inv;cases hy;cases h1 with
  |@cons x _ _ _ h1 h2=>
  cases h2;refine .inr ⟨p,_,_,rfl,rfl,zx _ _ e1,by exact vT,by omega,few (by rw[dW];omega),λn hn=>?_⟩;rw[XN];exact q _ _ _ h (xJ hn _) (uX zd hn (zEg h1 _))
def Kg:F2
 | .int i,.int j,R=>j≠0/\Bd 8000 j/\R (.int (i.fdiv j))
 |_,_,_=>False
theorem zH1:xE (rI zS8 λi j=>.int (i.fdiv j)) Kg:=Kf (k:=λi j=>.int (i.fdiv j)) (λ_ _ _=>.int _) λa b R h=>by
 cases a <;> try exact h.elim
 cases b <;> try exact h.elim
 exact⟨_,_,rfl,rfl,⟨h.1,h.2.1⟩,h.2.2⟩
def qG:F2
 | .int i,.int j,R=>j≠0/\R (.int (i.fmod j))
 |_,_,_=>False
theorem zKZ:xE (rI (λ_ j=>j≠0) λi j=>.int (i.fmod j)) qG:=Kf (k:=λi j=>.int (i.fmod j)) (λ_ _ _=>.int _) λa b R h=>by
 cases a <;> try exact h.elim
 cases b <;> try exact h.elim
 exact⟨_,_,rfl,rfl,h.1,h.2⟩
def XO:F2
 | .int i,.int j,R=>gY i j/\R (.int (i^j.toNat))
 |_,_,_=>False
theorem zPK:xE (rI gY λi j=>.int (i^j.toNat)) XO:=Kf (k:=λi j=>.int (i^j.toNat)) (λ_ _ _=>.int _) λa b R h=>by
 cases a <;> try exact h.elim
 cases b <;> try exact h.elim
 exact⟨_,_,rfl,rfl,h.1,h.2⟩
def jH(g:Int->Int->Bool):F2
 | .int i,.int j,R=>R (.bool (g i j))
 |_,_,_=>False
theorem JV:xE (uf λi j=>.bl (g i j)) (jH g):=zOE (k:=λi j=>.bool (g i j)) (λ_ _ _=>.bool _) λa b R h=>by
 cases a <;> try exact h.elim
 cases b <;> try exact h.elim
 exact⟨_,_,rfl,rfl,h⟩
theorem XQ(ha:PE X a (tP pa))(hb:PE X b (tP pb)):PE X (.BinOp a .Add b pos) (tP (wm qF pa pb)):=XI (zOC.or (zOB.or zSE)) zKc ha hb
theorem ZW(ha:PE X a (tP pa))(hb:PE X b (tP pb)):PE X (.BinOp a .Sub b pos) (tP (wm kH pa pb)):=XI zN9 zKX ha hb
theorem uY(ha:PE X a (tP pa))(hb:PE X b (tP pb)):PE X (.BinOp a .FloorDiv b pos) (tP (wm Kg pa pb)):=XI zHy zH1 ha hb
theorem vH(ha:PE X a (tP pa))(hb:PE X b (tP pb)):PE X (.BinOp a .Mod b pos) (tP (wm qG pa pb)):=XI zKW zKZ ha hb
def XR:D->(D->Prop)->Prop
 | .int i,R=>R (.int (-i))
 |_,_=>False
def uk(f:D->(D->Prop)->Prop)(pa:zj):zj:=λΓ R=>pa Γ λx=>f x R
theorem zRJ(ha:PE X a (tP pa)):PE X (.UnaryOp .USub a pos) (tP (uk XR pa)):=yz (zRX zNk ha) λσ H Q ⟨Z,Γ,R,E,h,q⟩=>
 ⟨Z,Γ,_,E,h,λd v H1 hd s1 hv=>by
  cases d <;> try exact hd.elim
  cases hv;exact⟨_,rfl,q _ _ H1 hd s1 (.int _)⟩⟩
end
end Pu
namespace Pu
open PySem L2 Sh
variable[Tbl]
mutual
noncomputable def D.py:D->PyData
 | .int i=>.int i
 | .bool b=>.bool b
 | .non=>.none
 | .str x=>.str x
 | .scr _=>.none
 | .raw _=>.none
 | .lst ds=>.list (wP ds)
 | .tup ds=>.tuple (wP ds)
 | .obj _ _ _=>.none
noncomputable def wP:List D->List PyData
 |[]=>[]
 |d::ds=>d.py::wP ds
end
noncomputable def D.pl:Nat->D->Bool
 |0,_=>false
 |_+1,.int _=>true
 |_+1,.bool _=>true
 |_+1,.non=>true
 |_+1,.str x=>PyData.strOk x
 |_+1,.scr _=>false
 |_+1,.raw _=>false
 |n+1,.lst ds=>ds.all (D.pl n)
 |n+1,.tup ds=>ds.all (D.pl n)
 |_+1,.obj ..=>false
structure DpO(n:Nat)(d:D):Prop where
 dp:∀K H v,DV H v d->Dp K H v d.py
 lay:d.py.canLay0=true
 dep:d.py.depth<=n
theorem Kh:∀{ds:List D},(∀d∈ds,DpO n d)->(∀K H xs,yD H xs ds->u6 K H xs (wP ds))/\d8 (wP ds)=true/\im (wP ds)<=n
 |[],_=>⟨λK H xs h=>by cases h;exact .nil,by simp[wP,d8],by simp[wP,im]⟩
 |d::ds,h=>by
  obtain⟨h1,h2,h3⟩:=Kh (ds:=ds) λx m=>h x (aK _ m);have g:=h d aR;have l:=g.lay;have p:=g.dep;refine⟨λK H xs q=>?_,by simp[wP,d8,l,h2],by simp only[wP,im];omega⟩;cases q with
  |cons q r=>exact .cons (g.dp K H _ q) (h1 K H _ r)
theorem wn:∀n d,D.pl n d=true->DpO n d
 |0,_,h=>by cases h
 |n+1,.int i,_=>⟨λK H v h=>by cases h;exact .int i,by simp[D.py,dy],by simp[D.py,fg]⟩
 |n+1,.bool i,_=>⟨λK H v h=>by cases h;exact .bl i,by simp[D.py,dy],by simp[D.py,fg]⟩
 |n+1,.non,_=>⟨λK H v h=>by cases h;exact .non,by simp[D.py,dy],by simp[D.py,fg]⟩
 |n+1,.str i,h=>⟨λK H v h=>by cases h;exact .str i,by simp only[D.py,dy];exact h,by simp[D.py,fg]⟩
 |n+1,.scr _,h=>by cases h
 |n+1,.raw _,h=>by cases h
 |n+1,.obj ..,h=>by cases h
 |n+1,.lst ds,h=>by
  obtain⟨h1,h2,h3⟩:=Kh (n:=n) (ds:=ds) λd m=>wn n d (aT.mp h d m);refine⟨λK H v q=>?_,by simp[D.py,dy,h2],by simp only[D.py,fg];exact u0⟩;obtain⟨p,xs,rfl,e,q⟩:=q.lst_inv;exact .lst (zW.of e) (h1 K H _ q)
 |n+1,.tup ds,h=>by
  obtain⟨h1,h2,h3⟩:=Kh (n:=n) (ds:=ds) λd m=>wn n d (aT.mp h d m);refine⟨λK H v q=>?_,by simp[D.py,dy,h2],by simp only[D.py,fg];exact u0⟩;obtain⟨p,xs,rfl,e,q⟩:=q.tup_inv;exact .tup (yZ.of e) (h1 K H _ q)
theorem Ki:∀ns:List Int,wP (ns.map D.int)=ns.map PyData.int
 |[]=>rfl
 |n::t=>by rw[bg,bg,wP,Ki t,D.py]
theorem Kj(n)(ns:List Int):(ns.map D.int).all (D.pl (n+1))=true:=aT.mpr λd m=>by obtain⟨i,_,rfl⟩:=aG.mp m;rfl
noncomputable abbrev L(ns:List Int):D:=.lst (ns.map D.int)
noncomputable abbrev U(ns:List Int):D:=.tup (ns.map D.int)
theorem XS(ns ms):cE (L ns).py (L ms).py=decide (ns=ms):=by show c9 (wP (ns.map D.int)) (wP (ms.map D.int))=_;rw[Ki,Ki];exact zGG ns ms
section
variable{X:Cx}{a b e c:Expr}{es:List Expr}{pos:Pos}{pa pb pc:zj}{qa qb:xq}{pl:yY}
def JW:F2
 | .int i,.int j,R=>R (.bool (decide (i=j)))
 | .bool i,.bool j,R=>R (.bool (i==j))
 | .str i,.str j,R=>R (.bool (i==j))
 | .non,.non,R=>R (.bool true)
 | .lst as,.lst bs,R=>(D.lst as).pl 50=true/\(D.lst bs).pl 50=true/\R (.bool (cE (D.lst as).py (D.lst bs).py))
 | .tup as,.tup bs,R=>(D.tup as).pl 50=true/\(D.tup bs).pl 50=true/\R (.bool (cE (D.tup as).py (D.tup bs).py))
 |_,_,_=>False
theorem Kk:xE (λx y H Q=>rEq x y H Q\/gt K x y H Q) JW:=λZ H x y a b R Q zd hx hy h q=>by
 cases a <;> cases b <;> try exact False.elim h
 ·cases hx;cases hy;refine .inl ⟨rfl,?_⟩;rw[Uu,io];exact q _ _ H h (Sm.refl _) (.bool _)
 ·cases hx;cases hy;refine .inl ⟨rfl,?_⟩;rw[Uv];exact q _ _ H h (Sm.refl _) (.bool _)
 ·cases hx;cases hy;refine .inl ⟨rfl,?_⟩;rw[show decide (V.non=V.non)=true from decide_eq_true rfl];exact q _ _ H h (Sm.refl _) (.bool _)
 ·cases hx;cases hy;refine .inl ⟨rfl,?_⟩;rw[Uw];exact q _ _ H h (Sm.refl _) (.bool _)
 ·have d1:=wn _ _ h.1;have d2:=wn _ _ h.2.1;have e1:=d1.dep;have e2:=d2.dep;exact .inr ⟨_,_,d1.dp K H _ (hx.same zx),d2.dp K H _ (hy.same zx),d1.lay,d2.lay,by exact zA,by exact zA,q _ _ H h.2.2 (Sm.refl _) (.bool _)⟩
 ·have d1:=wn _ _ h.1;have d2:=wn _ _ h.2.1;have e1:=d1.dep;have e2:=d2.dep;exact .inr ⟨_,_,d1.dp K H _ (hx.same zx),d2.dp K H _ (hy.same zx),d1.lay,d2.lay,by exact zA,by exact zA,q _ _ H h.2.2 (Sm.refl _) (.bool _)⟩
def kI:F2
 | .int i,.int j,R=>R (.bool (!decide (i=j)))
 | .bool i,.bool j,R=>R (.bool (i != j))
 | .str i,.str j,R=>R (.bool (i != j))
 | .lst as,.lst bs,R=>(D.lst as).pl 50=true/\(D.lst bs).pl 50=true/\R (.bool (!PyData.eqv (D.lst as).py (D.lst bs).py))
 | .tup as,.tup bs,R=>(D.tup as).pl 50=true/\(D.tup bs).pl 50=true/\R (.bool (!PyData.eqv (D.tup as).py (D.tup bs).py))
 |_,_,_=>False
theorem zOD:xE (λx y H Q=>rNe x y H Q\/∃d e,Dp K H x d/\Dp K H y e/\d.canLay0=true/\e.canLay0=true/\d.depth<=60/\e.depth<=60/\Q (.bl (!PyData.eqv d e)) H) kI:=λZ H x y a b R Q zd hx hy h q=>by
 cases a <;> cases b <;> try exact False.elim h
 ·cases hx;cases hy;refine .inl ⟨rfl,?_⟩;rw[Uu,io];exact q _ _ H h (Sm.refl _) (.bool _)
 ·cases hx;cases hy;refine .inl ⟨rfl,?_⟩;rw[Uv];exact q _ _ H h (Sm.refl _) (.bool _)
 ·cases hx;cases hy;refine .inl ⟨rfl,?_⟩;rw[Uw];exact q _ _ H h (Sm.refl _) (.bool _)
 ·have d1:=wn _ _ h.1;have d2:=wn _ _ h.2.1;have e1:=d1.dep;have e2:=d2.dep;exact .inr ⟨_,_,d1.dp K H _ (hx.same zx),d2.dp K H _ (hy.same zx),d1.lay,d2.lay,by exact zA,by exact zA,q _ _ H h.2.2 (Sm.refl _) (.bool _)⟩
 ·have d1:=wn _ _ h.1;have d2:=wn _ _ h.2.1;have e1:=d1.dep;have e2:=d2.dep;exact .inr ⟨_,_,d1.dp K H _ (hx.same zx),d2.dp K H _ (hy.same zx),d1.lay,d2.lay,by exact zA,by exact zA,q _ _ H h.2.2 (Sm.refl _) (.bool _)⟩
theorem XT(hu:X.A.units+64<cLine)(ha:PE X a (tP pa))(hb:PE X b (tP pb))(hm:behindInMarks .Eq b=false:=by rfl):PE X (.Compare a [.Eq] [b] pos) (tP (wm JW pa pb)):=zNw (Qd.or (U9 hu)) Kk hm ha hb
def bD:D->(Bool->Prop)->Prop
 | .bool b,R=>R b
 |_,_=>False
def wQ(pa:zj):xq:=λΓ R=>pa Γ λd=>bD d R
theorem Kl(w:∀σ H Q,tP pa σ H Q->t σ H Q)(σ)(H)(Q):y8 (wQ pa) σ H Q->Qe t σ H Q:=λ⟨Z,Γ,R,E,h,q⟩=>
 w _ _ _ ⟨Z,Γ,_,E,h,λd v H1 hd s1 hv=>by
  cases d <;> try exact hd.elim
  cases hv;exact⟨_,rfl,q _ H1 hd s1⟩⟩
theorem zJq(ha:PE X e (tP pa))(he:∀whole,isTrue e X.env whole=(do let v <- whole;standAt e.pos;holding [v] (truthy v)):=by intro _;rfl):PT X e (y8 (wQ pa)):=XH (zRO ha he) (Kl λ_ _ _ h=>h)
theorem Km(ho:yV X (compareOp op) r)(o:xE r f)(hm:behindInMarks op b=false)(ha:PE X a (tP pa))(hb:PE X b (tP pb)):PT X (.Compare a [op] [b] pos) (y8 (wQ (wm f pa pb))):=XH (zO3 ho ha hb hm) (Kl (JU o))
theorem Kn(hu:X.A.units+64<cLine)(ha:PE X a (tP pa))(hb:PE X b (tP pb))(hm:behindInMarks .Eq b=false:=by rfl):PT X (.Compare a [.Eq] [b] pos) (y8 (wQ (wm JW pa pb))):=Km (Qd.or (U9 hu)) Kk hm ha hb
theorem Ko(hu:X.A.units+64<cLine)(ha:PE X a (tP pa))(hb:PE X b (tP pb))(hm:behindInMarks .NotEq b=false:=by rfl):PT X (.Compare a [.NotEq] [b] pos) (y8 (wQ (wm kI pa pb))):=Km (zRu.or (Qu hu)) zOD hm ha hb
def wA(b:Bool)(A B:Prop):Prop:=(b=true->A)/\(b=false->B)
theorem wT{b:Bool}(e:b=true)(h:A):wA b A B:=⟨λ_=>h,λz=>nomatch e.symm.trans z⟩
theorem wF{b:Bool}(e:b=false)(h:B):wA b A B:=⟨λz=>(nomatch e.symm.trans z),λ_=>h⟩
theorem w2{b:Bool}(h1:b=true->A)(h2:b=false->B):wA b A B:=⟨h1,h2⟩
def XU(p q:xq):xq:=λΓ R=>p Γ λc=>wA c (q Γ R) (R false)
def pOr(p q:xq):xq:=λΓ R=>p Γ λc=>wA c (R true) (q Γ R)
def XV(p:xq):xq:=λΓ R=>p Γ λc=>R (!c)
theorem zHj(ha:PT X a (y8 qa)):PW X (.BoolOp .And [a] pos) (y8 qa):=zOt ha
theorem zOu(ha:PT X a (y8 qa)):PW X (.BoolOp .Or [a] pos) (y8 qa):=zRC ha
theorem zJp{yE:List Expr}(ha:PT X a (y8 qa))(hb:PW X (.BoolOp .And (b::yE) pos) (y8 qb)):PW X (.BoolOp .And (a::b::yE) pos) (y8 (XU qa qb)):=pww (zRD ha hb) λσ H Q ⟨Z,Γ,R,E,h,q⟩=>
 ⟨Z,Γ,_,E,h,λc H1 hc s1=>by
  cases c with
  |true=>exact⟨Z,Γ,R,E.same s1,hc.1 rfl,λb H2 hb s2=>q b H2 hb (s1.trans s2)⟩
  |false=>exact q _ H1 (hc.2 rfl) s1⟩
theorem zRE{yE:List Expr}(ha:PT X a (y8 qa))(hb:PW X (.BoolOp .Or (b::yE) pos) (y8 qb)):PW X (.BoolOp .Or (a::b::yE) pos) (y8 (pOr qa qb)):=pww (Z9 ha hb) λσ H Q ⟨Z,Γ,R,E,h,q⟩=>
 ⟨Z,Γ,_,E,h,λc H1 hc s1=>by
  cases c with
  |true=>exact q _ H1 (hc.1 rfl) s1
  |false=>exact⟨Z,Γ,R,E.same s1,hc.2 rfl,λb H2 hb s2=>q b H2 hb (s1.trans s2)⟩⟩
theorem zOw(ha:PT X a (y8 qa)):PT X (.UnaryOp .Not a pos) (y8 (XV qa)):=XH (zRP ha) λσ H Q ⟨Z,Γ,R,E,h,q⟩=>⟨Z,Γ,_,E,h,λc H1 hc s1=>q _ H1 hc s1⟩
def zRr(p q:zj):zj:=λΓ R=>p Γ λd=>bD d λc=>wA c (q Γ R) (R (.bool false))
def XW(p q:zj):zj:=λΓ R=>p Γ λd=>bD d λc=>wA c (R (.bool true)) (q Γ R)
def zRl(p:zj):zj:=λΓ R=>p Γ λd=>bD d λc=>R (.bool !c)
theorem zRG{op}(ha:PE X a (tP pa)):PE X (.BoolOp op [a] pos) (tP pa):=zRa ha
theorem zRL{yE:List Expr}(ha:PE X a (tP pa))(hb:PE X (.BoolOp .And (b::yE) pos) (tP pb)):PE X (.BoolOp .And (a::b::yE) pos) (tP (zRr pa pb)):=yz (zRf ha hb) λσ H Q ⟨Z,Γ,R,E,h,q⟩=>
 ⟨Z,Γ,_,E,h,λd v H1 hd s1 hv=>by
  cases d <;> try exact hd.elim
  cases hv;rename_i c;refine⟨c,rfl,?_⟩;cases c with
  |true=>exact⟨Z,Γ,R,E.same s1,hd.1 rfl,λb v H2 hb s2 k=>q b v H2 hb (s1.trans s2) k⟩
  |false=>exact q _ _ H1 (hd.2 rfl) s1 (.bool _)⟩
theorem XX{yE:List Expr}(ha:PE X a (tP pa))(hb:PE X (.BoolOp .Or (b::yE) pos) (tP pb)):PE X (.BoolOp .Or (a::b::yE) pos) (tP (XW pa pb)):=yz (YD ha hb) λσ H Q ⟨Z,Γ,R,E,h,q⟩=>
 ⟨Z,Γ,_,E,h,λd v H1 hd s1 hv=>by
  cases d <;> try exact hd.elim
  cases hv;rename_i c;refine⟨c,rfl,?_⟩;cases c with
  |true=>exact q _ _ H1 (hd.1 rfl) s1 (.bool _)
  |false=>exact⟨Z,Γ,R,E.same s1,hd.2 rfl,λb v H2 hb s2 k=>q b v H2 hb (s1.trans s2) k⟩⟩
theorem zRH(ha:PE X a (tP pa)):PE X (.UnaryOp .Not a pos) (tP (zRl pa)):=yz (zRb ha) λσ H Q ⟨Z,Γ,R,E,h,q⟩=>
 ⟨Z,Γ,_,E,h,λd v H1 hd s1 hv=>by
  cases d <;> try exact hd.elim
  cases hv;exact⟨_,rfl,q _ _ H1 hd s1 (.bool _)⟩⟩
def XY(t:xq)(p q:zj):zj:=λΓ R=>t Γ λc=>wA c (p Γ R) (q Γ R)
theorem zMT(hc:PT X c (y8 qa))(ha:PE X a (tP pa))(hb:PE X b (tP pb)):PE X (.IfExp c a b pos) (tP (XY qa pa pb)):=yz (zMf hc ha hb) λσ H Q ⟨Z,Γ,R,E,h,q⟩=>
 ⟨Z,Γ,_,E,h,λc H1 hd s1=>by
  cases c with
  |true=>exact⟨Z,Γ,R,E.same s1,hd.1 rfl,λb v H2 hb s2 k=>q b v H2 hb (s1.trans s2) k⟩
  |false=>exact⟨Z,Γ,R,E.same s1,hd.2 rfl,λb v H2 hb s2 k=>q b v H2 hb (s1.trans s2) k⟩⟩
def kJ:yY:=λ_ R=>R []
def Kp(pa:zj)(pl:yY):yY:=λΓ R=>pa Γ λd=>pl Γ λds=>R (d::ds)
theorem yW:PA X [] (xb kJ):=paw ug λσ H Q ⟨_,_,_,_,h,q⟩=>q _ _ H h (Sm.refl _) .nil
theorem zQ(ha:PE X e (tP pa))(hr:PA X es (xb pl))(hs:starEach (e::es) X.env=(false,eval e X.env)::starEach es X.env:=by rfl):PA X (e::es) (xb (Kp pa pl)):=paw (wN ha hr hs) λσ H Q ⟨Z,Γ,R,E,h,q⟩=>⟨Z,Γ,_,E,h,λd v H1 hd s1 hv=>⟨Z,Γ,_,E.same s1,hd,λds vs H2 hds s2 hvs=>q _ _ H2 hds (s1.trans s2) (.cons (hv.same (yL s2)) hvs)⟩⟩
def XZ(pl:yY):zj:=λΓ R=>pl Γ λds=>ds.length<=1000/\R (.tup ds)
def Xa(pl:yY):zj:=λΓ R=>pl Γ λds=>ds.length<=1000/\R (.lst ds)
theorem Xb{x1}(ha:PA X es (xb pl)):PE X (.Tuple es x1 pos) (tP (XZ pl)):=yz (Qi ha) λσ H Q ⟨Z,Γ,R,E,h,q⟩=>⟨Z,Γ,_,E,h,λds vs H1 hd s1 hv=>⟨few (by rw[Paired.length hv];exact hd.1),λp hp=>q _ _ _ hd.2 (s1.trans (xJ hp _)) (XJ (E.same s1).zd hp hv)⟩⟩
theorem zNv(ha:PA X es (xb pl)):PE X (.List es pos) (tP (Xa pl)):=yz (zN2 ha) λσ H Q ⟨Z,Γ,R,E,h,q⟩=>⟨Z,Γ,_,E,h,λds vs H1 hd s1 hv=>⟨few (by rw[Paired.length hv];exact hd.1),λp hp=>q _ _ _ hd.2 (s1.trans (xJ hp _)) (uX (E.same s1).zd hp hv)⟩⟩
theorem JX{α β:Type}{R:α->β->Prop}{xs:List α}{ys:List β}(h:Paired R xs ys){i:Int}{y:β}(e:yc ys i=some y):∃x,yc xs i=some x/\R x y:=by
 unfold yc at e|-
 rw[Paired.length h];cases k:xw ys.length i with
 |none=>rw[k]at e;cases e
 |some j=>
  rw[k]at e;exact go h e
where
 go:∀{xs:List α}{ys:List β}{j:Nat}{y:β},Paired R xs ys->ys[j]? =some y->∃x,xs[j]? =some x/\R x y
  |_,_,_,_,.nil,e=>by simp at e
  |_,_,0,_,.cons r _,e=>by simp at e;subst e;exact⟨_,rfl,r⟩
  |_,_,j+1,y,.cons _ t,e=>by
   obtain⟨x,h1,h2⟩:=go (j:=j) (y:=y) t (by simpa using e);exact⟨x,by simpa using h1,h2⟩
def ixD:F2
 | .lst ds,.int i,R=>∃d,yc ds i=some d/\R d
 | .tup ds,.int i,R=>∃d,yc ds i=some d/\R d
 | .scr ns,.int i,R=>∃n,yc ns i=some n/\R (.int n)
 |_,_,_=>False
theorem kK{α β:Type}(f:α->β)(xs:List α)(i:Int):yc (xs.map f) i=(yc xs i).map f:=by
 unfold yc;rw[aB];cases xw xs.length i with
 |none=>rfl
 |some j=>exact aV ..
theorem zRx:xE (Yr K) ixD:=λZ H x y a b R Q zd hx hy h q=>by
 cases a <;> cases b <;> try exact False.elim h
 ·cases hy;cases hx with
  |scr e=>
  obtain⟨n,hn,hR⟩:=h;exact⟨_,_,_,.int n,rfl,rfl,.inr (.inl (JS zx e)),by rw[kK,hn];rfl,q _ _ H hR (Sm.refl _) (.int n)⟩
 ·obtain⟨p,xs,rfl,e1,h1⟩:=hx.lst_inv;cases hy;obtain⟨d,hd,hR⟩:=h;obtain⟨v,hv,hh⟩:=JX h1 hd;exact⟨p,xs,_,v,rfl,rfl,.inr (zW.of (zx _ _ e1)),hv,q _ _ H hR (Sm.refl _) hh⟩
 ·obtain⟨p,xs,rfl,e1,h1⟩:=hx.tup_inv;cases hy;obtain⟨d,hd,hR⟩:=h;obtain⟨v,hv,hh⟩:=JX h1 hd;exact⟨p,xs,_,v,rfl,rfl,.inl (yZ.of (zx _ _ e1)),hv,q _ _ H hR (Sm.refl _) hh⟩
theorem zRK(ha:PE X a (tP pa))(hb:PE X b (tP pb))(hs:Yc b):PE X (.Subscript a b pos) (tP (wm ixD pa pb)):=yz (Ql zPZ ha hb hs) (JU zRx)
theorem Xc{e:Option Expr}(h:PO X e t)(w:∀σ H Q,t' σ H Q->t σ H Q):PO X e t':=λpins s σ H Q I q=>h pins s σ H Q I (w σ H Q q)
def zKR:ZV:=λ_ R=>R none
def iD:D->(Option Int->Prop)->Prop
 | .int i,R=>R (some i)
 |_,_=>False
def zRj(pa:zj):ZV:=λΓ R=>pa Γ λd=>iD d R
theorem zMN:PO X none (qt zKR):=Xc zO7 λσ H Q ⟨_,_,_,_,h,q⟩=>q _ H h (Sm.refl _)
theorem Xd(h:PE X e (tP pa)):PO X (some e) (qt (zRj pa)):=Xc (zJ7 h) λσ H Q ⟨Z,Γ,R,E,h,q⟩=>
 ⟨Z,Γ,_,E,h,λd v H1 hd s1 hv=>by
  cases d <;> try exact hd.elim
  cases hv;exact⟨_,rfl,q _ H1 hd s1⟩⟩
noncomputable def zm{α:Type}(xs:List α)(lo hi:Option Int):List α:=(xs.drop (HT.sIx xs.length 0 lo)).take (HT.sIx xs.length xs.length hi-HT.sIx xs.length 0 lo)
theorem zKM{α β:Type}{R:α->β->Prop}:∀{xs:List α}{ys:List β}(n:Nat),Paired R xs ys->Paired R (xs.take n) (ys.take n)
 |_,_,0,_=>.nil
 |_,_,_+1,.nil=>.nil
 |_,_,n+1,.cons h t=>.cons h (zKM n t)
theorem zKN{α β:Type}{R:α->β->Prop}:∀{xs:List α}{ys:List β}(n:Nat),Paired R xs ys->Paired R (xs.drop n) (ys.drop n)
 |_,_,0,h=>h
 |_,_,_+1,.nil=>.nil
 |_,_,n+1,.cons _ t=>zKN n t
theorem Kq{α β:Type}{R:α->β->Prop}{xs:List α}{ys:List β}(h:Paired R xs ys)(lo hi:Option Int):Paired R (zm xs lo hi) (zm ys lo hi):=by unfold zm;rw[Paired.length h];exact zKM _ (zKN _ h)
def slD:D->Option Int->Option Int->(D->Prop)->Prop
 | .lst ds,lo,hi,R=>R (.lst (zm ds lo hi))
 | .tup ds,lo,hi,R=>R (.tup (zm ds lo hi))
 |_,_,_,_=>False
def pSl(pa:zj)(po qo:ZV):zj:=λΓ R=>pa Γ λd=>po Γ λl=>qo Γ λu=>slD d l u R
theorem zQ0(h:gh X r)(h':gh X r'):gh X (λx l u H Q=>r x l u H Q\/r' x l u H Q):=λpins s σ H x v vl vu lo hi sl Q I r1 r2 r3 r4 q=>q.elim (h pins s σ H x v vl vu lo hi sl Q I r1 r2 r3 r4) (h' pins s σ H x v vl vu lo hi sl Q I r1 r2 r3 r4)
theorem zMQ(ha:PE X a (tP pa))(hl:PO X lo (qt po))(hu:PO X hi (qt qo)):PE X (.Subscript a (.Slice lo hi none p2) pos) (tP (pSl pa po qo)):=yz (zHu (zQ0 zJf zMx) ha hl hu) λσ H Q ⟨Z,Γ,R,E,h,q⟩=>
 ⟨Z,Γ,_,E,h,λd v H1 hd s1 hv=>⟨Z,Γ,_,E.same s1,hd,λl H2 hl s2=>⟨Z,Γ,_,E.same (s1.trans s2),hl,λu H3 hu s3=>by
  have s:=s1.trans (s2.trans s3);have hv:=hv.same (yL (s2.trans s3));have zd:=(E.same s).zd;cases d <;> try exact hu.elim
  ·obtain⟨p,xs,rfl,e1,h1⟩:=hv.lst_inv;exact .inl ⟨p,xs,rfl,zW.of (zx _ _ e1),λn hn=>q _ _ _ hu (s.trans (xJ hn _)) (uX zd hn (Kq h1 _ _))⟩
  ·obtain⟨p,xs,rfl,e1,h1⟩:=hv.tup_inv;exact .inr ⟨p,xs,rfl,zx _ _ e1,λn H' s' e=>have s':=Sm.of s';q _ _ _ hu (s.trans s') (zKf (zd.same s') e (yq (yL s') (Kq h1 _ _)))⟩⟩⟩⟩
abbrev FL:=List D->(D->Prop)->Prop
def uA(r:List V->Hp->VK->Prop)(f:FL):Prop:=∀(Z:Addr->Prop)(H:Hp)(vs:List V)(ds:List D)(R:D->Prop)(Q:VK),ZL Z H->yD (zG Z H) vs ds->f ds R->(∀d v H',R d->Sm H H'->DV (zG Z H') v d->Q v H')->r vs H Q
def wx(f:FL)(pl:yY):zj:=λΓ R=>pl Γ λds=>f ds R
theorem zJZ(o:uA r f)(σ)(H)(Q):tP (wx f pl) σ H Q->YY r (xb pl) σ H Q:=λ⟨Z,Γ,R,E,h,q⟩=>⟨Z,Γ,_,E,h,λds vs H1 hd s1 hv=>o Z H1 vs ds R Q (E.same s1).zd hv hd λd v H2 h2 s2 hv2=>q d v H2 h2 (s1.trans s2) hv2⟩
theorem jI{x:Str}{id:String}{p:Pos}{r:List V->Hp->VK->Prop}{f:FL}(hc:wg X (.builtin id) r)(o:uA r f)(hg:Gl X x)(hm:X.mg x=none)(hv:bootBuiltins x=some (.builtin id))(ha:PA X (e::es) (xb pl))(hn:x≠"__name__":=by decide)(hdb:(x==("__debug__":Str))=false:=by decide)
  (he:starEach (e::es) X.env=(false,eval e X.env)::starEach es X.env:=by rfl) (hpl:(backTo pos (starEach es X.env)).any (·.1)=false:=by rfl):PE X (.Call (.Name x p) (e::es) [] pos) (tP (wx f pl)):=yz (U0 hc hg hm hv ha hn hdb he hpl) (zJZ o)
theorem JY{x:Str}{T:String}{p:Pos}{r:List V->Hp->VK->Prop}{f:FL}(hc:wg X (.type T) r)(o:uA r f)(hg:Gl X x)(hm:X.mg x=none)(hv:bootBuiltins x=some (.type T))(ha:PA X (e::es) (xb pl))(hn:x≠"__name__":=by decide)(hdb:(x==("__debug__":Str))=false:=by decide)
  (he:starEach (e::es) X.env=(false,eval e X.env)::starEach es X.env:=by rfl) (hpl:(backTo pos (starEach es X.env)).any (·.1)=false:=by rfl):PE X (.Call (.Name x p) (e::es) [] pos) (tP (wx f pl)):=yz (U1 hc hg hm hv ha hn hdb he hpl) (zJZ o)
def Xe:FL
 |[.lst ds],R=>R (.int ds.length)
 |[.tup ds],R=>R (.int ds.length)
 |[.scr ns],R=>R (.int ns.length)
 |_,_=>False
theorem yg(h:yD H vs [d]):∃v,vs=[v]/\DV H v d:=by
 cases h with
 |cons h t=>cases t;exact⟨_,rfl,h⟩
theorem jJ{d e:D}(h:yD H vs [d,e]):∃v w,vs=[v,w]/\DV H v d/\DV H w e:=by
 cases h with
 |cons h t=>obtain⟨w,rfl,k⟩:=yg t;exact⟨_,_,rfl,h,k⟩
theorem JZ:uA (λxs H Q=>∃p ys,xs=[.ref p]/\(zW K H p ys\/yZ K H p ys)/\Q (.int ys.length) H) Xe:=λZ H vs ds R Q zd hv h q=>by
 rcases ds with _|⟨dA,ds⟩ <;> try exact h.elim
 cases dA <;> try exact h.elim
 all_goals rcases ds with _|_ <;> try exact h.elim
 ·obtain⟨v,rfl,hw⟩:=yg hv;cases hw with
  |scr e=>exact⟨_,_,rfl,.inl (.inl (JS zx e)),by rw[aB];exact q _ _ H h (Sm.refl _) (.int _)⟩
 ·obtain⟨v,rfl,hw⟩:=yg hv;obtain⟨p,xs,rfl,e1,h1⟩:=hw.lst_inv;exact⟨p,xs,rfl,.inl (zW.of (zx _ _ e1)),by rw[Paired.length h1];exact q _ _ H h (Sm.refl _) (.int _)⟩
 ·obtain⟨v,rfl,hw⟩:=yg hv;obtain⟨p,xs,rfl,e1,h1⟩:=hw.tup_inv;exact⟨p,xs,rfl,.inr (yZ.of (zx _ _ e1)),by rw[Paired.length h1];exact q _ _ H h (Sm.refl _) (.int _)⟩
def zR6:FL
 |[.lst ds],R=>R (.lst ds)
 |[.tup ds],R=>R (.lst ds)
 |_,_=>False
theorem zIV:uA (λxs H Q=>∃p ys,xs=[.ref p]/\(zW K H p ys\/yZ K H p ys)/\∀l,H l=none->Q (.ref l) (zV H l (.lst ys))) zR6:=λZ H vs ds R Q zd hv h q=>by
 rcases ds with _|⟨dA,ds⟩ <;> try exact h.elim
 cases dA <;> try exact h.elim
 all_goals rcases ds with _|_ <;> try exact h.elim
 ·obtain⟨v,rfl,hw⟩:=yg hv;obtain⟨p,xs,rfl,e1,h1⟩:=hw.lst_inv;exact⟨p,xs,rfl,.inl (zW.of (zx _ _ e1)),λl hl=>q _ _ _ h (xJ hl _) (uX zd hl h1)⟩
 ·obtain⟨v,rfl,hw⟩:=yg hv;obtain⟨p,xs,rfl,e1,h1⟩:=hw.tup_inv;exact⟨p,xs,rfl,.inr (yZ.of (zx _ _ e1)),λl hl=>q _ _ _ h (xJ hl _) (uX zd hl h1)⟩
def Xf:FL
 |[.lst ds],R=>R (.tup ds)
 |[.tup ds],R=>R (.tup ds)
 |_,_=>False
theorem zP4:uA (λxs H Q=>∃p ys,xs=[.ref p]/\((zW K H p ys/\∀l,H l=none->Q (.ref l) (zV H l (.tup ys)))\/(yZ K H p ys/\Q (.ref p) H))) Xf:=λZ H vs ds R Q zd hv h q=>by
 rcases ds with _|⟨dA,ds⟩ <;> try exact h.elim
 cases dA <;> try exact h.elim
 all_goals rcases ds with _|_ <;> try exact h.elim
 ·obtain⟨v,rfl,hw⟩:=yg hv;obtain⟨p,xs,rfl,e1,h1⟩:=hw.lst_inv;exact⟨p,xs,rfl,.inl ⟨zW.of (zx _ _ e1),λl hl=>q _ _ _ h (xJ hl _) (XJ zd hl h1)⟩⟩
 ·obtain⟨v,rfl,hw⟩:=yg hv;obtain⟨p,xs,rfl,e1,h1⟩:=hw.tup_inv;exact⟨p,xs,rfl,.inr ⟨yZ.of (zx _ _ e1),q _ _ _ h (Sm.refl _) hw⟩⟩
def Xg:FL
 |[.lst ds],R=>∃ns:List Int,ds=ns.map D.int/\R (.int ns.sum)
 |_,_=>False
theorem zP5:uA (λxs H Q=>∃(p:Addr)(ns:List Int),xs=[.ref p]/\zW K H p (ns.map V.int)/\Q (.int ns.sum) H) Xg:=λZ H vs ds R Q zd hv h q=>by
 rcases ds with _|⟨dA,ds⟩ <;> try exact h.elim
 cases dA <;> try exact h.elim
 rcases ds with _|_ <;> try exact h.elim
 obtain⟨v,rfl,hw⟩:=yg hv;obtain⟨p,xs,rfl,e1,h1⟩:=hw.lst_inv;obtain⟨ns,rfl,h⟩:=h;cases kF h1;exact⟨p,ns,rfl,zW.of (zx _ _ e1),q _ _ H h (Sm.refl _) (.int _)⟩
def Xh:FL
 |[.lst ds],R=>∃bs:List Bool,ds=bs.map D.bool/\R (.bool (bs.all id))
 |_,_=>False
theorem zQA:uA (λxs H Q=>∃(p:Addr)(bs:List Bool),xs=[V.ref p]/\zW K H p (bs.map V.bl)/\Q (V.bl (bs.all id)) H) Xh:=λZ H vs ds R Q zd hv h q=>by
 rcases ds with _|⟨dA,ds⟩ <;> try exact h.elim
 cases dA <;> try exact h.elim
 rcases ds with _|_ <;> try exact h.elim
 obtain⟨v,rfl,hw⟩:=yg hv;obtain⟨p,xs,rfl,e1,h1⟩:=hw.lst_inv;obtain⟨ns,rfl,h⟩:=h;cases Kb h1;exact⟨p,ns,rfl,zW.of (zx _ _ e1),q _ _ H h (Sm.refl _) (.bool _)⟩
def Xi:FL
 |[.int i,.int j],R=>R (.int (max i j))
 |_,_=>False
theorem zP7:uA (λxs H Q=>∃i j,xs=[.int i,.int j]/\Q (.int (if j>i then j else i)) H) Xi:=λZ H vs ds R Q zd hv h q=>by
 rcases ds with _|⟨dA,ds⟩ <;> try exact h.elim
 cases dA <;> try exact h.elim
 rcases ds with _|⟨dB,ds⟩ <;> try exact h.elim
 cases dB <;> try exact h.elim
 rcases ds with _|_ <;> try exact h.elim
 rename_i i j;obtain⟨v,w,rfl,hx,hy⟩:=jJ hv;cases hx;cases hy;refine⟨_,_,rfl,?_⟩;have e:(if j>i then j else i)=max i j:=by rw[Int.max_def];split<;> split<;> omega
 rw[e];exact q _ _ H h (Sm.refl _) (.int _)
def Xj:FL
 |[.int i,.int j],R=>R (.int (min i j))
 |_,_=>False
theorem zP6:uA (λxs H Q=>∃i j,xs=[.int i,.int j]/\Q (.int (if j<i then j else i)) H) Xj:=λZ H vs ds R Q zd hv h q=>by
 rcases ds with _|⟨dA,ds⟩ <;> try exact h.elim
 cases dA <;> try exact h.elim
 rcases ds with _|⟨dB,ds⟩ <;> try exact h.elim
 cases dB <;> try exact h.elim
 rcases ds with _|_ <;> try exact h.elim
 rename_i i j;obtain⟨v,w,rfl,hx,hy⟩:=jJ hv;cases hx;cases hy;refine⟨_,_,rfl,?_⟩;have e:(if j<i then j else i)=min i j:=by rw[Int.min_def];split<;> split<;> omega
 rw[e];exact q _ _ H h (Sm.refl _) (.int _)
def Xk:FL
 |[.int i],R=>R (.int i)
 |[.bool b],R=>R (.int (if b=true then 1 else 0))
 |_,_=>False
theorem zP8:uA (λxs H Q=>(∃i,xs=[.int i]/\Q (.int i) H)\/∃k,xs=[.bl k]/\Q (.int (if k then 1 else 0)) H) Xk:=λZ H vs ds R Q zd hv h q=>by
 rcases ds with _|⟨dA,ds⟩ <;> try exact h.elim
 cases dA <;> try exact h.elim
 all_goals rcases ds with _|_ <;> try exact h.elim
 ·obtain⟨v,rfl,hw⟩:=yg hv;cases hw;exact .inl ⟨_,rfl,q _ _ H h (Sm.refl _) (.int _)⟩
 ·obtain⟨v,rfl,hw⟩:=yg hv;cases hw;exact .inr ⟨_,rfl,q _ _ H h (Sm.refl _) (.int _)⟩
end
end Pu
namespace Pu
open PySem L2 Sh
variable[Tbl]
noncomputable def setN:St->List Nat->List V->St
 |σ,j::js,v::vs=>setN (σ.set j (some v)) js vs
 |σ,_,_=>σ
noncomputable def Xl:List Sl->List Nat->List D->List Sl
 |Γ,j::js,d::ds=>Xl (zL Γ j (.sh d)) js ds
 |Γ,_,_=>Γ
theorem zHf:∀σ js ks vs ws,js.length=vs.length->setN σ (js++ks) (vs++ws)=setN (setN σ js vs) ks ws
 |_,[],_,[],_,_=>rfl
 |σ,j::js,ks,v::vs,ws,h=>zHf (σ.set j (some v)) js ks vs ws (Nat.succ.inj h)
 |_,[],_,_::_,_,h=>nomatch h
 |_,_::_,_,[],_,h=>nomatch h
def uZ:Option (List D)->(List D->Prop)->Prop
 |some os,k=>k os
 |none,_=>False
theorem ZX(h:uZ o k):∃os,o=some os/\k os:=by
 cases o with
 |none=>exact h.elim
 |some os=>exact⟨os,rfl,h⟩
inductive tG(js:List Nat)(po:D->Option (List D))(v:V)(σ:St)(H:Hp)(Q:St->Hp->Prop):Prop
 |mk (Z:Addr->Prop) (d:D) (os:List D) (hv:DV (zG Z H) v d) (ho:po d=some os) (q:∀vs,yD (zG Z H) vs os->Q (setN σ js vs) H):tG js po v σ H Q
inductive tGs(js:List Nat)(po:List D->Option (List D))(us:List V)(σ:St)(H:Hp)(Q:St->Hp->Prop):Prop
 |mk (Z:Addr->Prop) (ds os:List D) (hv:yD (zG Z H) us ds) (ho:po ds=some os) (q:∀vs,yD (zG Z H) vs os->Q (setN σ js vs) H):tGs js po us σ H Q
structure qH(X:Cx)(es:List Expr)(js:List Nat)(po:List D->Option (List D))(n:Nat):Prop where
 g:ZG X es (tGs js po)
 l:∀ds os,po ds=some os->ds.length=n
 k:∀ds os,po ds=some os->os.length=js.length
section
variable{X:Cx}{pos:Pos}
noncomputable def Ja:D->Option (List D):=λd=>some [d]
theorem zHl(i:Nat){x:Str}(hN:X.N.Nodup)(hi:X.N[i]? =some x)(hx:uM X.env.scope x)(hf:X.fn x=true\/X.env.scope.names.lookup x=some .local:=by first|exact .inl rfl|exact .inr rfl|assumption):PG X (.Name x pos) (tG [i] Ja):=
 λpins s σ H v u Q I r ⟨_,_,_,hv,ho,q⟩=>jg hN hi hx hf pins s σ H v u Q I r (by cases ho;exact q [v] (.cons hv .nil))
noncomputable def Kr:List D->Option (List D)
 |[]=>some []
 |_=>none
noncomputable def Jb(po:List D->Option (List D)):List D->Option (List D)
 |d::ds=>(po ds).map (d::·)
 |[]=>none
noncomputable def zNy(p:D->Option (List D))(po:List D->Option (List D)):List D->Option (List D)
 |d::ds=>(p d).bind λa=>(po ds).map (a++·)
 |[]=>none
noncomputable def Ks(po:List D->Option (List D)):D->Option (List D)
 | .tup ds=>po ds
 | .lst ds=>po ds
 |_=>none
theorem Xm:qH X [] [] Kr 0 where
 g:=λpins s σ H vs us Q I r ⟨_,ds,os,hv,ho,q⟩=>by
  cases ds with
  |nil=>cases hv;exact zKC pins s σ H [] us Q I r ⟨rfl,q [] (by cases ho;exact .nil)⟩
  |cons=>cases ho
 l:=λds os h=>by cases ds with|nil=>rfl|cons=>cases h
 k:=λds os h=>by cases ds with|nil=>cases h;rfl|cons=>cases h
theorem zFv(i:Nat){x:Str}{es:List Expr}{js:List Nat}{po:List D->Option (List D)}{n:Nat}(hN:X.N.Nodup)(hi:X.N[i]? =some x)(hx:uM X.env.scope x)(h:qH X es js po n)
  (hs:(assignEach (.Name x pos::es) X.env).map (·.2)=assign (.Name x pos) X.env::(assignEach es X.env).map (·.2):=by rfl) (hf:X.fn x=true\/X.env.scope.names.lookup x=some .local:=by first|exact .inl rfl|exact .inr rfl|assumption):qH X (.Name x pos::es) (i::js) (Jb po) (n+1) where
 g:=λpins s σ H vs us Q I r ⟨Z,ds,os,hv,ho,q⟩=>by
  cases hv with
  |nil=>cases ho
  |@cons v d vt dt hv ht=>
   change(po dt).map (d::·)=some os at ho;cases e:po dt with
   |none=>rw[e]at ho;cases ho
   |some os'=>
    rw[e]at ho;cases ho;exact gO (jg hN hi hx hf) h.g hs pins s σ H _ us Q I r ⟨v,vt,rfl,Z,dt,os',ht,e,λvs hvs=>q (v::vs) (.cons hv hvs)⟩
 l:=λds os q=>by
  cases ds with
  |nil=>cases q
  |cons d dt=>
   change(po dt).map (d::·)=some os at q;cases e:po dt with
   |none=>rw[e]at q;cases q
   |some os'=>rw[bF,h.l dt os' e]
 k:=λds os q=>by
  cases ds with
  |nil=>cases q
  |cons d dt=>
   change(po dt).map (d::·)=some os at q;cases e:po dt with
   |none=>rw[e]at q;cases q
   |some os'=>rw[e]at q;cases q;rw[bF,bF,h.k dt os' e]
theorem wR(h:yD H vs ds):vs.length=ds.length:=Paired.length h
theorem zJ2{e:Expr}{es:List Expr}{js ks:List Nat}{p:D->Option (List D)}{po:List D->Option (List D)}{n:Nat}(h1:PG X e (tG js p))(hk:∀d os,p d=some os->os.length=js.length)(h:qH X es ks po n)
  (hs:(assignEach (e::es) X.env).map (·.2)=assign e X.env::(assignEach es X.env).map (·.2):=by rfl):qH X (e::es) (js++ks) (zNy p po) (n+1) where
 g:=λpins s σ H vs us Q I r ⟨Z,ds,os,hv,ho,q⟩=>by
  cases hv with
  |nil=>cases ho
  |@cons v d vt dt hv ht=>
   change(p d).bind (λa=>(po dt).map (a++·))=some os at ho;cases e1:p d with
   |none=>rw[e1]at ho;cases ho
   |some a=>
    rw[e1]at ho;change(po dt).map (a++·)=some os at ho;cases e2:po dt with
    |none=>rw[e2]at ho;cases ho
    |some b=>
     rw[e2]at ho;cases ho;refine gO h1 h.g hs pins s σ H _ us Q I r ⟨v,vt,rfl,Z,d,a,hv,e1,λvs1 h1=>⟨Z,dt,b,ht,e2,λvs2 h2=>?_⟩⟩;rw[<- zHf σ js ks vs1 vs2 (by rw[wR h1,hk d a e1])];exact q _ (gr h1 h2)
 l:=λds os q=>by
  cases ds with
  |nil=>cases q
  |cons d dt=>
   change(p d).bind (λa=>(po dt).map (a++·))=some os at q;cases e1:p d with
   |none=>rw[e1]at q;cases q
   |some a=>
    rw[e1]at q;change(po dt).map (a++·)=some os at q;cases e2:po dt with
    |none=>rw[e2]at q;cases q
    |some b=>rw[bF,h.l dt b e2]
 k:=λds os q=>by
  cases ds with
  |nil=>cases q
  |cons d dt=>
   change(p d).bind (λa=>(po dt).map (a++·))=some os at q;cases e1:p d with
   |none=>rw[e1]at q;cases q
   |some a=>
    rw[e1]at q;change(po dt).map (a++·)=some os at q;cases e2:po dt with
    |none=>rw[e2]at q;cases q
    |some b=>rw[e2]at q;cases q;rw[aF,aF,h.k dt b e2,hk d a e1]
theorem zFy{js:List Nat}(h:∀ds os,po ds=some os->os.length=js.length):∀d os,Ks po d=some os->os.length=js.length:=λd os q=>by
 cases d <;> try cases q
 ·exact h _ _ q
 ·exact h _ _ q
theorem Xn{es:List Expr}{js:List Nat}{po:List D->Option (List D)}{n k:Nat}(hc:X.calm=true)(h:qH X es js po n)(hn:(assignEach es X.env).length=n:=by rfl)(hst:(assignEach es X.env).findIdx? (·.1)=none:=by rfl):PG X (.Tuple es k pos) (tG js (Ks po)):=
 λpins s σ H v u Q I r ⟨Z,d,os,hv,ho,q⟩=>by
  cases d <;> try cases ho
  ·obtain⟨p,xs,rfl,e,hx⟩:=hv.lst_inv;exact zRW hc h.g hn hst pins s σ H _ u Q I r ⟨p,xs,rfl,zW.of (zx _ _ e),by rw[wR hx];exact h.l _ _ ho,Z,_,os,hx,ho,q⟩
  ·obtain⟨p,xs,rfl,e,hx⟩:=hv.tup_inv;exact zN0 hc h.g hn hst pins s σ H _ u Q I r ⟨p,xs,rfl,yZ.of (zx _ _ e),by rw[wR hx];exact h.l _ _ ho,Z,_,os,hx,ho,q⟩
end
def Wk(Z:Addr->Prop)(J:It)(H:Hp)(ds:List D):Prop:=∀i Z' H',zE (zG Z H) (zG Z' H')->ZL Z' H'->(∀d,ds[i]? =some d->J.go i H'/\∀x H'',J.yld i H' x H''->Sm H' H''/\DV (zG Z' H'') x d)/\(i=ds.length->J.stop i H')
inductive vm(p:yY)(σ:St)(H:Hp)(Q:It->Hp->Prop):Prop
 |mk (Z:Addr->Prop) (Γ:List Sl) (R:List D->Prop) (E:zr Z Γ σ H) (h:p Γ R) (q:∀ds J H',R ds->Sm H H'->Wk Z J H' ds->Q J H'):vm p σ H Q
theorem Xo{α β:Type}{R:α->β->Prop}{xs:List α}{ys:List β}(h:Paired R xs ys){j:Nat}{y:β}(e:ys[j]? =some y):∃x,xs[j]? =some x/\R x y:=JX.go h e
section
variable{X:Cx}{tg e e1 e2:Expr}{pos:Pos}{pa:zj}{pl:yY}
theorem kL(h:PI X tg e w)(k:∀σ H R,w' σ H R->w σ H R):PI X tg e w':=λpins s σ H R I q=>h pins s σ H R I (k σ H R q)
def Kt(K:aH)(tl:TE):TI:=λσ H R=>tl σ H λx H1=>(∃a,x=.ref a/\(∃xs,zW K H1 a xs)/\R (gU K a) H1)\/∃a,x=.ref a/\(∃xs,yZ K H1 a xs)/\R (Qa K a) H1
theorem zRV(hl:PE X l tl):PI X tg l (Kt X.K tl):=by
 intro pins s σ H R I h;refine zf (hl pins s σ H _ I h) λv s1 ⟨x,H1,I1,r1,q1⟩=>?_;rcases q1 with⟨a,e,⟨xs,hq⟩,q⟩|⟨a,e,⟨xs,hq⟩,q⟩
 ·subst e;cases r1;obtain⟨its,rv,p,hz⟩:=I1.list hq;refine PySem.wpAny_pyIter_list p.isList ?_;refine⟨s1.heap.objs.size,[s1.heap.objs.size],_,_,H1,rfl,I1.kept (t':=s1.toks) λb o e=>aO _ e,zFl a _,⟨_,a_ _ rfl,rfl,rfl⟩,λb hb=>?_,q⟩;have e:b=s1.heap.objs.size:=by simpa using hb
  subst e;exact I1.fpOk (aJ _) (I1.hok.fresh (aJ _))
 ·subst e;cases r1;obtain⟨its,rv,p,hz⟩:=I1.tuple hq;refine PySem.wpAny_pyIter_tuple (show s1.heap.IsTuple a its.toArray from p) ?_;refine⟨s1.heap.objs.size,[s1.heap.objs.size],_,_,H1,rfl,I1.kept (t':=s1.toks) λb o e=>aO _ e,zIc a _,⟨_,a_ _ rfl,rfl,rfl⟩,λb hb=>?_,q⟩;have e:b=s1.heap.objs.size:=by simpa using hb
  subst e;exact I1.fpOk (aJ _) (I1.hok.fresh (aJ _))
def Xp:D->(List D->Prop)->Prop
 | .lst ds,R=>R ds
 | .tup ds,R=>R ds
 |_,_=>False
def zRh(pa:zj):yY:=λΓ R=>pa Γ λd=>Xp d R
theorem zOV(e:zG Z H p=some (.lst xs))(h:yD (zG Z H) xs ds):Wk Z (gU K p) H ds:=λi Z' H' s zd=>by have e1:=zx _ _ (s _ _ e);refine⟨λd hd=>?_,λhi=>⟨xs,zW.of e1,by rw[wR h];exact yx⟩⟩;obtain⟨x,hx,hh⟩:=Xo h hd;refine⟨⟨xs,x,zW.of e1,hx⟩,λy H'' ⟨e2,hy⟩=>?_⟩;subst e2;have:=hy xs (zW.of e1);rw[hx]at this;cases this;exact⟨Sm.refl _,hh.same s⟩
theorem zQe(e:zG Z H p=some (.tup xs))(h:yD (zG Z H) xs ds):Wk Z (Qa K p) H ds:=λi Z' H' s zd=>by have e1:=zx _ _ (s _ _ e);refine⟨λd hd=>?_,λhi=>⟨xs,yZ.of e1,by rw[wR h];exact yx⟩⟩;obtain⟨x,hx,hh⟩:=Xo h hd;refine⟨⟨xs,x,yZ.of e1,hx⟩,λy H'' ⟨e2,hy⟩=>?_⟩;subst e2;have:=hy xs (yZ.of e1);rw[hx]at this;cases this;exact⟨Sm.refl _,hh.same s⟩
theorem uB(ha:PE X e (tP pa)):PI X tg e (vm (zRh pa)):=kL (zRV ha) λσ H Q ⟨Z,Γ,R,E,h,q⟩=>
 ⟨Z,Γ,_,E,h,λd v H1 hd s1 hv=>by
  cases d <;> try exact hd.elim
  ·obtain⟨p,xs,rfl,e,hx⟩:=hv.lst_inv;exact .inl ⟨p,rfl,⟨xs,zW.of (zx _ _ e)⟩,q _ _ H1 hd s1 (zOV e hx)⟩
  ·obtain⟨p,xs,rfl,e,hx⟩:=hv.tup_inv;exact .inr ⟨p,rfl,⟨xs,yZ.of (zx _ _ e)⟩,q _ _ H1 hd s1 (zQe e hx)⟩⟩
noncomputable def rng(lo:Int)(n:Nat):List D:=(aI n).map λk:Nat=>D.int (lo+(k:Int))
theorem zHQ:Wk Z (YH lo n) H (rng lo n):=λi Z' H' s zd=>by
 refine⟨λd hd=>?_,λhi=>?_⟩
 ·unfold rng at hd;rw[aV]at hd
  have hlt:i<n:=by apply bA;intro c;rw[fh (by rw[aM];omega)]at hd;cases hd
  rw[bY hlt]at hd;cases hd;exact⟨hlt,λx H'' ⟨e1,e2⟩=>by subst e1;subst e2;exact⟨Sm.refl _,.int _⟩⟩
 ·show n<=i;rw[hi];unfold rng;rw[aB,aM];exact aJ _
noncomputable def rng0(n:Nat):List D:=(aI n).map λk:Nat=>D.int (k:Int)
theorem zHg(n):rng0 n=rng 0 n:=a7 λk _=>by rw[Int.zero_add]
theorem jm(h:(rng0 n)[k]? =some d):k<n/\d=.int (k:Int):=by unfold rng0 at h;grind
theorem ul(n):(rng0 n).length=n:=by unfold rng0;rw[aB,aM]
def zQ8:List D->(List D->Prop)->Prop
 |[.int j],R=>-1000<=j/\j<=1000/\R (rng0 j.toNat)
 |_,_=>False
def zQ7:List D->(List D->Prop)->Prop
 |[.int i,.int j],R=>-1000<=i/\i<=1000/\-1000<=j/\j<=1000/\R (rng i (j-i).toNat)
 |_,_=>False
def qu(f:List D->(List D->Prop)->Prop)(pl:yY):yY:=λΓ R=>pl Γ λds=>f ds R
theorem Ku{p:Pos}(hg:Gl X "range")(hm:X.mg "range"=none)(ha:PA X [e] (xb pl))(hs:starEach [e] X.env=[(false,eval e X.env)]:=by rfl):PI X tg (.Call (.Name "range" p) [e] [] pos) (vm (qu zQ8 pl)):=kL (zKB hg hm ha hs) λσ H Q ⟨Z,Γ,R,E,h,q⟩=>
 ⟨Z,Γ,_,E,h,λds vs H1 hd s1 hv=>by
  rcases ds with _|⟨dA,ds⟩ <;> try exact hd.elim
  cases dA <;> try exact hd.elim
  rcases ds with _|_ <;> try exact hd.elim
  obtain⟨h1,h2,hd⟩:=hd;obtain⟨v,rfl,hw⟩:=yg hv;cases hw;rw[zHg]at hd;exact⟨_,rfl,by exact vT,by omega,q _ _ H1 hd s1 zHQ⟩⟩
theorem zIm{p:Pos}(hg:Gl X "range")(hm:X.mg "range"=none)(ha:PA X [e1,e2] (xb pl))(hs:starEach [e1,e2] X.env=[(false,eval e1 X.env),(false,eval e2 X.env)]:=by rfl)(hs2:starEach [e2] X.env=[(false,eval e2 X.env)]:=by rfl):
  PI X tg (.Call (.Name "range" p) [e1,e2] [] pos) (vm (qu zQ7 pl)):=kL (zKA hg hm ha hs hs2) λσ H Q ⟨Z,Γ,R,E,h,q⟩=>
 ⟨Z,Γ,_,E,h,λds vs H1 hd s1 hv=>by
  rcases ds with _|⟨dA,ds⟩ <;> try exact hd.elim
  cases dA <;> try exact hd.elim
  rcases ds with _|⟨dB,ds⟩ <;> try exact hd.elim
  cases dB <;> try exact hd.elim
  rcases ds with _|_ <;> try exact hd.elim
  obtain⟨h1,h2,h3,h4,hd⟩:=hd;obtain⟨v,w,rfl,hx,hy⟩:=jJ hv;cases hx;cases hy;exact⟨_,_,rfl,⟨by exact vT,by omega,by exact vT,by omega⟩,q _ _ H1 hd s1 zHQ⟩⟩
noncomputable abbrev yr(x y:D):D:=.tup [x,y]
theorem zQb{α β γ:Type}(f:α->β->γ):∀{xs:List α}{ys:List β}{i:Nat}{z:γ},(b_ f xs ys)[i]? =some z->∃x y,xs[i]? =some x/\ys[i]? =some y/\z=f x y
 |[],_,_,_,h=>by simp at h
 |_::_,[],_,_,h=>by simp at h
 |x::_,y::_,0,_,h=>by simp at h;exact⟨x,y,rfl,rfl,h.symm⟩
 |_::xs,_::ys,i+1,z,h=>by
  grind
def jK:List D->(List D->Prop)->Prop
 |[.lst ds,.lst es],R=>R (b_ yr ds es)
 |[.lst ds,.tup es],R=>R (b_ yr ds es)
 |[.tup ds,.lst es],R=>R (b_ yr ds es)
 |[.tup ds,.tup es],R=>R (b_ yr ds es)
 |_,_=>False
noncomputable def kd(t:Bool)(ds:List D):D:=match t with
 |true=>.tup ds
 |false=>.lst ds
theorem Kv:∀{t:Bool},DV (zG Z H) v (kd t ds)->∃a xs,v=.ref a/\(∀Z' H',zE (zG Z H) (zG Z' H')->ww t K H' a xs)/\yD (zG Z H) xs ds
 |true,h=>let ⟨a,xs,e,ea,ha⟩:=h.tup_inv;⟨a,xs,e,λ_ _ s=>yZ.of (zx _ _ (s _ _ ea)),ha⟩
 |false,h=>let ⟨a,xs,e,ea,ha⟩:=h.lst_inv;⟨a,xs,e,λ_ _ s=>zW.of (zx _ _ (s _ _ ea)),ha⟩
end
section
variable{K:aH}{Z:Addr->Prop}{H:Hp}
abbrev Xq(K:aH)(Z:Addr->Prop)(H:Hp):List (Bool×Addr)->List (List D)->Prop:=Paired λp ds=>∃xs,(∀Z' H',zE (zG Z H) (zG Z' H')->ww p.1 K H' p.2 xs)/\yD (zG Z H) xs ds
theorem zQc{i:Nat}(s:zE (zG Z H) (zG Z' H')):∀{ka:List (Bool×Addr)}{dss:List (List D)}{es:List D},Xq K Z H ka dss->Paired (λ(ds:List D) e=>ds[i]? =some e) dss es->(∀p∈ka,∃xs v,ww p.1 K H' p.2 xs/\xs[i]? =some v)/\∀{vs:List V},Paired (λ(p:Bool×Addr) v=>∀xs,ww p.1 K H' p.2 xs->xs[i]? =some v) ka vs->yD (zG Z' H') vs es
 |[],_,_,.nil,.nil=>⟨λ_ m=>(nomatch m),λh=>by cases h;exact .nil⟩
 |p::ka,_,_,.cons ⟨xs,a,b⟩ t,.cons e r=>by
  obtain⟨x,gx,kx⟩:=Xo b e;obtain⟨h1,h2⟩:=zQc s t r;refine⟨λq m=>(a8.mp m).elim (λz=>z▸⟨xs,x,a _ _ s,gx⟩) (h1 q),λh=>?_⟩;cases h with
  |cons k h=>
   have:=k xs (a _ _ s);rw[gx]at this;cases this;exact .cons (kx.same s) (h2 h)
theorem zJH{L:List D}(h:Xq K Z H ka dss)(hL:∀(i:Nat)(d:D),L[i]? =some d->∃es,d=.tup es/\Paired (λ(ds:List D) e=>ds[i]? =some e) dss es)(hl:(∀ds∈dss,L.length<=ds.length)/\∃ds∈dss,L.length=ds.length):Wk Z (JR ka K) H L:=λi Z' H' s zd=>by
 refine⟨λd hd=>?_,λhi=>?_⟩
 ·obtain⟨es,rfl,he⟩:=hL i d hd;obtain⟨h1,h2⟩:=zQc s h he;refine⟨h1,λv H'' ⟨T,vs,ev,hT,eH,q⟩=>?_⟩;subst ev eH;exact⟨xJ hT _,XJ zd hT (h2 q)⟩
 ·subst hi
  have g:∀{ka:List (Bool×Addr)}{dss:List (List D)},Xq K Z H ka dss->(∀ds∈dss,L.length<=ds.length)->(∀p∈ka,∃xs,ww p.1 K H' p.2 xs/\L.length<=xs.length)/\((∃ds∈dss,L.length=ds.length)->∃p∈ka,∃xs,ww p.1 K H' p.2 xs/\L.length=xs.length):=λ{ka dss} h=>by
   induction h with
   |nil=>exactλ_=>⟨λ_ m=>(nomatch m),λ⟨_,m,_⟩=>(nomatch m)⟩
   |@cons p ds ka dss hx _ ih=>
    obtain⟨xs,a,b⟩:=hx;intro l;obtain⟨i1,i2⟩:=ih λes m=>l es (aK _ m);refine⟨λq m=>(a8.mp m).elim (λz=>z▸⟨xs,a _ _ s,by rw[wR b];exact l ds aR⟩) (i1 q),λ⟨es,m,e⟩=>?_⟩;rcases a8.mp m with rfl|m
    ·exact⟨p,aR,xs,a _ _ s,by rw[wR b];exact e⟩
    ·obtain⟨q,m,r⟩:=i2 ⟨es,m,e⟩;exact⟨q,aK _ m,r⟩
  exact⟨(g h hl.1).1,(g h hl.1).2 hl.2⟩
end
theorem zSD:∀{dss:List (List D)}{vs:List V},yD (zG Z H) vs (dss.map (kd false))->∃ka,vs=ka.map (λp=>V.ref p.2)/\ka.length=dss.length/\Xq K Z H ka dss
 |[],_,.nil=>⟨[],rfl,rfl,.nil⟩
 |_::_,_,.cons h t=>by
  obtain⟨ka,rfl,l,k⟩:=zSD (K:=K) t;obtain⟨a,xs,rfl,ea,ha⟩:=Kv (K:=K) h;exact⟨(false,a)::ka,rfl,by rw[bF,l];rfl,.cons ⟨xs,ea,ha⟩ k⟩
noncomputable abbrev Xr(x y t:D):D:=.tup [x,y,t]
noncomputable def ua:List D->List D->List D->List D
 |a::as,b::bs,c::cs=>Xr a b c::ua as bs cs
 |_,_,_=>[]
theorem zNg:∀as bs cs,(ua as bs cs).length=min as.length (min bs.length cs.length)
 |[],_,_=>by simp[ua]
 |_::_,[],_=>by simp[ua]
 |_::_,_::_,[]=>by simp[ua]
 |_::as,_::bs,_::cs=>by
  show(ua as bs cs).length+1=_;rw[zNg as bs cs];simp only[bF];omega
theorem zNh:∀{as bs cs:List D}{i:Nat}{d:D},(ua as bs cs)[i]? =some d->∃a b c,as[i]? =some a/\bs[i]? =some b/\cs[i]? =some c/\d=Xr a b c
 |[],_,_,_,_,h=>by simp[ua]at h
 |_::_,[],_,_,_,h=>by simp[ua]at h
 |_::_,_::_,[],_,_,h=>by simp[ua]at h
 |a::_,b::_,c::_,0,d,h=>⟨a,b,c,rfl,rfl,rfl,by cases h;rfl⟩
 |_::as,_::bs,_::cs,i+1,d,h=>by
  obtain⟨a,b,c,h1,h2,h3,e⟩:=zNh (as:=as) (bs:=bs) (cs:=cs) (i:=i) (d:=d) h;exact⟨a,b,c,h1,h2,h3,e⟩
section
variable{X:Cx}{pl:yY}{e1 e2 e3:Expr}{pos:Pos}{ts:List Expr}{kk:Nat}{tp p:Pos}
theorem zOz(hg:Gl X "zip")(hm:X.mg "zip"=none)(ha:PA X [e1,e2] (xb pl))(hs:starEach [e1,e2] X.env=[(false,eval e1 X.env),(false,eval e2 X.env)]:=by rfl)(hs2:starEach [e2] X.env=[(false,eval e2 X.env)]:=by rfl):
  PI X (.Tuple ts kk tp) (.Call (.Name "zip" p) [e1,e2] [] pos) (vm (qu jK pl)):=kL (zJ9 hg hm ha (by rw[hs,hs2]) (by rw[hs2];rfl)) λσ H Q ⟨Z,Γ,R,E,h,q⟩=>
 ⟨Z,Γ,_,E,h,λds vs H1 hd s1 hv=>by
  have main:∀(t u:Bool)(es fs:List D),yD (zG Z H1) vs [kd t es,kd u fs]->R (b_ yr es fs)->∃ka,vs=ka.map (λp:Bool×Addr=>V.ref p.2)/\(ka.length=2\/ka.length=3)/\(∀p∈ka,∃xs,ww p.1 X.K H1 p.2 xs)/\Q (JR ka X.K) H1:=λt u es fs hv hd=>by
   obtain⟨v,w,rfl,hx,hy⟩:=jJ hv;obtain⟨a,xs,rfl,ea,ha⟩:=Kv (K:=X.K) hx;obtain⟨b,ys,rfl,eb,hb⟩:=Kv (K:=X.K) hy;have kd:Xq X.K Z H1 [(t,a),(u,b)] [es,fs]:=.cons ⟨xs,ea,ha⟩ (.cons ⟨ys,eb,hb⟩ .nil);refine⟨[(t,a),(u,b)],rfl,.inl rfl,λp m=>?_,q _ _ H1 hd s1 (zJH kd (λi d h=>?_) ?_)⟩
   ·obtain⟨_,xs,e,_⟩:=JQ kd p m;exact⟨xs,e _ _ (zE.refl _)⟩
   ·obtain⟨x,y,h1,h2,rfl⟩:=zQb _ h;exact⟨_,rfl,.cons h1 (.cons h2 .nil)⟩
   ·simp only[a8,cR,or_false,forall_eq_or_imp,forall_eq,exists_eq_or_imp,exists_eq_left,eA];omega
  rcases ds with _|⟨dA,ds⟩ <;> try exact hd.elim
  cases dA <;> try exact hd.elim
  all_goals rcases ds with _|⟨dB,ds⟩ <;> try exact hd.elim
  all_goals cases dB <;> try exact hd.elim
  all_goals rcases ds with _|_ <;> try exact hd.elim
  ·exact main false false _ _ hv hd
  ·exact main false true _ _ hv hd
  ·exact main true false _ _ hv hd
  ·exact main true true _ _ hv hd⟩
def zQd:List D->(List D->Prop)->Prop
 |[.lst ds,.lst es,.lst fs],R=>R (ua ds es fs)
 |_,_=>False
theorem zMO(hg:Gl X "zip")(hm:X.mg "zip"=none)(ha:PA X [e1,e2,e3] (xb pl))(hs:starEach [e1,e2,e3] X.env=(false,eval e1 X.env)::starEach [e2,e3] X.env:=by rfl)(hpl:(backTo pos (starEach [e2,e3] X.env)).any (·.1)=false:=by rfl):
  PI X (.Tuple ts kk tp) (.Call (.Name "zip" p) [e1,e2,e3] [] pos) (vm (qu zQd pl)):=kL (zJ9 hg hm ha hs hpl) λσ H Q ⟨Z,Γ,R,E,h,q⟩=>
 ⟨Z,Γ,_,E,h,λds vs H1 hd s1 hv=>by
  rcases ds with _|⟨dA,ds⟩ <;> try exact hd.elim
  cases dA <;> try exact hd.elim
  rcases ds with _|⟨dB,ds⟩ <;> try exact hd.elim
  cases dB <;> try exact hd.elim
  rcases ds with _|⟨dC,ds⟩ <;> try exact hd.elim
  cases dC <;> try exact hd.elim
  rcases ds with _|_ <;> try exact hd.elim
  rename_i es fs gs;have hv:yD (zG Z H1) vs ([es,fs,gs].map (kd false)):=hv;obtain⟨ka,rfl,l,kd⟩:=zSD (K:=X.K) hv;refine⟨ka,rfl,.inr l,λp m=>?_,q _ _ H1 hd s1 (zJH kd (λi d h=>?_) ?_)⟩
  ·obtain⟨_,xs,e,_⟩:=JQ kd p m;exact⟨xs,e _ _ (zE.refl _)⟩
  ·obtain⟨x,y,z,h1,h2,h3,rfl⟩:=zNh h;exact⟨_,rfl,.cons h1 (.cons h2 (.cons h3 .nil))⟩
  ·simp only[a8,cR,or_false,forall_eq_or_imp,forall_eq,exists_eq_or_imp,exists_eq_left,zNg];omega⟩
end
end Pu
namespace Pu
open PySem L2 Sh
variable[Tbl]
noncomputable def un:Sl->Sl
 | .sh d=>.sh d
 |_=>.no
theorem zHd:∀Γ i,slot Γ i=(Γ[i]?).getD .no
 |[],_=>rfl
 |_::_,0=>rfl
 |_::t,i+1=>(zHd t i).trans (by rw[dJ])
theorem Xs(h:un s=.sh d):s=.sh d:=by cases s <;> first|exact h|cases h
theorem Xu(h:un s=.ow ds):False:=by cases s <;> cases h
theorem Xv(h:un s=.ob o c ns ds):False:=by cases s <;> cases h
theorem Xw{os:List D}(hl:∀i o c ns ds,slot l i≠.ob o c ns ds):∀i o c ns ds,slot (os.map Sl.sh++l) i≠.ob o c ns ds:=λi o c ns ds h=>by
 induction os generalizing i with
 |nil=>exact hl i o c ns ds h
 |cons d t ih=>
  cases i with
  |zero=>cases h
  |succ i=>exact ih i h
theorem Xx{os:List D}(hl:∀i ds,slot l i≠.ow ds):∀i ds,slot (os.map Sl.sh++l) i≠.ow ds:=λi ds h=>by
 induction os generalizing i with
 |nil=>exact hl i ds h
 |cons d t ih=>
  cases i with
  |zero=>cases h
  |succ i=>exact ih i h
theorem Jc(Γ:List Sl):∀(js:List Nat)(i:Nat),slot (js.map λj=>un (slot Γ j)) i=match js[i]? with|some j=>un (slot Γ j)|none=>.no
 |[],_=>rfl
 |_::_,0=>rfl
 |_::js,i+1=>by
  rw[dJ];exact Jc Γ js i
theorem zLD(E:zr Z Γ σ H){js:List Nat}{os:List D}(h:yD (zG Z H) vs os):zr Z (os.map Sl.sh++js.map λj=>un (slot Γ j)) (vs.map some++js.map λj=>(σ[j]?).getD none) H:=by
 have no:∀i ds,slot (os.map Sl.sh++js.map λj=>un (slot Γ j)) i≠.ow ds:=Xx λi ds h=>by
  rw[Jc]at h;split at h
  ·exact Xu h
  ·cases h
 have nob:∀i o c ns ds,slot (os.map Sl.sh++js.map λj=>un (slot Γ j)) i≠.ob o c ns ds:=Xw λi o c ns ds h=>by
  rw[Jc]at h;split at h
  ·exact Xv h
  ·cases h
 refine⟨?_,λi ds e=>absurd e (no i ds),λi o c ns ds e=>absurd e (nob i o c ns ds),λi _ ds _ _ e=>absurd e (no i ds),E.zd,?_⟩;clear nob
 ·induction h with
  |nil=>
   intro i d e;change slot (js.map λj=>un (slot Γ j)) i=_ at e;show∃v,(js.map λj=>(σ[j]?).getD none)[i]? =some (some v)/\_;rw[Jc]at e;rw[aV];cases k:js[i]? with
   |none=>rw[k]at e;cases e
   |some j=>
    rw[k]at e;obtain⟨v,h1,h2⟩:=E.sh j d (Xs e);exact⟨v,by show some ((σ[j]?).getD none)=_;rw[h1];rfl,h2⟩
  |@cons v d vs ds hv _ ih=>
   intro i e q;cases i with
   |zero=>cases q;exact⟨v,rfl,hv⟩
   |succ i=>
    obtain⟨u,h1,h2⟩:=ih (λi=>no (i+1)) i e q;exact⟨u,by rw[bg,f8,dJ];exact h1,h2⟩
 ·rw[aF,aF,aB,aB,aB,aB,wR h]
theorem zHe(c):∀pre o vs,o.length=vs.length->setN (pre++(o++c)) (dL pre.length o.length) vs=pre++(vs.map some++c)
 |_,[],[],_=>rfl
 |_,[],_::_,h=>nomatch h
 |_,_::_,[],h=>nomatch h
 |pre,x::o,v::vs,h=>by
  rw[bF,List.range'_succ];show setN ((pre++((x::o)++c)).set pre.length (some v)) (dL (pre.length+1) o.length) vs=_;rw[ik _ _ (aJ _),dE];have:=zHe c (pre++[some v]) o vs (Nat.succ.inj h);rw[aF,cv]at this;rw[cv]at this;exact this
inductive zo(ds:List D)(G:D->(D->Prop)->Prop)(R:D->Prop):Prop
 |mk (few:ds.length<=1000) (F:D->D->Prop) (h:∀d,d∈ds->G d (F d)) (q:∀es,Paired F ds es->R (.lst es)):zo ds G R
def zRq(caps:List Nat)(pi:yY)(po:D->Option (List D))(pe:zj):zj:=λΓ R=>pi Γ λds=>zo ds (λd S=>uZ (po d) λos=>pe (os.map Sl.sh++caps.map λj=>un (slot Γ j)) S) R
theorem Kw(E:zr Z Γ σ H)(Et:zr Zt Γt σ H)(sub:∀b,Zt b->Z b)(wk:Wk Z J H ds)(hj:js=dL 0 own.length)(hk:∀d os,po d=some os->os.length=js.length)(few:ds.length<=1000)
  (hT:∀d,d∈ds->uZ (po d) λos=>pt (os.map Sl.sh++(caps.map (·.1)).map λj=>un (slot Γt j)) λb=>b=f d)
  (hF:∀d,d∈ds->f d=true->uZ (po d) λos=>pe (os.map Sl.sh++(caps.map (·.1)).map λj=>un (slot Γ j)) (F d))
  (q:∀es ys H' p,Paired F (ds.filter f) es->Sm H H'->yD (zG Z H') ys es->H' p=none->Q (.ref p) (zV H' p (.lst ys))):Qt J (tG js po) (y8 pt) (tP pe) Q (uR own caps σ) H:=by
 have hc:uR own caps σ=own.map (λ_=>none)++(caps.map (·.1)).map λj=>(σ[j]?).getD none:=by unfold uR;rw[aQ];rfl
 refine⟨λi m ys σ1 H1=>m+i=ds.length/\Sm H H1/\(∃es,Paired F ((ds.take i).filter f) es/\yD (zG Z H1) ys es)/\∃o:St,o.length=own.length/\σ1=o++(caps.map (·.1)).map λj=>(σ[j]?).getD none,⟨ds.length,rfl,Sm.refl _,⟨[],.nil,.nil⟩,_,aB ..,hc⟩,?_⟩;rintro i m ys σ1 H1 ⟨hm,s1,⟨es,he,hy⟩,o,lo,rfl⟩;obtain⟨w1,w2⟩:=wk i Z H1 (yL s1) (E.zd.same s1)
 have le:es.length<=i:=by have h1:=Paired.length he;have h2:=List.length_filter_le f (ds.take i);rw[aZ]at h2;omega
 by_cases hi:i<ds.length
 ·have tk:(ds.take (i+1)).filter f=(ds.take i).filter f++(if f ds[i]=true then[ds[i]] else[]):=by
   rw[eP hi,List.filter_append,List.filter_cons,List.filter_nil]
  refine .inr ⟨(w1 _ (aE hi)).1,by rw[wR hy];exact Qs (by omega),λy σ' H'=>m-1+(i+1)=ds.length/\Sm H H'/\(∃es,Paired F ((ds.take (i+1)).filter f) es/\yD (zG Z H') (ys++[y]) es)/\∃o:St,o.length=own.length/\σ'=o++(caps.map (·.1)).map λj=>(σ[j]?).getD none,λσ' H'=>m-1+(i+1)=ds.length/\Sm H H'/\(∃es,Paired F ((ds.take (i+1)).filter f) es/\yD (zG Z H') ys es)/\∃o:St,o.length=own.length/\σ'=o++(caps.map (·.1)).map λj=>(σ[j]?).getD none,λy σ' H' k=>⟨m-1,by omega,k⟩,λσ' H' k=>⟨m-1,by omega,k⟩,λx H' yl=>?_⟩;obtain⟨s2,dv⟩:=(w1 _ (aE hi)).2 x H' yl;obtain⟨os,ho,ht⟩:=ZX (hT _ (cq hi));have lo2:=hk _ _ ho;refine⟨Z,_,os,dv,ho,λvs hvs=>?_⟩;have lv:=wR hvs
  have e1:setN (o++(caps.map (·.1)).map λj=>(σ[j]?).getD none) js vs=vs.map some++(caps.map (·.1)).map λj=>(σ[j]?).getD none:=by rw[hj,<- lo];exact zHe _ [] o vs (by rw[lv,lo2,hj,iO];exact lo)
  rw[e1];have lw:(vs.map some).length=own.length:=by rw[aB,lv,lo2,hj,iO]
  refine⟨Zt,_,_,zLD (Et.same (s1.trans s2)) (yq (kG sub) hvs),ht,λb H3 hb s3=>?_⟩;subst hb;by_cases c:f ds[i]=true
  ·rw[if_pos c];obtain⟨os',ho',hp⟩:=ZX (hF _ (cq hi) c);cases ho.symm.trans ho';refine⟨Z,_,_,zLD (E.same (s1.trans (s2.trans s3))) (yq (yL s3) hvs),hp,λd v H4 hd s4 hv=>⟨by omega,s1.trans (s2.trans (s3.trans s4)),⟨es++[d],?_,ZN hv (yq (yL (s2.trans (s3.trans s4))) hy)⟩,_,lw,rfl⟩⟩;rw[tk,if_pos c];exact ZN hd he
  ·rw[if_neg c];refine⟨by omega,s1.trans (s2.trans s3),⟨es,?_,yq (yL (s2.trans s3)) hy⟩,_,lw,rfl⟩;rw[tk,if_neg c,cH];exact he
 grind
def pT1:xq:=λ_ R=>R true
theorem zRg:XG X [] (y8 pT1):=λσ H Q ⟨_,_,_,_,h,q⟩=>q true H h (Sm.refl _)
theorem Xy{ds:List D}:ds.filter (λ_=>true)=ds:=List.filter_eq_self.mpr λ_ _=>rfl
theorem zIP(E:zr Z Γ σ H)(wk:Wk Z J H ds)(hj:js=dL 0 own.length)(hk:∀d os,po d=some os->os.length=js.length)(few:ds.length<=1000)
  (hF:∀d,d∈ds->uZ (po d) λos=>pe (os.map Sl.sh++(caps.map (·.1)).map λj=>un (slot Γ j)) (F d))
  (q:∀es ys H' p,Paired F ds es->Sm H H'->yD (zG Z H') ys es->H' p=none->Q (.ref p) (zV H' p (.lst ys))):Qt J (tG js po) (y8 pT1) (tP pe) Q (uR own caps σ) H:=
 Kw (f:=λ_=>true) E E (λ_ z=>z) wk hj hk few (λd m=>by obtain⟨os,ho,_⟩:=ZX (hF d m);rw[ho];exact rfl) (λd m _=>hF d m) λes ys H' p h=>q es ys H' p (by rw[Xy]at h;exact h)
section
variable{X:Cx}{scope:Scope}{own:List Str}{caps:List (Nat×Str)}{tg iter elt:Expr}{pos:Pos}{pi:yY}{po:D->Option (List D)}{pe:zj}{js:List Nat}
theorem jo(B:vO X scope own caps)(hc:X.calm=true)(hj:js=dL 0 own.length)(hk:∀d os,po d=some os->os.length=js.length)(hi:PI X tg iter (vm pi))(hg:∀C s₀ H₀ ex,PG (yX X scope (zZ own caps) C s₀ H₀ ex) tg (tG js po))
  (he:∀C s₀ H₀ ex,PE (yX X scope (zZ own caps) C s₀ H₀ ex) elt (tP pe)) (hs:∀x,foldedSetIterable iter X.env x=pure x:=by intro _;rfl):PE X (.ListComp elt [⟨tg,iter,[],0⟩] scope pos) (tP (zRq (caps.map (·.1)) pi po pe)):=
 yz (zHv B hc hi hg (.inl rfl) (λ_ _ _ _=>zRg) he hs) λσ H Q ⟨Z,Γ,R,E,h,q⟩=>⟨Z,Γ,_,E,h,λds J H1 ⟨fw,F,hF,hR⟩ s1 wk=>zIP (E.same s1) wk hj hk fw hF λes ys H' p h1 s2 h2 hp=>q _ _ _ (hR es h1) (s1.trans (s2.trans (xJ hp _))) (uX ((E.same s1).zd.same s2) hp h2)⟩
end
theorem zo.map(f)(few:ds.length<=1000)(h:∀d,d∈ds->G d λe=>e=f d)(q:R (.lst (ds.map f))):zo ds G R:=⟨few,λd e=>e=f d,h,λes p=>by
 have:∀{ds es:List D},Paired (λd e=>e=f d) ds es->es=ds.map f:=λ{ds es} p=>by
  induction p with
  |nil=>rfl
  |cons h _ ih=>rw[h,ih];rfl
 rw[this p];exact q⟩
theorem zo.all(P)(few:ds.length<=1000)(h:∀d,d∈ds->G d P)(q:∀es,es.length=ds.length->(∀e∈es,P e)->R (.lst es)):zo ds G R:=⟨few,λ_=>P,h,λes p=>q es (Paired.length p).symm (by
 clear h few q
 induction p with
 |nil=>exactλ_ h=>nomatch h
 |cons h _ ih=>exactλe m=>(a8.mp m).elim (λz=>z▸h) (ih e))⟩
noncomputable def zw:D->Int
 | .int i=>i
 |_=>0
theorem zo.int{ns:List Int}(g)(few:ns.length<=1000)(h:∀n,n∈ns->G (.int n) λe=>e=.int (g n))(q:R (.lst ((ns.map g).map D.int))):zo (ns.map D.int) G R:=
 zo.map (λd=>.int (g (zw d))) (by rw[aB];exact few) (λd m=>by obtain⟨n,hn,rfl⟩:=aG.mp m;exact h n hn) (by rw[aQ]at q|-;exact q)
theorem zo.bool(g)(few:ds.length<=1000)(h:∀d,d∈ds->G d λe=>e=.bool (g d))(q:R (.lst ((ds.map g).map D.bool))):zo ds G R:=zo.map (λd=>.bool (g d)) few h (by rw[aQ]at q;exact q)
theorem zo.rng{n:Nat}(g)(few:n<=1000)(h:∀k,k<n->G (.int (lo+(k:Int))) λe=>e=g k)(q:R (.lst ((aI n).map g))):zo (Pu.rng lo n) G R:=
 zo.map (λd=>g (zw d-lo).toNat) (by unfold Pu.rng;rw[aB,aM];exact few) (λd m=>by
  obtain⟨k,hk,rfl⟩:=aG.mp m;rw[show(zw (.int (lo+(k:Int)))-lo).toNat=k by show(lo+(k:Int)-lo).toNat=k;omega];exact h k (bj.mp hk)) (by
  have e:(Pu.rng lo n).map (λd=>g (zw d-lo).toNat)=(aI n).map g:=by unfold Pu.rng;rw[aQ];refine a7 λk _=>?_;show g (lo+(k:Int)-lo).toNat=g k;rw[show(lo+(k:Int)-lo).toNat=k by omega]
  rw[e];exact q)
theorem zo.rng0{n:Nat}(g)(few:n<=1000)(h:∀k,k<n->G (.int (k:Int)) λe=>e=g k)(q:R (.lst ((aI n).map g))):zo (Pu.rng0 n) G R:=by rw[zHg];exact zo.rng g few (λk hk=>by rw[Int.zero_add];exact h k hk) q
theorem vn{i:Nat}:∀d os,Ja d=some os->os.length=[i].length:=λd os h=>by cases h;rfl
theorem pn0:∀ds os,Kr ds=some os->os.length=([]:List Nat).length:=λds os h=>by cases ds with|nil=>cases h;rfl|cons=>cases h
theorem pn1{i:Nat}(h:∀ds os,po ds=some os->os.length=js.length):∀ds os,Jb po ds=some os->os.length=(i::js).length:=λds os q=>by
 cases ds with
 |nil=>cases q
 |cons d dt=>
  change(po dt).map (d::·)=some os at q;cases e:po dt with
  |none=>rw[e]at q;cases q
  |some os'=>rw[e]at q;cases q;rw[bF,bF,h dt os' e]
structure zv(Z0:Addr->Prop)(H0:Hp)(Z:Addr->Prop)(Γ:List Sl)(σ:St)(H:Hp):Prop where
 e:zr Z Γ σ H
 z0:∀b,Z0 b->Z b
 z0d:ZL Z0 H0
 same:Sm H0 H
 own:∀i ds l,slot Γ i=.ow ds->σ[i]? =some (some (.ref l))->H0 l=none
 owb:∀i o c ns ds,slot Γ i=.ob o c ns ds->H0 o=none
structure Kx where
 nx:List Sl->Prop
 rt:D->Prop
 bk:List Sl->Prop:=λ_=>False
 ct:List Sl->Prop:=λ_=>False
abbrev ye:=Kx->List Sl->Prop
inductive yA(p:ye)(D0:uN)(σ:St)(H:Hp):Prop
 |mk (Z0:Addr->Prop) (H0:Hp) (Z:Addr->Prop) (Γ:List Sl) (Dp:Kx) (E:zv Z0 H0 Z Γ σ H) (h:p Dp Γ) (nx:∀Z' Γ' σ' H',zv Z0 H0 Z' Γ' σ' H'->zE (zG Z H) (zG Z' H')->Dp.nx Γ'->D0.nx σ' H')
  (rt:∀d v H',Sm H0 H'->DV (zG Z0 H') v d->Dp.rt d->D0.rt v H') (bk:∀Z' Γ' σ' H',zv Z0 H0 Z' Γ' σ' H'->zE (zG Z H) (zG Z' H')->Dp.bk Γ'->D0.bk σ' H') (ct:∀Z' Γ' σ' H',zv Z0 H0 Z' Γ' σ' H'->zE (zG Z H) (zG Z' H')->Dp.ct Γ'->D0.ct σ' H'):yA p D0 σ H
theorem zv.mv(E:zv Z0 H0 Z Γ σ H)(s:Sm H H'):zv Z0 H0 Z Γ σ H':=⟨E.e.same s,E.z0,E.z0d,E.same.trans s,E.own,E.owb⟩
theorem zv.set(E:zv Z0 H0 Z Γ σ H)(h:DV (zG Z H) v d)(i):zv Z0 H0 Z (zL Γ i (.sh d)) (σ.set i (some v)) H:=
 ⟨E.e.set h i,E.z0,E.z0d,E.same,λj ds l q r=>by
  rw[yd]at q;by_cases c:j=i/\i<Γ.length
  ·rw[if_pos c]at q;cases q
  ·rw[if_neg c]at q;have hj:=uW (Γ:=Γ) (i:=j) (by rw[q];exactλz=>nomatch z);rw[bv (λz=>c ⟨z.symm,by exact vW⟩)]at r;exact E.own j ds l q r,λj o0 c0 ns ds q=>by
  rw[yd]at q;by_cases c:j=i/\i<Γ.length
  ·rw[if_pos c]at q;cases q
  ·rw[if_neg c]at q;exact E.owb j o0 c0 ns ds q⟩
theorem zv.setN:∀{js:List Nat}{vs:List V}{os:List D}{Γ:List Sl}{σ:St},zv Z0 H0 Z Γ σ H->yD (zG Z H) vs os->zv Z0 H0 Z (Xl Γ js os) (Pu.setN σ js vs) H
 |[],_,_,_,_,E,_=>E
 |_::_,_,_,_,_,E,.nil=>E
 |_::js,_,_,_,_,E,.cons h t=>zv.setN (js:=js) (E.set h _) t
theorem ZY(h:Z l):zE (zG Z H) (zG Z (zV H l o)):=λb u e=>by obtain⟨h1,h2⟩:=vP e;have nb:b≠l:=λz=>h1 (by rw[z];exact h);exact wb h1 ((zu nb).trans h2) (jG e)
theorem zv.put(E:zv Z0 H0 Z Γ σ H)(hs:slot Γ i=.ow ds)(hl:σ[i]? =some (some (.ref l)))(hz:Z l)(hx:yD (zG Z H) xs ds'):zv Z0 H0 Z (zL Γ i (.ow ds')) σ (zV H l (.lst xs)):=by
 obtain⟨l0,xs0,hl0,_,el,_⟩:=E.e.ow i ds hs;have el0:l0=l:=by rw[hl]at hl0;cases hl0;rfl
 rw[el0]at el
 have keyb:∀j o c ns d,slot (zL Γ i (.ow ds')) j=.ob o c ns d->slot Γ j=.ob o c ns d:=λj o0 c0 ns d q=>by
  rw[yd]at q;by_cases c:j=i/\i<Γ.length
  ·rw[if_pos c]at q;cases q
  ·rw[if_neg c]at q;exact q
 have li:=uW (Γ:=Γ) (i:=i) (by rw[hs];exactλz=>nomatch z);have hp:zE (zG Z H) (zG Z (zV H l (.lst xs))):=ZY hz
 have key:∀j ds'',slot (zL Γ i (.ow ds')) j=.ow ds''->∃q,slot Γ j=.ow q:=λj d q=>by
  rw[yd]at q;by_cases c:j=i/\i<Γ.length
  ·rw[c.1];exact⟨ds,hs⟩
  ·rw[if_neg c]at q;exact⟨d,q⟩
 refine⟨⟨λj d q=>?_,λj d q=>?_,λj o c ns d q=>?_,λj k as bs m q r=>?_,⟨λb hb=>?_,Tbl.put E.e.zd.i el⟩,by rw[wl];exact E.e.len⟩,E.z0,E.z0d,?_,λj d m q=>?_,λj o c ns d q=>E.owb j o c ns d (keyb j o c ns d q)⟩
 ·rw[yd]at q;by_cases c:j=i/\i<Γ.length
  ·rw[if_pos c]at q;cases q
  ·rw[if_neg c]at q;obtain⟨v,h1,h2⟩:=E.e.sh j d q;exact⟨v,h1,h2.same hp⟩
 ·rw[yd]at q;by_cases c:j=i/\i<Γ.length
  ·rw[if_pos c]at q;cases q;rw[c.1];exact⟨l,xs,hl,hz,xS,yq hp hx⟩
  ·rw[if_neg c]at q;obtain⟨m,ys,h1,h2,h3,h4⟩:=E.e.ow j d q;have nm:m≠l:=λz=>c ⟨E.e.ne j i d ds l q hs (by rw[h1,z]) hl,li⟩;exact⟨m,ys,h1,h2,by rw[zu nm];exact h3,yq hp h4⟩
 ·obtain⟨dx,ys,h1,h2,h3,h5,h4⟩:=E.e.ob j o c ns d (keyb j o c ns d q);have nm:o≠l:=λz=>by rw[z,el]at h3;cases h3
  exact⟨dx,ys,h1,h2,by rw[zu nm];exact h3,h5,yq hp h4⟩
 ·obtain⟨q1,hq⟩:=key j as q;obtain⟨r1,hr⟩:=key k bs r;exact E.e.ne j k q1 r1 m hq hr
 ·obtain⟨u,e,n⟩:=E.e.zd.z b hb;by_cases c:b=l
  ·rw[c];exact⟨_,xS,λ_ z=>nomatch z⟩
  ·exact⟨u,by rw[zu c];exact e,n⟩
 ·exact E.same.put (E.own i ds l hs hl) el
 ·obtain⟨q1,hq⟩:=key j d q;exact E.own j q1 m hq
theorem zv.make(E:zv Z0 H0 Z Γ σ H)(hp:H p=none)(hx:yD (zG Z H) xs ds)(i):
  zv Z0 H0 (λb=>Z b\/b=p) (zL Γ i (.ow ds)) (σ.set i (some (.ref p))) (zV H p (.lst xs))/\zE (zG Z H) (zG (λb=>Z b\/b=p) (zV H p (.lst xs))):=by
 have s:zE (zG Z H) (zG (λb=>Z b\/b=p) (zV H p (.lst xs))):=λb o e=>by obtain⟨h1,h2⟩:=vP e;have nb:=xT h2 hp;exact wb (λz=>z.elim h1 nb) ((zu nb).trans h2) (jG e)
 have old:∀j d,slot Γ j=.ow d->∀m,σ[j]? =some (some (.ref m))->m≠p:=λj d q m h z=>by obtain⟨l,ys,h1,h2,h3,_⟩:=E.e.ow j d q;rw[h]at h1;cases h1;rw[z,hp]at h3;cases h3
 have get:∀j,¬(j=i/\i<Γ.length)->slot Γ j≠.no->(σ.set i (some (V.ref p)))[j]? =σ[j]?:=λj c q=>by have hj:=uW q;exact bv (λz=>c ⟨z.symm,by exact vW⟩)
 have new:∀j,j=i/\i<Γ.length->(σ.set i (some (V.ref p)))[j]? =some (some (.ref p)):=λj c=>by rw[c.1,cD (by have:=E.e.len;omega)]
 have keyb:∀j o c ns d,slot (zL Γ i (.ow ds)) j=.ob o c ns d->slot Γ j=.ob o c ns d/\(σ.set i (some (V.ref p)))[j]? =σ[j]?:=λj o0 c0 ns d q=>by
  rw[yd]at q;by_cases c:j=i/\i<Γ.length
  ·rw[if_pos c]at q;cases q
  ·rw[if_neg c]at q;exact⟨q,get j c (by rw[q];exactλz=>nomatch z)⟩
 refine⟨⟨⟨λj d q=>?_,λj d q=>?_,λj o c ns d q=>?_,λj k as bs m q r e f=>?_,⟨λb hb=>?_,Tbl.same E.e.zd.i (ZM hp _)⟩,by rw[wl,bS];exact E.e.len⟩,λb hb=>.inl (E.z0 b hb),E.z0d,E.same.trans (xJ hp _),λj d m q e=>?_,λj o c ns d q=>E.owb j o c ns d (keyb j o c ns d q).1⟩,s⟩
 ·rw[yd]at q;by_cases c:j=i/\i<Γ.length
  ·rw[if_pos c]at q;cases q
  ·rw[if_neg c]at q;obtain⟨v,h1,h2⟩:=E.e.sh j d q;exact⟨v,by rw[get j c (by rw[q];exactλz=>nomatch z)];exact h1,h2.same s⟩
 ·rw[yd]at q;by_cases c:j=i/\i<Γ.length
  ·rw[if_pos c]at q;cases q;exact⟨p,xs,new j c,.inr rfl,xS,yq s hx⟩
  ·rw[if_neg c]at q;obtain⟨m,ys,h1,h2,h3,h4⟩:=E.e.ow j d q;exact⟨m,ys,by rw[get j c (by rw[q];exactλz=>nomatch z)];exact h1,.inl h2,by rw[zu (old j d q m h1)];exact h3,yq s h4⟩
 ·obtain⟨q,g⟩:=keyb j o c ns d q;obtain⟨dx,ys,h1,h2,h3,h5,h4⟩:=E.e.ob j o c ns d q;exact⟨dx,ys,g.trans h1,.inl h2,by rw[zu (xT h3 hp)];exact h3,h5,yq s h4⟩
 ·rw[yd]at q r;by_cases c:j=i/\i<Γ.length
  ·grind
  ·rw[if_neg c]at q;rw[get j c (by rw[q];exactλz=>nomatch z)]at e;by_cases c':k=i/\i<Γ.length
   ·rw[new k c']at f;cases f;exact absurd rfl (old j as q p e)
   ·rw[if_neg c']at r;rw[get k c' (by rw[r];exactλz=>nomatch z)]at f;exact E.e.ne j k as bs m q r e f
 ·by_cases c:b=p
  ·rw[c];exact⟨_,xS,λ_ z=>nomatch z⟩
  ·obtain⟨u,e,n⟩:=E.e.zd.z b (hb.resolve_right c);exact⟨u,by rw[zu c];exact e,n⟩
 ·rw[yd]at q;by_cases c:j=i/\i<Γ.length
  ·rw[new j c]at e;cases e;exact E.same.free hp
  ·rw[if_neg c]at q;rw[get j c (by rw[q];exactλz=>nomatch z)]at e;exact E.own j d m q e
noncomputable def frz(Γ:List Sl)(i:Nat):List Sl:=match slot Γ i with
 | .ow ds=>zL Γ i (.sh (.lst ds))
 |_=>Γ
theorem zv.frz(E:zv Z0 H0 Z Γ σ H)(i):∃Z',zv Z0 H0 Z' (Pu.frz Γ i) σ H/\zE (zG Z H) (zG Z' H):=by
 unfold Pu.frz;cases hs:slot Γ i with
 |no=>exact⟨Z,E,zE.refl _⟩
 |sh _=>exact⟨Z,E,zE.refl _⟩
 |ob _ _ _ _=>exact⟨Z,E,zE.refl _⟩
 |ow ds=>
  obtain⟨l,xs,hl,hz,el,hx⟩:=E.e.ow i ds hs;have s:zE (zG Z H) (zG (λb=>Z b/\b≠l) H):=kG λb h=>h.1
  have key:∀j d,slot (zL Γ i (.sh (.lst ds))) j=.ow d->slot Γ j=.ow d/\j≠i:=λj d q=>by
   rw[yd]at q;by_cases c:j=i/\i<Γ.length
   ·rw[if_pos c]at q;cases q
   ·rw[if_neg c]at q;have hj:=uW (Γ:=Γ) (i:=j) (by rw[q];exactλz=>nomatch z);exact⟨q,λz=>c ⟨z,by exact Zz⟩⟩
  have keyb:∀j o c ns d,slot (zL Γ i (.sh (.lst ds))) j=.ob o c ns d->slot Γ j=.ob o c ns d:=λj o0 c0 ns d q=>by
   rw[yd]at q;by_cases c:j=i/\i<Γ.length
   ·rw[if_pos c]at q;cases q
   ·rw[if_neg c]at q;exact q
  refine⟨λb=>Z b/\b≠l,⟨⟨λj d q=>?_,λj d q=>?_,λj o c ns d q=>?_,λj k as bs m q r=>?_,⟨λb hb=>E.e.zd.z b hb.1,E.e.zd.i⟩,by rw[wl];exact E.e.len⟩,λb hb=>⟨E.z0 b hb,λz=>?_⟩,E.z0d,E.same,λj d m q=>E.own j d m (key j d q).1,λj o c ns d q=>E.owb j o c ns d (keyb j o c ns d q)⟩,s⟩
  ·rw[yd]at q;by_cases c:j=i/\i<Γ.length
   ·rw[if_pos c]at q;cases q;rw[c.1];exact⟨.ref l,hl,.lst (wb (λz=>z.2 rfl) el) (yq s hx)⟩
   ·rw[if_neg c]at q;obtain⟨v,h1,h2⟩:=E.e.sh j d q;exact⟨v,h1,h2.same s⟩
  ·obtain⟨q1,q2⟩:=key j d q;obtain⟨m,ys,h1,h2,h3,h4⟩:=E.e.ow j d q1;exact⟨m,ys,h1,⟨h2,λz=>q2 (E.e.ne j i d ds l q1 hs (by rw[h1,z]) hl)⟩,h3,yq s h4⟩
  ·obtain⟨dx,ys,h1,h2,h3,h5,h4⟩:=E.e.ob j o c ns d (keyb j o c ns d q);exact⟨dx,ys,h1,⟨h2,λz=>by rw[z,el]at h3;cases h3⟩,h3,h5,yq s h4⟩
  ·exact E.e.ne j k as bs m (key j as q).1 (key k bs r).1
  ·obtain⟨ys,e,_⟩:=E.z0d.z b hb;rw[z,E.own i ds l hs hl]at e;cases e
theorem zr.frz(E:zr Z Γ σ H)(i):∃Z',zr Z' (Pu.frz Γ i) σ H:=by
 unfold Pu.frz;cases hs:slot Γ i with
 |no=>exact⟨Z,E⟩
 |sh _=>exact⟨Z,E⟩
 |ob _ _ _ _=>exact⟨Z,E⟩
 |ow ds=>
  obtain⟨l,xs,hl,hz,el,hx⟩:=E.ow i ds hs;have s:zE (zG Z H) (zG (λb=>Z b/\b≠l) H):=kG λb h=>h.1
  have key:∀j d,slot (zL Γ i (.sh (.lst ds))) j=.ow d->slot Γ j=.ow d/\j≠i:=λj d q=>by
   rw[yd]at q;by_cases c:j=i/\i<Γ.length
   ·rw[if_pos c]at q;cases q
   ·rw[if_neg c]at q;have hj:=uW (Γ:=Γ) (i:=j) (by rw[q];exactλz=>nomatch z);exact⟨q,λz=>c ⟨z,by exact Zz⟩⟩
  have keyb:∀j o c ns d,slot (zL Γ i (.sh (.lst ds))) j=.ob o c ns d->slot Γ j=.ob o c ns d:=λj o0 c0 ns d q=>by
   rw[yd]at q;by_cases c:j=i/\i<Γ.length
   ·rw[if_pos c]at q;cases q
   ·rw[if_neg c]at q;exact q
  refine⟨λb=>Z b/\b≠l,⟨λj d q=>?_,λj d q=>?_,λj o c ns d q=>?_,λj k as bs m q r=>?_,⟨λb hb=>E.zd.z b hb.1,E.zd.i⟩,by rw[wl];exact E.len⟩⟩
  ·rw[yd]at q;by_cases c:j=i/\i<Γ.length
   ·rw[if_pos c]at q;cases q;rw[c.1];exact⟨.ref l,hl,.lst (wb (λz=>z.2 rfl) el) (yq s hx)⟩
   ·rw[if_neg c]at q;obtain⟨v,h1,h2⟩:=E.sh j d q;exact⟨v,h1,h2.same s⟩
  ·obtain⟨q1,q2⟩:=key j d q;obtain⟨m,ys,h1,h2,h3,h4⟩:=E.ow j d q1;exact⟨m,ys,h1,⟨h2,λz=>q2 (E.ne j i d ds l q1 hs (by rw[h1,z]) hl)⟩,h3,yq s h4⟩
  ·obtain⟨dx,ys,h1,h2,h3,h5,h4⟩:=E.ob j o c ns d (keyb j o c ns d q);exact⟨dx,ys,h1,⟨h2,λz=>by rw[z,el]at h3;cases h3⟩,h3,h5,yq s h4⟩
  ·exact E.ne j k as bs m (key j as q).1 (key k bs r).1
def Xz(i:Nat)(p:xq):xq:=λΓ R=>p (Pu.frz Γ i) R
theorem zJv(i)(h:PT X e (y8 p)):PT X e (y8 (Xz i p)):=XH h λσ H Q ⟨Z,Γ,R,E,h,q⟩=>let ⟨Z',E'⟩:=E.frz i;⟨Z',_,R,E',h,q⟩
end Pu
namespace Pu
open PySem L2 Sh
variable[Tbl]
open PyProof.Rows (envOfC)
section
variable{X:Cx}{e:Expr}{es:List Expr}{st:Stmt}{sts:List Stmt}{pos:Pos}{pa pb:zj}{pl:yY}{p q:ye}
theorem wU(h:PS X st t)(w:∀D σ H,t' D σ H->t D σ H):PS X st t':=λpins s σ H D I k=>h pins s σ H D I (w D σ H k)
theorem qI(h:yb X sts t)(w:∀D σ H,t' D σ H->t D σ H):yb X sts t':=λpins s σ H D I k=>h pins s σ H D I (w D σ H k)
def Jd:ye:=λD Γ=>D.nx Γ
def jL(p q:ye):ye:=λD Γ=>p {D with nx:=q D} Γ
theorem ZZ:yb X [] (yA Jd):=qI zO4 λD σ H ⟨Z0,H0,Z,Γ,Dp,E,h,nx,rt,bk,ct⟩=>nx Z Γ σ H E (zE.refl _) h
theorem wJ(h1:PS X st (yA p))(h2:yb X sts (yA q)):yb X (st::sts) (yA (jL p q)):=qI (uP h1 h2) λD σ H ⟨Z0,H0,Z,Γ,Dp,E,h,nx,rt,bk,ct⟩=>⟨Z0,H0,Z,Γ,{Dp with nx:=q Dp},E,h,λZ' Γ' σ' H' E' s' h'=>⟨Z0,H0,Z',Γ',Dp,E',h',λZ2 Γ2 σ2 H2 E2 s2=>nx Z2 Γ2 σ2 H2 E2 (s'.trans s2),rt,λZ2 Γ2 σ2 H2 E2 s2=>bk Z2 Γ2 σ2 H2 E2 (s'.trans s2),λZ2 Γ2 σ2 H2 E2 s2=>ct Z2 Γ2 σ2 H2 E2 (s'.trans s2)⟩,rt,bk,ct⟩
def Ky(p q:ye):ye:=λD Γ=>∃M:List Sl->Prop,p {D with nx:=M} Γ/\∀Γ',M Γ'->q D Γ'
theorem qJ(h1:PS X st (yA p))(h2:yb X sts (yA q)):yb X (st::sts) (yA (Ky p q)):=qI (uP h1 h2) λD σ H ⟨Z0,H0,Z,Γ,Dp,E,⟨M,h,k⟩,nx,rt,bk,ct⟩=>⟨Z0,H0,Z,Γ,{Dp with nx:=M},E,h,λZ' Γ' σ' H' E' s' h'=>⟨Z0,H0,Z',Γ',Dp,E',k Γ' h',λZ2 Γ2 σ2 H2 E2 s2=>nx Z2 Γ2 σ2 H2 E2 (s'.trans s2),rt,λZ2 Γ2 σ2 H2 E2 s2=>bk Z2 Γ2 σ2 H2 E2 (s'.trans s2),λZ2 Γ2 σ2 H2 E2 s2=>ct Z2 Γ2 σ2 H2 E2 (s'.trans s2)⟩,rt,bk,ct⟩
theorem qK(h1:PS X st (yA p)):yb X [st] (yA p):=gK h1
def X0(i:Nat)(p:ye):ye:=λD Γ=>p D (frz Γ i)
theorem Kz(i)(h1:PS X st (yA p)):PS X st (yA (X0 i p)):=wU h1 λD σ H ⟨Z0,H0,Z,Γ,Dp,E,h,nx,rt,bk,ct⟩=>by obtain⟨Z',E',s⟩:=E.frz i;exact⟨Z0,H0,Z',_,Dp,E',h,λZ2 Γ2 σ2 H2 E2 s2=>nx Z2 Γ2 σ2 H2 E2 (s.trans s2),rt,λZ2 Γ2 σ2 H2 E2 s2=>bk Z2 Γ2 σ2 H2 E2 (s.trans s2),λZ2 Γ2 σ2 H2 E2 s2=>ct Z2 Γ2 σ2 H2 E2 (s.trans s2)⟩
def vI(i:Nat)(pa:zj):ye:=λD Γ=>pa Γ λd=>D.nx (zL Γ i (.sh d))
theorem zQl(D)(σ)(H):yA (vI i pa) D σ H->wf (tP pa) (gN i) D σ H:=λ⟨Z0,H0,Z,Γ,Dp,E,h,nx,rt,bk,ct⟩=>⟨Z,Γ,_,E.e,h,λd v H1 hd s1 hv=>nx Z _ _ H1 ((E.mv s1).set hv i) (yL s1) hd⟩
theorem zJx(i:Nat){x:Str}{pos':Pos}(hN:X.N.Nodup)(hi:X.N[i]? =some x)(hx:uM X.env.scope x)(he:PE X e (tP pa))(hs:swapsWith e (some (.Name x pos')) pos.line X.env=pure false:=by rfl)(hf:X.fn x=true\/X.env.scope.names.lookup x=some .local:=by first|exact .inl rfl|exact .inr rfl|assumption):
  PS X (.Assign [.Name x pos'] e pos) (yA (vI i pa)):=wU (Ur hN hi hx he hs hf) zQl
def X3(js:List Nat)(po:D->Option (List D))(pa:zj):ye:=λD Γ=>pa Γ λd=>uZ (po d) λos=>D.nx (Xl Γ js os)
theorem K0{tg:Expr}{js:List Nat}{po:D->Option (List D)}(he:PE X e (tP pa))(hg:PG X tg (tG js po))(hs:swapsWithSole [tg] e pos.line X.env=pure false:=by rfl)(hw:swappedStores [tg] e X.env=pure none:=by rfl)
  (h1:(assignEach [tg] X.env).map (·.2)=[assign tg X.env]:=by rfl):PS X (.Assign [tg] e pos) (yA (X3 js po pa)):=wU (gR he hg hs hw h1) λD σ H ⟨Z0,H0,Z,Γ,Dp,E,h,nx,rt,bk,ct⟩=>
 ⟨Z,Γ,_,E.e,h,λd v H1 hd s1 hv=>by obtain⟨os,ho,hd⟩:=ZX hd;exact⟨Z,d,os,hv,ho,λvs hvs=>nx Z _ _ H1 ((E.mv s1).setN hvs) (yL s1) hd⟩⟩
def X4(i:Nat)(pl:yY):ye:=λD Γ=>pl Γ λds=>ds.length<=1000/\D.nx (zL Γ i (.ow ds))
theorem zJy(i:Nat){x:Str}{pos' lp:Pos}(hN:X.N.Nodup)(hi:X.N[i]? =some x)(hx:uM X.env.scope x)(he:PA X es (xb pl))(hs:swapsWith (.List es lp) (some (.Name x pos')) pos.line X.env=pure false:=by rfl)(hf:X.fn x=true\/X.env.scope.names.lookup x=some .local:=by first|exact .inl rfl|exact .inr rfl|assumption):
  PS X (.Assign [.Name x pos'] (.List es lp) pos) (yA (X4 i pl)):=wU (Ur hN hi hx (zN2 he) hs hf) λD σ H ⟨Z0,H0,Z,Γ,Dp,E,h,nx,rt,bk,ct⟩=>
 ⟨Z,Γ,_,E.e,h,λds vs H1 hd s1 hv=>⟨few (by rw[wR hv];exact hd.1),λl hl=>by obtain⟨E2,s2⟩:=(E.mv s1).make hl hv i;exact nx _ _ _ _ E2 ((yL s1).trans s2) hd.2⟩⟩
def X5:D->(List D->Prop)->Prop
 | .lst es,k=>k es
 |_,_=>False
def zN6(i:Nat)(ow:Bool)(caps:List Nat)(pi:yY)(po:D->Option (List D))(pe:zj):ye:=λT Γ=>pi Γ λds=>zo ds (λd S=>uZ (po d) λos=>pe (os.map Sl.sh++caps.map λj=>un (slot Γ j)) S) λd=>X5 d λes=>T.nx (zL Γ i (match ow with|true=>.ow es|false=>.sh (.lst es)))
theorem Za(i:Nat)(ow:Bool){scope:Scope}{own:List Str}{caps:List (Nat×Str)}{tg iter elt:Expr}{pi:yY}{po:D->Option (List D)}{pe:zj}{js:List Nat}{y:Str}{py spos:Pos}(hN:X.N.Nodup)(hy:X.N[i]? =some y)(hl:X.env.scope.names.lookup y=some .local)(B:vO X scope own caps)(hc:X.calm=true)(hj:js=dL 0 own.length)(hk:∀d os,po d=some os->os.length=js.length)
  (hi:PI X tg iter (vm pi)) (hg:∀C s₀ H₀ ex,PG (yX X scope (zZ own caps) C s₀ H₀ ex) tg (tG js po)) (he:∀C s₀ H₀ ex,PE (yX X scope (zZ own caps) C s₀ H₀ ex) elt (tP pe)) (hsw:swapsWith (.ListComp elt [⟨tg,iter,[],0⟩] scope pos) (some (.Name y py)) spos.line X.env=pure true) (hs:∀x,foldedSetIterable iter X.env x=pure x:=by intro _;rfl):
  PS X (.Assign [.Name y py] (.ListComp elt [⟨tg,iter,[],0⟩] scope pos) spos) (yA (zN6 i ow (caps.map (·.1)) pi po pe)):=wU (zHo hN hy hl B hc hi hg (.inl rfl) (λ_ _ _ _=>zRg) he hsw hs) λD σ H ⟨Z0,H0,Z,Γ,Dp,E,h,nx,rt,bk,ct⟩=>
 ⟨Z,Γ,_,E.e,h,λds J H1 ⟨fw,F,hF,hR⟩ s1 wk=>zIP (E.e.same s1) wk hj hk fw hF λes ys H' l h1 s2 h2 hp=>by
  have E1:=(E.mv s1).mv s2;cases ow with
  |true=>
   obtain⟨E2,s3⟩:=E1.make hp h2 i;exact nx _ _ _ _ E2 ((yL (s1.trans s2)).trans s3) (hR es h1)
  |false=>exact nx Z _ _ _ ((E1.mv (xJ hp _)).set (uX E1.e.zd hp h2) i) (yL (s1.trans (s2.trans (xJ hp _)))) (hR es h1)⟩
def X6(pa:zj):ye:=λD Γ=>pa Γ D.rt
theorem Zd(he:PE X e (tP pa)):PS X (.Return (some e) pos) (yA (X6 pa)):=wU (zNx he) λD σ H ⟨Z0,H0,Z,Γ,Dp,E,h,nx,rt,bk,ct⟩=>⟨Z,Γ,_,E.e,h,λd v H1 hd s1 hv=>rt d v H1 (E.same.trans s1) (hv.same (kG E.z0)) hd⟩
def pIf(t:xq)(p q:ye):ye:=λD Γ=>t Γ λc=>wA c (p D Γ) (q D Γ)
theorem Ze(hc:PT X c (y8 t))(ha:yb X a (yA p))(hb:yb X b (yA q)):PS X (.If c a b pos) (yA (pIf t p q)):=wU (zRR hc ha hb) λD σ H ⟨Z0,H0,Z,Γ,Dp,E,h,nx,rt,bk,ct⟩=>
 ⟨Z,Γ,_,E.e,h,λc H1 hd s1=>by
  have f:∀{P:List Sl->Prop}{Q:St->Hp->Prop},(∀Z' Γ' σ' H',zv Z0 H0 Z' Γ' σ' H'->zE (zG Z H) (zG Z' H')->P Γ'->Q σ' H')->∀Z' Γ' σ' H',zv Z0 H0 Z' Γ' σ' H'->zE (zG Z H1) (zG Z' H')->P Γ'->Q σ' H':=λg Z2 Γ2 σ2 H2 E2 s2=>g Z2 Γ2 σ2 H2 E2 ((yL s1).trans s2);cases c with
  |true=>exact⟨Z0,H0,Z,Γ,Dp,E.mv s1,hd.1 rfl,f nx,rt,f bk,f ct⟩
  |false=>exact⟨Z0,H0,Z,Γ,Dp,E.mv s1,hd.2 rfl,f nx,rt,f bk,f ct⟩⟩
def zN8:ye:=λD Γ=>D.bk Γ
def zRp:ye:=λD Γ=>D.ct Γ
theorem zJ0:PS X (.Break pos) (yA zN8):=wU zMa λD σ H ⟨Z0,H0,Z,Γ,Dp,E,h,nx,rt,bk,ct⟩=>bk Z Γ σ H E (zE.refl _) h
theorem zFt:PS X (.Continue pos) (yA zRp):=wU zGq λD σ H ⟨Z0,H0,Z,Γ,Dp,E,h,nx,rt,bk,ct⟩=>ct Z Γ σ H E (zE.refl _) h
theorem zMJ:PS X (.Pass pos) (yA Jd):=wU zO5 λD σ H ⟨Z0,H0,Z,Γ,Dp,E,h,nx,rt,bk,ct⟩=>nx Z Γ σ H E (zE.refl _) h
def zN5:ye:=λ_ _=>False
theorem zJz:PS X st (yA zN5):=wU zMZ λD σ H ⟨Z0,H0,Z,Γ,Dp,E,h,nx,rt,bk,ct⟩=>h
def X7(pi:yY)(js:List Nat)(po:D->Option (List D))(pb:ye):ye:=λD Γ=>pi Γ λds=>∃I:Nat->List Sl->Prop,I 0 Γ/\(∀k d Γ',ds[k]? =some d->I k Γ'->uZ (po d) λos=>pb ⟨I (k+1),D.rt,D.nx,I (k+1)⟩ (Xl Γ' js os))/\∀Γ',I ds.length Γ'->D.nx Γ'
theorem zOy{tg iter:Expr}{body:List Stmt}{pi:yY}{js:List Nat}{po:D->Option (List D)}(hp:PassesOwn (model X.prog X.w) X.A X.env X.xe)(hc:X.calm=true)(hi:PI X tg iter (vm pi))(hg:PG X tg (tG js po))(hb:yb X body (yA p))
  (hs:∀x,foldedSetIterable iter X.env x=pure x:=by intro _;rfl):PS X (.For tg iter body [] pos) (yA (X7 pi js po p)):=wU (Us hp hc hi hg hb hs) λD σ H ⟨Z0,H0,Z,Γ,Dp,E,h,nx,rt,bk,ct⟩=>
 ⟨Z,Γ,_,E.e,h,λds J H1 ⟨I,h0,hst,hd⟩ s1 wk=>by
  have g:∀{Q:List Sl->Prop}{T:St->Hp->Prop}{Z1 H2},zE (zG Z H1) (zG Z1 H2)->(∀Z' Γ' σ' H',zv Z0 H0 Z' Γ' σ' H'->zE (zG Z H) (zG Z' H')->Q Γ'->T σ' H')->∀Z' Γ' σ' H',zv Z0 H0 Z' Γ' σ' H'->zE (zG Z1 H2) (zG Z' H')->Q Γ'->T σ' H':=λs k Z2 Γ2 σ2 H2 E2 s2=>k Z2 Γ2 σ2 H2 E2 ((yL s1).trans (s.trans s2));refine⟨λi m σ' H'=>m+i=ds.length/\∃Z' Γ',zv Z0 H0 Z' Γ' σ' H'/\zE (zG Z H1) (zG Z' H')/\I i Γ',⟨ds.length,rfl,Z,Γ,E.mv s1,zE.refl _,h0⟩,?_⟩;rintro i m σ' H' ⟨hm,Z',Γ',E',s',hI⟩;obtain⟨w1,w2⟩:=wk i Z' H' s' E'.e.zd;by_cases hi:i<ds.length
  ·refine .inr ⟨(w1 _ (aE hi)).1,λσ' H'=>m-1+(i+1)=ds.length/\∃Z' Γ',zv Z0 H0 Z' Γ' σ' H'/\zE (zG Z H1) (zG Z' H')/\I (i+1) Γ',λσ2 H2 k=>⟨m-1,by omega,k⟩,λx H2 yl=>?_⟩;obtain⟨s2,dv⟩:=(w1 _ (aE hi)).2 x H2 yl;obtain⟨os,ho,hb⟩:=ZX (hst i _ Γ' (aE hi) hI);refine⟨Z',_,os,dv,ho,λvs hvs=>?_⟩;have s3:=s'.trans (yL s2);have again:∀Z2 Γ2 σ2 H3,zv Z0 H0 Z2 Γ2 σ2 H3->zE (zG Z' H2) (zG Z2 H3)->I (i+1) Γ2->m-1+(i+1)=ds.length/\∃Z' Γ',zv Z0 H0 Z' Γ' σ2 H3/\zE (zG Z H1) (zG Z' H3)/\I (i+1) Γ':=λZ2 Γ2 σ2 H3 E3 k hI=>⟨by omega,Z2,Γ2,E3,s3.trans k,hI⟩
   exact⟨Z0,H0,Z',_,_,(E'.mv s2).setN hvs,hb,again,rt,g s3 nx,again⟩
  ·have ei:i=ds.length:=by omega
   rw[ei]at hI;exact .inl ⟨w2 ei,nx Z' Γ' σ' H' E' ((yL s1).trans s') (hd Γ' hI)⟩⟩
def X8:Sl->(List D->Prop)->Prop
 | .ow ds,R=>R ds
 |_,_=>False
theorem Je(h:X8 s R):∃ds,s=.ow ds/\R ds:=by
 cases s with
 |ow ds=>exact⟨ds,rfl,h⟩
 |_=>exact h.elim
def X9(i:Nat)(pa:zj):ye:=λD Γ=>X8 (slot Γ i) λds=>pa Γ λd=>ds.length<1000/\D.nx (zL Γ i (.ow (ds++[d])))
theorem zNn(D)(σ)(H):yA (X9 i pa) D σ H->zQr (tBM K "list" gw (vB i) (uQ (tP pa) w6)) D σ H:=λ⟨Z0,H0,Z,Γ,Dp,E,h,nx,rt,bk,ct⟩=>by obtain⟨ds,hs,h⟩:=Je h;obtain⟨l,xs,hl,hz,el,hx⟩:=E.e.ow i ds hs;refine⟨.ref l,hl,.inl ⟨rfl,xs,zW.of el⟩,Z,Γ,_,E.e,h,λd v H1 hd s1 hv=>?_⟩;have hx1:=yq (yL s1) hx;exact⟨l,xs,v,rfl,rfl,s1.at el,Qs (by rw[wR hx];omega),nx Z _ _ _ ((E.mv s1).put hs hl hz (ZN hv hx1)) ((yL s1).trans (ZY hz)) hd.2⟩
def WA(i:Nat)(pa pb:zj):ye:=λD Γ=>pa Γ λd=>X8 (slot Γ i) λds=>pb Γ λk=>iD k λo=>∃z j,o=some z/\xw ds.length z=some j/\D.nx (zL Γ i (.ow (ds.set j d)))
theorem zN4{α β:Type}{R:α->β->Prop}{x:α}{y:β}(r:R x y):∀{xs:List α}{ys:List β}(i:Nat),Paired R xs ys->Paired R (xs.set i x) (ys.set i y)
 |_,_,_,.nil=>.nil
 |_,_,0,.cons _ t=>.cons r t
 |_,_,i+1,.cons q t=>.cons q (zN4 r i t)
theorem zNm(D)(σ)(H):yA (WA i pa pb) D σ H->wf (tP pa) (gQ (vB i) (tP pb) gy) D σ H:=λ⟨Z0,H0,Z,Γ,Dp,E,h,nx,rt,bk,ct⟩=>
 ⟨Z,Γ,_,E.e,h,λd v H1 hd s1 hv=>by
  obtain⟨ds,hs,h⟩:=Je hd;obtain⟨l,xs,hl,hz,el,hx⟩:=(E.mv s1).e.ow i ds hs;refine⟨.ref l,hl,Z,Γ,_,(E.mv s1).e,h,λk u H2 hk s2 hu=>?_⟩;cases k <;> try exact hk.elim
  obtain⟨z,j,e1,e2,hd⟩:=hk;cases e1;cases hu;have s:=s1.trans s2;have hx1:=yq (yL s2) hx;exact⟨l,xs,_,j,rfl,rfl,s2.at el,by rw[wR hx];exact e2,nx Z _ _ _ ((E.mv s).put hs hl hz (zN4 (hv.same (yL s2)) j hx1)) ((yL s).trans (ZY hz)) hd⟩⟩
def ixL(ds:List D):D->(D->Prop)->Prop
 | .int i,R=>∃d,yc ds i=some d/\R d
 |_,_=>False
def WB(i:Nat)(pb:zj):zj:=λΓ R=>X8 (slot Γ i) λds=>pb Γ λk=>ixL ds k R
theorem K1(i:Nat){x:Str}{b:Expr}{xp:Pos}(hb:PE X b (tP pb))(hs:Yc b)(hN:X.N[i]? =some x:=by rfl)(hv:j4 X.env.scope x:=by first|exact Or.inl rfl|exact Or.inr (Or.inl rfl)|exact Or.inr (Or.inr rfl))(hd:(x==("__debug__":Str))=false:=by decide)
  (hcd:(x==("__classdict__":Str))=false:=by decide):PE X (.Subscript (.Name x xp) b pos) (tP (WB i pb)):=yz (Ql Qn (ji i hN hv hd hcd) hb hs) λσ H Q ⟨Z,Γ,R,E,h,q⟩=>by
 obtain⟨ds,hs,h⟩:=Je h;obtain⟨l,xs,hl,hz,el,hx⟩:=E.ow i ds hs;refine⟨.ref l,hl,Z,Γ,_,E,h,λk u H2 hk s2 hu=>?_⟩;cases k <;> try exact hk.elim
 cases hu;obtain⟨d,hd,hR⟩:=hk;obtain⟨v,hv,hh⟩:=JX hx hd;exact⟨l,xs,_,v,rfl,rfl,zW.of (s2.at el),hv,q _ _ H2 hR s2 (hh.same (yL s2))⟩
noncomputable def D.isInt:D->Bool
 | .int _=>true
 | .bool _=>true
 |_=>false
noncomputable def D.isBool:D->Bool
 | .bool _=>true
 |_=>false
noncomputable def D.isLst:D->Bool
 | .lst _=>true
 | .scr _=>true
 |_=>false
noncomputable def D.isTup:D->Bool
 | .tup _=>true
 |_=>false
noncomputable def D.isObj:D->Bool
 | .obj ..=>true
 | .raw _=>true
 |_=>false
def zR7(c:String)(f:D->Bool):D->(D->Prop)->Prop:=λd R=>d.isObj=false/\R (.bool (f d))
theorem Jf(h:DV H v d)(o:d.isObj=false):∃t,yQ K H v t/\bG K t (.type "int")=some d.isInt/\bG K t (.type "bool")=some d.isBool/\bG K t (.type "list")=some d.isLst/\bG K t (.type "tuple")=some d.isTup:=by
 cases h with
 |int i=>exact⟨_,.int i,qe K .int,qf K .int,qh K .int,qg K .int⟩
 |bool b=>exact⟨_,.bl b,qe K .bool,qf K .bool,qh K .bool,qg K .bool⟩
 |non=>exact⟨_,.non,qe K .non,qf K .non,qh K .non,qg K .non⟩
 |str x=>exact⟨_,.str x,qe K .str,qf K .str,qh K .str,qg K .str⟩
 |scr e=>
  rcases e with e|⟨o,e⟩
  ·exact⟨_,.lst e,qe K .lst,qf K .lst,qh K .lst,qg K .lst⟩
  ·exact⟨_,.frz e,qe K .lst,qf K .lst,qh K .lst,qg K .lst⟩
 |lst e _=>exact⟨_,.lst e,qe K .lst,qf K .lst,qh K .lst,qg K .lst⟩
 |tup e _=>exact⟨_,.tup e,qe K .tup,qf K .tup,qh K .tup,qg K .tup⟩
 |obj e _ _=>cases o
 |raw v=>cases o
theorem zOb(hf:∀H v d,DV H v d->d.isObj=false->∃t,yQ K H v t/\bG K t (.type c)=some (f d))(σ)(H)(Q):tP (uk (zR7 c f) pa) σ H Q->YY (zRA K) (uQ (tP pa) (uQ (tC (.ty c)) w6)) σ H Q:=λ⟨Z,Γ,R,E,h,q⟩=>
 ⟨Z,Γ,_,E,h,λd v H1 hd s1 hv=>by obtain⟨t,h1,h2⟩:=hf H1 v d (hv.same zx) hd.1;exact⟨v,c,t,_,rfl,h1,h2,q _ _ H1 hd.2 s1 (.bool _)⟩⟩
theorem zSI(H)(v)(d)(h:DV H v d)(o:d.isObj=false):∃t,yQ K H v t/\bG K t (.type "int")=some d.isInt:=let ⟨t,h1,h2,_⟩:=Jf h o;⟨t,h1,h2⟩
theorem zMy(H)(v)(d)(h:DV H v d)(o:d.isObj=false):∃t,yQ K H v t/\bG K t (.type "bool")=some d.isBool:=let ⟨t,h1,_,h2,_⟩:=Jf h o;⟨t,h1,h2⟩
theorem zPa(H)(v)(d)(h:DV H v d)(o:d.isObj=false):∃t,yQ K H v t/\bG K t (.type "list")=some d.isLst:=let ⟨t,h1,_,_,h2,_⟩:=Jf h o;⟨t,h1,h2⟩
theorem zMz(H)(v)(d)(h:DV H v d)(o:d.isObj=false):∃t,yQ K H v t/\bG K t (.type "tuple")=some d.isTup:=let ⟨t,h1,_,_,_,h2⟩:=Jf h o;⟨t,h1,h2⟩
end
inductive wB(F:FL)(vs:List V)(H:Hp)(Q:VK)(E:XK):Prop
 |mk (Z:Addr->Prop) (ds:List D) (R:D->Prop) (zd:ZL Z H) (hv:yD (zG Z H) vs ds) (h:F ds R) (q:∀d v H',R d->Sm H H'->DV (zG Z H') v d->Q v H'):wB F vs H Q E
section
variable{P:Program}{w:World}{K:aH}{mg:Str->Option Value}{base:Heap}
theorem vJ(n i):slot (aL n .no) i=.no:=by
 rw[zHd];cases h:(aL n Sl.no)[i]? with
 |none=>rfl
 |some x=>exact fW (bH h)
theorem K2(zd:ZL Z H)(h:yD (zG Z H) vs ds)(n):zr Z (ds.map Sl.sh++aL n .no) (vs.map some++aL n none) H:=by
 have no:∀i as,slot (ds.map Sl.sh++aL n .no) i≠.ow as:=Xx λi as h=>by rw[vJ]at h;cases h
 have nob:∀i o c ns as,slot (ds.map Sl.sh++aL n .no) i≠.ob o c ns as:=Xw λi o c ns as h=>by rw[vJ]at h;cases h
 refine⟨?_,λi as e=>absurd e (no i as),λi o c ns as e=>absurd e (nob i o c ns as),λi _ as _ _ e=>absurd e (no i as),zd,?_⟩;clear nob
 ·induction h with
  |nil=>
   intro i d e;change slot (aL n .no) i=_ at e;rw[vJ]at e;cases e
  |@cons v d vs ds hv _ ih=>
   intro i e q;cases i with
   |zero=>cases q;exact⟨v,rfl,hv⟩
   |succ i=>
    obtain⟨u,h1,h2⟩:=ih (λi=>no (i+1)) i e q;exact⟨u,by rw[bg,f8,dJ];exact h1,h2⟩
 ·rw[aF,aF,aB,aB,bX,bX,wR h]
theorem K3{N ps:List Str}(len:∀ds R,F ds R->ds.length=ps.length)(h2:∀ds R,F ds R->p {nx:=λ_=>R .non,rt:=R} (ds.map Sl.sh++aL (N.length-ps.length) .no))(h:wB F vs H Q E):yA p {nx:=λ_ H'=>Q .non H',rt:=Q} (L2.wj N vs) H:=by
 obtain⟨Z,ds,R,zd,hv,h,q⟩:=h
 have e:L2.wj N vs=vs.map some++aL (N.length-ps.length) none:=by unfold L2.wj;rw[wR hv,len ds R h]
 refine⟨Z,H,Z,_,_,⟨?_,λ_ h=>h,zd,Sm.refl _,?_,?_⟩,h2 ds R h,λZ' Γ' σ' H' E' _ hn=>q .non .non H' hn E'.same .non,λd v H' s' hv' hd=>q d v H' hd s' hv',λ_ _ _ _ _ _ h=>h.elim,λ_ _ _ _ _ _ h=>h.elim⟩
 ·rw[e];exact K2 zd hv _
 ·exactλi as l e=>absurd e (Xx (λi as h=>by rw[vJ]at h;cases h) i as)
 ·exactλi o c ns as e=>absurd e (Xw (λi o c ns as h=>by rw[vJ]at h;cases h) i o c ns as)
theorem Jg{ps:List Str}(len:∀ds R,F ds R->ds.length=ps.length)(vs)(H)(Q)(E):wB F vs H Q E->vs.length=ps.length:=λ⟨Z,ds,R,zd,hv,h,q⟩=>by rw[wR hv];exact len ds R h
theorem K4(Fu:wO K x qual st f fd)(S:wH N ps (zX st))(len:∀ds R,F ds R->ds.length=ps.length)
  (hbody:∀(cdv:Value)(A:Around)(outer:List Env)(s:Shared)(H:Hp)(E:XK),zN k (A.deeper (envOfC qual (zX st) s.heap.objs.size f cdv))->
   ∃p,yb (ym yN P w K mg base N qual (zX st) f cdv A outer s H E).nox (yG st) (yA p)/\∀ds R,F ds R->p {nx:=λ_=>R .non,rt:=R} (ds.map Sl.sh++aL (N.length-ps.length) .no)):zS P w K mg base yN (k+1) f fd ps (wB F):=
 Fu.ok S (Jg len) λcdv A outer s H vs Q E hr h=>let ⟨p,h1,h2⟩:=hbody cdv A outer s H E hr;⟨_,h1,K3 len h2 h⟩
theorem K5(Fu:xU K x qual st f fd dv)(S:wH N ps (zX st))(len:∀ds R,F ds R->ds.length=ps.length)
  (hbody:∀(cdv:Value)(A:Around)(outer:List Env)(s:Shared)(H:Hp)(E:XK),zN k (A.deeper (envOfC qual (zX st) s.heap.objs.size f cdv))->
   ∃p,yb (ym yN P w K mg base N qual (zX st) f cdv A outer s H E).nox (yG st) (yA p)/\∀ds R,F ds R->p {nx:=λ_=>R .non,rt:=R} (ds.map Sl.sh++aL (N.length-ps.length) .no)):zS P w K mg base yN (k+1) f fd ps (wB F):=
 Fu.ok S (Jg len) λcdv A outer s H vs Q E hr h=>let ⟨p,h1,h2⟩:=hbody cdv A outer s H E hr;⟨_,h1,K3 len h2 h⟩
theorem xK{X:Cx}{x:Str}{ps:List Str}{k:Nat}{F:FL}{e:Expr}{es:List Expr}{pl:yY}{p pos:Pos}(c:Fn X.prog X.w X.K X.mg X.base x ps k (wB F))(hr:zN k X.A)(hg:Gl X x)(ha:PA X (e::es) (xb pl))
  (hdb:(x==("__debug__":Str))=false:=by decide) (he:starEach (e::es) X.env=(false,eval e X.env)::starEach es X.env:=by rfl) (hpl:(backTo pos (starEach es X.env)).any (·.1)=false:=by rfl):
  PE X (.Call (.Name x p) (e::es) [] pos) (tP (wx F pl)):=yz (zHw c hr hg ha hdb he hpl) λσ H Q ⟨Z,Γ,R,E,h,q⟩=>
 ⟨Z,Γ,_,E,h,λds vs H1 hd s1 hv=>⟨Z,ds,R,(E.same s1).zd,by rw[cH];exact hv,hd,λd v H2 h2 s2 hv2=>q d v H2 h2 (s1.trans s2) hv2⟩⟩
end
end Pu
namespace Pu
open PySem L2 Sh
variable[Tbl]
open PyProof.Rows (envOfC)
theorem zHk:∀{ns:List Str}{xs:List V},ns.length=xs.length->f∉ns->yk f y (ns.zip xs)=(ns++[f]).zip (xs++[y])
 |[],[],_,_=>rfl
 |[],_::_,h,_=>nomatch h
 |_::_,[],h,_=>nomatch h
 |n::ns,x::xs,h,hf=>by
  show(if n=f then(n,y)::ns.zip xs else(n,x)::yk f y (ns.zip xs))=_;rw[if_neg (λz=>hf (by rw[z];exact aR)),zHk (Nat.succ.inj h) (λz=>hf (aK _ z))];rfl
theorem zv.putO(E:zv Z0 H0 Z Γ σ H)(hs:slot Γ i=.ob o c ns ds)(he:∃fs,H o=some (.ins c dx fs))(hl:ns'.length=xs.length)(hx:yD (zG Z H) xs ds')(one:∀j o' c' ns' ds',slot Γ j=.ob o' c' ns' ds'->j=i):zv Z0 H0 Z (zL Γ i (.ob o c ns' ds')) σ (zV H o (.ins c dx (ns'.zip xs))):=by
 obtain⟨dx0,xs0,hl0,hz,el,_⟩:=E.e.ob i o c ns ds hs;have li:=uW (Γ:=Γ) (i:=i) (by rw[hs];exactλz=>nomatch z);have hp:zE (zG Z H) (zG Z (zV H o (.ins c dx (ns'.zip xs)))):=ZY hz
 have keyw:∀j d,slot (zL Γ i (.ob o c ns' ds')) j=.ow d->slot Γ j=.ow d:=λj d q=>by
  rw[yd]at q;by_cases c:j=i/\i<Γ.length
  ·rw[if_pos c]at q;cases q
  ·rw[if_neg c]at q;exact q
 refine⟨⟨λj d q=>?_,λj d q=>?_,λj o' c' ns1 d q=>?_,λj k as bs m q r=>E.e.ne j k as bs m (keyw j as q) (keyw k bs r),⟨λb hb=>?_,he.elim λ_ e=>Tbl.put E.e.zd.i e⟩,by rw[wl];exact E.e.len⟩,E.z0,E.z0d,?_,λj d m q=>E.own j d m (keyw j d q),λj o' c' ns1 d q=>?_⟩
 ·rw[yd]at q;by_cases c:j=i/\i<Γ.length
  ·rw[if_pos c]at q;cases q
  ·rw[if_neg c]at q;obtain⟨v,h1,h2⟩:=E.e.sh j d q;exact⟨v,h1,h2.same hp⟩
 ·obtain⟨m,ys,h1,h2,h3,h4⟩:=E.e.ow j d (keyw j d q);have nm:m≠o:=λz=>by rw[z,el]at h3;cases h3
  exact⟨m,ys,h1,h2,by rw[zu nm];exact h3,yq hp h4⟩
 ·rw[yd]at q;by_cases c:j=i/\i<Γ.length
  ·rw[if_pos c]at q;cases q;rw[c.1];exact⟨dx,xs,hl0,hz,xS,hl,yq hp hx⟩
  ·rw[if_neg c]at q;exact absurd ⟨one _ _ _ _ _ q,li⟩ c
 ·obtain⟨u,e,n⟩:=E.e.zd.z b hb;by_cases c:b=o
  ·rw[c];exact⟨_,xS,λ_ z=>nomatch z⟩
  ·exact⟨u,by rw[zu c];exact e,n⟩
 ·exact he.elim λ_ e=>E.same.put (E.owb i o c ns ds hs) e
 ·rw[yd]at q;by_cases c:j=i/\i<Γ.length
  ·rw[if_pos c]at q;cases q;exact E.owb i o _ ns ds hs
  ·rw[if_neg c]at q;exact E.owb j o' c' ns1 d q
def kN:Sl->(Addr->Addr->List Str->List D->Prop)->Prop
 | .ob o c ns ds,R=>R o c ns ds
 |_,_=>False
theorem zKh(h:kN s R):∃o c ns ds,s=.ob o c ns ds/\R o c ns ds:=by
 cases s with
 |ob o c ns ds=>exact⟨o,c,ns,ds,rfl,h⟩
 |_=>exact h.elim
noncomputable def kO:List Sl->Bool
 |[]=>true
 | .ob _ _ _ _::_=>false
 |_::t=>kO t
theorem Jh:∀{Γ:List Sl},kO Γ=true->∀j o c ns ds,slot Γ j≠.ob o c ns ds
 |[],_,_,_,_,_,_,h=>nomatch h
 | .no::_,_,0,_,_,_,_,h=>nomatch h
 | .sh _::_,_,0,_,_,_,_,h=>nomatch h
 | .ow _::_,_,0,_,_,_,_,h=>nomatch h
 | .ob .. ::_,g,_,_,_,_,_,_=>nomatch g
 | .no::t,g,j+1,o,c,ns,ds,h=>Jh (Γ:=t) g j o c ns ds h
 | .sh _::t,g,j+1,o,c,ns,ds,h=>Jh (Γ:=t) g j o c ns ds h
 | .ow _::t,g,j+1,o,c,ns,ds,h=>Jh (Γ:=t) g j o c ns ds h
def WC(K:aH)(c:Addr)(f:Str):Prop:=u4 K c/\qZ K c f
section
variable{X:Cx}{e:Expr}{es:List Expr}{pos:Pos}{pa:zj}{pl:yY}{C:Addr}
inductive vo(C:Addr)(F:FL)(vs:List V)(H:Hp)(Q:VK)(E:XK):Prop
 |mk (Z:Addr->Prop) (ds:List D) (R:D->Prop) (o dx:Addr) (us:List V) (e:vs=.ref o::us) (ho:H o=some (.ins C dx [])) (hz:¬Z o) (zd:ZL Z H) (hv:yD (zG (λb=>Z b\/b=o) H) us ds) (h:F ds R) (q:∀d H',R d->Sm (less o H) H'->DV (zG Z H') (.ref o) d->Q .non H'):vo C F vs H Q E
theorem zH2{N ps:List Str}(len:∀ds R,F ds R->ds.length=ps.length)(h2:∀o ds R,F ds R->p {nx:=λΓ=>kN (slot Γ 0) λo' c ns es=>o'=o/\R (.obj c ns es),rt:=λ_=>False} (.ob o C [] []::(ds.map Sl.sh++aL (N.length-(ps.length+1)) .no)))(h:vo C F vs H Q E):yA p {nx:=λ_ H'=>Q .non H',rt:=Q} (L2.wj N vs) H:=by
 obtain⟨Z,ds,R,o,dx,us,e,ho,hz,zd,hv,h,q⟩:=h;subst e
 have e:L2.wj N (.ref o::us)=some (.ref o)::(us.map some++aL (N.length-(ps.length+1)) none):=by unfold L2.wj;rw[bF,wR hv,len ds R h];rfl
 have zd':ZL (λb=>Z b\/b=o) H:=⟨λb hb=>hb.elim (zd.z b) λz=>by rw[z];exact⟨_,ho,λ_ z=>nomatch z⟩,zd.i⟩
 have E0:=K2 zd' hv (N.length-(ps.length+1));refine⟨Z,less o H,λb=>Z b\/b=o,_,_,⟨?_,λ_ h=>.inl h,⟨λb hb=>?_,Tbl.less zd.i ho⟩,.of Kc,?_,?_⟩,h2 o ds R h,λZ' Γ' σ' H' E' _ hn=>?_,λ_ _ _ _ _ h=>h.elim,λ_ _ _ _ _ _ h=>h.elim,λ_ _ _ _ _ _ h=>h.elim⟩
 ·rw[e];refine⟨λi d q=>?_,λi d q=>?_,λi o' c ns d q=>?_,λi j as bs l q r=>?_,zd',by rw[bF,bF,E0.len]⟩
  ·cases i with
   |zero=>cases q
   |succ i=>exact E0.sh i d q
  ·cases i with
   |zero=>cases q
   |succ i=>exact E0.ow i d q
  ·cases i with
   |zero=>cases q;exact⟨dx,[],rfl,.inr rfl,ho,rfl,.nil⟩
   |succ i=>exact E0.ob i o' c ns d q
  ·cases i with
   |zero=>cases q
   |succ i=>
    cases j with
    |zero=>cases r
    |succ j=>exactλa b=>congrArg _ (E0.ne i j as bs l q r a b)
 ·obtain⟨u,e1,n⟩:=zd.z b hb;exact⟨u,(if_neg λz=>hz (by rw[<- z];exact hb)).trans e1,n⟩
 ·intro i as l q;cases i with
  |zero=>cases q
  |succ i=>exact absurd q (Xx (λi as h=>by rw[vJ]at h;cases h) i as)
 ·intro i o' c ns as q;cases i with
  |zero=>cases q;exact if_pos rfl
  |succ i=>exact absurd q (Xw (λi o c ns as h=>by rw[vJ]at h;cases h) i o' c ns as)
 ·obtain⟨o',c,ns,es,hs,e2,hR⟩:=zKh hn;subst e2;obtain⟨dx',xs,hl,hz',el,ln,hx⟩:=E'.e.ob 0 o' c ns es hs;refine q _ H' hR E'.same (.obj (wb hz el) ln (yq (kG E'.z0) hx))
theorem zJe{p0:Str}(len:∀ds R,F ds R->ds.length=ps.length)(vs)(H)(Q)(E):vo C F vs H Q E->vs.length=(p0::ps).length:=λ⟨Z,ds,R,o,dx,us,e,ho,hz,zd,hv,h,q⟩=>by rw[e,bF,bF,wR hv,len ds R h]
theorem okI(Fu:wO K x qual st f fd)(S:wH N (p0::ps) (zX st))(len:∀ds R,F ds R->ds.length=ps.length)
  (hbody:∀(cdv:Value)(A:Around)(outer:List Env)(s:Shared)(H:Hp)(E:XK),zN k (A.deeper (envOfC qual (zX st) s.heap.objs.size f cdv))->
   ∃p,yb (ym yN P w K mg base N qual (zX st) f cdv A outer s H E).nox (yG st) (yA p)/\∀o ds R,F ds R->p {nx:=λΓ=>kN (slot Γ 0) λo' c ns es=>o'=o/\R (.obj c ns es),rt:=λ_=>False} (.ob o C [] []::(ds.map Sl.sh++aL (N.length-(ps.length+1)) .no))):zS P w K mg base yN (k+1) f fd (p0::ps) (vo C F):=
 Fu.ok S (zJe len) λcdv A outer s H vs Q E hr h=>let ⟨p,h1,h2⟩:=hbody cdv A outer s H E hr;⟨_,h1,zH2 len h2 h⟩
theorem K6(Fu:xU K x qual st f fd dv)(S:wH N (p0::ps) (zX st))(len:∀ds R,F ds R->ds.length=ps.length)
  (hbody:∀(cdv:Value)(A:Around)(outer:List Env)(s:Shared)(H:Hp)(E:XK),zN k (A.deeper (envOfC qual (zX st) s.heap.objs.size f cdv))->
   ∃p,yb (ym yN P w K mg base N qual (zX st) f cdv A outer s H E).nox (yG st) (yA p)/\∀o ds R,F ds R->p {nx:=λΓ=>kN (slot Γ 0) λo' c ns es=>o'=o/\R (.obj c ns es),rt:=λ_=>False} (.ob o C [] []::(ds.map Sl.sh++aL (N.length-(ps.length+1)) .no))):zS P w K mg base yN (k+1) f fd (p0::ps) (vo C F):=
 Fu.ok S (zJe len) λcdv A outer s H vs Q E hr h=>let ⟨p,h1,h2⟩:=hbody cdv A outer s H E hr;⟨_,h1,zH2 len h2 h⟩
theorem zHT(he:∀H,yD H ev ed)(σ)(H)(Q):tP (wx (λds=>F (ds++ed)) pl) σ H Q->YX C (vo C F) ev E0 (xb pl) σ H Q:=λ⟨Z,Γ,R,E,h,q⟩=>
 ⟨Z,Γ,_,E,h,λds vs H1 hd s1 hv x dx hx hdx ne=>by
  have zd:=(E.same s1).zd;have s2:Sm H1 (zV (zV H1 dx (.own x)) x (.ins C dx [])):=.of (zJj hx hdx ne _ _);refine⟨Z,ds++ed,R,x,dx,vs++ev,rfl,xS,zd.new hx,zd.same s2,?_,hd,λd H' hR sb dv=>⟨rfl,q d _ H' hR (zQz (s1.trans s2) xS sb ?_) dv⟩⟩
  ·refine gr (yq ?_ hv) (he _);intro b o e;obtain⟨n1,n2⟩:=vP e;exact wb (λz=>z.elim n1 (xT n2 hx)) (s2.at n2 (jG e)) (jG e)
  ·exact s1.free hx⟩
theorem zOa(σ)(H)(Q)(h:tP (wx F pl) σ H Q):YX C (vo C F) [] E0 (xb pl) σ H Q:=zHT (ed:=[]) (λ_=>.nil) σ H Q (by rw[show(λds=>F (ds++[]))=F from funext λds=>by rw[cH]];exact h)
theorem Zf{x:Str}{ps:List Str}{k:Nat}{F:FL}{p:Pos}(c:jh X.prog X.w X.K X.mg X.base C ps k (vo C F))(T:xV X.K X.mg x C)(hr:zN (k+1) X.A)(hg:Gl X x)(ha:PA X (e::es) (xb pl))
  (hdb:(x==("__debug__":Str))=false:=by decide) (he:starEach (e::es) X.env=(false,eval e X.env)::starEach es X.env:=by rfl) (hpl:(backTo pos (starEach es X.env)).any (·.1)=false:=by rfl):
  PE X (.Call (.Name x p) (e::es) [] pos) (tP (wx F pl)):=yz (zMe c T hr hg ha hdb he hpl) zOa
theorem zMS{x:Str}{ps:List Str}{k:Nat}{F:FL}{p:Pos}{dv:V}(dd:D)(hd:∀H,DV H dv dd)(c:xj X.prog X.w X.K X.mg X.base C ps k (vo C F) dv)(T:xV X.K X.mg x C)(hr:zN (k+1) X.A)(hg:Gl X x)(ha:PA X (e::es) (xb pl))
  (hdb:(x==("__debug__":Str))=false:=by decide) (he:starEach (e::es) X.env=(false,eval e X.env)::starEach es X.env:=by rfl) (hpl:(backTo pos (starEach es X.env)).any (·.1)=false:=by rfl):
  PE X (.Call (.Name x p) (e::es) [] pos) (tP (wx (λds=>F (ds++[dd])) pl)):=yz (zKH c T hr hg ha hdb he hpl) (zHT λH=>.cons (hd H) .nil)
theorem zMW{x:Str}{ps:List Str}{k:Nat}{F:FL}{p:Pos}{dv:V}(dd:D)(hd:∀H,DV H dv dd)(c:u7 X.prog X.w X.K X.mg X.base x ps k (wB F) dv)(hr:zN k X.A)(hg:Gl X x)(ha:PA X (e::es) (xb pl))
  (hdb:(x==("__debug__":Str))=false:=by decide) (he:starEach (e::es) X.env=(false,eval e X.env)::starEach es X.env:=by rfl) (hpl:(backTo pos (starEach es X.env)).any (·.1)=false:=by rfl):
  PE X (.Call (.Name x p) (e::es) [] pos) (tP (wx (λds=>F (ds++[dd])) pl)):=yz (zKK c hr hg ha hdb he hpl) λσ H Q ⟨Z,Γ,R,E,h,q⟩=>
 ⟨Z,Γ,_,E,h,λds vs H1 hd' s1 hv=>⟨Z,ds++[dd],R,(E.same s1).zd,gr hv (.cons (hd _) .nil),hd',λd v H2 h2 s2 hv2=>q d v H2 h2 (s1.trans s2) hv2⟩⟩
theorem zF6:∀{ns:List Str}{xs:List V}{ds:List D},ns.length=xs.length->yD H xs ds->(ns.zip ds).lookup f=some d->∃v,(ns.zip xs).lookup f=some v/\DV H v d
 |[],_,_,_,_,h=>nomatch h
 |_::_,[],_,h,_,_=>nomatch h
 |n::ns,x::xs,_,h,.cons (b:=d') (l₂:=dt) k t,q=>by
  change(match f==n with|true=>some d'|false=>(ns.zip dt).lookup f)=some d at q;show∃v,(match f==n with|true=>some x|false=>(ns.zip xs).lookup f)=some v/\_;cases e:f==n with
  |true=>rw[e]at q;cases q;exact⟨x,rfl,k⟩
  |false=>rw[e]at q;exact zF6 (Nat.succ.inj h) t q
def zR2(C:Addr)(m:Str)(F:FL):D->(D->Prop)->Prop
 | .obj c ns ds,R=>c=C/\m∉ns/\F [.obj c ns ds] R
 |_,_=>False
theorem zF7:∀{ns:List Str}{xs:List V},f∉ns->(ns.zip xs).lookup f=none
 |[],_,_=>rfl
 |_::_,[],_=>rfl
 |n::ns,x::xs,h=>by
  show(match f==n with|true=>some x|false=>(ns.zip xs).lookup f)=none;have e:(f==n)=false:=beq_eq_false_iff_ne.mpr λz=>h (by rw[z];exact aR);rw[e];exact zF7 λz=>h (aK _ z)
theorem zMR{x m:Str}{ps:List Str}{k:Nat}{F:FL}{apos:Pos}{pl:Sem Bool}(c:qi X.prog X.w X.K X.mg X.base C m ps k (wB F))(T:xV X.K X.mg x C)(hr:zN k X.A)(ha:PE X e (tP pa))
  (ht:eval (.Call (.Attribute e m apos) [] [] pos) X.env=(do
   let ov <- eval e X.env
   standAt apos.atName
   let (f,first) <- holding [ov] (getMethod ov m pl)
   callWith pos f first (backTo pos (starEach [] X.env)) (backToKw pos (keywordEach [] X.env))):=by rfl):
  PE X (.Call (.Attribute e m apos) [] [] pos) (tP (uk (zR2 C m F) pa)):=yz (zKG c T hr ha ht) λσ H Q ⟨Z,Γ,R,E,h,q⟩=>
 ⟨Z,Γ,_,E,h,λd v H1 hd s1 hv=>by
  cases d <;> try exact hd.elim
  obtain⟨rfl,hm,hR⟩:=hd;have hv0:=hv;cases hv with
  |obj e1 l1 h1=>exact⟨_,_,_,rfl,zx _ _ e1,zF7 hm,Z,_,R,(E.same s1).zd,.cons hv0 .nil,hR,λd v H2 h2 s2 hv2=>q d v H2 h2 (s1.trans s2) hv2⟩⟩
def zSM(K:aH)(C:Addr):D->(D->Prop)->Prop
 | .obj c _ _,R=>(∃mg x,xV K mg x c)/\∃b,bG K (.ref c) (.ref C)=some b/\R (.bool b)
 |_,_=>False
theorem zL5(σ)(H)(Q):tP (uk (zSM K C) pa) σ H Q->YY (zNs K) (uQ (tP pa) (uQ (tC (.ref C)) w6)) σ H Q:=λ⟨Z,Γ,R,E,h,q⟩=>
 ⟨Z,Γ,_,E,h,λd v H1 hd s1 hv=>by
  cases d <;> try exact hd.elim
  obtain⟨⟨mg,x,T⟩,b,hk,hR⟩:=hd;cases hv with
  |obj e1 l1 h1=>exact⟨_,_,_,b,rfl,T.ty (zx _ _ e1),hk,q _ _ H1 hR s1 (.bool _)⟩⟩
def zRo(pa:zj):ye:=λT Γ=>pa Γ λ_=>T.nx Γ
theorem zMM(he:PE X e (tP pa))(hs:swapsWith e none pos.line X.env=pure false:=by rfl):PS X (.Expr e pos) (yA (zRo pa)):=wU (QW he hs) λD σ H ⟨Z0,H0,Z,Γ,Dp,E,h,nx,rt,bk,ct⟩=>⟨Z,Γ,_,E.e,h,λd v H1 hd s1 hv=>nx Z Γ σ H1 (E.mv s1) (yL s1) hd⟩
end
end Pu
namespace Pu
open PySem L2 Sh
variable[Tbl]
noncomputable def um(k:Nat):List D->List D
 |[]=>[]
 |d::t=>yr (.int (k:Int)) d::um (k+1) t
theorem jp:∀k ds,(um k ds).length=ds.length
 |_,[]=>rfl
 |k,_::t=>congrArg (·+1) (jp (k+1) t)
theorem qL:∀{k:Nat}{ds:List D}{i:Nat}{e:D},(um k ds)[i]? =some e->∃d,ds[i]? =some d/\e=yr (.int ((k+i:Nat):Int)) d
 |_,[],_,_,h=>by simp[um]at h
 |k,d::t,0,e,h=>⟨d,rfl,by simp[um]at h;exact h.symm⟩
 |k,d::t,i+1,e,h=>by
  obtain⟨d',h1,h2⟩:=qL (k:=k+1) (ds:=t) (i:=i) (e:=e) (by simpa[um] using h);exact⟨d',by simpa using h1,by rw[h2,show k+1+i=k+(i+1)by omega]⟩
theorem zLv(e:zG Z H p=some (.lst xs))(h:yD (zG Z H) xs ds):Wk Z (gv K p k) H (um k ds):=λi Z' H' s zd=>by have e1:=zx _ _ (s _ _ e);refine⟨λd hd=>?_,λhi=>⟨xs,zW.of e1,by rw[jp]at hi;rw[wR h];exact‹_›⟩⟩;obtain⟨d',hd',rfl⟩:=qL hd;obtain⟨x,hx,hh⟩:=Xo h hd';refine⟨⟨xs,x,zW.of e1,hx⟩,λy H'' ⟨T,x',ev,hT,eH,q⟩=>?_⟩;have:=q xs (zW.of e1);rw[hx]at this;cases this;subst ev;subst eH;exact⟨xJ hT _,XJ zd hT (.cons (.int _) (.cons (hh.same s) .nil))⟩
def kP:List D->(List D->Prop)->Prop
 |[.lst ds],R=>R ds
 |_,_=>False
def enD(ds:List D):D->(List D->Prop)->Prop
 | .int i,R=>0<=i/\i<=1000/\R (um i.toNat ds)
 |_,_=>False
def WD(pl:yY)(pb:zj):yY:=λΓ R=>pl Γ λds=>kP ds λes=>pb Γ λd=>enD es d R
section
variable{X:Cx}{e1 e2:Expr}{pos:Pos}{pb:zj}{pl:yY}
theorem zJ1{ts:List Expr}{kk:Nat}{tp p kp:Pos}(hg:Gl X "enumerate")(hm:X.mg "enumerate"=none)(ha:PA X [e1] (xb pl))(he:PE X e2 (tP pb))(hs:starEach [e1] X.env=[(false,eval e1 X.env)]:=by rfl)(hs2:starEach [] X.env=[]:=by rfl):
  PI X (.Tuple ts kk tp) (.Call (.Name "enumerate" p) [e1] [⟨some "start",e2,kp⟩] pos) (vm (WD pl pb)):=kL (zMc hg hm ha he hs hs2) λσ H Q ⟨Z,Γ,R,E,h,q⟩=>
 ⟨Z,Γ,_,E,h,λds vs H1 hd s1 hv=>by
  rcases ds with _|⟨dA,ds⟩ <;> try exact hd.elim
  cases dA <;> try exact hd.elim
  rcases ds with _|_ <;> try exact hd.elim
  obtain⟨v,rfl,hw⟩:=yg hv;obtain⟨a,xs,rfl,ea,hx⟩:=hw.lst_inv;refine⟨a,rfl,Z,Γ,_,E.same s1,hd,λd u H2 hd2 s2 hu=>?_⟩;unfold enD at hd2;split at hd2
  ·rename_i i;obtain⟨h0,h1,hR⟩:=hd2;cases hu;have e2:=yL (Z:=Z) s2 _ _ ea;refine⟨i.toNat,by rw[show((i.toNat:Nat):Int)=i by omega],?_,⟨xs,zW.of (zx _ _ e2)⟩,q _ _ H2 hR (s1.trans s2) (zLv e2 (yq (yL s2) hx))⟩;unfold Builtin.SmallTypes.fitsIndex;rw[decide_eq_true (by exact zb),decide_eq_true (by omega)];rfl
  ·exact hd2.elim⟩
end
end Pu
namespace L2
open PySem PySem.Spec PyProof.Rows
theorem zLU:bootBuiltins "any"=some (.builtin "any"):=by decide+kernel
theorem zGK:bootBuiltins "min"=some (.builtin "min"):=by decide+kernel
section
variable{X:Cx}
theorem zNI(hc:X.calm=true):wg X (.builtin "any") (λxs H Q=>∃(p:Addr)(bs:List Bool),xs=[.ref p]/\zW X.K H p (bs.map V.bl)/\Q (.bl (bs.any id)) H):=by
 intro pins s σ H xs us Q I r h;obtain⟨p,bs,rfl,hq,q⟩:=h;obtain⟨u,rfl,ru⟩:=v8 r;cases ru;obtain⟨its,rv,pl,hz⟩:=I.list hq;have hh:X.A.in1.handled=none:=I.ok.hd hc;have hlt:p<s.heap.objs.size:=by obtain⟨o,n,e,_⟩:=pl;exact aX e
 refine call_any_walk (wpAny_pyIter_list pl.isList ?_);have hlen:its.length=bs.length:=by rw[<- rv.length,aB]
 refine⟨s.heap.objs.size,_,_,_,_,_,λi=>bs.getD i false,rfl,Walks.list hh s.heap.objs.size p (bK hlt) its.toArray,⟨⟨_,a_ _ rfl,rfl,rfl⟩,pl.isList.push _⟩,?_,λh' tk kk=>?_⟩
 ·intro i v s' Q' E' hP hQ';have e1:its[i]? =some v:=by simpa using hP
  have hi:i<its.length:=(aN.mp e1).1
  have hb:(bs.map V.bl)[i]? =some (.bl (bs.getD i false)):=by rw[aV,aE xh,aD,aE xh];rfl
  obtain⟨u',e2,r2⟩:=rv.get hb;rw[e1]at e2;cases e2;cases r2;exact wpAny_truthy_bool hQ'
 ·have e:(aI its.toArray.size).any (λi=>bs.getD i false)=bs.any id:=by
   rw[aY,hlen];rw[de,lJ,lJ];constructor
   ·rintro⟨i,hi,e⟩;have hi':=bj.mp hi;rw[aD,aE hi']at e;exact⟨_,cq hi',e⟩
   ·rintro⟨b,hb,e⟩;obtain⟨i,hi,rfl⟩:=cz.mp hb;refine⟨i,bj.mpr hi,?_⟩;rw[aD,aE hi];exact e
  refine⟨.bl (bs.any id),H,I.kept (h':=h') (t':=tk) λb o eb=>kk b o ?_ (aO _ eb),?_,q⟩
  ·intro hb;have:b=s.heap.objs.size:=by simpa using hb
   rw[this]at eb;exact absurd (aX eb) (bU _)
  ·rw[e];rfl
end
end L2
namespace Pu
open PySem L2 Sh
variable[Tbl]
open PyProof.Rows (envOfC)
variable{P:Program}{w:World}{K:aH}{mg:Str->Option Value}{base:Heap}
section
variable{X:Cx}{a b:Expr}{pos:Pos}{pa pb:zj}
def isD:F2:=λx y R=>∃a b,x=.bool a/\y=.bool b/\R (.bool (a==b))
theorem zRy:xE (λx y H Q=>∃a b,x=.bl a/\y=.bl b/\Q (.bl (a==b)) H) isD:=λZ H x y a b R Q zd hx hy ⟨p,p',e1,e2,h⟩ q=>by subst e1;subst e2;cases hx;cases hy;exact⟨p,p',rfl,rfl,q _ _ H h (Sm.refl _) (.bool _)⟩
end
end Pu
namespace Pu
open PySem L2 Sh
variable[Tbl]
section
variable{X:Cx}{a:Expr}{pos:Pos}{pa:zj}
def slS:D->Option Int->Option Int->(D->Prop)->Prop
 | .scr ns,lo,hi,R=>R (.lst (zm (ns.map D.int) lo hi))
 |_,_,_,_=>False
def WE(pa:zj)(po qo:ZV):zj:=λΓ R=>pa Γ λd=>po Γ λl=>qo Γ λu=>slS d l u R
theorem K7(ha:PE X a (tP pa))(hl:PO X lo (qt po))(hu:PO X hi (qt qo)):PE X (.Subscript a (.Slice lo hi none p2) pos) (tP (WE pa po qo)):=yz (zHu zJf ha hl hu) λσ H Q ⟨Z,Γ,R,E,h,q⟩=>
 ⟨Z,Γ,_,E,h,λd v H1 hd s1 hv=>⟨Z,Γ,_,E.same s1,hd,λl H2 hl s2=>⟨Z,Γ,_,E.same (s1.trans s2),hl,λu H3 hu s3=>by
  have s:=s1.trans (s2.trans s3);have hv:=hv.same (yL (s2.trans s3));have zd:=(E.same s).zd;cases d <;> try exact hu.elim
  cases hv with
  |scr e=>exact⟨_,_,rfl,.inl (JS zx e),λn hn=>q _ _ _ hu (s.trans (xJ hn _)) (uX zd hn (Kq JT _ _))⟩⟩⟩⟩
end
inductive Ji(ds:List D)(T:D->(Bool->Prop)->Prop)(G:D->(D->Prop)->Prop)(R:D->Prop):Prop
 |mk (few:ds.length<=1000) (f:D->Bool) (F:D->D->Prop) (t:∀d,d∈ds->T d λb=>b=f d) (h:∀d,d∈ds->f d=true->G d (F d)) (q:∀es,Paired F (ds.filter f) es->R (.lst es)):Ji ds T G R
def zN7(caps:List Nat)(pi:yY)(po:D->Option (List D))(pt:xq)(pe:zj):zj:=λΓ R=>pi Γ λds=>Ji ds (λd S=>uZ (po d) λos=>pt (os.map Sl.sh++caps.map λj=>un (slot Γ j)) S) (λd S=>uZ (po d) λos=>pe (os.map Sl.sh++caps.map λj=>un (slot Γ j)) S) R
section
variable{X:Cx}{scope:Scope}{own:List Str}{caps:List (Nat×Str)}{tg iter elt cond:Expr}{pos:Pos}{pi:yY}{po:D->Option (List D)}{pt:xq}{pe:zj}{js:List Nat}
theorem zMV(B:vO X scope own caps)(hc:X.calm=true)(hj:js=dL 0 own.length)(hk:∀d os,po d=some os->os.length=js.length)(hi:PI X tg iter (vm pi))(hg:∀C s₀ H₀ ex,PG (yX X scope (zZ own caps) C s₀ H₀ ex) tg (tG js po))
  (ht:∀C s₀ H₀ ex,PT (yX X scope (zZ own caps) C s₀ H₀ ex) cond (y8 pt)) (he:∀C s₀ H₀ ex,PE (yX X scope (zZ own caps) C s₀ H₀ ex) elt (tP pe)) (hs:∀x,foldedSetIterable iter X.env x=pure x:=by intro _;rfl):PE X (.ListComp elt [⟨tg,iter,[cond],0⟩] scope pos) (tP (zN7 (caps.map (·.1)) pi po pt pe)):=
 yz (zHv B hc hi hg (.inr ⟨_,rfl⟩) ht he hs) λσ H Q ⟨Z,Γ,R,E,h,q⟩=>⟨Z,Γ,_,E,h,λds J H1 ⟨fw,f,F,hT,hF,hR⟩ s1 wk=>Kw (E.same s1) (E.same s1) (λ_ z=>z) wk hj hk fw hT hF λes ys H' p h1 s2 h2 hp=>q _ _ _ (hR es h1) (s1.trans (s2.trans (xJ hp _))) (uX ((E.same s1).zd.same s2) hp h2)⟩
end
def zKS(i:Nat)(ow:Bool)(caps:List Nat)(pi:yY)(po:D->Option (List D))(pt:xq)(pe:zj):ye:=λT Γ=>pi Γ λds=>Ji ds (λd S=>uZ (po d) λos=>pt (os.map Sl.sh++caps.map λj=>un (slot Γ j)) S) (λd S=>uZ (po d) λos=>pe (os.map Sl.sh++caps.map λj=>un (slot Γ j)) S) λd=>X5 d λes=>T.nx (zL Γ i (match ow with|true=>.ow es|false=>.sh (.lst es)))
theorem zFu{X:Cx}{pos:Pos}(i:Nat)(ow:Bool){scope:Scope}{own:List Str}{caps:List (Nat×Str)}{tg iter elt cond:Expr}{pi:yY}{po:D->Option (List D)}{pt:xq}{pe:zj}{js:List Nat}{y:Str}{py spos:Pos}(hN:X.N.Nodup)(hy:X.N[i]? =some y)(hl:X.env.scope.names.lookup y=some .local)(B:vO X scope own caps)(hc:X.calm=true)(hj:js=dL 0 own.length)(hk:∀d os,po d=some os->os.length=js.length)
  (hi:PI X tg iter (vm pi)) (hg:∀C s₀ H₀ ex,PG (yX X scope (zZ own caps) C s₀ H₀ ex) tg (tG js po)) (ht:∀C s₀ H₀ ex,PT (yX X scope (zZ own caps) C s₀ H₀ ex) cond (y8 pt)) (he:∀C s₀ H₀ ex,PE (yX X scope (zZ own caps) C s₀ H₀ ex) elt (tP pe)) (hsw:swapsWith (.ListComp elt [⟨tg,iter,[cond],0⟩] scope pos) (some (.Name y py)) spos.line X.env=pure true) (hs:∀x,foldedSetIterable iter X.env x=pure x:=by intro _;rfl):
  PS X (.Assign [.Name y py] (.ListComp elt [⟨tg,iter,[cond],0⟩] scope pos) spos) (yA (zKS i ow (caps.map (·.1)) pi po pt pe)):=wU (zHo hN hy hl B hc hi hg (.inr ⟨_,rfl⟩) ht he hsw hs) λD σ H ⟨Z0,H0,Z,Γ,Dp,E,h,nx,rt,bk,ct⟩=>
 ⟨Z,Γ,_,E.e,h,λds J H1 ⟨fw,f,F,hT,hF,hR⟩ s1 wk=>Kw (E.e.same s1) (E.e.same s1) (λ_ z=>z) wk hj hk fw hT hF λes ys H' l h1 s2 h2 hp=>by
  have E1:=(E.mv s1).mv s2;cases ow with
  |true=>
   obtain⟨E2,s3⟩:=E1.make hp h2 i;exact nx _ _ _ _ E2 ((yL (s1.trans s2)).trans s3) (hR es h1)
  |false=>exact nx Z _ _ _ ((E1.mv (xJ hp _)).set (uX E1.e.zd hp h2) i) (yL (s1.trans (s2.trans (xJ hp _)))) (hR es h1)⟩
def WF:FL
 |[.lst ds],R=>∃bs:List Bool,ds=bs.map D.bool/\R (.bool (bs.any id))
 |_,_=>False
theorem zP9:uA (λxs H Q=>∃(p:Addr)(bs:List Bool),xs=[V.ref p]/\zW K H p (bs.map V.bl)/\Q (V.bl (bs.any id)) H) WF:=λZ H vs ds R Q zd hv h q=>by
 rcases ds with _|⟨dA,ds⟩ <;> try exact h.elim
 cases dA <;> try exact h.elim
 rcases ds with _|_ <;> try exact h.elim
 obtain⟨v,rfl,hw⟩:=yg hv;obtain⟨p,xs,rfl,e1,h1⟩:=hw.lst_inv;obtain⟨ns,rfl,h⟩:=h;cases Kb h1;exact⟨p,ns,rfl,zW.of (zx _ _ e1),q _ _ H h (Sm.refl _) (.bool _)⟩
end Pu
namespace Pu
open PySem L2 Sh
variable[Tbl]
theorem zNf{α β:Type}(u:α->D)(v:β->D):∀(xs:List α)(ys:List β)(cs:List D),ua (xs.map u) (ys.map v) cs=(xs.zip (ys.zip cs)).map λp=>Xr (u p.1) (v p.2.1) p.2.2
 |[],_,_=>rfl
 |_::_,[],_=>rfl
 |_::_,_::_,[]=>rfl
 |x::xs,y::ys,c::cs=>by
  show Xr (u x) (v y) c::ua (xs.map u) (ys.map v) cs=_;rw[zNf u v xs ys cs];rfl
section
variable{X:Cx}{a b:Expr}{pos:Pos}{pa pb:zj}
noncomputable def isN:F2
 | .non,.non,R=>R (.bool true)
 | .int _,.non,R=>R (.bool false)
 |_,_,_=>False
end
end Pu
namespace Pu
open PySem L2 Sh
variable[Tbl]
def zR4:FL
 |[.lst ds],R=>∃ns:List Int,ds=ns.map D.int/\0<ns.length/\∀M,M∈ns->(∀a∈ns,a<=M)->R (.int M)
 |_,_=>False
theorem zNL:uA (λxs H Q=>∃(p:Addr)(ns:List Int),xs=[.ref p]/\zW K H p (ns.map V.int)/\0<ns.length/\∀M,M∈ns->(∀a∈ns,a<=M)->Q (.int M) H) zR4:=λZ H vs ds R Q zd hv h q=>by
 rcases ds with _|⟨dA,ds⟩ <;> try exact h.elim
 cases dA <;> try exact h.elim
 rcases ds with _|_ <;> try exact h.elim
 obtain⟨v,rfl,hw⟩:=yg hv;obtain⟨p,xs,rfl,e1,h1⟩:=hw.lst_inv;obtain⟨ns,rfl,l0,h⟩:=h;cases kF h1;exact⟨p,ns,rfl,zW.of (zx _ _ e1),l0,λM m1 m2=>q _ _ H (h M m1 m2) (Sm.refl _) (.int _)⟩
end Pu
namespace Pu
open PySem L2 Sh
variable[Tbl]
section
variable{X:Cx}{a b c:Expr}{pos:Pos}{pa pb pc:zj}
def K8(f g:F2)(pa pb pc:zj):zj:=λΓ R=>pa Γ λx=>pb Γ λy=>f x y λd=>bD d λk=>wA k (pc Γ λz=>g y z R) (R (.bool false))
theorem zL6(o:xE r f)(o':xE r' g)(σ)(H)(Q):tP (K8 f g pa pb pc) σ H Q->zNp r r' (tP pa) (tP pb) (tP pc) σ H Q:=λ⟨Z,Γ,R,E,h,q⟩=>
 ⟨Z,Γ,_,E,h,λx v H1 hx s1 hv=>⟨Z,Γ,_,E.same s1,hx,λy u H2 hy s2 hu=>o Z H2 v u x y _ _ (E.same (s1.trans s2)).zd (hv.same (yL s2)) hu hy λd z H3 hd s3 hz=>by
  have s:=s1.trans (s2.trans s3);cases d <;> try exact hd.elim
  rename_i k;cases hz;refine⟨k,rfl,?_⟩;cases k with
  |true=>
   rw[if_pos rfl];exact⟨Z,Γ,_,E.same s,hd.1 rfl,λt w H4 ht s4 hw=>o' Z H4 u w y t R Q (E.same (s.trans s4)).zd (hu.same (yL (s3.trans s4))) hw ht λd' v' H5 h5 s5 hv5=>q d' v' H5 h5 (s.trans (s4.trans s5)) hv5⟩
  |false=>
   rw[if_neg (by decide)];exact q _ _ H3 (hd.2 rfl) s (.bool _)⟩⟩
theorem zJu{op op':CmpOp}{r r':R2}{f g:F2}(ho:yV X (compareOp op) r)(ho':yV X (compareOp op') r')(o:xE r f)(o':xE r' g)(ha:PE X a (tP pa))(hb:PE X b (tP pb))(hc:PE X c (tP pc))(hm:lastMarks [op,op'] [b,c]=false:=by with_unfolding_all rfl):PT X (.Compare a [op,op'] [b,c] pos) (y8 (wQ (K8 f g pa pb pc))):=XH (zMX ho ho' ha hb hc hm) (Kl (zL6 o o'))
end
end Pu
namespace L2
open PySem PySem.Spec PyProof.Rows
noncomputable def K9(P:Program)(w:World)(K:aH)(mg:Str->Option Value)(base:Heap)(x y qual:Str)(scope:Scope)(q:Addr)(cd:Value)(clos:List (Str×Addr))(A:Around)(outer:List Env)(s:Shared)(H:Hp):Cx where
 prog:=P
 w:=w
 K:=K
 mg:=mg
 base:=base
 A:=A.deeper (ip qual scope s.heap.objs.size q cd clos)
 N:=[x,y]
 s₀:=s
 H₀:=H
 env:=ip qual scope s.heap.objs.size q cd clos
 outer:=outer
 stack:=ip qual scope s.heap.objs.size q cd clos::outer
 ex:=[]
 fn:=λ_=>false
 calm:=true
 pn:=[]
 xe:=λ_ _=>False
theorem Jj{x y z:Str}{c cy:Addr}(h:[(y,cy)].lookup z=some c):z=y/\c=cy:=by
 rw[bV]at h;split at h
 ·rename_i e;exact⟨eq_of_beq e,(Option.some.inj h).symm⟩
 ·cases h
theorem zPX{K:aH}
  (hsc:scope.names=[(x,.local),(y,.free)]) (hxy:x≠y) (hk:scope.kind=.function) (hco:scope.isCoroutine=false) (hgen:scope.isGenerator=false) (hr:zN (k+1) A) (e0:xu P w K mg base A outer s H)
  (hq:s.heap.get? q=some (eM name qual params body scope [(y,cy)] pm c' ctv)) (hcd:s.heap.CodeRec (.ref c') qual)
  (hbind:bindArgs (iC name qual params body scope [(y,cy)] pm (.ref c') ctv) ⟨[u],[]⟩=pure [(x,u)]) (hc:s.heap.IsCell cy (some uy)) (hn:H cy=none) (ru:zM v u) (ry:zM vy uy)
  (hb:PE (K9 P w K mg base x y qual scope q (.ref c') [(y,cy)] A outer s H) body t) (ht:t [some v,some vy] H Q):wpAny (model P w) A (call (.ref q) [u]) (CE outer P w H s Q) (λ_ _=>False) s:=by
 have lx:scope.names.lookup x=some .local:=by rw[hsc,bV,beq_self_eq_true]
 have ly:scope.names.lookup y=some .free:=by rw[hsc,bV,(by simpa using hxy.symm:(y==x)=false),bV,beq_self_eq_true]
 refine wpAny_call (PySem.W.kla_callFunE hr.depth hq rfl hco hgen rfl hcd ?_);rw[hbind];refine wpAny_pure (wpAny_newFunctionEnv (λz hz=>?_) (λz hz=>?_) (λh1 hns hsb=>?_) hk)
 ·grind
 ·rw[a6.mp hz];exact lx
 have k1:∀b o,s.heap.get? b=some o->h1.get? b=some o:=λb o e=>hsb.extBut b o (bK (aX e)) (aO _ e);refine⟨(e0.mod.nolimit.keeps λb o e=>(e0.bs b o e).1).keeps k1,?_⟩;show codeAny _ _ (.expr body (ip qual scope s.heap.objs.size q (.ref c') [(y,cy)])) _ _;refine PySem.W.kla_codeExpr ?_;have ur:∀b:Addr,b∉(K9 P w K mg base x y qual scope q (.ref c') [(y,cy)] A outer s H).ex:=λb z=>absurd (show b∈([]:List Addr)from z) (by simp)
 have I:zB (K9 P w K mg base x y qual scope q (.ref c') [(y,cy)] A outer s H) [] [some v,some vy] H {s with heap:=h1,toks:=s.toks+[(x,u)].length}:=by
  refine⟨⟨e0.mod,hk,rfl,rfl,aJ _,λa b c h1 h2=>?_,λa ha=>?_,λa c h _=>(by cases h),λ_=>hr.hd,Around.frames_deeper e0.frames,.inr ⟨rfl,rfl⟩,λb z=>absurd z (ur b),e0.bs,e0.bsz,λb _ _=>ur b,λb z=>absurd z (ur b),e0.funs,e0.frf⟩,
   rfl,e0.bare,Un.kept k1,⟨_,hns,λi a v' h1 h2 h3=>?_⟩,λa c h=>?_,e0.hok.fresh (aJ _),λa c h=>?_,λp hp=>absurd (show p∈([]:List (Addr×Obj))from hp) (by simp),e0.hok.kept k1,rfl⟩
  ·rw[(Jj (x:=x) h1).1,(Jj (x:=x) h2).1]
  ·have ha':scope.names.lookup a=some .cell\/scope.names.lookup a=some .free:=ha;rw[hsc]at ha'
   have:a=y:=by grind
   exact⟨cy,by show[(y,cy)].lookup a=some cy;rw[this,bV,beq_self_eq_true]⟩
  ·match i,h1,h2 with
   |0,h1,h2=>
    cases h1;cases h2;exact⟨u,ru,.inl ⟨lx,by show eh x [(x,u)]=some u;rw[bV,beq_self_eq_true]⟩⟩
   |1,h1,h2=>
    cases h1;cases h2;refine⟨uy,ry,.inr ⟨.inr ly,cy,?_,?_⟩⟩
    ·show[(y,cy)].lookup y=some cy;rw[bV,beq_self_eq_true]
    ·obtain⟨o,ho,hd⟩:=hc;exact⟨o,k1 _ _ ho,hd⟩
   |i+2,h1,h2=>cases h1
  ·obtain⟨_,rfl⟩:=Jj (x:=x) h;obtain⟨o,ho,hd⟩:=hc;exact⟨_,o,k1 _ _ ho,hd⟩
  ·obtain⟨_,rfl⟩:=Jj (x:=x) h;exact hn
 exact wpAny_mono (hb [] _ _ H Q I ht) (λu' s' ⟨v',H',J,rv,q'⟩=>⟨v',H',J.os,J.bare,J.base,J.hok,rv,q'⟩) λ_ _ z=>z.elim
structure wV(base:Heap)(mg:Str->Option Value)(c P:Addr):Prop where
 hd:iE base c P
 bm:∃bm o,mg "__builtins__"=some (.ref bm)/\bm≠builtinsNs/\bm≠mainGlobals/\base.get? bm=some o/\o.cls=.type "module"/\o.dict=some builtinsNs/\o.data=.plain
noncomputable def Zg(q:Str)(c':Addr):HO:=.ext λh=>h.CodeRec (.ref c') q
def yC(P:Addr)(q:Str)(pos:Pos)(H:Hp):Prop:=H P=some (.tbl #[])\/∃c',H P=some (.tbl #[rawInt pos.line,rawInt pos.col,.ref c'])/\H c'=some (Zg q c')
theorem yC.same(h:yC P q pos H)(s:zE H H'):yC P q pos H':=by
 rcases h with h|⟨c',h1,h2⟩
 ·exact .inl (s _ _ h)
 ·exact .inr ⟨c',s _ _ h1,s _ _ h2⟩
theorem zS5(pos)(c):codeAmong pos [rawInt pos.line,rawInt pos.col,c]=some c:=by have z:=codeAmong_snoc (pos:=pos) (c:=c) [] trivial rfl;exact z
theorem zMw{σ:St}
  (hcl:closureFor scope X.env=pure clos) (hdef:defaultsOf params X.env=([],[])) (hcode:X.env.code=.ref c) (T:wV X.base X.mg c P) (I:zB X pins σ H s) (hH:yC P (X.env.qual++"<lambda>") lpos H)
  (h:∀(q c':Addr)(pm ctv:Value)(H':Hp)(s':Shared),Sh.u9 [P] H H'->yC P (X.env.qual++"<lambda>") lpos H'->H' c'=some (Zg (X.env.qual++"<lambda>") c')->
   zB X ((q,eM "<lambda>" (X.env.qual++"<lambda>") params body scope clos pm c' ctv)::pins) σ H' s'->R (.ref q) s'):
  wpAny (model X.prog X.w) X.A (eval (.Lambda params body scope lpos) X.env) R E s:=by
 have hPn:H P≠none:=by rcases hH with z|⟨_,z,_⟩ <;> rw[z] <;> exactλe=>by cases e
 have nP:∀b o,X.base.get? b=some o->b≠P:=λb o e z=>hPn (by rw[<- z];exact(I.bs b o e).2);obtain⟨bm,ob,b1,b2,b3,b4,b5⟩:=T.bm;have hgs:=I.mod.glob.keeps I.bk
 have gP:mainGlobals≠P:=by obtain⟨o,_,_,e,_⟩:=I.mod.glob;exact nP _ o e
 have hb:s.heap.BuiltinsAt X.mg P:=⟨bm,ob,b1,b2,b3,nP _ _ b4,I.bk _ _ b4,b5⟩
 have C:iE s.heap c P:=T.hd.keeps I.bk;refine PySem.W.kla_eval hdef ?_
 have fin:∀(H':Hp)(h':Heap)(tk:Nat)(c':Addr)(ctv:Value),Sh.u9 [P] H H'->yC P (X.env.qual++"<lambda>") lpos H'->H' c'=some (Zg (X.env.qual++"<lambda>") c')->
   zB X pins σ H' {s with heap:=h',toks:=tk}->R (.ref h'.objs.size) {s with heap:=h'.push (eM "<lambda>" (X.env.qual++"<lambda>") params body scope clos ((X.mg "__name__").getD .none) c' ctv),toks:=tk}:=λH' h' tk c' ctv z1 z2 z3 J=>by
  have J2:zB X pins σ H' {s with heap:=h'.push (eM "<lambda>" (X.env.qual++"<lambda>") params body scope clos ((X.mg "__name__").getD .none) c' ctv),toks:=tk}:=J.kept λb u e=>aO _ e;refine h _ c' ((X.mg "__name__").getD .none) ctv H' _ z1 z2 z3 (J2.pins_of λp hp=>?_);rcases a8.mp hp with rfl|hp
  ·have F:=J.fpOk (b:=h'.objs.size) (aJ _) (J.hok.fresh (aJ _));exact⟨a_ _ rfl,F.1,F.2.1,F.2.2.1,λv e=>by cases e⟩
  ·exact J2.pin p (aU _ hp)
 rcases hH with hH|⟨c',hH,hc'⟩
 ·have hP:s.heap.get? P=some (fQ #[]):=I.hok P _ hH;refine PySem.W.kla_makeFunction (mg:=X.mg) hcl I.ok.glob hgs hcode C hP trivial rfl gP hb λc' ctv h' tk hx hge hlt hrec htb=>?_;have hcP:c'≠P:=λz=>absurd (aX hP) (by rw[<- z];exact Nat.not_lt.mpr hge);have hcn:H c'=none:=I.hok.fresh hge;have hT:∀b u,b≠P->b≠c'->(zV (zV H P (.tbl #[rawInt lpos.line,rawInt lpos.col,.ref c'])) c' (Zg (X.env.qual++"<lambda>") c') b=u↔H b=u):=λb u n1 n2=>by rw[zu n2,zu n1]
  have hTP:zV (zV H P (.tbl #[rawInt lpos.line,rawInt lpos.col,.ref c'])) c' (Zg (X.env.qual++"<lambda>") c') P=some (.tbl #[rawInt lpos.line,rawInt lpos.col,.ref c']):=by rw[zu (Ne.symm hcP),xS]
  have ne1:∀b,H b=none->b≠P:=λb e z=>hPn (by rw[<- z];exact e);have ne2:∀b o,s.heap.get? b=some o->b≠c':=λb o e=>bK (a9 (aX e) hge);have ne3:∀b u,H b=some u->b≠c':=λb u e z=>by rw[z,hcn]at e;cases e
  have ne4:∀b u,H b=some u->u≠.tbl #[]->b≠P:=λb u e n z=>by rw[z,hH]at e;cases e;exact n rfl
  refine fin _ h' tk c' ctv ?_ (.inr ⟨c',hTP,xS⟩) xS (I.un (H':=zV (zV H P (.tbl #[rawInt lpos.line,rawInt lpos.col,.ref c'])) c' (Zg (X.env.qual++"<lambda>") c')) ⟨λb o e n _ _=>hx b o (ne1 b n) e,λb o e n _ _=>⟨o.slots,hx b o (ne1 b n) e⟩,λb o e n _=>(hT b _ (ne1 b n) (ne2 b o e)).mpr n,λb o e _=>?_,λb xs e=>(hT b _ (ne4 b _ e (by intro z;cases z)) (ne3 b _ e)).mpr e,λb o u e=>(hT b _ (ne4 b _ e (by intro z;cases z)) (ne3 b _ e)).mpr e,λb ps e=>?_⟩ λb u e=>?_)
  ·intro b u e nb;exact(hT b _ (λz=>nb (by rw[z];exact a6.mpr rfl)) (ne3 b _ e)).mpr e
  ·by_cases z:b=P
   ·exact⟨_,by rw[z];exact htb⟩
   ·exact⟨o,hx b o z e⟩
  ·by_cases z:b=P
   ·rw[z,hH]at e;cases e;exact⟨_,by rw[z,hTP,iP]⟩
   ·exact⟨#[],by rw[(hT b _ z (ne3 b _ e)).mpr e,Array.append_empty]⟩
  ·by_cases z:b=c'
   ·rw[z,xS]at e;cases e;obtain⟨c2,o,vs,t,e2,ho,hd⟩:=id hrec;cases e2;rw[z];exact⟨hrec,⟨o,ho⟩,λh1 h2 ⟨c3,o3,vs3,t3,e3,ho3,hd3⟩ k=>by cases e3;exact⟨_,o3,vs3,t3,rfl,k _ ho3,hd3⟩⟩
   ·by_cases z2:b=P
    ·rw[z2,hTP]at e;cases e;rw[z2];exact htb
    ·have e':=(hT b _ z2 z).mp e;refine(I.hok b u e').stay (λa v ha q=>hx a v ?_ q) (λa q=>(hT a _ (ne4 a _ q (by intro z;cases z)) (ne3 a _ q)).mpr q) λa xs q=>(hT a _ (ne4 a _ q (by intro z;cases z)) (ne3 a _ q)).mpr q;rcases ha with ha|ha
     ·rw[ha];exact z2
     ·exact ne4 a _ ha (by intro z;cases z)
 ·have hP:s.heap.get? P=some (fQ #[rawInt lpos.line,rawInt lpos.col,.ref c']):=I.hok P _ hH;refine PySem.W.kla_makeFunctionHit (mg:=X.mg) hcl I.ok.glob hgs hcode C hP (by simp[TriplesOk,rawInt]) (zS5 lpos _) hb λctv h' tk hk hsz=>?_;exact fin H h' tk c' ctv (Sh.u9.refl _ _) (.inr ⟨c',hH,hc'⟩) hc' (I.kept hk)
abbrev WG(X:Cx)(σ:St)(H:Hp)(q:Addr)(qo:Obj)(ns:List Int)(kf:Int->Int):Prop:=
 ∀n∈ns,∀(t:Tok)(pins:List (Addr×Obj))(s:Shared),(q,qo)∈pins->zB X pins σ H s->
  wpAny (model X.prog X.w) X.A.in1 (call (.ref q) [.int n t]) (λu s'=>(∃t',u=.int (kf n) t')/\zB X pins σ H s') (λ_ _=>False) s
section
variable{X:Cx}{σ:St}{H:Hp}{pins:List (Addr×Obj)}{q l It S:Addr}{qo:Obj}{ns:List Int}{kf:Int->Int}{R:Result->Shared->Prop}
theorem zF4(I:zB X pins σ H s)(FI:yP X pins H It)(FS:yP X pins H S)(hI:s.heap.get? It=some oI)(dI:∀v,oI.data≠.cell v)(hS:s.heap.get? S=some oS)(dS:∀v,oS.data≠.cell v):zB X ((It,oI)::(S,oS)::pins) σ H s:=
 I.pins_of λp hp=>by
  rcases a8.mp hp with rfl|hp
  ·exact⟨hI,FI.1,FI.2.1,FI.2.2.1,dI⟩
  ·rcases a8.mp hp with rfl|hp
   ·exact⟨hS,FS.1,FS.2.1,FS.2.2.1,dS⟩
   ·exact I.pin p (aU _ hp)
theorem zF5(I:zB X (a::b::pins) σ H s):zB X pins σ H s:=I.pins_of λp hp=>I.pin p (aU _ (.tail _ (.tail _ hp)))
theorem zKm(hc:X.calm=true)(hl:zW X.K H l (ns.map V.int))(hlI:l≠It)(hSI:S≠It)(FI:yP X pins H It)(FS:yP X pins H S)(hq:(q,qo)∈pins)(turn:WG X σ H q qo ns kf)
  (hR:∀n∈ns,(∀m∈ns,kf n<=kf m)->∀t s',zB X pins σ H s'->R (.ok (.ret (.int n t))) s'):
  ∀r j n tn tb c s,ns.length-j=r->j<=ns.length->n∈ns->(∀i m,i<j->ns[i]? =some m->kf n<=kf m)->zB X pins σ H s->s.heap.IsListIter It l j->s.heap.get? S=some (seqObj "list" #[.int n tn,.int (kf n) tb] c)->
   codeAny (model X.prog X.w) X.A (.builtin "min.loop" ⟨[.ref It,.ref q,.ref S],[(bZ "default",.none)]⟩) R s:=by
 have hname:(toString "min"++toString ".loop":String)="min.loop":=by decide
 intro r
 induction r with
 |zero=>
  intro j n tn tb c s hr hj hn hbest I hit hS;obtain⟨its,rv,pl,hz⟩:=I.list hl;have hsz:its.toArray.size=ns.length:=by rw[aY,<- rv.length,aB]
  have W:=Walks.list (prog:=X.prog) (w:=X.w) (A:=X.A.in1) (I.ok.hd hc) It l hlI its.toArray;refine codeAny_builtin eU ?_;rw[Around.under_plainId cF _];show wpAny _ X.A.in1 (seqItems? (.ref S)>>= _) _ _ _;refine wpAny_bind (wpAny_seqItems hS rfl ?_);show wpAny _ X.A.in1 (tryCatch (pyNext (.ref It)) _>>= _) _ _ _;refine wpAny_bind (wpAny_tryCatch (W.done _ _ _ ⟨by rw[hsz,show ns.length=j by omega];exact hit,pl.isList⟩ λh' tk' hk'=>?_));have I1:zB X pins σ H {s with heap:=h',toks:=tk'}:=I.turned (it:=It) (λb o hb e=>hk' b o (by simpa using hb) e) FI.1 FI.2.1 FI.2.2.2.1 FI.2.2.2.2.1 FI.2.2.2.2.2;have hS':h'.get? S=_:=hk' S _ (by simpa using hSI) hS;have s1:=Heap.SameBut.update h' S (Obj.mapSeq λ_=>(#[]:Array Value));show wpAny _ X.A.in1 (updateSeq S (λ_=>#[])>>= _) _ _ _;refine wpAny_bind ?_;refine wpAny_updateSeq hS' rfl (wpAny_bind (wpAny_letGo (wpAny_pure ?_)))
  exact hR n hn (λm hm=>by obtain⟨i,hi,e⟩:=cU hm;exact hbest i m (by omega) (by rw[<- e];exact aE hi)) tn _ (I1.turned (it:=S) (λb o hb e=>(s1.2 b hb).trans e) FS.1 FS.2.1 FS.2.2.2.1 FS.2.2.2.2.1 FS.2.2.2.2.2)
 |succ r ih=>
  intro j n tn tb c s hr hj hn hbest I hit hS;obtain⟨its,rv,pl,hz⟩:=I.list hl;have hsz:its.toArray.size=ns.length:=by rw[aY,<- rv.length,aB]
  have hlt:j<ns.length:=by omega
  have W:=Walks.list (prog:=X.prog) (w:=X.w) (A:=X.A.in1) (I.ok.hd hc) It l hlI its.toArray;refine codeAny_builtin eU ?_;rw[Around.under_plainId cF _];show wpAny _ X.A.in1 (seqItems? (.ref S)>>= _) _ _ _;refine wpAny_bind (wpAny_seqItems hS rfl ?_);show wpAny _ X.A.in1 (tryCatch (pyNext (.ref It)) _>>= _) _ _ _;refine wpAny_bind (wpAny_tryCatch (W.item j _ _ _ (by rw[hsz];exact hlt) ⟨hit,pl.isList⟩ λv h' tk' hP hst' hk'=>?_));have em:ns[j]? =some (ns[j]'hlt):=aE hlt;generalize ns[j]'hlt=m at em;obtain⟨w',ew,t,rfl⟩:=rv.get (show(ns.map V.int)[j]? =some (.int m)by rw[aV,em];rfl)
  obtain rfl:v=.int m t:=by
   have:its[j]? =some v:=by simpa using hP
   rw[ew]at this;exact(Option.some.inj this).symm
  have hm:m∈ns:=bH em;have I1:zB X pins σ H {s with heap:=h',toks:=tk'}:=I.turned (it:=It) (λb o hb e=>hk' b o (by simpa using hb) e) FI.1 FI.2.1 FI.2.2.2.1 FI.2.2.2.2.1 FI.2.2.2.2.2;obtain⟨oI',hoI',hoc,hod⟩:=id hst'.1;have J:=zF4 I1 FI FS hoI' (λv e=>by rw[hod]at e;cases e) (hk' S _ (by simpa using hSI) hS) (λv e=>by cases e);show wpAny _ X.A.in1 (tryCatch (holding [.int m t] (call (.ref q) [.int m t])) _>>= _) _ _ _;refine wpAny_bind (wpAny_tryCatch (wpAny_holding (wpAny_mono (turn m hm t _ _ (.tail _ (.tail _ hq)) J) (λx s2 he=>?_) λ_ _ hF=>hF.elim)));obtain⟨⟨t2,rfl⟩,J2⟩:=he;have nI2:=(J2.pin _ (aU _ (.head _))).1;have nS2:=(J2.pin _ (aU _ (.tail _ (.head _)))).1;have J3:=zF5 J2;have hit2:s2.heap.IsListIter It l (j+1):=⟨oI',nI2,hoc,hod⟩
  show wpAny _ X.A.in1 (tryCatch (holding [.int m t,.int (kf m) t2] (richCompare .Lt (.int (kf m) t2) (.int (kf n) tb)>>= _)) _>>= _) _ _ _;refine wpAny_bind (wpAny_tryCatch (wpAny_holding (wpAny_bind (CmpOf.ints_lt (prog:=X.prog) (w:=X.w) (A:=X.A.in1) (P:=λi v=>∃t,v=.int (if i=0 then kf m else kf n) t) (λi=>if i=0 then kf m else kf n) (λi v h=>h) 0 1 _ _ _ _ _ ⟨t2,rfl⟩ ⟨tb,rfl⟩ ?_))));refine wpAny_bind (wpAny_holding (wpAny_truthy_bool ?_));refine wpAny_bind (wpAny_letGo (wpAny_pure ?_));show wpAny _ X.A.in1 (if decide (kf m<kf n)=true then _ else _) _ _ _;by_cases hb':kf m<kf n
  ·have s1:=Heap.SameBut.update s2.heap S (Obj.mapSeq λ_=>#[Value.int m t,.int (kf m) t2]);obtain⟨c2,hc2⟩:∃c2,(s2.heap.update S (Obj.mapSeq λ_=>#[Value.int m t,.int (kf m) t2])).get? S=some (seqObj "list" #[.int m t,.int (kf m) t2] c2):=⟨_,get?_update_seq nS2 λ_=>#[Value.int m t,.int (kf m) t2]⟩
   rw[if_pos (decide_eq_true hb')];refine wpAny_bind ?_;refine wpAny_updateSeq nS2 rfl (wpAny_bind (wpAny_letGo ?_));rw[hname];refine wpAny_pure ⟨plainId_quiet cF _,ih (j+1) m t t2 c2 _ (by omega) hlt hm (λi m' hi em'=>?_) (J3.turned (it:=S) (λb o hb e=>(s1.2 b hb).trans e) FS.1 FS.2.1 FS.2.2.2.1 FS.2.2.2.2.1 FS.2.2.2.2.2) ⟨oI',(s1.2 It hSI.symm).trans nI2,hoc,hod⟩ hc2⟩;by_cases e:i=j
   ·rw[e,em]at em';cases em';exact Int.le_refl _
   ·have:=hbest i m' (by omega) em';omega
  ·rw[if_neg (by rw[decide_eq_false hb'];exact bL)];refine wpAny_bind (wpAny_letGo ?_);rw[hname];refine wpAny_pure ⟨plainId_quiet cF _,ih (j+1) n tn tb c _ (by omega) hlt hn (λi m' hi em'=>?_) J3 hit2 nS2⟩;by_cases e:i=j
   ·rw[e,em]at em';cases em';omega
   ·exact hbest i m' (by omega) em'
theorem zMo(a v d):argsOk "min" ⟨[a],[(bZ "key",v),(bZ "default",d)]⟩:=by unfold argsOk;kernel_rfl
theorem zPU(hc:X.calm=true)(I:zB X pins σ H s)(hl:zW X.K H l (ns.map V.int))(hq:(q,qo)∈pins)(turn:WG X σ H q qo ns kf)
  (h0:ns=[]->∀s',zB X pins σ H s'->Q .none s') (h1:∀n∈ns,(∀m∈ns,kf n<=kf m)->∀t s',zB X pins σ H s'->Q (.int n t) s'):
  wpAny (model X.prog X.w) X.A (call (.builtin "min") [.ref l] [(bZ "key",.ref q),(bZ "default",.none)]) Q E s:=by
 have hname:(toString "min"++toString ".loop":String)="min.loop":=by decide
 obtain⟨its,rv,pl,hz⟩:=I.list hl;have hls:=pl.isList;obtain⟨ol,hol,_⟩:=id hls;have hll:l<s.heap.objs.size:=aX hol;refine PyProof.Rows.kmk_tree PySem.F.kind_min PySem.F.plain_min PySem.F.entry_min (zMo _ _ _) ?_;show wpAny _ X.A.in1 (Builtin.Builtins.bindParams "min" ["key","default"] 0 ⟨[],[(bZ "key",.ref q),(bZ "default",.none)]⟩>>= _) _ _ s;refine wpAny_bind (wpAny_of_eq (show Builtin.Builtins.bindParams "min" ["key","default"] 0 ⟨[],[(bZ "key",.ref q),(bZ "default",.none)]⟩=pure [some (.ref q),some .none] from rfl) ?_);refine wpAny_bind (wpAny_pure ?_);refine wpAny_bind (wpAny_pyIter_list hls ?_);refine wpAny_bind (wpAny_newList ?_ (eV _));rw[hname];have I1:zB X pins σ H {s with heap:=s.heap.push {cls:=.type "list_iterator",data:=.fields #[.ref l,.int 0 0]}}:=I.kept (t':=s.toks) λb u e=>aO _ e;have FI:yP X pins H s.heap.objs.size:=I.fpOk (aJ _) (I.hok.fresh (aJ _));have FS:yP X pins H (s.heap.push {cls:=.type "list_iterator",data:=.fields #[.ref l,.int 0 0]}).objs.size:=I1.fpOk (aJ _) (I1.hok.fresh (aJ _));have I2:zB X pins σ H {s with heap:=(s.heap.push {cls:=.type "list_iterator",data:=.fields #[.ref l,.int 0 0]}).push (seqObj "list" #[] 0)}:=I1.kept (t':=s.toks) λb u e=>aO _ e
 have gI:((s.heap.push {cls:=.type "list_iterator",data:=.fields #[.ref l,.int 0 0]}).push (seqObj "list" #[] 0)).get? s.heap.objs.size=some {cls:=.type "list_iterator",data:=.fields #[.ref l,.int 0 0]}:=aO _ (a_ _ rfl)
 have gS:((s.heap.push {cls:=.type "list_iterator",data:=.fields #[.ref l,.int 0 0]}).push (seqObj "list" #[] 0)).get? (s.heap.push {cls:=.type "list_iterator",data:=.fields #[.ref l,.int 0 0]}).objs.size=some (seqObj "list" #[] 0):=a_ _ rfl;have hS:(s.heap.push {cls:=.type "list_iterator",data:=.fields #[.ref l,.int 0 0]}).objs.size=s.heap.objs.size+1:=size_push' ..;have hlI:l≠s.heap.objs.size:=bK hll;have hSI:(s.heap.push {cls:=.type "list_iterator",data:=.fields #[.ref l,.int 0 0]}).objs.size≠s.heap.objs.size:=by rw[hS];exact eC (bW _)
 refine wpAny_pure ⟨plainId_quiet cF _,?_⟩;generalize(s.heap.push {cls:=.type "list_iterator",data:=.fields #[.ref l,.int 0 0]}).objs.size=S at FS gS hS hSI|-
 generalize s.heap.objs.size=It at FI gI hlI hSI|-
 have hit:((s.heap.push {cls:=.type "list_iterator",data:=.fields #[.ref l,.int 0 0]}).push (seqObj "list" #[] 0)).IsListIter It l 0:=⟨_,gI,rfl,rfl⟩
 generalize(s.heap.push {cls:=.type "list_iterator",data:=.fields #[.ref l,.int 0 0]}).push (seqObj "list" #[] 0)=g at I2 gI gS hit|-
 obtain⟨its,rv,pl,hz⟩:=I2.list hl;have hsz:its.toArray.size=ns.length:=by rw[aY,<- rv.length,aB]
 have W:=Walks.list (prog:=X.prog) (w:=X.w) (A:=X.A.in1) (I.ok.hd hc) It l hlI its.toArray;refine codeAny_builtin eU ?_;rw[Around.under_plainId cF _];show wpAny _ X.A.in1 (seqItems? (.ref _)>>= _) _ _ _;refine wpAny_bind (wpAny_seqItems gS rfl ?_);show wpAny _ X.A.in1 (tryCatch (pyNext (.ref It)) _>>= _) _ _ _;by_cases hne:0<ns.length
 ·refine wpAny_bind (wpAny_tryCatch (W.item 0 _ _ _ (by rw[hsz];exact hne) ⟨hit,pl.isList⟩ λv h' tk' hP hst' hk'=>?_));have em:ns[0]? =some (ns[0]'hne):=aE hne;generalize ns[0]'hne=m at em;obtain⟨w',ew,t,rfl⟩:=rv.get (show(ns.map V.int)[0]? =some (.int m)by rw[aV,em];rfl)
  obtain rfl:v=.int m t:=by
   have:its[0]? =some v:=by simpa using hP
   rw[ew]at this;exact(Option.some.inj this).symm
  have hm:m∈ns:=bH em;have I3:zB X pins σ H {s with heap:=h',toks:=tk'}:=zB.turned (s:={s with heap:=g}) (h':=h') (t':=tk') I2 (it:=It) (λb o hb e=>hk' b o (by simpa using hb) e) FI.1 FI.2.1 FI.2.2.2.1 FI.2.2.2.2.1 FI.2.2.2.2.2;obtain⟨oI',hoI',hoc,hod⟩:=id hst'.1;have J:=zF4 I3 FI FS hoI' (λv e=>by rw[hod]at e;cases e) (hk' S _ (by simpa using hSI) gS) (λv e=>by cases e);show wpAny _ X.A.in1 (tryCatch (holding [.int m t] (call (.ref q) [.int m t])) _>>= _) _ _ _;refine wpAny_bind (wpAny_tryCatch (wpAny_holding (wpAny_mono (turn m hm t _ _ (.tail _ (.tail _ hq)) J) (λx s2 he=>?_) λ_ _ hF=>hF.elim)));obtain⟨⟨t2,rfl⟩,J2⟩:=he;have nI2:=(J2.pin _ (aU _ (.head _))).1;have nS2:=(J2.pin _ (aU _ (.tail _ (.head _)))).1;have J3:=zF5 J2;have s1:=Heap.SameBut.update s2.heap S (Obj.mapSeq λ_=>#[Value.int m t,.int (kf m) t2]);obtain⟨c2,hc2⟩:∃c2,(s2.heap.update S (Obj.mapSeq λ_=>#[Value.int m t,.int (kf m) t2])).get? S=some (seqObj "list" #[.int m t,.int (kf m) t2] c2):=⟨_,get?_update_seq nS2 λ_=>#[Value.int m t,.int (kf m) t2]⟩
  show wpAny _ X.A.in1 (updateSeq S (λ_=>#[.int m t,.int (kf m) t2])>>= _) _ _ _;refine wpAny_bind ?_;refine wpAny_updateSeq nS2 rfl ?_;rw[hname];refine wpAny_pure ⟨plainId_quiet cF _,zKm hc hl hlI hSI FI FS hq turn h1 _ 1 m t t2 c2 _ rfl hne hm (λi m' hi em'=>?_) (J3.turned (it:=S) (λb o hb e=>(s1.2 b hb).trans e) FS.1 FS.2.1 FS.2.2.2.1 FS.2.2.2.2.1 FS.2.2.2.2.2) ⟨oI',(s1.2 It hSI.symm).trans nI2,hoc,hod⟩ hc2⟩;rw[show i=0 by omega,em]at em';cases em';exact Int.le_refl _
 ·have hn0:ns=[]:=List.length_eq_zero_iff.mp (by omega);refine wpAny_bind (wpAny_tryCatch (W.done _ _ _ ⟨by rw[hsz,show ns.length=0 by omega];exact hit,pl.isList⟩ λh' tk' hk'=>?_));refine wpAny_bind (wpAny_rule (wpAny_pure ?_));exact h0 hn0 _ (I2.turned (it:=It) (λb o hb e=>hk' b o (by simpa using hb) e) FI.1 FI.2.1 FI.2.2.2.1 FI.2.2.2.2.1 FI.2.2.2.2.2)
end
theorem yC.ne(h:yC P q pos H)(s:Sh.u9 [P] H H')(e:H a=some o)(n:∀ps,o≠.tbl ps):H' a=some o:=s a o e λz=>by rw[a6.mp z]at e;rcases h with h|⟨_,h,_⟩ <;> rw[h]at e <;> cases e <;> exact n _ rfl
theorem yC.list{K:aH}(h:yC P q pos H)(s:Sh.u9 [P] H H')(e:zW K H a xs):zW K H' a xs:=by
 rcases e with(e|⟨o,e⟩)|e
 ·exact .inl (.inl (h.ne s e λ_ z=>by cases z))
 ·exact .inl (.inr ⟨o,h.ne s e λ_ z=>by cases z⟩)
 ·exact .inr e
def zOj(K:aH)(P:Addr)(qual:Str)(pos:Pos)(te:TE)(iy:Nat):TE:=λσ H Q=>te σ H λx H1=>∃(l ca:Addr)(ns cs:List Int),x=.ref l/\σ[iy]? =some (some (.ref ca))/\zW K H1 l (ns.map V.int)/\zW K H1 ca (cs.map V.int)/\(∀n∈ns,0<=n/\n<cs.length)/\yC P qual pos H1∧
 ∀H2,Sh.u9 [P] H1 H2->yC P qual pos H2->(ns=[]->Q .non H2)/\∀n∈ns,(∀m∈ns,cs.getD n.toNat 0<=cs.getD m.toNat 0)->Q (.int n) H2
theorem zKF{X:Cx}{e:Expr}{te:TE}{p pos kp kp2 lpos yp xp bp dp:Pos}{zk}{x y:Str}{params:Arguments}{scope:Scope}{cy c P:Addr}{iy:Nat}(T:wV X.base X.mg c P)(he:PE X e te)(hc:X.calm=true)(hr:zN 2 X.A)(hg:Gl X "min")(hm:X.mg "min"=none)(hv:bootBuiltins "min"=some (.builtin "min"))
  (hcode:X.env.code=.ref c) (hN:X.N[iy]? =some y) (hky:X.env.kindOf y=some .cell) (hcl:closureFor scope X.env=pure [(y,cy)]) (hcy:X.env.cells.lookup y=some cy) (hdef:defaultsOf params X.env=([],[]))
  (hsc:scope.names=[(x,.local),(y,.free)]) (hxy:x≠y) (hk:scope.kind=.function) (hco:scope.isCoroutine=false) (hgen:scope.isGenerator=false)
  (hbind:∀(pm ctv u:Value)(c':Addr),bindArgs (iC "<lambda>" (X.env.qual++"<lambda>") params (.Subscript (.Name y yp) (.Name x xp) bp) scope [(y,cy)] pm (.ref c') ctv) ⟨[u],[]⟩=pure [(x,u)])
  (hdx:(x==("__debug__":Str))=false) (hdx2:(x==("__classdict__":Str))=false) (hdy:(y==("__debug__":Str))=false) (hdy2:(y==("__classdict__":Str))=false)
  (hs:starEach [e] X.env=(false,eval e X.env)::starEach [] X.env:=by rfl):
  PE X (.Call (.Name "min" p) [e] [⟨some "key",.Lambda params (.Subscript (.Name y yp) (.Name x xp) bp) scope lpos,kp⟩,⟨some "default",.Constant .none zk dp,kp2⟩] pos) (zOj X.K P (X.env.qual++"<lambda>") lpos te iy):=by
 intro pins s σ H Q I h;have lx:scope.names.lookup x=some .local:=by rw[hsc,bV,beq_self_eq_true]
 have ly:scope.names.lookup y=some .free:=by rw[hsc,bV,(by simpa using hxy.symm:(y==x)=false),bV,beq_self_eq_true]
 refine wpAny_Call_Name_kw (j5 I hg hm hv ?_ (by decide) (by decide))
 refine PyProof.Rows.callWith_kw (zf ((wN he ug hs) pos pins s σ H (λvs H1=>∃(l ca:Addr)(ns cs:List Int),vs=[.ref l]/\σ[iy]? =some (some (.ref ca))/\zW X.K H1 l (ns.map V.int)/\zW X.K H1 ca (cs.map V.int)/\(∀n∈ns,0<=n/\n<cs.length)/\yC P (X.env.qual++"<lambda>") lpos H1∧
  ∀H2,Sh.u9 [P] H1 H2->yC P (X.env.qual++"<lambda>") lpos H2->(ns=[]->Q .non H2)/\∀n∈ns,(∀m∈ns,cs.getD n.toNat 0<=cs.getD m.toNat 0)->Q (.int n) H2) I ?h) λus s1 ⟨vs,H1,I1,r,l,ca,ns,cs,e1,hσ,hl,hca,hb,hT,q⟩=>?_) (by rw[hs];rfl) (by rw[hs];rfl)
 case h=>
  have z:zOj X.K P (X.env.qual++"<lambda>") lpos te iy σ H Q=te σ H λx H1=>∃(l ca:Addr)(ns cs:List Int),[x]=[.ref l]/\σ[iy]? =some (some (.ref ca))/\zW X.K H1 l (ns.map V.int)/\zW X.K H1 ca (cs.map V.int)/\(∀n∈ns,0<=n/\n<cs.length)/\yC P (X.env.qual++"<lambda>") lpos H1∧
    ∀H2,Sh.u9 [P] H1 H2->yC P (X.env.qual++"<lambda>") lpos H2->(ns=[]->Q .non H2)/\∀n∈ns,(∀m∈ns,cs.getD n.toNat 0<=cs.getD m.toNat 0)->Q (.int n) H2:=by
   unfold zOj;simp only[List.cons.injEq,and_true]
  exact cast z h
 subst e1;obtain⟨u,rfl,ru⟩:=v8 r;obtain rfl:u=.ref l:=ru;refine PyProof.Rows.kws_cons (zMw hcl hdef hcode T I1 hT λf c' pm ctv H' s' o1 hT' hc' J=>?_);refine PyProof.Rows.kws_cons (zf (zN1 _ _ _ _ (λv H2=>v=.non/\H2=H') J ⟨rfl,rfl⟩) λu s2 ⟨v,H2,J2,rv,ev,eH⟩=>PyProof.Rows.kws_nil ?_);subst ev eH;obtain rfl:u=.none:=rv;have hl':=hT.list o1 hl;have hca':=hT.list o1 hca;obtain⟨q0,q1⟩:=q _ o1 hT';have drop:∀s',zB X ((f,eM "<lambda>" (X.env.qual++"<lambda>") params (.Subscript (.Name y yp) (.Name x xp) bp) scope [(y,cy)] pm c' ctv)::pins) σ H2 s'->zB X pins σ H2 s':=λs' J=>J.pins_of λp hp=>J.pin p (aU _ (.tail _ hp));refine zPU (kf:=λn=>cs.getD n.toNat 0) hc J2 hl' (.head _) (λn hn t pins' s3 hq3 J3=>?_) (λz s3 J3=>⟨.non,H2,drop _ J3,rfl,q0 z⟩) λn hn hmin t s3 J3=>⟨.int n,H2,drop _ J3,⟨_,rfl⟩,q1 n hn hmin⟩
 obtain⟨m,hns,hlo⟩:=J3.loc;obtain⟨uy,ry,lk⟩:=hlo iy y (.ref ca) hN hσ (.inr (.inl hky))
 have hcell:s3.heap.IsCell cy (some uy):=by
  rcases lk with⟨k,_⟩|⟨_,c2,e2,z⟩
  ·rw[hky]at k;cases k
  ·rw[hcy]at e2;cases e2;exact z
 have hcd:s3.heap.CodeRec (.ref c') (X.env.qual++"<lambda>"):=(J3.hok c' _ hc').1;have bn:=hb n hn
 refine wpAny_mono (zPX (k:=0) (v:=.int n) (vy:=.ref ca) (t:=ZI (Yd X.K) (uO 1) (uO 0)) (Q:=λv H3=>v=.int (cs.getD n.toNat 0)/\H3=H2) hsc hxy hk hco hgen hr.in1 J3.env0.in1 (J3.pin _ (aU _ hq3)).1 hcd (hbind pm ctv _ c') hcell (J3.freeC y cy hcy) ⟨t,rfl⟩ ry
  (Ql Qn (pv 1 rfl (.inr (.inr ly)) hdy hdy2) (pv 0 rfl (.inl lx) hdx hdx2) λ_ _=>rfl) ?_) (λu s4 hce=>?_) λ_ _ z=>z
 ·refine⟨_,rfl,_,rfl,ca,_,n,_,rfl,rfl,hca',?_,rfl,rfl⟩;rw[show n=((n.toNat:Nat):Int)by omega];refine zLn ?_;rw[aV,cJ,aD,aE (by omega)];rfl
 ·obtain⟨v,H4,J4,rv4,ev,eH⟩:=J3.after hce;subst ev eH;obtain⟨t',rfl⟩:=rv4;exact⟨⟨t',rfl⟩,J4⟩
end L2
namespace L2
open PySem PySem.Spec PyProof.Rows
section
variable{P:Program}{w:World}{K:aH}{mg:Str->Option Value}{base:Heap}
theorem wO.okC{st:Stmt}(F:wO K x qual st f fd)(hc:fd.code=.ref c)(S:wH N ps (zX st))(len:∀vs H Q E,sp vs H Q E->vs.length=ps.length)
  (hbody:∀(A:Around)(outer:List Env)(s:Shared)(H:Hp)(vs:List V)(Q:VK)(E:XK),zN k (A.deeper (envOfC qual (zX st) s.heap.objs.size f (.ref c)))->sp vs H Q E->
   ∃t,yb (ym yN P w K mg base N qual (zX st) f (.ref c) A outer s H E).nox (yG st) t/\t {nx:=λ_ H'=>Q .non H',rt:=Q} (wj N vs) H):zS P w K mg base yN (k+1) f fd ps sp:=by
 obtain⟨oc,od,kV,doc,pm,an,cdv,ct,osl,rfl,lk,hcd⟩:=F.ex;obtain rfl:cdv=.ref c:=hc;refine Qj lk hcd S len λA outer s H vs Q E hr hsp=>?_;obtain⟨t,h,q⟩:=hbody A outer s H vs Q E hr hsp;exact⟨t,h.nox,q⟩
def zQX(Pt:Addr)(H:Hp):Prop:=H Pt=some (.tbl #[])/\∀b,b≠Pt->H b=none\/∃o xs,H b=some (.frz o (.lst xs))
theorem zKw
  (C:iE s₁.heap c Pt) (hP:s₁.heap.get? Pt=some (fQ #[])) (hKP:K.lookup Pt=none)
  (bm:∃bm ob,mg "__builtins__"=some (.ref bm)/\bm≠builtinsNs/\s₁.heap.get? bm=some ob/\ob.cls=.type "module"/\ob.dict=some builtinsNs/\ob.data=.plain)
  (KX:K.In s₁.heap) (hns:s₁.heap.Ns mainGlobals mg) (hb:s₁.heap.Ns builtinsNs mb) (hbb:∀x:Str,x≠"__name__"->mb x=bootBuiltins x) (hlim:s₁.heap.NoLimit) (hg:s₁.gens=#[])
  (ha:s₁.heap.get? a=some {cls:=.type "list",data:=.seq vs.toArray}) (hi:IntsAre vs ns) (hl:ns.length<=sizeLine) (hr:zN k callerA)
  (F:∀base:Heap,K.In base->base.Ns mainGlobals mg->wV base mg c Pt->zS P w K mg base CX k fa fd [x] sp) (hbind:∀(s:Shared)(u:Value),BindsTo s fd ⟨[u],[]⟩ [(x,u)])
  (hsp:∀H:Hp,zQX Pt H->zW K H a (ns.map V.int)->sp [.ref a] H (λv _=>v=.bl true) λ_ _ _=>False)
  (hCX:∀H e s',CX [] H s₁ (λ_ _ _=>False) e s'->False):
  codeAny (model P w) callerA (.call (.ref fa) ⟨[.ref a],[]⟩) (λr s'=>r=.ok (.ret (.bool true))/\OldK s₁.heap s'.heap/\s'.os=s₁.os/\AllBare s'.gens) s₁:=by
 have rv:=zFi hi;have lenV:=hi.length;have aP:a≠Pt:=λz=>by rw[z,hP]at ha;cases ha
 have core:∀H:Hp,zQX Pt H->zW K H a (ns.map V.int)->xZ P w H s₁.heap->(∀b,b≠Pt->H b≠none->b=a)->(H a≠none->K.lookup a=none)->
   codeAny (model P w) callerA (.call (.ref fa) ⟨[.ref a],[]⟩) (λr s'=>r=.ok (.ret (.bool true))/\OldK s₁.heap s'.heap/\s'.os=s₁.os/\AllBare s'.gens) s₁:=by
  intro H hO hS hok hA hK;have bo:∀{b:Addr}{o:Obj},s₁.heap.get? b=some o->H b=none->(wM s₁.heap H).get? b=some o:=λe n=>zM3 e n
  have ur:∀{b:Addr}{o:Obj},s₁.heap.get? b=some o->(∀z n,o.data≠.seq z n)->(∀z,o.data≠.fields z)->H b=none:=λ{b o} e d1 d2=>by
   by_cases z:b=Pt
   ·rw[z,hP]at e;cases e;exact absurd rfl (d2 _)
   cases q:H b with
   |none=>rfl
   |some u=>
    have e':b=a:=hA b z (by rw[q];exactλz=>by cases z);rw[e',ha]at e;cases e;exact absurd rfl (d1 _ _)
  have nsK:∀{b:Addr}{m:Str->Option Value},s₁.heap.Ns b m->(wM s₁.heap H).Ns b m:=λ{b m} ⟨o,es,ep,e,d,r⟩=>⟨o,es,ep,bo e (ur e (λz n q=>by rw[d]at q;cases q) λz q=>by rw[d]at q;cases q),d,r⟩
  have hKb:K.In (wM s₁.heap H):=λb o e=>bo (KX b o e) (by
   cases q:H b with
   |none=>rfl
   |some u=>
    by_cases z:b=Pt
    ·rw[z,hKP]at e;cases e
    have e':b=a:=hA b z (by rw[q];exactλz=>by cases z);subst e';rw[hK (by rw[q];exactλz=>by cases z)]at e;cases e)
  have hM:Mod K mg (wM s₁.heap H):=⟨hKb,nsK hns,⟨mb,nsK hb,hbb⟩,let ⟨mc,h1,h2⟩:=hlim;⟨mc,nsK h1,h2⟩⟩
  have hTB:wV (wM s₁.heap H) mg c Pt:=by
   obtain⟨o,v0,file,tf,flags,tg,inF,text,tt,e1,r1,r2,r3,r4,r5,r6,r7,r8,hne⟩:=C;obtain⟨bm,ob,b1,b2,b3,b4,b5,b6⟩:=bm;refine⟨⟨o,v0,file,tf,flags,tg,inF,text,tt,bo e1 ?_,r1,r2,r3,r4,r5,r6,r7,r8,hne⟩,bm,ob,b1,b2,λz=>?_,bo b3 (ur b3 (λz n q=>by rw[b6]at q;cases q) λz q=>by rw[b6]at q;cases q),b4,b5,b6⟩
   ·cases q:H c with
    |none=>rfl
    |some u=>
     have e':c=a:=hA c hne (by rw[q];exactλz=>by cases z);rw[e',ha]at e1;cases e1;cases r2
   ·obtain⟨o2,es,ep,q1,q2,_⟩:=hns;rw[z,q1]at b3;cases b3;rw[q2]at b6;cases b6
  have e0:xu P w K mg (wM s₁.heap H) callerA [] s₁ H:=⟨rfl,hM,λb o e=>zPS e,gV (zK1 _ _),trivial,λb hb=>absurd (show b∈([]:List Addr)from hb) (by simp),hok,.of_eq hg⟩
  refine codeAny_mono ((F _ hKb (nsK hns) hTB).run callerA [] s₁ H ⟨[.ref a],[]⟩ [.ref a] [.ref a] _ _ hr e0 (hbind s₁ (.ref a)) (.cons rfl .nil) (hsp H hO hS)) λr s' h=>?_;cases r with
  |error e=>exact(hCX H e s' h).elim
  |ok fl=>
   cases fl with
   |next=>exact False.elim h
   |brk=>exact False.elim h
   |cont=>exact False.elim h
   |ret u=>
    obtain⟨v,H',os,bare,un,hok',r',q⟩:=h;have q':v=.bl true:=q;subst q';obtain rfl:u=Value.bool true:=r';obtain⟨more,hm⟩:=un.tbls Pt _ hO.1;have hPm:s'.heap.get? Pt=some (fQ (#[]++more)):=hok' Pt _ hm
    have kp:∀b o,b≠Pt->s₁.heap.get? b=some o->s'.heap.get? b=some o:=λb o z e=>by
     cases q:H b with
     |none=>exact un.keep b o e q (by intro z;exact absurd (show b∈([]:List Addr)from z) (by simp)) (by simp)
     |some u=>
      rcases hO.2 b z with z|⟨ob,xs,z⟩
      ·rw[q]at z;cases z
      ·have z2:=un.frzs b ob _ z;obtain⟨e1,_⟩:=hok b _ z;obtain⟨e2,_⟩:=hok' b _ z2;rw[e]at e1;cases e1;exact e2
    refine⟨rfl,⟨λb o e=>?_,λb o e=>?_⟩,os,bare⟩
    ·by_cases z:b=Pt
     ·subst z;rw[hP]at e;cases e;exact .inr (.inl ⟨(C.tab hP).isCodeTable,rfl,#[],_,rfl,by rw[iP];exact hPm⟩)
     ·exact .inl (kp b o z e)
    ·by_cases z:b=Pt
     ·exact⟨_,by rw[z];exact hPm⟩
     ·exact⟨o,kp b o z e⟩
 cases hk:K.lookup a with
 |some o=>
  have e:=KX a o hk;rw[ha]at e;cases e;refine core (λb=>if b=Pt then some (.tbl #[]) else none) ⟨if_pos rfl,λb z=>.inl (if_neg z)⟩ (.inr ⟨_,vs.toArray,_,hk,rfl,rfl,rfl,by rw[aY,lenV];exact hl,by simpa using rv⟩) (λb u z=>?_) (λb z1 z=>absurd (if_neg z1) z) λz=>absurd (if_neg aP) z;by_cases hb:b=Pt
  ·have z':=(if_pos hb).symm.trans z;cases z';subst hb;exact hP
  ·have z':=(if_neg hb).symm.trans z;cases z'
 |none=>
  refine core (λb=>if b=Pt then some (.tbl #[]) else if b=a then some (.frz {cls:=.type "list",data:=.seq vs.toArray} (.lst (ns.map V.int))) else none) ⟨if_pos rfl,λb z=>?_⟩ (.inl (.inr ⟨{cls:=.type "list",data:=.seq vs.toArray},(if_neg aP).trans (if_pos rfl)⟩)) (λb u z=>?_) (λb z1 z=>?_) λ_=>hk
  ·by_cases hb:b=a
   ·exact .inr ⟨_,_,(if_neg z).trans (if_pos hb)⟩
   ·exact .inl ((if_neg z).trans (if_neg hb))
  ·by_cases hp:b=Pt
   ·have z':=(if_pos hp).symm.trans z;cases z';subst hp;exact hP
   by_cases hb:b=a
   ·have z':=((if_neg hp).trans (if_pos hb)).symm.trans z;cases z';subst hb;exact⟨ha,by rw[aB];exact hl,vs,_,rv,ha⟩
   ·have z':=((if_neg hp).trans (if_neg hb)).symm.trans z;cases z'
  ·by_cases hb:b=a
   ·exact hb
   ·exact absurd ((if_neg z1).trans (if_neg hb)) z
end
theorem zLw{l:l6}{XP:(Str->Option Value)->Heap->Prop}{K:Params->aH}{sp:World->Sp}
  (hn:l.most=some n) (hn2:n<=sizeLine) (hdf:d.params.defaults=[]) (hr:zN k callerA)
  (hY:∀(w:World)(h:Heap),YP w h->(K w.params).In h) (hrec:(recsOf q).find? (λe=>e.name==x2)=some d2) (htab:∀w:World,mj (K w.params) x2=some (c,Pt)) (hKP:∀w:World,(K w.params).lookup Pt=none)
  (F:∀(w:World)(mg:Str->Option Value)(fa:Addr)(h:Heap),(K w.params).In h->h.Ns mainGlobals mg->mg d.name=some (.ref fa)->
   ∃fd:FuncData,(∀(s:Shared)(u:Value),BindsTo s fd ⟨[u],[]⟩ [(x,u)])∧
    ∀base:Heap,(K w.params).In base->base.Ns mainGlobals mg->wV base mg c Pt->zS l.prog w (K w.params) mg base yN k fa fd [x] (sp w))
  (hsp:∀(w:World)(H:Hp)(a:Addr)(ns:List Int),ns.length<=n->zQX Pt H->zW (K w.params) H a (ns.map V.int)->sp w [.ref a] H (λv _=>v=.bl true) λ_ _ _=>False):
  ml q loose XP YP l.row.toRowW d [] (λf vs=>PySem.call f vs):=by
 refine Att.attach_call hn hdf λw s₀ s₁ mg mb fa o pm cd doc a vs ns G Y ho hd hcd hmg hobj hints hlen hg=>?_;have KX:=hY w _ Y;obtain⟨fd,hb,hF⟩:=F w mg fa _ KX G.T.g hmg;obtain⟨C,hP⟩:=PySem.W.tab_of G.T KX hrec (htab w);exact zKw C hP (hKP w) G.T.bmain KX G.T.g G.T.b G.T.builtins G.T.nolimit hg hobj hints (bI hlen hn2) hr hF hb (λH hO hS=>hsp w H a ns hlen hO hS) λH e s' z=>z
end L2
namespace L2
open PySem PySem.Spec PyProof.Rows
theorem zF1{α β:Type}{R:α->β->Prop}:∀{xs:List α}{ys:List β},xs.length=ys.length->(∀(k:Nat)x y,xs[k]? =some x->ys[k]? =some y->R x y)->Paired R xs ys
 |[],[],_,_=>.nil
 |[],_::_,h,_=>by cases h
 |_::_,[],h,_=>by cases h
 |x::xs,y::ys,h,g=>.cons (g 0 x y rfl rfl) (zF1 (Nat.succ.inj h) λk a b h1 h2=>g (k+1) a b h1 h2)
section
variable{X:Cx}
theorem zLO:wg X (.type "range") (λxs H Q=>∃i j,xs=[.int i,.int j]/\∀p,H p=none->Q (.ref p) (zV H p (.rng i j))):=by intro pins s σ H xs us Q I r h;obtain⟨i,j,rfl,q⟩:=h;obtain⟨u,w',rfl,⟨t,rfl⟩,⟨t',rfl⟩⟩:=YU r;refine call_range_2 ⟨.ref s.heap.objs.size,_,I.laid (o:=.rng i j) (λb u e=>aO _ e) (aJ _) ?_,rfl,q _ (I.hok.fresh (aJ _))⟩;exact⟨_,_,_,a_ _ rfl⟩
theorem zFZ(hc:X.calm=true):wg X (.type "list") (λxs H Q=>∃p i j,xs=[.ref p]/\H p=some (.rng i j)/\(-(2^62)<=i/\i<2^62/\-(2^62)<=j/\j<2^62)/\(j-i).toNat<=1000∧
  ∀l,H l=none->Q (.ref l) (zV H l (.lst ((aI (j-i).toNat).map λ(k:Nat)=>V.int (i+(k:Int)))))):=by
 intro pins s σ H xs us Q I r h;obtain⟨p,i,j,rfl,hp,⟨q1,q2,q3,q4⟩,hz,q⟩:=h;obtain⟨u,rfl,rx⟩:=v8 r;obtain rfl:u=.ref p:=rx;obtain⟨t,u,v,hr⟩:=I.hok p _ hp;have hs:(2^24:Nat)=16777216:=by decide
 refine call_list_range (n:=(j-i).toNat) (I.ok.hd hc) (show IsRange s.heap p i j 1 t u v from hr) (small_one q1 q2 q3 q4) (by rw[rangeSize_one];split<;> omega) zA λh' tk acc' c' hk hS' hacc=>?_;refine⟨.ref s.heap.objs.size,_,I.laid (t':=tk) (o:=.lst ((aI (j-i).toNat).map λ(k:Nat)=>V.int (i+(k:Int)))) hk (aJ _) ⟨?_,acc'.toList,c',?_,by rw[hS']⟩,rfl,q _ (I.hok.fresh (aJ _))⟩
 ·rw[aB,aM];exact bI hz (by decide)
 ·have la:acc'.toList.length=(j-i).toNat:=by rw[cT];exact hacc.1
  refine zF1 (by rw[aB,aM,la]) λk x y hx hy=>?_
  have hk2:k<(j-i).toNat:=by have:=(aN.mp hy).1;exact xh
  rw[aV,bY hk2]at hx;cases hx;obtain⟨t,e⟩:=hacc.2 k y (by simpa using hy);exact⟨t,by rw[e,Int.mul_one]⟩
theorem zLQ(hc:X.calm=true):wg X (.builtin "max") (λxs H Q=>∃(p:Addr)(ns:List Int),xs=[.ref p]/\zW X.K H p (ns.map V.int)/\0<ns.length/\∀M,M∈ns->(∀a∈ns,a<=M)->Q (.int M) H):=by
 intro pins s σ H xs us Q I r h;obtain⟨p,ns,rfl,hl,h0,q⟩:=h;obtain⟨u,rfl,rx⟩:=v8 r;obtain rfl:u=.ref p:=rx;obtain⟨its,rv,pl,hz⟩:=I.list hl
 have hi:∀{xs:List Int}{ys:List Value},zC (xs.map V.int) ys->IntsAre ys xs:=by
  intro xs
  induction xs with
  |nil=>intro ys h;cases h;exact .nil
  |cons x xs ih=>
   intro ys h;cases h with
   |cons h1 h2=>
    obtain⟨t,rfl⟩:=h1;exact .cons x t (ih h2)
 have hA:=hi rv;obtain⟨xs,e⟩:=hA.allInts.items;have hns:ns=xs.toList.map (·.1):=by rw[<- hA.numsOf,<- nums_intItems,<- e]
 have hsz:0<xs.size:=by have h3:=h0;rw[hns,aB,cT]at h3;exact h3
 have hl2:=pl.isList;rw[e]at hl2;refine max_intList (I.ok.hd hc) hl2 hsz λv h' tk hv hk=>?_;obtain⟨t,rfl⟩:=intItems_at hv;obtain⟨h1,h2⟩:=argBest_gt (numAt xs) (xs.size-1);refine⟨.int _,H,I.kept hk,⟨t,rfl⟩,q _ ?_ λa ha=>?_⟩
 ·rw[hns,numAt_eq];rw[aD,aE (by rw[aB,cT];omega)];exact cq _
 ·rw[hns]at ha;obtain⟨j,hj,rfl⟩:=mem_getD ha;rw[aB,cT]at hj;have:=h2 j (by omega);rw[numAt_eq]at this;exact this
end
end L2
namespace Pu
open PySem L2 Sh
open PyProof.Rows (envOfC)
variable[Tbl]
def WH(pa:zj)(iy:Nat):zj:=λΓ R=>pa Γ λd=>∃ns cs:List Int,d=.lst (ns.map D.int)/\slot Γ iy=.sh (.lst (cs.map D.int))/\(∀n∈ns,0<=n/\n<cs.length)/\(ns=[]->R .non)/\∀n∈ns,(∀m∈ns,cs.getD n.toNat 0<=cs.getD m.toNat 0)->R (.int n)
theorem zQy(hI:∀H,Tbl.I H↔yC P q pos H)(i:yC P q pos H)(o:u9 [P] H H')(i':yC P q pos H'):Sm H H':=by
 refine⟨λb u e n=>i.ne o e λps z=>(by rw[z]at n;cases n),λb u e n=>?_,λ_=>(hI H').mpr i'⟩;by_cases c:b=P
 ·rw[c];rcases i' with h|⟨_,h,_⟩
  ·exact⟨_,h,rfl⟩
  ·exact⟨_,h,rfl⟩
 ·exact⟨u,o b u e (λz=>c (a6.mp z)),n⟩
theorem zJ4{X:Cx}{e:Expr}{pa:zj}{p pos kp kp2 lpos yp xp bp dp:Pos}{zk}{x y:Str}{params:Arguments}{scope:Scope}{cy c P:Addr}{iy:Nat}(hI:∀H,Tbl.I H↔yC P (X.env.qual++"<lambda>") lpos H)(T:wV X.base X.mg c P)(he:PE X e (tP pa))(hc:X.calm=true)(hr:zN 2 X.A)(hg:Gl X "min")(hm:X.mg "min"=none)(hv:bootBuiltins "min"=some (.builtin "min"))
  (hcode:X.env.code=.ref c) (hN:X.N[iy]? =some y) (hky:X.env.kindOf y=some .cell) (hcl:closureFor scope X.env=pure [(y,cy)]) (hcy:X.env.cells.lookup y=some cy) (hdef:defaultsOf params X.env=([],[]))
  (hsc:scope.names=[(x,.local),(y,.free)]) (hxy:x≠y) (hk:scope.kind=.function) (hco:scope.isCoroutine=false) (hgen:scope.isGenerator=false)
  (hbind:∀(pm ctv u:Value)(c':Addr),bindArgs (iC "<lambda>" (X.env.qual++"<lambda>") params (.Subscript (.Name y yp) (.Name x xp) bp) scope [(y,cy)] pm (.ref c') ctv) ⟨[u],[]⟩=pure [(x,u)])
  (hdx:(x==("__debug__":Str))=false) (hdx2:(x==("__classdict__":Str))=false) (hdy:(y==("__debug__":Str))=false) (hdy2:(y==("__classdict__":Str))=false)
  (hs:starEach [e] X.env=(false,eval e X.env)::starEach [] X.env:=by rfl):
  PE X (.Call (.Name "min" p) [e] [⟨some "key",.Lambda params (.Subscript (.Name y yp) (.Name x xp) bp) scope lpos,kp⟩,⟨some "default",.Constant .none zk dp,kp2⟩] pos) (tP (WH pa iy)):=
 yz (zKF T he hc hr hg hm hv hcode hN hky hcl hcy hdef hsc hxy hk hco hgen hbind hdx hdx2 hdy hdy2 hs) λσ H Q ⟨Z,Γ,R,E,h,q⟩=>⟨Z,Γ,_,E,h,λd v H1 hd s1 hv=>by obtain⟨ns,cs,rfl,hsl,hb,q0,q1⟩:=hd;obtain⟨l,xs,rfl,el,hx⟩:=hv.lst_inv;cases kF hx;obtain⟨vc,hvc,hdc⟩:=E.sh iy _ hsl;obtain⟨ca,ys,rfl,ec,hy⟩:=hdc.lst_inv;cases kF hy;have i1:=(hI H1).mp (E.same s1).zd.i;refine⟨l,ca,ns,cs,rfl,hvc,zW.of (zx _ _ el),zW.of (s1.at (zx _ _ ec)),hb,i1,λH2 o i2=>?_⟩;have s2:=s1.trans (zQy hI i1 o i2);exact⟨λz=>q _ _ H2 (q0 z) s2 .non,λn hn hm=>q _ _ H2 (q1 n hn hm) s2 (.int n)⟩⟩
theorem okPC(Fu:wO K x qual st f fd)(hc:fd.code=.ref c)(S:wH N ps (zX st))(len:∀ds R,F ds R->ds.length=ps.length)
  (hbody:∀(A:Around)(outer:List Env)(s:Shared)(H:Hp)(E:XK),zN k (A.deeper (envOfC qual (zX st) s.heap.objs.size f (.ref c)))->
   ∃p,yb (ym yN P w K mg base N qual (zX st) f (.ref c) A outer s H E).nox (yG st) (yA p)/\∀ds R,F ds R->p {nx:=λ_=>R .non,rt:=R} (ds.map Sl.sh++aL (N.length-ps.length) .no)):zS P w K mg base yN (k+1) f fd ps (wB F):=
 Fu.okC hc S (Jg len) λA outer s H vs Q E hr h=>let ⟨p,h1,h2⟩:=hbody A outer s H E hr;⟨_,h1,K3 len h2 h⟩
noncomputable def tbI(P:Addr)(q:Str)(pos:Pos):Tbl where
 I:=yC P q pos
 same:=λh s=>h.same s
 but:=λ{H H' l o} h e li k=>by
  have ne:∀b u,H b=some u->uV u=false->H' b=some u:=λb u eb n=>by rw[k b λz=>by rw[z,e]at eb;cases eb;rw[n]at li;cases li];exact eb
  rcases h with h|⟨c',h1,h2⟩
  ·exact .inl (ne _ _ h rfl)
  ·exact .inr ⟨c',ne _ _ h1 rfl,ne _ _ h2 rfl⟩
end Pu
namespace Pu
open PySem L2 Sh
variable[Tbl]
section
variable{X:Cx}{e a b c:Expr}{es:List Expr}{pos:Pos}{pa pb:zj}{pl:yY}{p:ye}{t:xq}
def zKQ(t:xq)(p:ye):ye:=λD Γ=>∃I:Nat->List Sl->Prop,(∃m,I m Γ)/\∀m Γ',I m Γ'->t Γ' λb=>wA b (p {D with nx:=λΓ2=>∃m',m'<m/\I m' Γ2,ct:=λΓ2=>∃m',m'<m/\I m' Γ2,bk:=D.nx} Γ') (D.nx Γ')
theorem zJw(hp:PassesOwn (model X.prog X.w) X.A X.env X.xe)(hc:PT X c (y8 t))(hb:yb X body (yA p)):PS X (.While c body [] pos) (yA (zKQ t p)):=wU (zMY hp hc hb) λD σ H ⟨Z0,H0,Z,Γ,Dp,E,⟨I,⟨m0,h0⟩,hst⟩,nx,rt,bk,ct⟩=>by
 refine⟨λm σ' H'=>∃Z' Γ',zv Z0 H0 Z' Γ' σ' H'/\zE (zG Z H) (zG Z' H')/\I m Γ',⟨m0,Z,Γ,E,zE.refl _,h0⟩,?_⟩;rintro m σ' H' ⟨Z',Γ',E',s',hI⟩;refine⟨Z',Γ',_,E'.e,hst m Γ' hI,λb H1 hd s1=>?_⟩;have s2:=s'.trans (yL s1);cases b with
 |false=>exact nx Z' Γ' σ' H1 (E'.mv s1) s2 (hd.2 rfl)
 |true=>
  refine⟨λσ2 H2=>∃m',m'<m/\∃Z2 Γ2,zv Z0 H0 Z2 Γ2 σ2 H2/\zE (zG Z H) (zG Z2 H2)/\I m' Γ2,λ_ _ h=>h,?_⟩;have again:∀Z2 Γ2 σ2 H2,zv Z0 H0 Z2 Γ2 σ2 H2->zE (zG Z' H1) (zG Z2 H2)->(∃m',m'<m/\I m' Γ2)->∃m',m'<m/\∃Z2 Γ2,zv Z0 H0 Z2 Γ2 σ2 H2/\zE (zG Z H) (zG Z2 H2)/\I m' Γ2:=λZ2 Γ2 σ2 H2 E2 k ⟨m',l,h⟩=>⟨m',l,Z2,Γ2,E2,s2.trans k,h⟩
  exact⟨Z0,H0,Z',Γ',_,E'.mv s1,hd.1 rfl,again,rt,λZ2 Γ2 σ2 H2 E2 k h=>nx Z2 Γ2 σ2 H2 E2 (s2.trans k) h,again⟩
def kR:FL
 |[.int i],R=>R (.int (if i<0 then -i else i))
 |_,_=>False
theorem zQB:uA (λxs H Q=>∃i,xs=[.int i]/\Q (.int (if i<0 then -i else i)) H) kR:=λZ H vs ds R Q zd hv h q=>by
 rcases ds with _|⟨dA,ds⟩ <;> try exact h.elim
 cases dA <;> try exact h.elim
 rcases ds with _|_ <;> try exact h.elim
 obtain⟨v,rfl,hx⟩:=yg hv;cases hx;exact⟨_,rfl,q _ _ H h (Sm.refl _) (.int _)⟩
def isG:F2
 |d,.non,R=>R (.bool (match d with| .non=>true|_=>false))
 |_,_,_=>False
def WI:F2
 |d,.non,R=>R (.bool (match d with| .non=>false|_=>true))
 |_,_,_=>False
theorem zPN:xE (λx y H Q=>y=.non/\Q (.bl (decide (x=.non))) H) isG:=λZ H x y a b R Q zd hx hy h q=>by
 cases b <;> try exact h.elim
 cases hy;refine⟨rfl,?_⟩;cases hx <;> exact q _ _ H h (Sm.refl _) (.bool _)
theorem zH0:xE (λx y H Q=>y=.non/\Q (.bl (!decide (x=.non))) H) WI:=λZ H x y a b R Q zd hx hy h q=>by
 cases b <;> try exact h.elim
 cases hy;refine⟨rfl,?_⟩;cases hx <;> exact q _ _ H h (Sm.refl _) (.bool _)
theorem zOW{p:Addr}(e:zG Z H p=some (.lst xs))(h:yD (zG Z H) xs ds):Wk Z (Q0 K p) H (um 0 ds):=λi Z' H' s zd=>by have e1:=zx _ _ (s _ _ e);refine⟨λd hd=>?_,λhi=>⟨xs,zW.of e1,by rw[jp]at hi;rw[wR h];exact‹_›⟩⟩;obtain⟨d',hd',rfl⟩:=qL hd;obtain⟨x,hx,hh⟩:=Xo h hd';refine⟨⟨xs,x,zW.of e1,hx⟩,λy H'' ⟨T,x',ev,hT,eH,q⟩=>?_⟩;have:=q xs (zW.of e1);rw[hx]at this;cases this;subst ev;subst eH;rw[cW];exact⟨xJ hT _,XJ zd hT (.cons (.int _) (.cons (hh.same s) .nil))⟩
def pEn(pl:yY):yY:=λΓ R=>pl Γ λds=>kP ds λes=>R (um 0 es)
theorem zMP{ts:List Expr}{kk:Nat}{tp p:Pos}(hg:Gl X "enumerate")(hm:X.mg "enumerate"=none)(ha:PA X [e] (xb pl))(hs:starEach [e] X.env=[(false,eval e X.env)]:=by rfl)(hs2:starEach [] X.env=[]:=by rfl):
  PI X (.Tuple ts kk tp) (.Call (.Name "enumerate" p) [e] [] pos) (vm (pEn pl)):=kL (zPB hg hm ha hs hs2) λσ H Q ⟨Z,Γ,R,E,h,q⟩=>
 ⟨Z,Γ,_,E,h,λds vs H1 hd s1 hv=>by
  rcases ds with _|⟨dA,ds⟩ <;> try exact hd.elim
  cases dA <;> try exact hd.elim
  rcases ds with _|_ <;> try exact hd.elim
  obtain⟨v,rfl,hw⟩:=yg hv;obtain⟨a,xs,rfl,ea,hx⟩:=hw.lst_inv;exact⟨a,rfl,⟨xs,zW.of (zx _ _ ea)⟩,q _ _ H1 hd s1 (zOW ea hx)⟩⟩
def zRi(pa pb:zj):zj:=λΓ R=>pa Γ λd=>pb Γ λe=>∃i j:Int,d=.int i/\e=.int j/\0<=i/\i<=1000/\0<=j/\j<=1000/\R (.lst ((aI (j-i).toNat).map λ(k:Nat)=>.int (i+(k:Int))))
theorem zPz(ks:List Nat):yD H (ks.map λ(k:Nat)=>V.int (i+(k:Int))) (ks.map λ(k:Nat)=>D.int (i+(k:Int))):=by
 induction ks with
 |nil=>exact .nil
 |cons k ks ih=>exact .cons (.int _) ih
theorem zO0{lp rp:Pos}{p2:Pos}(hc:X.calm=true)(hgl:Gl X "list")(hml:X.mg "list"=none)(hgr:Gl X "range")(hmr:X.mg "range"=none)(ha:PE X a (tP pa))(hb:PE X b (tP pb))
  (he:starEach [Expr.Call (.Name "range" rp) [a,b] [] p2] X.env=(false,eval (Expr.Call (.Name "range" rp) [a,b] [] p2) X.env)::starEach [] X.env:=by rfl) (hpl:(backTo pos (starEach [] X.env)).any (·.1)=false:=by rfl)
  (he2:starEach [a,b] X.env=(false,eval a X.env)::starEach [b] X.env:=by rfl) (he3:starEach [b] X.env=(false,eval b X.env)::starEach [] X.env:=by rfl) (hpl2:(backTo p2 (starEach [b] X.env)).any (·.1)=false:=by rfl):PE X (.Call (.Name "list" lp) [.Call (.Name "range" rp) [a,b] [] p2] [] pos) (tP (zRi pa pb)):=
 yz (U1 (zFZ hc) hgl hml Yk (wN (U1 zLO hgr hmr zHD (wN ha (wN hb ug he3) he2) (by decide) (by decide) he2 hpl2) ug he) (by decide) (by decide) he hpl) λσ H Q ⟨Z,Γ,R,E,h,q⟩=>
  ⟨Z,Γ,_,E,h,λd v H1 hd s1 hv=>⟨Z,Γ,_,E.same s1,hd,λd2 v2 H2 hd2 s2 hv2=>by obtain⟨i,j,rfl,rfl,i0,i1,j0,j1,hR⟩:=hd2;cases hv;cases hv2;refine⟨i,j,rfl,λr hr=>⟨r,i,j,rfl,xS,⟨by exact vT,by omega,by exact vT,by omega⟩,by omega,λl hl=>?_⟩⟩;have s3:=s1.trans (s2.trans (xJ hr (HO.rng i j)));exact q _ _ _ hR (s3.trans (xJ hl _)) (uX (E.same s3).zd hl (zPz _))⟩⟩
def zRk(i:Nat)(pl:yY):ye:=λD Γ=>pl Γ λds=>kP ds λes=>D.nx (zL Γ i (.ow es))
theorem zMK(i:Nat){x:Str}{pos' lp p2:Pos}(hN:X.N.Nodup)(hi:X.N[i]? =some x)(hx:uM X.env.scope x)(hg:Gl X "list")(hm:X.mg "list"=none)(ha:PA X (e::es) (xb pl))(he:starEach (e::es) X.env=(false,eval e X.env)::starEach es X.env:=by rfl)(hpl:(backTo p2 (starEach es X.env)).any (·.1)=false:=by rfl)
  (hs:swapsWith (.Call (.Name "list" lp) (e::es) [] p2) (some (.Name x pos')) pos.line X.env=pure false:=by rfl) (hf:X.fn x=true\/X.env.scope.names.lookup x=some .local:=by first|exact .inl rfl|exact .inr rfl|assumption):
  PS X (.Assign [.Name x pos'] (.Call (.Name "list" lp) (e::es) [] p2) pos) (yA (zRk i pl)):=wU (Ur hN hi hx (U1 Qq hg hm Yk ha (by decide) (by decide) he hpl) hs hf) λD σ H ⟨Z0,H0,Z,Γ,Dp,E,h,nx,rt,bk,ct⟩=>
 ⟨Z,Γ,_,E.e,h,λds vs H1 hd s1 hv=>by
  rcases ds with _|⟨dA,ds⟩ <;> try exact hd.elim
  cases dA <;> try exact hd.elim
  rcases ds with _|_ <;> try exact hd.elim
  obtain⟨v,rfl,hw⟩:=yg hv;obtain⟨r,xs,rfl,er,hx⟩:=hw.lst_inv;refine⟨r,xs,rfl,.inl (zW.of (zx _ _ er)),λl hl=>?_⟩;obtain⟨E2,s2⟩:=(E.mv s1).make hl hx i;exact nx _ _ _ _ E2 ((yL s1).trans s2) hd⟩
end
end Pu
namespace L2
open PySem PySem.Spec PyProof.Rows
section
variable{X:Cx}
def zJo(K:aH):R2:=λx y H Q=>∃(d:PyData)(xs:List PyData),Dp K H x d/\Dp K H y (.tuple xs)/\d.canLay0=true/\d8 xs=true/\d.depth<=60/\Q (.bl (!xs.any λy=>cE y d)) H
theorem zF2(hu:X.A.units+64<cLine):yV X (compareOp .NotIn) (zJo X.K):=by intro pins s σ H x y v u Q I rx ry h;obtain⟨d,xs,hx,hy,hc,hxs,hd,q⟩:=h;obtain⟨_,r1⟩:=hx.reads I rx;obtain⟨_,r2⟩:=hy.reads I ry;exact SeqAt.notIn_tuple_reads r2 r1 hxs hc (by omega) ⟨.bl _,H,I,rfl,q⟩
end
end L2
namespace Pu
open PySem L2 Sh
variable[Tbl]
open PyProof.Rows (envOfC)
def WJ:F2
 |x,.tup ds,R=>x.pl 50=true/\(D.tup ds).pl 50=true/\R (.bool (!(wP ds).any λy=>cE y x.py))
 |_,_,_=>False
theorem zKY:xE (zJo K) WJ:=λZ H x y a b R Q zd hx hy h q=>by
 cases b <;> try exact h.elim
 have d1:=wn _ _ h.1;have d2:=wn _ _ h.2.1;have e1:=d1.dep;have l2:=d2.lay;exact⟨_,_,d1.dp K H _ (hx.same zx),d2.dp K H _ (hy.same zx),d1.lay,by simpa[D.py,dy] using l2,by exact zA,q _ _ H h.2.2 (Sm.refl _) (.bool _)⟩
end Pu
namespace Pu
open PySem L2 Sh
variable[Tbl]
open PyProof.Rows (envOfC)
abbrev vp(F:FL)(n:Nat):Prop:=∀ds R,F ds R->ds.length=n
section
variable{P:Program}{w:World}{K:aH}{mg:Str->Option Value}{base:Heap}{x qual:Str}{st:Stmt}{f c C:Addr}{fd:FuncData}{dv:Value}{N ps:List Str}{p0:Str}{k:Nat}{F:FL}
theorem okQ(Fu:wO K x qual st f fd)(S:wH N ps (zX st))(hbody:∀(cdv:Value)(A:Around)(outer:List Env)(s:Shared)(H:Hp)(E:XK),zN k (A.deeper (envOfC qual (zX st) s.heap.objs.size f cdv))->
   ∃p,yb (ym yN P w K mg base N qual (zX st) f cdv A outer s H E).nox (yG st) (yA p)/\∀ds R,F ds R->p {nx:=λ_=>R .non,rt:=R} (ds.map Sl.sh++aL (N.length-ps.length) .no)) (len:vp F ps.length:=by intro _ _ h;repeat(first|exact congrArg dF h.1|obtain⟨_,h⟩:=h)):zS P w K mg base yN (k+1) f fd ps (wB F):=K4 Fu S len hbody
end
section
variable{X:Cx}{a b e:Expr}{es:List Expr}{pos pos':Pos}{pa pb:zj}{pl:yY}{x:Str}
theorem pxi(ha:PE X a (tP pa))(hb:PE X b (tP pb))(hs:Yc b:=by exactλ_ _=>rfl):PE X (.Subscript a b pos) (tP (wm ixD pa pb)):=zRK ha hb hs
theorem vQ(i:Nat)(hN:X.N.Nodup)(he:PE X e (tP pa))(hi:X.N[i]? =some x:=by rfl)(hx:uM X.env.scope x:=by first|exact Or.inl rfl|exact Or.inr rfl)(hs:swapsWith e (some (.Name x pos')) pos.line X.env=pure false:=by rfl)(hf:X.fn x=true\/X.env.scope.names.lookup x=some .local:=by first|exact .inl rfl|exact .inr rfl|assumption):PS X (.Assign [.Name x pos'] e pos) (yA (vI i pa)):=zJx i hN hi hx he hs hf
theorem uC(i:Nat)(hN:X.N.Nodup)(hi:X.N[i]? =some x:=by rfl)(hx:uM X.env.scope x:=by first|exact Or.inl rfl|exact Or.inr rfl)(hf:X.fn x=true\/X.env.scope.names.lookup x=some .local:=by first|exact .inl rfl|exact .inr rfl|assumption):PG X (.Name x pos) (tG [i] Ja):=zHl i hN hi hx hf
theorem jM{js:List Nat}{po:List D->Option (List D)}{n:Nat}(i:Nat)(hN:X.N.Nodup)(h:qH X es js po n)(hi:X.N[i]? =some x:=by rfl)(hx:uM X.env.scope x:=by first|exact Or.inl rfl|exact Or.inr rfl)
  (hs:(assignEach (.Name x pos::es) X.env).map (·.2)=assign (.Name x pos) X.env::(assignEach es X.env).map (·.2):=by rfl) (hf:X.fn x=true\/X.env.scope.names.lookup x=some .local:=by first|exact .inl rfl|exact .inr rfl|assumption):qH X (.Name x pos::es) (i::js) (Jb po) (n+1):=zFv i hN hi hx h hs hf
theorem vR(l:List Str)(h:l.Nodup:=by decide+kernel):l.Nodup:=h
theorem uo{scope S:Scope}{own N ps:List Str}{caps:List (Nat×Str)}(_:wH N ps S)(k:scope.kind=.function:=by rfl)(nd:(scope.names.map (·.1)).Nodup:=by decide+kernel)(hS:X.env.scope=S:=by rfl)(hc:∃n,X.env.cells=cellsFrom n S.names []:=by first|exact⟨0,rfl⟩|exact⟨_,rfl⟩)(hN:X.N=N:=by rfl)(fr:scope.names.all (λy=>y.2 != .free||S.names.lookup y.1==some .cell)=true:=by decide+kernel)
  (cp:caps.all (λp=>N[p.1]? ==some p.2&&scope.names.lookup p.2==some .free&&S.names.lookup p.2==some .cell)=true:=by decide+kernel):vO X scope own caps:=zNP k nd hS hc hN fr cp
theorem bki{Y:Cx}{scope S:Scope}{own own0:List Str}{caps caps0:List (Nat×Str)}{C:Addr}{s₀:Shared}{H₀:Hp}{ex:List Addr}(k:scope.kind=.function:=by rfl)(nd:(scope.names.map (·.1)).Nodup:=by decide+kernel)
  (ndS:(S.names.map (·.1)).Nodup:=by decide+kernel) (fr:scope.names.all (λy=>y.2 != .free||S.names.lookup y.1==some .cell||S.names.lookup y.1==some .free)=true:=by decide+kernel)
  (cp:caps.all (λp=>(zZ own0 caps0)[p.1]? ==some p.2&&scope.names.lookup p.2==some .free)=true:=by decide+kernel):vO (yX Y S (zZ own0 caps0) C s₀ H₀ ex) scope own caps:=zSy k nd ndS fr cp
end
end Pu
namespace L2
open PySem PySem.Spec PyProof.Rows
section
variable{X:Cx}
def WK(K:aH):R2:=λx y H Q=>∃(d:PyData)(xs:List PyData),Dp K H x d/\Dp K H y (.list xs)/\d.canLay0=true/\d8 xs=true/\d.depth<=60/\Q (.bl (xs.any λy=>cE y d)) H
theorem zOA(hu:X.A.units+64<cLine):yV X (compareOp .In) (WK X.K):=by intro pins s σ H x y v u Q I rx ry h;obtain⟨d,xs,hx,hy,hc,hxs,hd,q⟩:=h;obtain⟨_,r1⟩:=hx.reads I rx;obtain⟨_,r2⟩:=hy.reads I ry;exact SeqAt.in_list_reads r2 r1 hxs hc (by omega) ⟨.bl _,H,I,rfl,q⟩
end
end L2
namespace Pu
open PySem L2 Sh
variable[Tbl]
section
variable{X:Cx}{a b e:Expr}{pos:Pos}{pa pb:zj}
def Jk(neg:Bool):F2:=λa b R=>a.pl 50=true/\b.pl 50=true/\R (.bool (neg != cE a.py b.py))
theorem zPP:xE (gt K) (Jk false):=λZ H x y a b R Q zd hx hy ⟨h1,h2,h⟩ q=>by have d1:=wn _ _ h1;have d2:=wn _ _ h2;have e1:=d1.dep;have e2:=d2.dep;refine⟨_,_,d1.dp K H _ (hx.same zx),d2.dp K H _ (hy.same zx),d1.lay,d2.lay,by exact zA,by exact zA,q _ _ H ?_ (Sm.refl _) (.bool _)⟩;rw[Bool.false_bne]at h;exact h
theorem zPL:xE (λx y H Q=>∃d e,Dp K H x d/\Dp K H y e/\d.canLay0=true/\e.canLay0=true/\d.depth<=60/\e.depth<=60/\Q (.bl (!PyData.eqv d e)) H) (Jk true):=λZ H x y a b R Q zd hx hy ⟨h1,h2,h⟩ q=>by have d1:=wn _ _ h1;have d2:=wn _ _ h2;have e1:=d1.dep;have e2:=d2.dep;refine⟨_,_,d1.dp K H _ (hx.same zx),d2.dp K H _ (hy.same zx),d1.lay,d2.lay,by exact zA,by exact zA,q _ _ H ?_ (Sm.refl _) (.bool _)⟩;rw[Bool.true_bne]at h;exact h
def inL:F2
 |x,.lst ds,R=>x.pl 50=true/\(D.lst ds).pl 50=true/\R (.bool ((wP ds).any λy=>cE y x.py))
 |_,_,_=>False
theorem zKa:xE (WK K) inL:=λZ H x y a b R Q zd hx hy h q=>by
 cases b <;> try exact h.elim
 have d1:=wn _ _ h.1;have d2:=wn _ _ h.2.1;have e1:=d1.dep;have l2:=d2.lay;exact⟨_,_,d1.dp K H _ (hx.same zx),d2.dp K H _ (hy.same zx),d1.lay,by simpa[D.py,dy] using l2,by exact zA,q _ _ H h.2.2 (Sm.refl _) (.bool _)⟩
end
section
variable{X:Cx}{e a b:Expr}{es:List Expr}{pos:Pos}{pa pb:zj}
def zRm(i:Nat):zj:=λΓ R=>X8 (slot Γ i) λds=>R (.int ds.length)
theorem zGo(i:Nat){f x:Str}{fp xp:Pos}(hg:Gl X f)(hm:X.mg f=none)(hf:f="len":=by rfl)(hN:X.N[i]? =some x:=by rfl)(hv:j4 X.env.scope x:=by first|exact Or.inl rfl|exact Or.inr (Or.inl rfl)|exact Or.inr (Or.inr rfl))(hd:(x==("__debug__":Str))=false:=by decide)
  (hcd:(x==("__classdict__":Str))=false:=by decide) (he:starEach [Expr.Name x xp] X.env=(false,eval (.Name x xp) X.env)::starEach [] X.env:=by rfl) (hpl:(backTo pos (starEach [] X.env)).any (·.1)=false:=by rfl):PE X (.Call (.Name f fp) [.Name x xp] [] pos) (tP (zRm i)):=by
 subst hf;refine yz (U0 Ye hg hm Yj (wN (ji i hN hv hd hcd) ug) (by decide) (by decide) he hpl) λσ H Q ⟨Z,Γ,R,E,h,q⟩=>?_;obtain⟨ds,hs,h⟩:=Je h;obtain⟨l,xs,hl,hz,el,hx⟩:=E.ow i ds hs;exact⟨_,hl,l,xs,rfl,.inl (zW.of el),q _ _ H h (Sm.refl _) (by rw[wR hx];exact .int _)⟩
end
end Pu
namespace Pu
open PySem L2 Sh PyProof.Rows
variable[Tbl]
section
variable{X:Cx}{e:Expr}{te:TE}{pos p2 p3 p4:Pos}{pa:zj}
theorem zRZ(he:PE X e te):PE X (.Subscript e (.Slice none none (some (.UnaryOp .USub (.Constant (.int 1) j p4) p3)) p2) pos) (λσ H Q=>te σ H λx H1=>∃a xs,x=.ref a/\zW X.K H1 a xs/\∀p,H1 p=none->Q (.ref p) (zV H1 p (.lst xs.reverse))):=by intro pins s σ H Q I h;refine Subscript_ (zf (he pins s σ H _ I h) λv s1 ⟨x,H1,I1,r1,a,xs,ex,hx,q⟩=>?_);refine wpAny_Slice ?_;rw[evalPart_none];refine wpAny_pure (wpAny_pure ?_);refine zf (zJ7 (X:=X) (zRX zNk (zN3 (i:=1) (j:=j) (pos:=p4)))  pins s1 σ H1 (λo H'=>o=some (-1)/\H'=H1) I1 ⟨1,rfl,-1,rfl,rfl,rfl⟩) λvk s2 ⟨o,H2,I2,pk,e1,e2⟩=>?_;subst e1 e2 ex;cases r1;have I3:zB X pins σ H2 {s2 with heap:=s2.heap.push {cls:=.type "slice",data:=.fields #[.none,.none,vk]}}:=I2.kept (t':=s2.toks) λb ob q=>aO _ q;obtain⟨its,r,ht,hz⟩:=I3.list hx;refine tail_any (ops:=[.ref a,.ref s2.heap.objs.size]) ht.isList.typeIs slot_list_getitem.lookup ?_ (by with_unfolding_all rfl);refine wpAny_getItem_list_slice ht.isList (Heap.IsSliceOf.new ..) .none .none pk (by decide) ?_ (by rw[aY,<- r.length];exact hz);rw[PySem.W.krv_pick];exact⟨.ref _,_,I3.laid (t':=s2.toks) (o:=.lst xs.reverse) (λb ob q=>aO _ q) (aJ _) ⟨by rw[iH];exact hz,_,0,r.reverse,a_ _ rfl⟩,rfl,q _ (I3.hok.fresh (aJ _))⟩
def kS:D->(D->Prop)->Prop
 | .lst ds,R=>R (.lst ds.reverse)
 |_,_=>False
theorem zEf{α β:Type}{R:α->β->Prop}:∀{xs:List α}{ys:List β},Paired R xs ys->Paired R xs.reverse ys.reverse
 |_,_,.nil=>.nil
 |_,_,.cons h t=>by
  rw[eX,eX];exact gr (zEf t) (.cons h .nil)
theorem zNu(he:PE X e (tP pa)):PE X (.Subscript e (.Slice none none (some (.UnaryOp .USub (.Constant (.int 1) j p4) p3)) p2) pos) (tP (uk kS pa)):=yz (zRZ he) λσ H Q ⟨Z,Γ,R,E,h,q⟩=>
 ⟨Z,Γ,_,E,h,λd v H1 hd s1 hv=>by
  unfold kS at hd;split at hd
  ·obtain⟨a,xs,rfl,e,hx⟩:=hv.lst_inv;exact⟨a,xs,rfl,zW.of (zx _ _ e),λp hp=>q _ _ _ hd (s1.trans (xJ hp _)) (uX (E.same s1).zd hp (zEf hx))⟩
  ·exact hd.elim⟩
end
abbrev wo(Z:Addr->Prop)(l:Addr):Addr->Prop:=λb=>Z b/\b≠l
def Jl(F:FL):Sp:=λvs H Q _=>∃Z p c v0 v1 l v3 v4 d0 d1 xs ds d3 d4 R,vs=[.ref p,.int c]/\H p=some (.tup [v0,v1,.ref l,v3,v4])/\ZL Z H/\Z l/\H l=some (.lst xs)/\yD (zG Z H) xs ds/\DV (zG Z H) v0 d0/\DV (zG Z H) v1 d1/\DV (zG Z H) v3 d3/\DV (zG Z H) v4 d4/\F [d0,d1,.lst ds,d3,d4,.int c] R/\∀d v H',R d->Sm (less l H) H'->DV (zG (wo Z l) H') v d->Q v H'
abbrev WL(i:Nat)(t:u3):u3:=zSU (gN i) t
section
variable{P:Program}{w:World}{K:aH}{mg:Str->Option Value}{base:Heap}
theorem okM{st:Stmt}(Fu:wO K x qual st f fd)(S:wH N ps (zX st))(lp:ps.length=2)(n)(ln:N.length=n+7)
  (hbody:∀(cdv:Value)(A:Around)(outer:List Env)(s:Shared)(H:Hp)(E:XK),zN k (A.deeper (envOfC qual (zX st) s.heap.objs.size f cdv))->
   ∃p,yb (ym yN P w K mg base N qual (zX st) f cdv A outer s H E).nox (yG st) (gJ (wf (vB 0) (YG K 5 (WL 2 (WL 3 (WL 4 (WL 5 (WL 6 YF))))))) (yA p))/\∀d0 d1 ds d3 d4 c R,F [d0,d1,.lst ds,d3,d4,.int c] R->p {nx:=λ_=>False,rt:=R} (.no:: .sh (.int c):: .sh d0:: .sh d1:: .ow ds:: .sh d3:: .sh d4::aL n .no)):zS P w K mg base yN (k+1) f fd ps (Jl F):=
 Fu.ok S (λvs H Q E h=>by obtain⟨_,_,_,_,_,_,_,_,_,_,_,_,_,_,_,rfl,_⟩:=h;exact lp.symm) λcdv A outer s H vs Q E hr h=>by
  obtain⟨p,h1,h2⟩:=hbody cdv A outer s H E hr;refine⟨_,h1,?_⟩;obtain⟨Z,q,c,v0,v1,l,v3,v4,d0,d1,xs,ds,d3,d4,R,rfl,ep,zd,zl,el,hx,k0,k1,k3,k4,hF,hq⟩:=h
  have e:L2.wj N [.ref q,.int c]=some (.ref q)::some (.int c)::none::none::none::none::none::aL n none:=by unfold L2.wj;rw[ln,show n+7-[V.ref q,.int c].length=n+1+1+1+1+1 by simp];rfl
  rw[e];refine⟨_,rfl,q,_,rfl,yZ.of ep,rfl,_,_,rfl,_,_,rfl,_,_,rfl,_,_,rfl,_,_,rfl,rfl,?_⟩;refine⟨wo Z l,less l H,Z,_,_,⟨⟨λi d q=>?_,λi d q=>?_,λi o' c ns d q=>?_,λi j as bs l q r g h=>?_,zd,by simp⟩,λb h=>h.1,⟨λb h=>?_,Tbl.less zd.i el⟩,.of Kc,λi d l q h=>?_,λi o c ns d q=>?_⟩,h2 d0 d1 ds d3 d4 c R hF,λ_ _ _ _ _ _ h=>h.elim,λd v H' s' hv hd=>hq d v H' hd s' hv,λ_ _ _ _ _ _ h=>h.elim,λ_ _ _ _ _ _ h=>h.elim⟩
  ·rcases i with _|_|_|_|_|_|_|i
   ·cases q
   ·cases q;exact⟨_,rfl,.int c⟩
   ·cases q;exact⟨_,rfl,k0⟩
   ·cases q;exact⟨_,rfl,k1⟩
   ·cases q
   ·cases q;exact⟨_,rfl,k3⟩
   ·cases q;exact⟨_,rfl,k4⟩
   ·have:=(vJ n i).symm.trans q;cases this
  ·rcases i with _|_|_|_|_|_|_|i
   ·cases q
   ·cases q
   ·cases q
   ·cases q
   ·cases q;exact⟨_,_,rfl,zl,el,hx⟩
   ·cases q
   ·cases q
   ·have:=(vJ n i).symm.trans q;cases this
  ·rcases i with _|_|_|_|_|_|_|i <;> try cases q
   have:=(vJ n i).symm.trans q;cases this
  ·have hi:∀i as,slot (.no:: .sh (.int c):: .sh d0:: .sh d1:: .ow ds:: .sh d3:: .sh d4::aL n .no) i=.ow as->i=4:=λi as q=>by
    rcases i with _|_|_|_|_|_|_|i <;> first|rfl|cases q|skip
    have:=(vJ n i).symm.trans q;cases this
   rw[hi i as q,hi j bs r]
  ·obtain⟨u,e1,e2⟩:=zd.z b h.1;exact⟨u,(if_neg h.2).trans e1,e2⟩
  ·rcases i with _|_|_|_|_|_|_|i
   ·cases q
   ·cases q
   ·cases q
   ·cases q
   ·cases h;exact if_pos rfl
   ·cases q
   ·cases q
   ·have:=(vJ n i).symm.trans q;cases this
  ·rcases i with _|_|_|_|_|_|_|i <;> try cases q
   have:=(vJ n i).symm.trans q;cases this
end
theorem uD(h:slot (zL Γ j .no) k=x)(n:x≠.no):k≠j/\slot Γ k=x:=by
 rw[yd]at h;by_cases c:k=j/\j<Γ.length
 ·rw[if_pos c]at h;exact absurd h.symm n
 ·rw[if_neg c]at h;exact⟨λz=>c ⟨z,by rw[<- z];exact uW (by rw[h];exact n)⟩,h⟩
theorem zr.drop(E:zr Z Γ σ H)(j)(o):zr Z (zL Γ j .no) (σ.set j o) H where
 sh:=λi d e=>let ⟨n,e⟩:=uD e (by simp);let ⟨v,h1,h2⟩:=E.sh i d e;⟨v,(bv n.symm).trans h1,h2⟩
 ow:=λi ds e=>let ⟨n,e⟩:=uD e (by simp);let ⟨l,xs,h1,h2⟩:=E.ow i ds e;⟨l,xs,(bv n.symm).trans h1,h2⟩
 ob:=λi o c ns ds e=>let ⟨n,e⟩:=uD e (by simp);let ⟨dx,xs,h1,h2⟩:=E.ob i o c ns ds e;⟨dx,xs,(bv n.symm).trans h1,h2⟩
 ne:=λa b as bs l e f g h=>by obtain⟨n,e⟩:=uD e (by simp);obtain⟨m,f⟩:=uD f (by simp);rw[bv n.symm]at g;rw[bv m.symm]at h;exact E.ne a b as bs l e f g h
 zd:=E.zd
 len:=by rw[wl,bS];exact E.len
theorem zF8(zl:Z l)(s:Sm (less l H) H'):zE (zG Z H) (zG (wo Z l) H'):=λb o e=>by obtain⟨nz,eb⟩:=vP e;have n:b≠l:=λz=>nz (z▸zl);exact wb (λz=>nz z.1) (s.s b o ((if_neg n).trans eb) (jG e)) (jG e)
theorem zv.lend(E:zv Z0 H0 Z Γ σ H)(hs:slot Γ i=.ow ds)(hl:σ[i]? =some (some (.ref l)))(zl:Z l)(el:H l=some (.lst xs))(s:Sm (less l H) H'):zv Z0 H0 (wo Z l) (zL Γ i .no) σ H':=by
 have ss:=zF8 zl s;have n0:=E.own i ds l hs hl;have ow:∀k as m,k≠i->slot Γ k=.ow as->σ[k]? =some (some (.ref m))->m≠l:=λk as m n e g z=>n (E.e.ne k i as ds l e hs (z▸g) hl);refine⟨⟨λk d e=>?_,λk as e=>?_,λk o c ns as e=>?_,λa b as bs m e f g h=>?_,⟨λb hb=>?_,s.k (Tbl.less E.e.zd.i el)⟩,by rw[wl];exact E.e.len⟩,λb hb=>⟨E.z0 b hb,λz=>?_⟩,E.z0d,?_,λk as m e g=>?_,λk o c ns as e=>?_⟩
 ·obtain⟨_,e⟩:=uD e (by simp);obtain⟨v,h1,h2⟩:=E.e.sh k d e;exact⟨v,h1,h2.same ss⟩
 ·obtain⟨n,e⟩:=uD e (by simp);obtain⟨m,ys,h1,h2,h3,h4⟩:=E.e.ow k as e;have nm:=ow k as m n e h1;exact⟨m,ys,h1,⟨h2,nm⟩,s.at ((if_neg nm).trans h3),yq ss h4⟩
 ·obtain⟨_,e⟩:=uD e (by simp);obtain⟨dx,ys,h1,h2,h3,h5,h4⟩:=E.e.ob k o c ns as e;have nm:o≠l:=λz=>by rw[z,el]at h3;cases h3
  exact⟨dx,ys,h1,⟨h2,nm⟩,s.at ((if_neg nm).trans h3),h5,yq ss h4⟩
 ·exact E.e.ne a b as bs m (uD e (by simp)).2 (uD f (by simp)).2 g h
 ·obtain⟨u,e1,e2⟩:=E.e.zd.z b hb.1;have e1:less l H b=some u:=(if_neg hb.2).trans e1;cases q:jF u with
  |false=>exact⟨u,s.s b u e1 q,e2⟩
  |true=>obtain⟨u',e',n'⟩:=s.t b u e1 q;exact⟨u',e',λxs y=>by rw[y]at n';cases n'⟩
 ·obtain⟨u,e,_⟩:=E.z0d.z b hb;rw[z,n0]at e;cases e
 ·refine .trans ⟨λb o e n=>?_,λb o e n=>?_,λt=>Tbl.less (E.same.k t) el⟩ s
  ·exact(if_neg (xT e n0)).trans (E.same.s b o e n)
  ·obtain⟨o',e',n'⟩:=E.same.t b o e n;exact⟨o',(if_neg (xT e n0)).trans e',n'⟩
 ·exact E.own k as m (uD e (by simp)).2 g
 ·exact E.owb k o c ns as (uD e (by simp)).2
def WM(i j:Nat)(p0 p1 p3 p4 pc:zj)(F:FL)(js:List Nat)(po:D->Option (List D)):ye:=λD Γ=>∃ds,slot Γ i=.ow ds/\i≠j/\j<Γ.length/\p0 Γ λd0=>p1 Γ λd1=>p3 Γ λd3=>p4 Γ λd4=>pc (zL Γ j .no) λdc=>∃c,dc=.int c/\F [d0,d1,.lst ds,d3,d4,.int c] λd=>uZ (po d) λos=>D.nx (Xl (zL (zL Γ j .no) i .no) js os)
section
variable{X:Cx}{st st2:Stmt}{sts:List Stmt}{p0 p1 p3 p4 pc:zj}{q:ye}{F:FL}{js:List Nat}{po:D->Option (List D)}{i j:Nat}
theorem zML(h1:PS X st (wf (YW (uQ (tP p0) (uQ (tP p1) (uQ (vB i) (uQ (tP p3) (uQ (tP p4) w6)))))) (gN j)))(h2:PS X st2 (wf (Uz (Jl F) [] E0 (uQ (vB j) (uQ (tP pc) w6))) (tG js po)))(h3:yb X sts (yA q)):yb X (st::st2::sts) (yA (Ky (WM i j p0 p1 p3 p4 pc F js po) q)):=qI (uP h1 (uP h2 h3)) λD σ H ⟨Z0,H0,Z,Γ,Dp,E,⟨M,⟨ds,hs,ij,jn,h⟩,kM⟩,nx,rt,bk,ct⟩=>by
 obtain⟨l,xs,hl,zl,el,hx⟩:=E.e.ow i ds hs;refine⟨Z,Γ,_,E.e,h,λd0 v0 H1 h s1 k0=>⟨Z,Γ,_,E.e.same s1,h,λd1 v1 H2 h s2 k1=>⟨.ref l,hl,?_⟩⟩⟩;have s12:=s1.trans s2;refine⟨Z,Γ,_,E.e.same s12,h,λd3 v3 H3 h s3 k3=>⟨Z,Γ,_,E.e.same (s12.trans s3),h,λd4 v4 H4 h s4 k4=>⟨by show 5<=sizeLine;decide,λp hp=>?_⟩⟩⟩;have s34:=s3.trans s4;have sA:=(s12.trans s34).trans (xJ hp (.tup [v0,v1,.ref l,v3,v4]));have sB:=s34.trans (xJ hp (.tup [v0,v1,.ref l,v3,v4]));have sC:=s4.trans (xJ hp (.tup [v0,v1,.ref l,v3,v4]));have ep:=xS (H:=H4) (a:=p) (o:=.tup [v0,v1,.ref l,v3,v4]);have jl:(σ.set j (some (.ref p)))[i]? =some (some (.ref l)):=(bv ij.symm).trans hl
 have EA:zv Z0 H0 Z (zL Γ j .no) (σ.set j (some (.ref p))) (zV H4 p (.tup [v0,v1,.ref l,v3,v4])):=⟨(E.e.same sA).drop j _,E.z0,E.z0d,E.same.trans sA,λk as m e g=>by obtain⟨n,e⟩:=uD e (by simp);rw[bv n.symm]at g;exact E.own k as m e g,λk o c ns as e=>E.owb k o c ns as (uD e (by simp)).2⟩
 have hsA:slot (zL Γ j .no) i=.ow ds:=by rw[yd,if_neg (λz=>ij z.1)];exact hs
 refine⟨.ref p,cD (by have:=E.e.len;exact xh),⟨Z,zL Γ j .no,_,EA.e,h,λdc vc H5 h s5 kc=>?_⟩⟩;obtain⟨c,rfl,h⟩:=h;have ec:=kc.int_inv;subst ec;have sD:=sA.trans s5;have el5:H5 l=some (.lst xs):=sD.at el;refine⟨Z,p,c,v0,v1,l,v3,v4,d0,d1,xs,ds,d3,d4,_,rfl,s5.at ep,(EA.mv s5).e.zd,zl,el5,yq (yL sD) hx,k0.same (yL (s2.trans (sB.trans s5))),k1.same (yL (sB.trans s5)),k3.same (yL (sC.trans s5)),k4.same (yL ((xJ hp _).trans s5)),h,λd v H' hd sx kv=>?_⟩;obtain⟨os,ho,hd⟩:=ZX hd;have EL:=(EA.mv s5).lend hsA jl zl el5 sx;have sE:=(yL sD).trans (zF8 zl sx);exact⟨wo Z l,d,os,kv,ho,λvs hvs=>⟨Z0,H0,_,_,Dp,EL.setN hvs,kM _ hd,λZ2 Γ2 σ2 H2 E2 ss=>nx Z2 Γ2 σ2 H2 E2 (sE.trans ss),rt,λZ2 Γ2 σ2 H2 E2 ss=>bk Z2 Γ2 σ2 H2 E2 (sE.trans ss),λZ2 Γ2 σ2 H2 E2 ss=>ct Z2 Γ2 σ2 H2 E2 (sE.trans ss)⟩⟩
end
end Pu
namespace Pu
open PySem L2 Sh PyProof.Rows
variable[Tbl]
section
variable{Z0 Z:Addr->Prop}{H0 H H':Hp}{Γ Γ':List Sl}{σ σ':L2.St}
theorem qM(h:∀i,slot Γ' i=slot Γ i\/slot Γ' i=.no)(e:slot Γ' i=x)(n:x≠.no):slot Γ i=x:=(h i).elim (λz=>z.symm.trans e) λz=>absurd (e.symm.trans z) n
theorem zr.weak(E:zr Z Γ σ H)(l:Γ'.length=Γ.length)(h:∀i,slot Γ' i=slot Γ i\/slot Γ' i=.no):zr Z Γ' σ H:=⟨λi d e=>E.sh i d (qM h e (by simp)),λi d e=>E.ow i d (qM h e (by simp)),λi o c ns d e=>E.ob i o c ns d (qM h e (by simp)),λi j as bs m e f=>E.ne i j as bs m (qM h e (by simp)) (qM h f (by simp)),E.zd,l.trans E.len⟩
theorem zv.weak(E:zv Z0 H0 Z Γ σ H)(l:Γ'.length=Γ.length)(h:∀i,slot Γ' i=slot Γ i\/slot Γ' i=.no):zv Z0 H0 Z Γ' σ H:=⟨E.e.weak l h,E.z0,E.z0d,E.same,λi d m e=>E.own i d m (qM h e (by simp)),λi o c ns d e=>E.owb i o c ns d (qM h e (by simp))⟩
theorem zv.carry{W:Addr->Prop}(E:zv Z0 H0 Z Γ σ H)(s:Sm H H')(w:∀b,W b->H b=none/\∃xs,H' b=some (.lst xs))(ag:∀i v,slot Γ i≠.no->σ[i]? =some (some v)->σ'[i]? =some (some v))(l:σ'.length=σ.length):zv Z0 H0 (λb=>Z b\/W b) Γ σ' H':=by
 have ss:zE (zG Z H) (zG (λb=>Z b\/W b) H'):=λb o e=>by obtain⟨n,e1⟩:=vP e;exact wb (λz=>z.elim n λz=>by rw[(w b z).1]at e1;cases e1) (s.s b o e1 (jG e)) (jG e)
 have bk:∀i ds m,slot Γ i=.ow ds->σ'[i]? =some (some (.ref m))->σ[i]? =some (some (.ref m)):=λi ds m q e=>by obtain⟨m',xs,h1,_⟩:=E.e.ow i ds q;rw[ag i _ (by rw[q];simp) h1]at e;cases e;exact h1
 refine⟨⟨λi d q=>?_,λi d q=>?_,λi o c ns d q=>?_,λi j as bs m q r e f=>E.e.ne i j as bs m q r (bk _ _ _ q e) (bk _ _ _ r f),⟨λb hb=>hb.elim (λz=>(E.e.zd.same s).z b z) λz=>?_,s.k E.e.zd.i⟩,E.e.len.trans l.symm⟩,λb h=>.inl (E.z0 b h),E.z0d,E.same.trans s,λi d m q e=>E.own i d m q (bk _ _ _ q e),E.owb⟩
 ·obtain⟨v,h1,h2⟩:=E.e.sh i d q;exact⟨v,ag i v (by rw[q];simp) h1,h2.same ss⟩
 ·obtain⟨m,xs,h1,h2,h3,h4⟩:=E.e.ow i d q;exact⟨m,xs,ag i _ (by rw[q];simp) h1,.inl h2,s.at h3,yq ss h4⟩
 ·obtain⟨dx,xs,h1,h2,h3,h5,h4⟩:=E.e.ob i o c ns d q;exact⟨dx,xs,ag i _ (by rw[q];simp) h1,.inl h2,s.at h3,h5,yq ss h4⟩
 ·obtain⟨xs,e⟩:=(w b z).2;exact⟨_,e,λ_ q=>nomatch q⟩
theorem zv.upd_(E:zv Z0 H0 Z Γ σ H)(za:Z a)(n:H0 a=none)(e:H a=some (.lst xs))(ow:∀i ds,slot Γ i=.ow ds->σ[i]?≠some (some (.ref a))):zv Z0 H0 Z Γ σ (zV H a (.lst ys)):=by
 have ss:zE (zG Z H) (zG Z (zV H a (.lst ys))):=ZY za;refine⟨⟨λi d q=>?_,λi d q=>?_,λi o c ns d q=>?_,E.e.ne,⟨λb hb=>?_,Tbl.put E.e.zd.i e⟩,E.e.len⟩,E.z0,E.z0d,E.same.put n e,E.own,E.owb⟩
 ·obtain⟨v,h1,h2⟩:=E.e.sh i d q;exact⟨v,h1,h2.same ss⟩
 ·obtain⟨m,zs,h1,h2,h3,h4⟩:=E.e.ow i d q;exact⟨m,zs,h1,h2,(zu λz=>ow i d q (by rw[<- z];exact h1)).trans h3,yq ss h4⟩
 ·obtain⟨dx,zs,h1,h2,h3,h5,h4⟩:=E.e.ob i o c ns d q;exact⟨dx,zs,h1,h2,(zu λz=>by rw[z,e]at h3;cases h3).trans h3,h5,yq ss h4⟩
 ·by_cases c:b=a
  ·rw[c];exact⟨_,xS,λ_ z=>nomatch z⟩
  ·obtain⟨u,e1,n1⟩:=E.e.zd.z b hb;exact⟨u,(zu c).trans e1,n1⟩
theorem zr.shr(E:zr Z Γ σ H)(ow:∀i ds,slot Γ i≠.ow ds)(ob:∀i o c ns ds,slot Γ i≠.ob o c ns ds)(s:∀b,Z' b->Z b):zr Z' Γ σ H:=⟨λi d q=>let ⟨v,h1,h2⟩:=E.sh i d q;⟨v,h1,h2.same (kG s)⟩,λi d q=>absurd q (ow i d),λi o c ns d q=>absurd q (ob i o c ns d),λi _ as _ _ q=>absurd q (ow i as),⟨λb h=>E.zd.z b (s b h),E.zd.i⟩,E.len⟩
structure Rw(Z:Addr->Prop)(H0:Hp)(l:Addr)(as:List Addr)(rf:Nat->List Int)(σ:L2.St)(H:Hp):Prop where
 l0:H0 l=none
 lz:Z l
 le:H l=some (.lst (as.map V.ref))
 a0:∀(p:Nat)(a:Addr),as[p]? =some a->H0 a=none/\Z a/\a≠l/\H a=some (.lst ((rf p).map V.int))
 inj:∀(p q:Nat)(a:Addr),as[p]? =some a->as[q]? =some a->p=q
 t:∀m,σ[2]? =some (some (.ref m))->m≠l/\∀p:Nat,as[p]?≠some m
variable{l:Addr}{as:List Addr}{rf rf':Nat->List Int}
theorem Rw.cg(R:Rw Z H0 l as rf σ H)(h:∀p,p<as.length->rf p=rf' p):Rw Z H0 l as rf' σ H:=⟨R.l0,R.lz,R.le,λp a e=>by rw[<- h p (aN.mp e).1];exact R.a0 p a e,R.inj,R.t⟩
theorem zOq(E:zv Z0 H0 Z Γ σ H)(R:Rw Z H0 l as rf σ H)(h2:slot Γ 2=.ow T)(ow:∀j ds,slot Γ j=.ow ds->j=2)(ob:∀j o c ns ds,slot Γ j≠.ob o c ns ds):∃Zb Hb,zv Zb Hb Z Γ σ H/\∀Z2 Γ2 σ2 H2 T2,slot Γ2 2=.ow T2->zv Zb Hb Z2 Γ2 σ2 H2->zv Z0 H0 Z2 Γ2 σ2 H2/\Rw Z2 H0 l as rf σ2 H2:=by
 obtain⟨ta,tv,e2,zt,et,ht⟩:=E.e.ow 2 T h2;have n0:=E.own 2 T ta h2 e2;obtain⟨tl,tr⟩:=R.t ta e2;have hb:∀{b o},H b=some o->b≠ta->less ta H b=some o:=λe n=>(if_neg n).trans e;have S0:Sm H0 (less ta H):=⟨λb o e n=>hb (E.same.s b o e n) (xT e n0),λb o e n=>let ⟨o',e',n'⟩:=E.same.t b o e n;⟨o',hb e' (xT e n0),n'⟩,λi=>Tbl.less (E.same.k i) et⟩
 refine⟨wo Z ta,less ta H,⟨E.e,λb h=>h.1,⟨λb h=>?_,Tbl.less E.e.zd.i et⟩,.of Kc,λj ds m q e=>?_,λj o c ns ds q=>absurd q (ob j o c ns ds)⟩,λZ2 Γ2 σ2 H2 T2 q2 E2=>⟨⟨E2.e,λb h=>E2.z0 b ⟨E.z0 b h,λz=>?_⟩,E.z0d,S0.trans E2.same,λj ds m q e=>S0.free (E2.own j ds m q e),λj o c ns ds q=>S0.free (E2.owb j o c ns ds q)⟩,R.l0,E2.z0 _ ⟨R.lz,tl.symm⟩,E2.same.at (hb R.le tl.symm),λp a h=>?_,R.inj,λm h=>?_⟩⟩
 ·obtain⟨u,e,n⟩:=E.e.zd.z b h.1;exact⟨u,hb e h.2,n⟩
 ·cases ow j ds q;rw[e2]at e;cases e;exact if_pos rfl
 ·obtain⟨u,e,_⟩:=E.z0d.z b h;rw[z,n0]at e;cases e
 ·obtain⟨a1,a2,a3,a4⟩:=R.a0 p a h;have na:a≠ta:=λz=>tr p (z▸h);exact⟨a1,E2.z0 _ ⟨a2,na⟩,a3,E2.same.at (hb a4 na)⟩
 ·have k:=E2.own 2 T2 m q2 h;refine⟨λz=>?_,λp q=>?_⟩
  ·rw[z,hb R.le tl.symm]at k;cases k
  ·obtain⟨_,_,_,a4⟩:=R.a0 p m q;rw[hb a4 λz=>tr p (z▸q)]at k;cases k
theorem kT(E:zv Z0 H0 Z Γ σ H)(Γ')(h:p {nx:=λΓ2=>Γ2=Γ',rt:=λ_=>False} Γ)(q:∀Z' σ' H',zv Z0 H0 Z' Γ' σ' H'->Sm H0 H'->t D0 σ' H'):gJ (yA p) t D0 σ H:=⟨Z0,H0,Z,Γ,_,E,h,λZ' _ σ' H' E' _ e=>q Z' σ' H' (e▸E') E'.same,λ_ _ _ _ _ h=>h.elim,λ_ _ _ _ _ _ h=>h.elim,λ_ _ _ _ _ _ h=>h.elim⟩
theorem zJV{K:aH}(E:zv Z0 H0 Z Γ σ H)(R:Rw Z H0 l as rf σ H)(h3:slot Γ 3=.sh (.raw l))(l9:8<Γ.length)(ow:∀j ds,slot Γ j=.ow ds->j=2)(ob:∀j o c ns ds,slot Γ j≠.ob o c ns ds)
  (hs:∀p,p<as.length->∃x z j,pe (zL (zL (zL Γ 2 .no) 8 .no) 8 (.sh (L (rf p)))) (λd=>d=.int x)/\pi (zL (zL (zL Γ 2 .no) 8 .no) 8 (.sh (L (rf p)))) (λd=>d=.int z)/\xw (rf p).length z=some j/\rf' p=(rf p).set j x)
  (q:∀σ' H',zv Z0 H0 Z (zL Γ 8 .no) σ' H'->Rw Z H0 l as rf' σ' H'->D0.nx σ' H'):YK (zSN K (uO 3)) (gN 8) (wf (tP pe) (gQ (uO 8) (tP pi) zQ9)) D0 σ H:=by
 obtain⟨v,e3,hv⟩:=E.e.sh 3 _ h3;cases hv;refine⟨_,e3,l,rfl,⟨_,zW.of R.le⟩,zID (a:=l) (xs:=as.map V.ref) (λk σ' H'=>zv Z0 H0 Z (zL Γ 8 .no) σ' H'/\Rw Z H0 l as (λp=>if p<k then rf' p else rf p) σ' H') ⟨E.weak (wl ..) λi=>?_,R.cg λp _=>(if_neg (df p)).symm⟩ (λk σ' H' _ h=>zW.of h.2.le) ?_ λσ' H' h=>q _ _ h.1 (h.2.cg λp hp=>if_pos (by rw[aB];exact hp))⟩
 ·rw[yd];split
  ·exact .inr rfl
  ·exact .inl rfl
 rintro k x σ1 H1 hk ⟨E1,R1⟩;rw[aV]at hk;cases ha:as[k]? with
 |none=>rw[ha]at hk;cases hk
 |some a=>
  rw[ha]at hk;cases hk;obtain⟨h0,za,nl,ea⟩:=R1.a0 k a ha;have ea:H1 a=some (.lst ((rf k).map V.int)):=by simpa using ea
  obtain⟨x,z,j,hpe,hpi,hj,hw⟩:=hs k (aN.mp ha).1;have l1:8<σ1.length:=by rw[<- E1.e.len,wl];exact l9
  have g2:(σ1.set 8 (some (.ref a)))[2]? =σ1[2]?:=bv (by decide)
  have o8:∀{i ds y},slot (zL Γ 8 y) i=.ow ds->(∀ds,y≠.ow ds)->slot Γ i=.ow ds:=λ{i ds y} q n=>by
   rw[yd]at q;split at q
   ·exact absurd q (n _)
   ·exact q
  have b8:∀{i o c ns ds},slot (zL Γ 8 .no) i≠.ob o c ns ds:=λ{i o c ns ds} q=>by
   rw[yd]at q;split at q
   ·cases q
   ·exact ob _ _ _ _ _ q
  have Er:∀{H2},Sm H1 H2->zr (wo Z a) (zL (zL (zL Γ 2 .no) 8 .no) 8 (.sh (L (rf k)))) (σ1.set 8 (some (.ref a))) H2:=λ{H2} s=>by
   have w:∀i,slot (zL (zL Γ 2 .no) 8 .no) i=slot (zL Γ 8 .no) i\/slot (zL (zL Γ 2 .no) 8 .no) i=.no:=λi=>by
    rw[yd,yd,yd,wl];by_cases c:i=8/\8<Γ.length
    ·rw[if_pos c];exact .inr rfl
    ·rw[if_neg c,if_neg c];by_cases d:i=2/\2<Γ.length
     ·rw[if_pos d];exact .inr rfl
     ·rw[if_neg d];exact .inl rfl
   refine zr.set (((E1.e.same s).weak (by rw[wl,wl,wl]) w).shr (λi ds q=>?_) (λi o c ns ds q=>b8 (qM w q (by simp))) λb h=>h.1) (.lst (wb (λz=>z.2 rfl) (s.at ea)) JT) 8;have i2:=ow i ds (o8 (qM w q (by simp)) (by simp));rw[i2,yd,if_neg (by omega),yd,if_pos ⟨rfl,by exact uJ⟩]at q;cases q
  refine⟨wo Z a,_,_,Er (Sm.refl _),hpe,λd v H2 hd s2 hv=>?_⟩;subst hd;cases hv;refine⟨.ref a,cD l1,wo Z a,_,_,Er s2,hpi,λd v H3 hd s3 hv=>?_⟩;subst hd;cases hv;have s:=s2.trans s3;refine⟨a,_,z,j,rfl,rfl,s.at ea,by rw[aB];exact hj,(((E1.set (.raw a) 8).mv s).upd_ za h0 (s.at ea) λi ds q e=>?_).weak (by rw[wl,wl,wl]) λi=>?_,R1.l0,R1.lz,(zu nl.symm).trans (s.at R1.le),λp b hb=>?_,R1.inj,λm h=>R1.t m (g2▸h)⟩
  ·rw[yd]at q;split at q
   ·cases q
   ·rw[ow i ds (o8 q (by simp)),g2]at e;exact(R1.t a e).2 k ha
  ·rw[yd,yd];by_cases c:i=8/\8<Γ.length
   ·rw[if_pos c];exact .inr rfl
   ·rw[if_neg c,wl,if_neg c,yd,if_neg c];exact .inl rfl
  ·by_cases c:p=k
   ·subst c;rw[ha]at hb;cases hb;refine⟨h0,za,nl,?_⟩;rw[xS,if_pos (bW _),hw,lg]
   ·obtain⟨c1,c2,c3,c4⟩:=R1.a0 p b hb;refine⟨c1,c2,c3,(zu (show b≠a fromλz=>c (R1.inj p k a (z▸hb) ha))).trans ((s.at c4).trans ?_)⟩;by_cases d:p<k
    ·rw[if_pos d,if_pos (by exact yO)]
    ·rw[if_neg d,if_neg (by omega)]
theorem zJk:∀{xs:List V}{rs:List (List Int)},yD Hh xs (rs.map L)->∃as,xs=as.map V.ref/\Paired (λa r=>Hh a=some (.lst (r.map V.int))) as rs
 |_,[],.nil=>⟨[],rfl,.nil⟩
 |_,_::_,.cons h t=>by
  obtain⟨as,rfl,p⟩:=zJk t;obtain⟨a,xs,rfl,e,hx⟩:=h.lst_inv;cases kF hx;exact⟨a::as,rfl,.cons e p⟩
end
end Pu
namespace Vg
open PySem L2 Sh Pu
open PyProof.Rows (envOfC)
variable[Tbl]
noncomputable def pr:Stmt->List Str
 | .FunctionDef _ a ..=>(a.posonlyargs++a.args).map (·.arg)
 |_=>[]
noncomputable def pr0(s:Stmt):Str:=(pr s).headD lW
structure Ct where
 kd:Nat
 x:Str
 cl:Nat
 st:Stmt
 F:FL
 dv:Int
structure Cf where
 k:Bool
 N:List Str
 sc:Scope
 T:List Ct
 K:aH
 a:Nat->Addr
 cn:List Str
 cf:List (List Str)
 cs:List (Str×Int)
abbrev R(α:Type):=Option (α×List Nat)
noncomputable def bd{α β:Type}(a:R α)(f:α->List Nat->R β):R β:=match a with
 |some (x,h)=>f x h
 |none=>none
noncomputable def hd{β:Type}(h:List Nat)(f:Nat->List Nat->R β):R β:=match h with
 |i::t=>f i t
 |[]=>none
noncomputable def ck{β:Type}(k b:Bool)(f:(k=true->b=true)->R β):R β:=match k,b,f with
 |false,_,f=>f λz=>nomatch z
 |true,true,f=>f λ_=>rfl
 |true,false,_=>none
noncomputable def op{α β:Type}(a:Option α)(f:∀x,a=some x->R β):R β:=match a,f with
 |some x,f=>f x rfl
 |none,_=>none
noncomputable def tkW{β:Type}:Nat->List Nat->(List Nat->List Nat->R β)->R β
 |0,h,k=>k [] h
 |_+1,[],_=>none
 |n+1,i::h,k=>tkW n h λl h=>k (i::l) h
theorem ad(h:(a&&b)=true):a=true/\b=true:=(bQ ..)▸h
noncomputable def uE:Expr->Bool
 | .Starred ..=>false
 |_=>true
noncomputable def kU:Expr->Bool
 | .Set ..=>false
 |_=>true
noncomputable def Jm:Expr->Bool
 | .Call ..=>false
 |_=>true
noncomputable def WN:Expr->Bool
 | .Slice ..=>false
 |_=>true
noncomputable def tv:Expr->Bool
 | .Name ..=>true
 | .Call ..=>true
 | .Attribute ..=>true
 | .Subscript ..=>true
 | .Constant ..=>true
 |_=>false
theorem xL(es)(env)(h:uE e=true):starEach (e::es) env=(false,eval e env)::starEach es env:=by cases e <;> first|rfl|cases h
theorem zQw(env):∀{es:List Expr},es.all uE=true->(starEach es env).any (·.1)=false
 |[],_=>rfl
 |e::es,h=>by
  rw[dj,bQ]at h;rw[xL es env h.1];exact zQw env h.2
theorem uq(pos)(env)(h:es.all uE=true):(backTo pos (starEach es env)).any (·.1)=false:=by unfold backTo;rw[List.any_map];exact zQw env h
theorem kW{op:CmpOp}(h:kU b=true):behindInMarks op b=false:=by cases b <;> first|rfl|cases h
theorem kX(env)(h:kU e=true)(x):foldedSetIterable e env x=pure x:=by cases e <;> first|rfl|cases h
theorem zS0(f)(env)(h:Jm e=true):attributeBase e f env (eval e env)=eval e env:=by cases e <;> first|rfl|cases h
theorem WO{e:Expr}(m:Str)(a pos:Pos)(env:Env)(h:Jm e=true)(l:a.endLine=pos.line):eval (.Call (.Attribute e m a) [] [] pos) env=(do
  let ov <- eval e env
  standAt a.atName
  let (f,first) <- holding [ov] (getMethod ov m (do return(<- importBound e env).getD true))
  callWith pos f first (backTo pos (starEach [] env)) (backToKw pos (keywordEach [] env))):=by
 show(do
  let ov <- attributeBase e m env (eval e env)
  standAt a.atName
  methodCall e m a pos env ov 0 (backTo pos (starEach [] env)) (backToKw pos (keywordEach [] env)))=_
 rw[zS0 _ _ h]
 have w:methodCallPos true e env a pos=pure pos:=by unfold methodCallPos;rw[show(!true||a.endLine==pos.line)=true by rw[l];simp];rfl
 have z:methodCallForm 0 (backTo pos (starEach [] env)) (backToKw pos (keywordEach [] env))=true:=rfl;unfold methodCall;rw[z,w];rfl
theorem zNz(h:WN b=true):Yc b:=λo i=>by cases b <;> first|rfl|cases h
theorem tvI(env)(h:tv e=true):∀whole,isTrue e env whole=(do let v <- whole;standAt e.pos;holding [v] (truthy v)):=by cases e <;> first|(intro _;rfl)|cases h
theorem oq{α:Type}[BEq α][LawfulBEq α]{x y z:α}(h:(x==y||x==z)=true):x=y\/x=z:=((iq ..)▸h:_\/_).imp eq_of_beq eq_of_beq
noncomputable def loc(s:Scope)(x:Str):Bool:=s.names.lookup x==some .local||s.names.lookup x==some .cell
noncomputable def jq(s:Scope)(x:Str):Bool:=(loc s x||s.names.lookup x==some .free)&&(!(x==("__debug__":Str))&&!(x==("__classdict__":Str)))
noncomputable def jN(s:Scope)(x:Str):Bool:=s.names.lookup x==some .globalImplicit&&!(x==("__debug__":Str))
noncomputable def at_(N:List Str)(i:Nat)(x:Str):Bool:=match N[i]? with
 |some y=>y==x
 |none=>false
theorem jO(h:at_ N i x=true):N[i]? =some x:=by
 unfold at_ at h;split at h
 ·rename_i e;exact e.trans (by rw[eq_of_beq h])
 ·cases h
def Ct.Ok(P:Program)(w:World)(K:aH)(mg:Str->Option Value)(base:Heap)(a:Nat->Addr)(lv:Nat)(t:Ct):Prop:=match t.kd with
 |0=>Fn P w K mg base t.x (pr t.st) lv (wB t.F)
 |1=>u7 P w K mg base t.x (pr t.st) lv (wB t.F) (.int t.dv)
 |2=>qi P w K mg base (a t.cl) t.x (pr t.st) lv (wB t.F)
 |3=>jh P w K mg base (a t.cl) (pr t.st) lv (vo (a t.cl) t.F)
 |_=>xj P w K mg base (a t.cl) (pr t.st) lv (vo (a t.cl) t.F) (.int t.dv)
structure Vx(c:Cf)(X:Cx):Prop where
 k:c.k=true
 N:X.N=c.N
 nd:c.N.Nodup
 kf:∀x k,c.sc.names.lookup x=some k->X.env.kindOf x=some k\/(k=.free/\X.env.kindOf x=some .cell)
 ce:∀x,c.sc.names.lookup x=some .cell\/c.sc.names.lookup x=some .free->(X.env.cells.lookup x).isSome=true
 fn:∀x,loc c.sc x=true->X.fn x=true\/X.env.scope.names.lookup x=some .local
 calm:X.calm=true
 K:X.K=c.K
 rm:∃lv,zN (lv+1) X.A/\∀t∈c.T,t.Ok X.prog X.w X.K X.mg X.base c.a lv
 cl:∀(i:Nat)(x:Str),c.cn[i]? =some x->xV X.K X.mg x (c.a i)
 cf:∀(i:Nat)(fs:List Str)(f:Str),c.cf[i]? =some fs->f∈fs->WC X.K (c.a i) f
 cs:∀(i:Nat)(x:Str)(n:Int),c.cs[i]? =some (x,n)->∃t,X.mg x=some (.int n t)
 bl:∀x∈(["isinstance","int","bool","tuple","len","all","any","list","range","zip","sum","max","enumerate","min","abs"]:List Str),X.mg x=none
variable{c:Cf}{X:Cx}
theorem Vx.gl(V:Vx c X)(h:jN c.sc x=true):Gl X x/\(x==("__debug__":Str))=false:=by unfold jN at h;rw[bQ]at h;exact⟨(V.kf x _ (eq_of_beq h.1)).resolve_right (λz=>nomatch z.1),by simpa using h.2⟩
theorem Vx.lo(V:Vx c X)(h:loc c.sc x=true):uM X.env.scope x:=(oq h).imp (λe=>(V.kf x _ e).resolve_right λz=>nomatch z.1) λe=>(V.kf x _ e).resolve_right λz=>nomatch z.1
theorem Vx.vi(V:Vx c X)(h:jq c.sc x=true):j4 X.env.scope x/\(x==("__debug__":Str))=false/\(x==("__classdict__":Str))=false:=by unfold jq at h;rw[bQ,iq]at h;refine⟨?_,by simpa using h.2⟩;exact h.1.elim (λh=>(V.lo h).elim .inl λe=>.inr (.inl e)) λe=>.inr ((V.kf x _ (eq_of_beq e)).elim .inr λz=>.inl z.2)
theorem Vx.sl(V:Vx c X)(h:at_ c.N i x=true):X.N[i]? =some x:=by rw[V.N];exact jO h
theorem Vx.fq(V:Vx c X)(q:(c.cf.getD i []).contains f=true):WC X.K (c.a i) f:=by
 refine V.cf i (c.cf.getD i []) _ ?_ (List.contains_iff_mem.mp q);rw[aD]at q|-
 cases e:c.cf[i]? with
 |none=>rw[e]at q;cases q
 |some x=>rfl
theorem Vx.hu(V:Vx c X):X.A.units+64<cLine:=by obtain⟨_,h,_⟩:=V.rm;have:=h.un;omega
noncomputable def WP:Operator->Option F2
 | .Add=>some qF
 | .Sub=>some kH
 | .Mult=>some XM
 | .FloorDiv=>some Kg
 | .Mod=>some qG
 | .Pow=>some XO
 |_=>none
theorem binR(h:WP o=some f):∃r,yV X (binaryOp o) r/\xE r f:=by
 cases o <;> cases h
 ·exact⟨_,zOC.or (zOB.or zSE),zKc⟩
 ·exact⟨_,zN9,zKX⟩
 ·exact⟨_,zPG.or zRs,zPM⟩
 ·exact⟨_,zKW,zKZ⟩
 ·exact⟨_,zRt,zPK⟩
 ·exact⟨_,zHy,zH1⟩
noncomputable def qN:CmpOp->Option F2
 | .Lt=>some (jH λi j=>decide (i<j))
 | .LtE=>some (jH λi j=>decide (i<=j))
 | .Gt=>some (jH λi j=>decide (j<i))
 | .GtE=>some (jH λi j=>decide (j<=i))
 |_=>none
theorem kY(h:qN o=some f):∃r,yV X (compareOp o) r/\xE r f:=by
 cases o <;> cases h
 ·exact⟨_,YQ,JV⟩
 ·exact⟨_,YR,JV⟩
 ·exact⟨_,YS,JV⟩
 ·exact⟨_,YT,JV⟩
noncomputable def kZ:CmpOp->Nat->Option F2
 | .Eq,0=>some JW
 | .Eq,_=>some (Jk false)
 | .NotEq,0=>some kI
 | .NotEq,_=>some (Jk true)
 | .Is,0=>some isD
 | .Is,_=>some isG
 | .IsNot,_=>some WI
 | .NotIn,_=>some WJ
 | .In,_=>some inL
 |o,_=>qN o
theorem WQ(hu:X.A.units+64<cLine)(h:kZ o i=some f):∃r,yV X (compareOp o) r/\xE r f:=by
 cases o <;> try exact kY h
 all_goals cases i <;> cases h
 ·exact⟨_,Qd.or (U9 hu),Kk⟩
 ·exact⟨_,U9 hu,zPP⟩
 ·exact⟨_,zRu.or (Qu hu),zOD⟩
 ·exact⟨_,Qu hu,zPL⟩
 ·exact⟨_,zRw,zRy⟩
 ·exact⟨_,L2.zRv,zPN⟩
 ·exact⟨_,zKU,zH0⟩
 ·exact⟨_,zKU,zH0⟩
 ·exact⟨_,zOA hu,zKa⟩
 ·exact⟨_,zOA hu,zKa⟩
 ·exact⟨_,zF2 hu,zKY⟩
 ·exact⟨_,zF2 hu,zKY⟩
noncomputable def blW:Nat->Option (Str×FL)
 |0=>some ("len",Xe)
 |1=>some ("sum",Xg)
 |2=>some ("max",Xi)
 |3=>some ("min",Xj)
 |4=>some ("all",Xh)
 |5=>some ("any",WF)
 |6=>some ("abs",kR)
 |7=>some ("tuple",Xf)
 |8=>some ("list",zR6)
 |9=>some ("int",Xk)
 |10=>some ("max",zR4)
 |_=>none
theorem blR(V:Vx c X)(h:blW i=some (x,f))(hg:Gl X x)(ha:PA X (e::es) (xb pl))(hs:(e::es).all uE=true):PE X (.Call (.Name x p) (e::es) [] pos) (tP (wx f pl)):=by
 rw[dj,bQ]at hs;have h1:=xL es X.env hs.1;have h2:=uq pos X.env hs.2;have b:=V.bl;rcases i with _|_|_|_|_|_|_|_|_|_|_|i <;> cases h
 ·exact jI Ye JZ hg (b _ (by decide)) Yj ha (by decide) (by decide) h1 h2
 ·exact jI (zNH V.calm) zP5 hg (b _ (by decide)) zLT ha (by decide) (by decide) h1 h2
 ·exact jI (zLR V.calm) zP7 hg (b _ (by decide)) zGL ha (by decide) (by decide) h1 h2
 ·exact jI (zLP V.calm) zP6 hg (b _ (by decide)) zGK ha (by decide) (by decide) h1 h2
 ·exact jI (zNJ V.calm) zQA hg (b _ (by decide)) zLV ha (by decide) (by decide) h1 h2
 ·exact jI (zNI V.calm) zP9 hg (b _ (by decide)) zLU ha (by decide) (by decide) h1 h2
 ·exact jI zNK zQB hg (b _ (by decide)) zLW ha (by decide) (by decide) h1 h2
 ·exact JY zFY zP4 hg (b _ (by decide)) zD8 ha (by decide) (by decide) h1 h2
 ·exact JY Qq zIV hg (b _ (by decide)) Yk ha (by decide) (by decide) h1 h2
 ·exact JY zLS zP8 hg (b _ (by decide)) zGM ha (by decide) (by decide) h1 h2
 ·exact jI (zLQ V.calm) zNL hg (b _ (by decide)) zGL ha (by decide) (by decide) h1 h2
noncomputable def knW:Nat->Option (Str×String×(D->Bool))
 |0=>some ("int","int",D.isInt)
 |1=>some ("bool","bool",D.isBool)
 |2=>some ("list","list",D.isLst)
 |3=>some ("tuple","tuple",D.isTup)
 |_=>none
theorem knR(V:Vx c X)(h:knW i=some (x,t,f))(hg:Gl X x):(∀p,PE X (.Name x p) (tC (.ty t)))/\∀H v d,DV H v d->d.isObj=false->∃u,yQ X.K H v u/\bG X.K u (.type t)=some (f d):=by
 have b:=V.bl;rcases i with _|_|_|_|i <;> cases h
 ·exact⟨λ_=>Up (v:=.ty "int") (u:=.type "int") hg (b _ (by decide)) zGM rfl,zSI⟩
 ·exact⟨λ_=>Up (v:=.ty "bool") (u:=.type "bool") hg (b _ (by decide)) zI4 rfl,zMy⟩
 ·exact⟨λ_=>Up (v:=.ty "list") (u:=.type "list") hg (b _ (by decide)) Yk rfl,zPa⟩
 ·exact⟨λ_=>Up (v:=.ty "tuple") (u:=.type "tuple") hg (b _ (by decide)) zD8 rfl,zMz⟩
noncomputable def cf_(s:Scope)(x:Str):Bool:=s.names.lookup x==some .cell||s.names.lookup x==some .free
theorem WR(h:cf_ s x=true):s.names.lookup x=some .cell\/s.names.lookup x=some .free:=oq h
noncomputable def jP(c:Cf)(s:Scope)(caps:List (Nat×Str)):Bool:=s.kind== .function&&(decide (s.names.map (·.1)).Nodup&&(s.names.all (λy=>y.2 != .free||cf_ c.sc y.1)&&caps.all λp=>at_ c.N p.1 p.2&&(s.names.lookup p.2==some .free&&cf_ c.sc p.2)))
theorem Vx.blk(V:Vx c X)(h:jP c s caps=true):vO X s own caps:=by
 unfold jP at h;simp only[bQ,decide_eq_true_eq,beq_iff_eq]at h;obtain⟨h1,h2,h3,h4⟩:=h;refine⟨h1,h2,λy hy e=>gn h2 (by rw[<- e];exact hy),λy hy e=>V.ce _ (WR ?_),λp hp=>?_⟩
 ·have q:=aT.mp h3 y hy;rw[e]at q;simpa using q
 ·have q:=aT.mp h4 p hp;simp only[bQ,beq_iff_eq]at q;refine⟨V.sl q.1,q.2.1,?_⟩;rcases WR q.2.2 with e|e
  ·exact .inl ((V.kf _ _ e).resolve_right λz=>nomatch z.1)
  ·exact(V.kf _ _ e).elim .inr λz=>.inl z.2
noncomputable abbrev Cf.in_(c:Cf)(s:Scope)(N:List Str):Cf:={c with N:=N,sc:=s}
theorem Vx.inn(V:Vx c X){N:List Str}(nd:N.Nodup)(C)(s₀)(H₀)(ex)(hc:∀y∈s.names,y.2=.free->cf_ c.sc y.1=true):Vx (c.in_ s N) (yX X s N C s₀ H₀ ex) where
 k:=V.k
 N:=rfl
 nd:=nd
 kf:=λx k e=>by
  show(relabel s X.env).names.lookup x=some k\/k=.free/\(relabel s X.env).names.lookup x=some .cell;rw[U6,show s.names.lookup x=some k from e,dX];split
  ·rename_i q;simp only[bQ,beq_iff_eq]at q;exact .inr ⟨q.1.1,rfl⟩
  ·exact .inl rfl
 ce:=λx e=>by
  show((cellsFrom (C+1) s.names (vN s X.env)).lookup x).isSome=true;refine cB _ _ _ ?_;rcases e with e|e
  ·exact .inl e
  ·obtain⟨d,q⟩:=U4 (env:=X.env) (qd e);exact .inr (by rw[q];rfl)
 fn:=λx e=>by
  rcases oq e with q|q
  ·right;show(relabel s X.env).names.lookup x=_;rw[U6,q];rfl
  ·left;show(s.names.lookup x==some .cell)=true;rw[q];rfl
 calm:=V.calm
 K:=V.K
 rm:=V.rm
 cl:=V.cl
 cf:=V.cf
 cs:=V.cs
 bl:=V.bl
structure SG(c:Cf)(e:Expr)where
 j:List Nat
 p:D->Option (List D)
 o:c.k=true->∀X,Vx c X->PG X e (tG j p)/\∀d os,p d=some os->os.length=j.length
structure SGs(c:Cf)(es:List Expr)where
 j:List Nat
 p:List D->Option (List D)
 o:c.k=true->∀X,Vx c X->qH X es j p es.length
theorem WS(es)(env)(h:uE e=true):assignEach (e::es) env=(false,assign e env)::assignEach es env:=by cases e <;> first|rfl|cases h
theorem WT(env):∀{es:List Expr},es.all uE=true->(assignEach es env).length=es.length/\(assignEach es env).findIdx? (·.1)=none
 |[],_=>⟨rfl,rfl⟩
 |e::es,h=>by
  have h:=ad h;have q:=WT env h.2;rw[WS es env h.1,bF,bF,q.1,List.findIdx?_cons,q.2];exact⟨rfl,rfl⟩
mutual
noncomputable def gW(c:Cf):Nat->(e:Expr)->List Nat->R (SG c e)
 |0=>λ_ _=>none
 |n+1=>λe h=>match e with
  | .Name x _=>hd h λi h=>ck c.k (at_ c.N i x&&loc c.sc x) λq=>some (⟨[i],Ja,λk X V=>⟨zHl i (V.N▸V.nd) (V.sl (ad (q k)).1) (V.lo (ad (q k)).2) (V.fn _ (ad (q k)).2),vn⟩⟩,h)
  | .Tuple es _ _=>ck c.k (es.all uE) λq=>bd (gWs c n es h) λ|⟨a,b,o⟩,h=>some (⟨a,Ks b,λk X V=>have a:=WT X.env (q k);⟨Xn V.calm (o k X V) a.1 a.2,zFy (o k X V).k⟩⟩,h)
  |_=>none
noncomputable def gWs(c:Cf):Nat->(es:List Expr)->List Nat->R (SGs c es)
 |0=>λ_ _=>none
 |n+1=>λes h=>match es with
  |[]=>some (⟨[],Kr,λ_ _ _=>Xm⟩,h)
  | .Name x _::es=>hd h λi h=>ck c.k (at_ c.N i x&&loc c.sc x) λq=>bd (gWs c n es h) λ|⟨a,b,o⟩,h=>some (⟨i::a,Jb b,λk X V=>zFv i (V.N▸V.nd) (V.sl (ad (q k)).1) (V.lo (ad (q k)).2) (o k X V) rfl (V.fn _ (ad (q k)).2)⟩,h)
  |e::es=>ck c.k (uE e) λq=>bd (gW c n e h) λ|⟨j,k,o⟩,h=>bd (gWs c n es h) λ|⟨a,b,o'⟩,h=>some (⟨j++a,zNy k b,λk X V=>zJ2 (o k X V).1 (o k X V).2 (o' k X V) (by rw[WS _ _ (q k)];rfl)⟩,h)
end
noncomputable def WU:Nat->Expr->List Str
 |_,.Name x _=>[x]
 |n+1,.Tuple es _ _=>es.flatMap (WU n)
 |_,_=>[]
def WV(C:Addr)(f:Str):D->(D->Prop)->Prop
 | .obj b ns ds,R=>b=C/\∃d,(ns.zip ds).lookup f=some d/\R d
 |_,_=>False
abbrev SE(c:Cf)(e:Expr):={p:zj//c.k=true->∀X,Vx c X->PE X e (tP p)}
abbrev ST(c:Cf)(e:Expr):={p:xq//c.k=true->∀X,Vx c X->PT X e (y8 p)}
structure Rc where
 e:(c:Cf)->(e:Expr)->List Nat->R (SE c e)
 t:(c:Cf)->(e:Expr)->List Nat->R (ST c e)
noncomputable def aW(r:Rc)(c:Cf):(es:List Expr)->List Nat->R {p:yY//c.k=true->es.all uE=true/\∀X,Vx c X->PA X es (xb p)}
 |[],h=>some (⟨kJ,λ_=>⟨rfl,λ_ _=>yW⟩⟩,h)
 |e::es,h=>ck c.k (uE e) λn=>bd (r.e c e h) λ|⟨p,I⟩,h=>bd (aW r c es h) λ|⟨q,J⟩,h=>some (⟨Kp p q,λk=>⟨by rw[dj,n k,(J k).1];rfl,λX V=>zQ (I k X V) ((J k).2 X V) (xL es _ (n k))⟩⟩,h)
noncomputable def Jn(r:Rc)(c:Cf):(an:Bool)->(es:List Expr)->List Nat->R {p:zj//c.k=true->∀X pos,Vx c X->PE X (.BoolOp (match an with|true=>.And|false=>.Or) es pos) (tP p)}
 |_,[],_=>none
 |_,[e],h=>bd (r.e c e h) λ|⟨p,I⟩,h=>some (⟨p,λk X _ V=>zRG (I k X V)⟩,h)
 |true,e::f::es,h=>bd (r.e c e h) λ|⟨p,I⟩,h=>bd (Jn r c true (f::es) h) λ|⟨q,J⟩,h=>some (⟨zRr p q,λk X s V=>zRL (I k X V) (J k X s V)⟩,h)
 |false,e::f::es,h=>bd (r.e c e h) λ|⟨p,I⟩,h=>bd (Jn r c false (f::es) h) λ|⟨q,J⟩,h=>some (⟨XW p q,λk X s V=>XX (I k X V) (J k X s V)⟩,h)
noncomputable def Jo(r:Rc)(c:Cf):(an:Bool)->(es:List Expr)->List Nat->R {p:xq//c.k=true->∀X pos,Vx c X->PW X (.BoolOp (match an with|true=>.And|false=>.Or) es pos) (y8 p)}
 |_,[],_=>none
 |true,[e],h=>bd (r.t c e h) λ|⟨p,I⟩,h=>some (⟨p,λk X _ V=>zHj (I k X V)⟩,h)
 |false,[e],h=>bd (r.t c e h) λ|⟨p,I⟩,h=>some (⟨p,λk X _ V=>zOu (I k X V)⟩,h)
 |true,e::f::es,h=>bd (r.t c e h) λ|⟨p,I⟩,h=>bd (Jo r c true (f::es) h) λ|⟨q,J⟩,h=>some (⟨XU p q,λk X s V=>zJp (I k X V) (J k X s V)⟩,h)
 |false,e::f::es,h=>bd (r.t c e h) λ|⟨p,I⟩,h=>bd (Jo r c false (f::es) h) λ|⟨q,J⟩,h=>some (⟨pOr p q,λk X s V=>zRE (I k X V) (J k X s V)⟩,h)
noncomputable def oW(r:Rc)(c:Cf)(e:Option Expr)(h:List Nat):R {p:ZV//c.k=true->∀X,Vx c X->PO X e (qt p)}:=match e with
 |none=>some (⟨zKR,λ_ _ _=>zMN⟩,h)
 |some e=>bd (r.e c e h) λ|⟨p,I⟩,h=>some (⟨zRj p,λk X V=>Xd (I k X V)⟩,h)
noncomputable def iW(r:Rc)(c:Cf)(tg e:Expr)(h:List Nat):R {p:yY//c.k=true->∀X,Vx c X->PI X tg e (vm p)}:=hd h λi h=>match i with
 |0=>bd (r.e c e h) λ|⟨p,I⟩,h=>some (⟨zRh p,λk X V=>uB (I k X V)⟩,h)
 |i+1=>match e with
  | .Call (.Name x _) es [] _=>ck c.k (jN c.sc x) λg=>bd (aW r c es h) λ|⟨p,I⟩,h=>match i,es,I with
   |0,[_],I=>ck c.k (x=="range") λq=>some (⟨qu zQ8 p,λk X V=>by
    cases eq_of_beq (q k);have s:=ad (I k).1;exact Ku (V.gl (g k)).1 (V.bl _ (by decide)) ((I k).2 X V) (by rw[xL _ _ s.1];rfl)⟩,h)
   |1,[_,_],I=>ck c.k (x=="range") λq=>some (⟨qu zQ7 p,λk X V=>by
    cases eq_of_beq (q k);have s:=ad (I k).1;have s2:=ad s.2;exact zIm (V.gl (g k)).1 (V.bl _ (by decide)) ((I k).2 X V) (by rw[xL _ _ s.1,xL _ _ s2.1];rfl) (by rw[xL _ _ s2.1];rfl)⟩,h)
   |2,[_,_],I=>match tg with
    | .Tuple ..=>ck c.k (x=="zip") λq=>some (⟨qu jK p,λk X V=>by
     cases eq_of_beq (q k);have s:=ad (I k).1;have s2:=ad s.2;exact zOz (V.gl (g k)).1 (V.bl _ (by decide)) ((I k).2 X V) (by rw[xL _ _ s.1,xL _ _ s2.1];rfl) (by rw[xL _ _ s2.1];rfl)⟩,h)
    |_=>none
   |3,[_,_,_],I=>match tg with
    | .Tuple ..=>ck c.k (x=="zip") λq=>some (⟨qu zQd p,λk X V=>by
     cases eq_of_beq (q k);have s:=ad (I k).1;exact zMO (V.gl (g k)).1 (V.bl _ (by decide)) ((I k).2 X V) (xL _ _ s.1) (uq _ _ s.2)⟩,h)
    |_=>none
   |4,[_],I=>match tg with
    | .Tuple ..=>ck c.k (x=="enumerate") λq=>some (⟨pEn p,λk X V=>by
     cases eq_of_beq (q k);exact zMP (V.gl (g k)).1 (V.bl _ (by decide)) ((I k).2 X V) (by rw[xL _ _ (ad (I k).1).1];rfl)⟩,h)
    |_=>none
   |_,_,_=>none
  | .Call (.Name x _) [e] [⟨some y,f,_⟩] _=>match tg with
   | .Tuple ..=>ck c.k (jN c.sc x&&(x=="enumerate"&&y=="start")) λg=>bd (aW r c [e] h) λ|⟨p,I⟩,h=>bd (r.e c f h) λ|⟨q,J⟩,h=>some (⟨WD p q,λk X V=>by
    have g1:=ad (g k);have g2:=ad g1.2;cases eq_of_beq g2.1;cases eq_of_beq g2.2;exact zJ1 (V.gl g1.1).1 (V.bl _ (by decide)) ((I k).2 X V) (J k X V) (by rw[xL _ _ (ad (I k).1).1];rfl)⟩,h)
   |_=>none
  |_=>none
noncomputable def c10:List Nat:=[0,1,2,3,4,5,6,7,8,9]
structure LC(c:Cf)(e:Expr)(g:Comprehension)(s:Scope)where
 i:yY
 o:D->Option (List D)
 x:List Nat
 t:Option xq
 p:zj
 k:c.k=true->∀X,Vx c X->∃tg it ifs js own caps,g=⟨tg,it,ifs,0⟩/\x=caps.map (·.1)/\vO X s own caps/\js=dL 0 own.length/\(∀d os,o d=some os->os.length=js.length)/\PI X tg it (vm i)/\(∀C s₀ H₀ ex,PG (yX X s (zZ own caps) C s₀ H₀ ex) tg (tG js o))∧
   (∀C s₀ H₀ ex,PE (yX X s (zZ own caps) C s₀ H₀ ex) e (tP p))/\(∀y,foldedSetIterable it X.env y=pure y)/\((ifs=[]/\t=none)\/∃f w,ifs=[f]/\t=some w/\∀C s₀ H₀ ex,PT (yX X s (zZ own caps) C s₀ H₀ ex) f (y8 w))
theorem Vx.inb(V:Vx c X){N:List Str}(h:jP c s caps=true)(nd:N.Nodup)(C)(s₀)(H₀)(ex):Vx (c.in_ s N) (yX X s N C s₀ H₀ ex):=V.inn nd C s₀ H₀ ex λy hy e=>by unfold jP at h;simp only[bQ]at h;have:=aT.mp h.2.2.1 y hy;rw[e]at this;simpa using this
noncomputable def lcW(r:Rc)(c:Cf)(elt:Expr)(g:Comprehension)(s:Scope)(h:List Nat):R (LC c elt g s):=match g with
 |⟨tg,it,ifs,0⟩=>hd h λn h=>tkW n h λidx h=>bd (iW r c tg it h) λ⟨pi,I⟩ h'=>
   let caps:=idx.map λi=>(i,c.N.getD i lW)
   let own:=WU 3 tg
   let d:=c.in_ s (zZ own caps)
   have ei:idx=caps.map (·.1):=by rw[aQ];exact(dH _).symm
   ck c.k (kU it&&(jP c s caps&&decide (zZ own caps).Nodup)) λq=>bd (gW d 12 tg c10) λ|⟨js,po,G⟩,_=>ck c.k (js==dL 0 own.length) λq2=>
    have W:c.k=true->∀X,Vx c X->∀C s₀ H₀ ex,Vx d (yX X s (zZ own caps) C s₀ H₀ ex):=λk X V=>V.inb (ad (ad (q k)).2).1 (of_decide_eq_true (ad (ad (q k)).2).2)
    match ifs with
    |[]=>bd (r.e d elt h') λ|⟨p,J⟩,h=>some (⟨pi,po,idx,none,p,λk X V=>⟨_,_,_,js,own,caps,rfl,ei,V.blk (ad (ad (q k)).2).1,eq_of_beq (q2 k),(G k _ (W k X V 0 X.s₀ X.H₀ [])).2,I k X V,λC s₀ H₀ ex=>(G k _ (W k X V C s₀ H₀ ex)).1,λC s₀ H₀ ex=>J k _ (W k X V C s₀ H₀ ex),kX _ (ad (q k)).1,.inl ⟨rfl,rfl⟩⟩⟩,h)
    |[f]=>bd (r.t d f h') λ|⟨t,K⟩,h=>bd (r.e d elt h) λ|⟨p,J⟩,h=>some (⟨pi,po,idx,some t,p,λk X V=>⟨_,_,_,js,own,caps,rfl,ei,V.blk (ad (ad (q k)).2).1,eq_of_beq (q2 k),(G k _ (W k X V 0 X.s₀ X.H₀ [])).2,I k X V,λC s₀ H₀ ex=>(G k _ (W k X V C s₀ H₀ ex)).1,λC s₀ H₀ ex=>J k _ (W k X V C s₀ H₀ ex),kX _ (ad (q k)).1,.inr ⟨f,t,rfl,rfl,λC s₀ H₀ ex=>K k _ (W k X V C s₀ H₀ ex)⟩⟩⟩,h)
    |_=>none
 |_=>none
noncomputable def zSK:Expr->Bool
 | .Slice none none (some (.UnaryOp .USub (.Constant (.int i) _ _) _)) _=>i==1
 |_=>false
theorem revI(h:zSK b=true):∃k p q s,b=.Slice none none (some (.UnaryOp .USub (.Constant (.int 1) k p) q)) s:=by
 cases b <;> try cases h
 rename_i l u s _;cases l <;> try cases h
 cases u <;> try cases h
 cases s <;> try cases h
 rename_i s;cases s <;> try cases h
 rename_i o e _;cases o <;> try cases h
 cases e <;> try cases h
 rename_i v _ _;cases v <;> try cases h
 cases eq_of_beq h;exact⟨_,_,_,_,rfl⟩
theorem zO1(k:WC X.K C f)(ha:PE X e (tP pa))(hb:attributeBase e f X.env (eval e X.env)=eval e X.env):PE X (.Attribute e f pos) (tP (uk (WV C f) pa)):=yz (zRc ha hb) λσ H Q ⟨Z,Γ,R,E,h,q⟩=>
 ⟨Z,Γ,_,E,h,λd v H1 hd s1 hv=>by
  cases d <;> try exact False.elim hd
  obtain⟨rfl,d',hl,hR⟩:=hd;cases hv with
  |obj e1 l1 h1=>
   obtain⟨v,e2,dv⟩:=zF6 l1 h1 hl;exact⟨_,_,_,_,v,rfl,zx _ _ e1,k.1,k.2,e2,q _ _ H1 hR s1 dv⟩⟩
noncomputable def ctW(c:Cf)(x:Str)(e:Expr)(es:List Expr)(g:c.k=true->(jN c.sc x&&(e::es).all uE)=true)(p:yY)(I:c.k=true->∀X,Vx c X->PA X (e::es) (xb p))(t:Ct)(m:t∈c.T)(h:List Nat):R {p:zj//c.k=true->∀X p1 p2,Vx c X->PE X (.Call (.Name x p1) (e::es) [] p2) (tP p)}:=match t,m with
 |⟨0,y,_,_,F,_⟩,m=>ck c.k (y==x) λq=>some (⟨wx F p,λk X _ _ V=>by
  obtain⟨lv,r2,o⟩:=V.rm;have n:=ad (ad (g k)).2;have G:=V.gl (ad (g k)).1;cases eq_of_beq (q k);exact xK (o _ m) (r2.mono (dR _)) G.1 (I k X V) G.2 (xL es _ n.1) (uq _ _ n.2)⟩,h)
 |⟨1,y,_,st,F,dv⟩,m=>ck c.k (y==x) λq=>match es.length+1==(pr st).length with
  |true=>some (⟨wx F p,λk X _ _ V=>by
   obtain⟨lv,r2,o⟩:=V.rm;have n:=ad (ad (g k)).2;have G:=V.gl (ad (g k)).1;cases eq_of_beq (q k);exact xK (u7.fn (o _ m)) (r2.mono (dR _)) G.1 (I k X V) G.2 (xL es _ n.1) (uq _ _ n.2)⟩,h)
  |false=>some (⟨wx (λds=>F (ds++[.int dv])) p,λk X _ _ V=>by
   obtain⟨lv,r2,o⟩:=V.rm;have n:=ad (ad (g k)).2;have G:=V.gl (ad (g k)).1;cases eq_of_beq (q k);exact zMW (.int dv) (λ_=>.int _) (o _ m) (r2.mono (dR _)) G.1 (I k X V) G.2 (xL es _ n.1) (uq _ _ n.2)⟩,h)
 |⟨3,_,cl,_,F,_⟩,m=>ck c.k (at_ c.cn cl x) λq=>some (⟨wx F p,λk X _ _ V=>by
  obtain⟨lv,r2,o⟩:=V.rm;have n:=ad (ad (g k)).2;have G:=V.gl (ad (g k)).1;exact Zf (o _ m) (V.cl _ _ (jO (q k))) r2 G.1 (I k X V) G.2 (xL es _ n.1) (uq _ _ n.2)⟩,h)
 |⟨4,_,cl,st,F,dv⟩,m=>ck c.k (at_ c.cn cl x) λq=>match es.length+2==(pr st).length with
  |true=>some (⟨wx F p,λk X _ _ V=>by
   obtain⟨lv,r2,o⟩:=V.rm;have n:=ad (ad (g k)).2;have G:=V.gl (ad (g k)).1;exact Zf (xj.fn (o _ m)) (V.cl _ _ (jO (q k))) r2 G.1 (I k X V) G.2 (xL es _ n.1) (uq _ _ n.2)⟩,h)
  |false=>some (⟨wx (λds=>F (ds++[.int dv])) p,λk X _ _ V=>by
   obtain⟨lv,r2,o⟩:=V.rm;have n:=ad (ad (g k)).2;have G:=V.gl (ad (g k)).1;exact zMS (.int dv) (λ_=>.int _) (o _ m) (V.cl _ _ (jO (q k))) r2 G.1 (I k X V) G.2 (xL es _ n.1) (uq _ _ n.2)⟩,h)
 |_,_=>none
noncomputable def eW(r:Rc)(c:Cf)(e:Expr)(h:List Nat):R (SE c e):=match e with
 | .Name x _=>hd h λi h=>match Nat.blt i 60 with
  |true=>ck c.k (at_ c.N i x&&jq c.sc x) λq=>some (⟨qE i,λk X V=>have v:=V.vi (ad (q k)).2;zK i (V.sl (ad (q k)).1) v.1 v.2.1 v.2.2⟩,h)
  |false=>op c.cs[i-60]? λ|(y,n),e1=>ck c.k (y==x&&jN c.sc x) λq=>some (⟨pC (.int n),λk X V=>by
   cases eq_of_beq (ad (q k)).1;have g:=V.gl (ad (q k)).2;exact zMU g.1 (V.cs _ _ _ e1) g.2⟩,h)
 | .Constant v _ _=>match v with
  | .int i=>some (⟨pC (.int i),λ_ _ _=>yM⟩,h)
  | .bool i=>some (⟨pC (.bool i),λ_ _ _=>Ke⟩,h)
  | .none=>some (⟨pC .non,λ_ _ _=>zRI⟩,h)
  | .str i=>some (⟨pC (.str i),λ_ _ _=>zRF⟩,h)
  |_=>none
 | .UnaryOp .USub e _=>bd (r.e c e h) λ|⟨p,I⟩,h=>some (⟨uk XR p,λk X V=>zRJ (I k X V)⟩,h)
 | .UnaryOp .Not e _=>bd (r.e c e h) λ|⟨p,I⟩,h=>some (⟨zRl p,λk X V=>zRH (I k X V)⟩,h)
 | .BinOp a o b _=>bd (r.e c a h) λ|⟨p,I⟩,h=>bd (r.e c b h) λ|⟨q,J⟩,h=>op (WP o) λf e1=>some (⟨wm f p q,λk X V=>let ⟨_,o1,o2⟩:=binR (X:=X) e1;XI o1 o2 (I k X V) (J k X V)⟩,h)
 | .Compare a [o] [b] _=>hd h λi h=>ck c.k (kU b) λn=>bd (r.e c a h) λ|⟨p,I⟩,h=>bd (r.e c b h) λ|⟨q,J⟩,h=>op (kZ o i) λf e1=>some (⟨wm f p q,λk X V=>let ⟨_,o1,o2⟩:=WQ V.hu e1;zNw o1 o2 (kW (n k)) (I k X V) (J k X V)⟩,h)
 | .BoolOp .And es _=>bd (Jn r c true es h) λ|⟨p,I⟩,h=>some (⟨p,λk X V=>I k X _ V⟩,h)
 | .BoolOp .Or es _=>bd (Jn r c false es h) λ|⟨p,I⟩,h=>some (⟨p,λk X V=>I k X _ V⟩,h)
 | .IfExp t a b _=>bd (r.t c t h) λ|⟨t,T⟩,h=>bd (r.e c a h) λ|⟨p,I⟩,h=>bd (r.e c b h) λ|⟨q,J⟩,h=>some (⟨XY t p q,λk X V=>zMT (T k X V) (I k X V) (J k X V)⟩,h)
 | .Tuple es _ _=>bd (aW r c es h) λ|⟨p,I⟩,h=>some (⟨XZ p,λk X V=>Xb ((I k).2 X V)⟩,h)
 | .List es _=>bd (aW r c es h) λ|⟨p,I⟩,h=>some (⟨Xa p,λk X V=>zNv ((I k).2 X V)⟩,h)
 | .Attribute e f _=>hd h λj h=>ck c.k (Jm e&&(c.cf.getD j []).contains f) λq=>bd (r.e c e h) λ|⟨p,I⟩,h=>some (⟨uk (WV (c.a j) f) p,λk X V=>zO1 (V.fq (ad (q k)).2) (I k X V) (zS0 _ _ (ad (q k)).1)⟩,h)
 | .Subscript a b _=>hd h λi h=>match i with
  |0=>ck c.k (WN b) λn=>bd (r.e c a h) λ|⟨p,I⟩,h=>bd (r.e c b h) λ|⟨q,J⟩,h=>some (⟨wm ixD p q,λk X V=>zRK (I k X V) (J k X V) (zNz (n k))⟩,h)
  |1=>match a with
   | .Name x _=>hd h λj h=>ck c.k (WN b&&(at_ c.N j x&&jq c.sc x)) λn=>bd (r.e c b h) λ|⟨q,J⟩,h=>some (⟨WB j q,λk X V=>have a:=ad (n k);have v:=V.vi (ad a.2).2;K1 j (J k X V) (zNz a.1) (V.sl (ad a.2).1) v.1 v.2.1 v.2.2⟩,h)
   |_=>none
  |2=>match b with
   | .Slice lo hi none _=>bd (r.e c a h) λ|⟨p,I⟩,h=>bd (oW r c lo h) λ|⟨l,L⟩,h=>bd (oW r c hi h) λ|⟨u,U⟩,h=>some (⟨pSl p l u,λk X V=>zMQ (I k X V) (L k X V) (U k X V)⟩,h)
   |_=>none
  |3=>match b with
   | .Slice lo hi none _=>bd (r.e c a h) λ|⟨p,I⟩,h=>bd (oW r c lo h) λ|⟨l,L⟩,h=>bd (oW r c hi h) λ|⟨u,U⟩,h=>some (⟨WE p l u,λk X V=>K7 (I k X V) (L k X V) (U k X V)⟩,h)
   |_=>none
  |_=>ck c.k (zSK b) λn=>bd (r.e c a h) λ|⟨p,I⟩,h=>some (⟨uk kS p,λk X V=>by
   obtain⟨_,_,_,_,rfl⟩:=revI (n k);exact zNu (I k X V)⟩,h)
 | .ListComp e [g] s _=>bd (lcW r c e g s h) fun
  |⟨i,o,x,none,p,K⟩,h=>some (⟨zRq x i o p,λk X V=>by
   obtain⟨_,_,_,_,_,_,rfl,rfl,B,hj,hk,hi,hg,he,hs,q⟩:=K k X V;rcases q with⟨rfl,_⟩|⟨_,_,_,e,_⟩
   ·exact jo B V.calm hj hk hi hg he hs
   ·cases e⟩,h)
  |⟨i,o,x,some t,p,K⟩,h=>some (⟨zN7 x i o t p,λk X V=>by
   obtain⟨_,_,_,_,_,_,rfl,rfl,B,hj,hk,hi,hg,he,hs,q⟩:=K k X V;rcases q with⟨_,e⟩|⟨_,_,rfl,e,ht⟩
   ·cases e
   ·cases e;exact zMV B V.calm hj hk hi hg ht he hs⟩,h)
 | .Call (.Attribute e m a) [] [] pos=>hd h λi h=>op c.T[i]? fun
  |⟨2,y,cl,_,F,_⟩,e1=>ck c.k (a.endLine==pos.line&&(Jm e&&(y==m&&decide (cl<c.cn.length)))) λq=>bd (r.e c e h) λ|⟨p,I⟩,h=>some (⟨uk (zR2 (c.a cl) m F) p,λk X V=>by
   have q1:=ad (q k);have q2:=ad q1.2;have q3:=ad q2.2;obtain⟨lv,r2,o⟩:=V.rm;cases eq_of_beq q3.1;exact zMR (o _ (bH e1)) (V.cl _ _ (aE (of_decide_eq_true q3.2))) (r2.mono (dR _)) (I k X V) (WO _ _ _ _ q2.1 (eq_of_beq q1.1))⟩,h)
  |_,_=>none
 | .Call (.Name x _) (e::es) [] _=>hd h λi h=>ck c.k (jN c.sc x&&(e::es).all uE) λg=>match Nat.blt i 50 with
  |true=>op (blW i) λ|(y,f),e1=>ck c.k (y==x) λq=>bd (aW r c (e::es) h) λ|⟨p,I⟩,h=>some (⟨wx f p,λk X V=>by
   cases eq_of_beq (q k);exact blR V e1 (V.gl (ad (g k)).1).1 ((I k).2 X V) (ad (g k)).2⟩,h)
  |false=>match i,es,g with
   |50,[.Name z _],g=>hd h λj h=>op (knW j) λ|(y,t,f),e1=>ck c.k (x=="isinstance"&&(z==y&&jN c.sc y)) λq=>bd (r.e c e h) λ|⟨p,I⟩,h=>some (⟨uk (zR7 t f) p,λk X V=>by
    have q1:=ad (q k);have q2:=ad q1.2;have n:=ad (ad (g k)).2;have G:=V.gl (ad (g k)).1;cases eq_of_beq q1.1;cases eq_of_beq q2.1;have w:=knR V e1 (V.gl q2.2).1;exact yz (U0 zHC G.1 (V.bl _ (by decide)) zBz (wN (I k X V) (wN (w.1 _) ug) (xL _ _ n.1)) (by decide) G.2 (xL _ _ n.1) (uq _ _ n.2)) (zOb w.2)⟩,h)
   |51,[.Name z _],g=>hd h λj h=>ck c.k (x=="isinstance"&&(at_ c.cn j z&&jN c.sc z)) λq=>bd (r.e c e h) λ|⟨p,I⟩,h=>some (⟨uk (zSM c.K (c.a j)) p,λk X V=>by
    have q1:=ad (q k);have q2:=ad q1.2;have n:=ad (ad (g k)).2;have G:=V.gl (ad (g k)).1;have g2:=V.gl q2.2;cases eq_of_beq q1.1;rw[<- V.K];exact yz (U0 zGJ G.1 (V.bl _ (by decide)) zBz (wN (I k X V) (wN (zRd (V.cl _ _ (jO q2.1)) g2.1 g2.2) ug) (xL _ _ n.1)) (by decide) G.2 (xL _ _ n.1) (uq _ _ n.2)) zL5⟩,h)
   |52,[],g=>match e with
    | .Call (.Name y _) [a,b] [] _=>ck c.k (x=="list"&&(y=="range"&&(jN c.sc y&&[a,b].all uE))) λq=>bd (r.e c a h) λ|⟨p,I⟩,h=>bd (r.e c b h) λ|⟨s,J⟩,h=>some (⟨zRi p s,λk X V=>by
     have q1:=ad (q k);have q2:=ad q1.2;have q3:=ad q2.2;have n:=ad q3.2;cases eq_of_beq q1.1;cases eq_of_beq q2.1;exact zO0 V.calm (V.gl (ad (g k)).1).1 (V.bl _ (by decide)) (V.gl q3.1).1 (V.bl _ (by decide)) (I k X V) (J k X V) (he2:=xL _ _ n.1) (he3:=xL _ _ (ad n.2).1) (hpl2:=uq _ _ n.2)⟩,h)
    |_=>none
   |53,[],g=>match e with
    | .Name y _=>hd h λj h=>ck c.k (x=="len"&&(at_ c.N j y&&jq c.sc y)) λq=>some (⟨zRm j,λk X V=>by
     have q1:=ad (q k);have q2:=ad q1.2;have v:=V.vi q2.2;cases eq_of_beq q1.1;exact zGo j (V.gl (ad (g k)).1).1 (V.bl _ (by decide)) rfl (V.sl q2.1) v.1 v.2.1 v.2.2⟩,h)
    |_=>none
   |i,es,g=>op c.T[i-60]? λt e1=>bd (aW r c (e::es) h) λ|⟨p,I⟩,h=>bd (ctW c x e es g p (λk=>(I k).2) t (bH e1) h) λ|⟨p,J⟩,h=>some (⟨p,λk X V=>J k X _ _ V⟩,h)
 |_=>none
noncomputable def tW(r:Rc)(c:Cf)(e:Expr)(h:List Nat):R (ST c e):=match e with
 | .Compare a [o,o'] [b,d] _=>ck c.k (kU d) λn=>bd (r.e c a h) λ|⟨p,I⟩,h=>bd (r.e c b h) λ|⟨q,J⟩,h=>bd (r.e c d h) λ|⟨s,L⟩,h=>op (qN o) λf e1=>op (qN o') λg e2=>some (⟨wQ (K8 f g p q s),λk X V=>let ⟨_,o1,o2⟩:=kY (X:=X) e1;let ⟨_,o3,o4⟩:=kY (X:=X) e2;zJu o1 o3 o2 o4 (I k X V) (J k X V) (L k X V) (kW (n k))⟩,h)
 | .Compare a [o] [b] _=>hd h λi h=>ck c.k (kU b) λn=>bd (r.e c a h) λ|⟨p,I⟩,h=>bd (r.e c b h) λ|⟨q,J⟩,h=>op (kZ o i) λf e1=>some (⟨wQ (wm f p q),λk X V=>let ⟨_,o1,o2⟩:=WQ V.hu e1;Km o1 o2 (kW (n k)) (I k X V) (J k X V)⟩,h)
 | .UnaryOp .Not e _=>bd (r.t c e h) λ|⟨p,I⟩,h=>some (⟨XV p,λk X V=>zOw (I k X V)⟩,h)
 | .BoolOp .And es _=>bd (Jo r c true es h) λ|⟨p,I⟩,h=>some (⟨p,λk X V=>(I k X _ V).pt⟩,h)
 | .BoolOp .Or es _=>bd (Jo r c false es h) λ|⟨p,I⟩,h=>some (⟨p,λk X V=>(I k X _ V).pt⟩,h)
 |e=>ck c.k (tv e) λn=>bd (r.e c e h) λ|⟨p,I⟩,h=>some (⟨wQ p,λk X V=>zJq (I k X V) (tvI _ (n k))⟩,h)
noncomputable def rW:Nat->Rc
 |0=>⟨λ_ _ _=>none,λ_ _ _=>none⟩
 |n+1=>⟨eW (rW n),tW (rW n)⟩
noncomputable def zKj:Expr->Bool
 | .ListComp ..=>false
 | .SetComp ..=>false
 | .DictComp ..=>false
 |_=>true
noncomputable def zR1:Expr->Bool
 | .Tuple ..=>false
 |_=>true
noncomputable def zOF:Expr->Bool
 | .Name ..=>false
 |_=>true
theorem WW(t)(l)(env)(h:zKj e=true):swapsWith e t l env=pure false:=by cases e <;> first|rfl|cases h
theorem sw1(e)(l)(env)(h:zOF t=true):swapsWith e (some t) l env=pure false:=by
 unfold swapsWith;split
 ·cases t <;> first|rfl|cases h
 ·rfl
theorem WX(e)(l)(env)(h:zOF t=true):swapsWithSole [t] e l env=pure false:=sw1 e l env h
theorem asgI(o)(p)(env)(h:WN j=true)(v):assign (.Subscript o j p) env v=(do
  let ov <- holding [v] (eval o env)
  let iv <- holding [v,ov] (eval j env)
  standAt p
  holding [v,ov,iv] (setItem ov iv v)
  release [v,ov,iv] []):=by
 cases j <;> first|rfl|cases h
theorem sw2(e)(l)(env)(h:env.kindOf x=some .cell):swapsWith e (some (.Name x p)) l env=pure false:=by
 unfold swapsWith;split
 ·show(pure (env.blockKind== .function&&env.kindOf x==some .local&&p.line==e.pos.line&&_):Sem Bool)=_;rw[h,show((some NameKind.cell==some NameKind.local)=false)from rfl,Bool.and_false,iB,iB]
 ·rfl
noncomputable def swC(s:Scope)(x:Str)(p q:Pos):Bool:=p.line==q.line&&!(s.names.any λy=>y.1==x&&(y.2== .local||y.2== .cell))
theorem sw3(l)(env)(b:env.blockKind=.function)(k:env.kindOf x=some .local)(h:swC s x p q=true):swapsWith (.ListComp e g s q) (some (.Name x p)) l env=pure true:=by show(pure (env.blockKind== .function&&env.kindOf x==some .local&&p.line==q.line&&!(s.names.any λ(y:Str×NameKind)=>y.1==x&&(y.2== .local||y.2== .cell))):Sem Bool)=_;unfold swC at h;rw[Bool.and_assoc,h,b,k];rfl
theorem st0(env)(h:zR1 e=true):swappedStores [.Tuple es j p] e env=pure none:=by cases e <;> first|rfl|cases h
def zRn(C:Addr)(f:Str)(pa:zj):ye:=λT Γ=>pa Γ λd=>kN (slot Γ 0) λo c ns ds=>c=C/\f∉ns/\ns.length<900/\kO (Γ.drop 1)=true/\T.nx (zL Γ 0 (.ob o c (ns++[f]) (ds++[d])))
theorem zOc(hk:WC K C f)(D)(σ)(H):yA (zRn C f pa) D σ H->YV K (vB 0) (tP pa) f D σ H:=λ⟨Z0,H0,Z,Γ,Dp,E,h,nx,rt,bk,ct⟩=>
 ⟨Z,Γ,_,E.e,h,λd v H1 hd s1 hv=>by
  obtain⟨o,c,ns,ds,hs,rfl,hf,hn,hn2,hd⟩:=zKh hd;obtain⟨dx,xs,hl,hz,el,ln,hx⟩:=(E.mv s1).e.ob 0 o c ns ds hs;refine⟨.ref o,hl,o,c,dx,_,rfl,el,hk.1,hk.2,by rw[cu];omega,?_⟩;rw[zHk ln hf];refine nx Z _ _ _ ((E.mv s1).putO hs ⟨_,el⟩ (by rw[aF,aF,ln];rfl) (ZN hv hx) ?_) ((yL s1).trans (ZY hz)) hd;intro j o' c' ns' ds' q;cases j with
  |zero=>rfl
  |succ j=>
   cases Γ with
   |nil=>cases q
   |cons x t=>exact absurd q (Jh (Γ:=t) hn2 j o' c' ns' ds')⟩
structure Vs(c:Cf)(X:Cx):Prop where
 v:Vx c X
 sc:X.env.scope=c.sc
 f:∀x,X.fn x=true
 b:X.env.blockKind=.function
 p:PassesOwn (model X.prog X.w) X.A X.env X.xe
noncomputable def zSL(s:Scope)(x:Str):Bool:=s.names.lookup x==some .local
noncomputable def zOJ(s:Scope)(x:Str):Bool:=s.names.lookup x==some .cell
theorem Vs.lo(W:Vs c X)(h:zSL c.sc x=true):X.env.scope.names.lookup x=some .local:=W.sc▸eq_of_beq h
theorem Vs.ce(W:Vs c X)(h:zOJ c.sc x=true):X.env.kindOf x=some .cell:=by show X.env.scope.names.lookup _=_;exact W.sc▸eq_of_beq h
noncomputable abbrev rr:Rc:=rW 40
abbrev SS(c:Cf)(s:Stmt):={p:ye//c.k=true->∀X,Vs c X->PS X s (yA p)}
abbrev SSs(c:Cf)(s:List Stmt):={p:ye//c.k=true->∀X,Vs c X->yb X s (yA p)}
noncomputable def frW(c:Cf)(s:Stmt):Nat->List Nat->(List Nat->R (SS c s))->R (SS c s)
 |0,h,k=>k h
 |_+1,[],_=>none
 |n+1,i::h,k=>bd (frW c s n h k) λ|⟨p,I⟩,h=>some (⟨X0 i p,λk X W=>Kz i (I k X W)⟩,h)
noncomputable def boR(c:Cf)(e:Expr):Nat->List Nat->(List Nat->R (ST c e))->R (ST c e)
 |0,h,k=>k h
 |_+1,[],_=>none
 |n+1,i::h,k=>bd (boR c e n h k) λ|⟨p,I⟩,h=>some (⟨Xz i p,λk X V=>zJv i (I k X V)⟩,h)
theorem Vs.nd(W:Vs c X):X.N.Nodup:=W.v.N▸W.v.nd
mutual
noncomputable def sW(c:Cf):Nat->(s:Stmt)->List Nat->R (SS c s)
 |0=>λ_ _=>none
 |n+1=>λs h=>hd h λk h=>frW c s (k/20) h λh=>sW1 c n (k % 20) s h
noncomputable def sW1(c:Cf):Nat->Nat->(s:Stmt)->List Nat->R (SS c s)
 |0=>λ_ _ _=>none
 |n+1=>λk s h=>match s with
  | .Assign [.Name x p] e _=>hd h λi h=>ck c.k (at_ c.N i x&&loc c.sc x) λq=>match k,e with
   |3,.List es _=>bd (aW rr c es h) λ|⟨p,I⟩,h=>some (⟨X4 i p,λk X W=>zJy i W.nd (W.v.sl (ad (q k)).1) (W.v.lo (ad (q k)).2) ((I k).2 X W.v) (WW _ _ _ rfl) (.inl (W.f _))⟩,h)
   |4,.Call (.Name f _) (a::es) [] _=>ck c.k (f=="list"&&jN c.sc f) λq2=>bd (aW rr c (a::es) h) λ|⟨p,I⟩,h=>some (⟨zRk i p,λk X W=>by
    have z:=ad (q2 k);have n:=ad (I k).1;cases eq_of_beq z.1;exact zMK i W.nd (W.v.sl (ad (q k)).1) (W.v.lo (ad (q k)).2) (W.v.gl z.2).1 (W.v.bl _ (by decide)) ((I k).2 X W.v) (xL _ _ n.1) (uq _ _ n.2) (WW _ _ _ rfl) (.inl (W.f _))⟩,h)
   |0,e=>ck c.k (zKj e||zOJ c.sc x) λq2=>bd (rr.e c e h) λ|⟨p,I⟩,h=>some (⟨vI i p,λk X W=>zJx i W.nd (W.v.sl (ad (q k)).1) (W.v.lo (ad (q k)).2) (I k X W.v) (((iq ..)▸q2 k:_\/_).elim (WW _ _ _) λz=>sw2 _ _ _ (W.ce z)) (.inl (W.f _))⟩,h)
   |j,.ListComp e [g] s r=>ck c.k (zSL c.sc x&&swC s x p r) λq2=>bd (lcW rr c e g s h) fun
    |⟨ii,o,idx,none,p,K⟩,h=>some (⟨zN6 i (j==2) idx ii o p,λk X W=>by
     obtain⟨_,_,_,_,_,_,rfl,rfl,B,hj,hk,hi,hg,he,hs,z⟩:=K k X W.v;have ll:=W.lo (ad (q2 k)).1;rcases z with⟨rfl,_⟩|⟨_,_,_,e,_⟩
     ·exact Za i _ W.nd (W.v.sl (ad (q k)).1) ll B W.v.calm hj hk hi hg he (sw3 _ _ W.b ll (ad (q2 k)).2) hs
     ·cases e⟩,h)
    |⟨ii,o,idx,some t,p,K⟩,h=>some (⟨zKS i (j==2) idx ii o t p,λk X W=>by
     obtain⟨_,_,_,_,_,_,rfl,rfl,B,hj,hk,hi,hg,he,hs,z⟩:=K k X W.v;have ll:=W.lo (ad (q2 k)).1;rcases z with⟨_,e⟩|⟨_,_,rfl,e,ht⟩
     ·cases e
     ·cases e;exact zFu i _ W.nd (W.v.sl (ad (q k)).1) ll B W.v.calm hj hk hi hg ht he (sw3 _ _ W.b ll (ad (q2 k)).2) hs⟩,h)
   |_,_=>none
  | .Assign [.Tuple es j p] e _=>ck c.k (zR1 e) λq=>bd (rr.e c e h) λ|⟨a,I⟩,h=>bd (gW c 20 (.Tuple es j p) h) λ|⟨js,po,G⟩,h=>some (⟨X3 js po a,λk X W=>K0 (I k X W.v) (G k X W.v).1 (WX _ _ _ rfl) (st0 _ (q k))⟩,h)
  | .Assign [.Attribute (.Name x _) f _] e _=>hd h λj h=>ck c.k (at_ c.N 0 x&&(jq c.sc x&&(c.cf.getD j []).contains f)) λq=>bd (rr.e c e h) λ|⟨p,I⟩,h=>some (⟨zRn (c.a j) f p,λk X W=>have z:=ad (q k);have v:=W.v.vi (ad z.2).1;wU (zRS (ji 0 (W.v.sl z.1) v.1 v.2.1 v.2.2) (I k X W.v) (sw1 _ _ _ rfl)) (zOc (W.v.fq (ad z.2).2))⟩,h)
  | .Assign [.Subscript (.Name x _) j _] e _=>hd h λi h=>ck c.k (at_ c.N i x&&(jq c.sc x&&WN j)) λq=>bd (rr.e c e h) λ|⟨a,I⟩,h=>bd (rr.e c j h) λ|⟨b,J⟩,h=>some (⟨WA i a b,λk X W=>have z:=ad (q k);have v:=W.v.vi (ad z.2).1;wU (gR (I k X W.v) (Uq (ji i (W.v.sl z.1) v.1 v.2.1 v.2.2) (J k X W.v) Yt (asgI _ _ _ (ad z.2).2)) (WX _ _ _ rfl)) zNm⟩,h)
  | .If t a b _=>hd h λj h=>bd (boR c t j h λh=>rr.t c t h) λ|⟨t,T⟩,h=>bd (wq c n a h) λ|⟨p,I⟩,h=>bd (wq c n b h) λ|⟨q,J⟩,h=>some (⟨pIf t p q,λk X W=>Ze (T k X W.v) (I k X W) (J k X W)⟩,h)
  | .Return (some e) _=>bd (rr.e c e h) λ|⟨p,I⟩,h=>some (⟨X6 p,λk X W=>Zd (I k X W.v)⟩,h)
  | .For tg it b [] _=>ck c.k (kU it) λq=>bd (iW rr c tg it h) λ|⟨i,I⟩,h=>bd (gW c 20 tg h) λ|⟨js,po,G⟩,h=>bd (wq c n b h) λ|⟨p,J⟩,h=>some (⟨X7 i js po p,λk X W=>zOy W.p W.v.calm (I k X W.v) (G k X W.v).1 (J k X W) (kX _ (q k))⟩,h)
  | .While t b [] _=>bd (rr.t c t h) λ|⟨t,T⟩,h=>bd (wq c n b h) λ|⟨p,I⟩,h=>some (⟨zKQ t p,λk X W=>zJw W.p (T k X W.v) (I k X W)⟩,h)
  | .Break _=>some (⟨zN8,λ_ _ _=>zJ0⟩,h)
  | .Continue _=>some (⟨zRp,λ_ _ _=>zFt⟩,h)
  | .Pass _=>some (⟨Jd,λ_ _ _=>zMJ⟩,h)
  | .Raise ..=>some (⟨zN5,λ_ _ _=>zJz⟩,h)
  | .Expr e _=>match k,e with
   |0,e=>ck c.k (zKj e) λq=>bd (rr.e c e h) λ|⟨p,I⟩,h=>some (⟨zRo p,λk X W=>zMM (I k X W.v) (WW _ _ _ (q k))⟩,h)
   |_,.Call (.Attribute (.Name x _) m a) [e] [] r=>hd h λi h=>ck c.k (at_ c.N i x&&(jq c.sc x&&(uE e&&(m=="append"&&a.endLine==r.line)))) λq=>bd (rr.e c e h) λ|⟨p,I⟩,h=>some (⟨X9 i p,λk X W=>by
    have z:=ad (q k);have z2:=ad z.2;have z3:=ad z2.2;have z4:=ad z3.2;have v:=W.v.vi z2.1;cases eq_of_beq z4.1;exact wU (QW (zRe f6 fX fY Ys (ji i (W.v.sl z.1) v.1 v.2.1 v.2.2) (wN (I k X W.v) ug (xL _ _ z3.1)) rfl (by rw[xL _ _ z3.1];rfl) z4.2 (xL _ _ z3.1)) (WW _ _ _ rfl)) zNn⟩,h)
   |_,_=>none
  |_=>none
noncomputable def wq(c:Cf):Nat->(s:List Stmt)->List Nat->R (SSs c s)
 |0=>λ_ _=>none
 |n+1=>λs h=>match s with
  |[]=>some (⟨Jd,λ_ _ _=>ZZ⟩,h)
  |[s]=>bd (sW c n s h) λ|⟨p,I⟩,h=>some (⟨p,λk X W=>qK (I k X W)⟩,h)
  |s::ss=>hd h λj h=>bd (sW c n s h) λ|⟨p,I⟩,h=>bd (wq c n ss h) λ|⟨q,J⟩,h=>match j with
   |0=>some (⟨jL p q,λk X W=>wJ (I k X W) (J k X W)⟩,h)
   |_=>some (⟨Ky p q,λk X W=>qJ (I k X W) (J k X W)⟩,h)
end
noncomputable def wd{c:Cf}{s:List Stmt}:R (SSs c s)->Option ye
 |some (⟨p,_⟩,[])=>some p
 |_=>none
theorem zQf{r:R (SSs c s)}(e:wd r=some p):c.k=true->∀X,Vs c X->yb X s (yA p):=by
 rcases r with _|⟨⟨_,I⟩,_|_⟩ <;> cases e
 exact I
structure Ev(cn:List Str)(cf:List (List Str))(cs:List (Str×Int))where
 P:Program
 w:World
 K:aH
 mg:Str->Option Value
 base:Heap
 A:Nat->Addr
 cl:∀(i:Nat)(x:Str),cn[i]? =some x->xV K mg x (A i)
 cf_:∀(i:Nat)(fs:List Str)(f:Str),cf[i]? =some fs->f∈fs->WC K (A i) f
 cs_:∀(i:Nat)(x:Str)(n:Int),cs[i]? =some (x,n)->∃t,mg x=some (.int n t)
 bl:∀x∈(["isinstance","int","bool","tuple","len","all","any","list","range","zip","sum","max","enumerate","min","abs"]:List Str),mg x=none
section
variable{cn:List Str}{cf:List (List Str)}{cs:List (Str×Int)}(E:Ev cn cf cs)
def Ct.Bd(lv:Nat)(t:Ct):Prop:=match t.kd with
 |0=>∀f fd,wO E.K t.x t.x t.st f fd->zS E.P E.w E.K E.mg E.base yN lv f fd (pr t.st) (wB t.F)
 |1=>∀f fd d,xU E.K t.x t.x t.st f fd d->zS E.P E.w E.K E.mg E.base yN lv f fd (pr t.st) (wB t.F)
 |2=>∀q f fd,wO E.K t.x q t.st f fd->zS E.P E.w E.K E.mg E.base yN lv f fd (pr t.st) (wB t.F)
 |3=>∀q f fd,wO E.K t.x q t.st f fd->zS E.P E.w E.K E.mg E.base yN lv f fd (pr t.st) (vo (E.A t.cl) t.F)
 |_=>∀q f fd d,xU E.K t.x q t.st f fd d->zS E.P E.w E.K E.mg E.base yN lv f fd (pr t.st) (vo (E.A t.cl) t.F)
abbrev Hs(lv:Nat)(T:List Ct):Prop:=∀t∈T,t.Ok E.P E.w E.K E.mg E.base E.A lv
def Go(T:List Ct)(t:Ct):Prop:=∀lv,Hs E lv T->t.Bd E (lv+2)
def Gx(T:List Ct)(i:Nat):Prop:=match T.drop i with
 |t::T=>Go E T t
 |[]=>True
noncomputable def vv(s:Scope):List Str:=s.names.filterMap λy=>match y.2 with
 | .local=>some y.1
 | .cell=>some y.1
 |_=>none
noncomputable def qv(N ps:List Str)(n:Nat)(s:Scope):Bool:=s.kind== .function&&(!s.isCoroutine&&(!s.isGenerator&&(decide N.Nodup&&(decide (N.take ps.length=ps)&&(ps.all (loc s)&&(s.names.all (·.2!= .free)&&N.length==ps.length+n))))))
theorem vS(h:qv N ps n s=true):wH N ps s/\N.length=ps.length+n:=by unfold qv at h;simp only[bQ,decide_eq_true_eq,beq_iff_eq,i4]at h;obtain⟨h1,h2,h3,h4,h5,h6,h7,h8⟩:=h;refine⟨⟨h1,h2,h3,h4,h5,λx hx=>?_,λy hy=>by have:=aT.mp h7 y hy;simpa using this⟩,h8⟩;exact oq (aT.mp h6 x hx)
noncomputable abbrev xr(k:Bool)(N:List Str)(st:Stmt)(T:List Ct):Cf:=⟨k,N,zX st,T,E.K,E.A,cn,cf,cs⟩
variable{E}{T:List Ct}{N:List Str}{st:Stmt}{lv n:Nat}
theorem zJL{X:XK}(S:wH N (pr st) (zX st))(ho:Hs E lv T)(hr:zN (lv+1) (A.deeper (envOfC q (zX st) s.heap.objs.size f cdv))):
  Vs (xr E true N st T) (ym yN E.P E.w E.K E.mg E.base N q (zX st) f cdv A outer s H X).nox where
 v:={
  k:=rfl
  N:=rfl
  nd:=S.nd
  kf:=λ_ _ h=>.inl h
  ce:=λx h=>cB _ _ [] (.inl (h.resolve_right λz=>S.nofree _ (qd z) rfl))
  fn:=λ_ _=>.inl rfl
  calm:=rfl
  K:=rfl
  rm:=⟨lv,hr,ho⟩
  cl:=E.cl
  cf:=E.cf_
  cs:=E.cs_
  bl:=E.bl}
 sc:=rfl
 f:=λ_=>rfl
 b:=by show(if(zX st).kind.isAnnotationScope then ScopeKind.function else(zX st).kind)=_;rw[S.kind];rfl
 p:=PassesOwn.never
abbrev Rd(F:FL)(n:Nat)(p:ye):Prop:=∀ds R,F ds R->p {nx:=λ_=>R .non,rt:=R} (ds.map Sl.sh++aL n .no)
abbrev RdI(C:Addr)(F:FL)(n:Nat)(p:ye):Prop:=∀o ds R,F ds R->p {nx:=λΓ=>kN (slot Γ 0) λo' c ns es=>o'=o/\R (.obj c ns es),rt:=λ_=>False} (.ob o C [] []::(ds.map Sl.sh++aL n .no))
variable{F:FL}{cl:Nat}{dv:Int}{p:ye}{x:Str}
theorem zQF(S:wH N (pr st) (zX st))(l:N.length=(pr st).length+n)(ho:Hs E lv T)(e2:wd (wq (xr E true N st T) 60 (yG st) h)=some p)(rd:Rd F n p)(q)(f)(cdv)(A)(outer)(s)(H)(X)(hr:zN (lv+1) (A.deeper (envOfC q (zX st) s.heap.objs.size f cdv))):
  ∃p,yb (ym yN E.P E.w E.K E.mg E.base N q (zX st) f cdv A outer s H X).nox (yG st) (yA p)/\∀ds R,F ds R->p {nx:=λ_=>R .non,rt:=R} (ds.map Sl.sh++aL (N.length-(pr st).length) .no):=
 ⟨p,zQf e2 rfl _ (zJL S ho hr),by rw[show N.length-(pr st).length=n by omega];exact rd⟩
theorem zOR(ep:pr st=p0::ps)(S:wH N (pr st) (zX st))(l:N.length=(pr st).length+n)(ho:Hs E lv T)(e2:wd (wq (xr E true N st T) 60 (yG st) h)=some p)(rd:RdI C F n p)(q)(f)(cdv)(A)(outer)(s)(H)(X)(hr:zN (lv+1) (A.deeper (envOfC q (zX st) s.heap.objs.size f cdv))):
  ∃p,yb (ym yN E.P E.w E.K E.mg E.base N q (zX st) f cdv A outer s H X).nox (yG st) (yA p)/\∀o ds R,F ds R->p {nx:=λΓ=>kN (slot Γ 0) λo' c ns es=>o'=o/\R (.obj c ns es),rt:=λ_=>False} (.ob o C [] []::(ds.map Sl.sh++aL (N.length-(ps.length+1)) .no)):=
 ⟨p,zQf e2 rfl _ (zJL S ho hr),by rw[show N.length-(ps.length+1)=n by rw[ep]at l;rw[bF]at l;omega];exact rd⟩
theorem vkN(N:List Str)(n:Nat)(h:List Nat)(e1:wd (wq (xr E false N st T) 60 (yG st) h)=some p)(rd:Rd F n p)(e2:wd (wq (xr E true N st T) 60 (yG st) h)=some p:=by kernel_rfl)(e3:qv N (pr st) n (zX st)=true:=by kernel_rfl)(len:vp F (pr st).length:=by intro _ _ h;repeat(first|exact congrArg dF h.1|obtain⟨_,h⟩:=h)):
  Go E T ⟨0,x,cl,st,F,dv⟩:=λ_ ho _ _ Fu=>K4 Fu (vS e3).1 len λ_ _ _ _ _ _ hr=>zQF (vS e3).1 (vS e3).2 ho e2 rd _ _ _ _ _ _ _ _ hr
theorem vk(n:Nat)(h:List Nat)(e1:wd (wq (xr E false (vv (zX st)) st T) 60 (yG st) h)=some p)(rd:Rd F n p)(e2:wd (wq (xr E true (vv (zX st)) st T) 60 (yG st) h)=some p:=by kernel_rfl)(e3:qv (vv (zX st)) (pr st) n (zX st)=true:=by kernel_rfl)(len:vp F (pr st).length:=by intro _ _ h;repeat(first|exact congrArg dF h.1|obtain⟨_,h⟩:=h)):
  Go E T ⟨0,x,cl,st,F,dv⟩:=vkN _ n h e1 rd e2 e3 len
theorem vk1(n:Nat)(h:List Nat)(e1:wd (wq (xr E false (vv (zX st)) st T) 60 (yG st) h)=some p)(rd:Rd F n p)(e2:wd (wq (xr E true (vv (zX st)) st T) 60 (yG st) h)=some p:=by kernel_rfl)(e3:qv (vv (zX st)) (pr st) n (zX st)=true:=by kernel_rfl)(len:vp F (pr st).length:=by intro _ _ h;repeat(first|exact congrArg dF h.1|obtain⟨_,h⟩:=h)):
  Go E T ⟨1,x,cl,st,F,dv⟩:=λ_ ho _ _ _ Fu=>K5 Fu (vS e3).1 len λ_ _ _ _ _ _ hr=>zQF (vS e3).1 (vS e3).2 ho e2 rd _ _ _ _ _ _ _ _ hr
theorem vk2(n:Nat)(h:List Nat)(e1:wd (wq (xr E false (vv (zX st)) st T) 60 (yG st) h)=some p)(rd:Rd F n p)(e2:wd (wq (xr E true (vv (zX st)) st T) 60 (yG st) h)=some p:=by kernel_rfl)(e3:qv (vv (zX st)) (pr st) n (zX st)=true:=by kernel_rfl)(len:vp F (pr st).length:=by intro _ _ h;repeat(first|exact congrArg dF h.1|obtain⟨_,h⟩:=h)):
  Go E T ⟨2,x,cl,st,F,dv⟩:=λ_ ho _ _ _ Fu=>K4 Fu (vS e3).1 len λ_ _ _ _ _ _ hr=>zQF (vS e3).1 (vS e3).2 ho e2 rd _ _ _ _ _ _ _ _ hr
theorem vk3(n:Nat)(h:List Nat)(e1:wd (wq (xr E false (vv (zX st)) st T) 60 (yG st) h)=some p)(rd:RdI (E.A cl) F n p)(e2:wd (wq (xr E true (vv (zX st)) st T) 60 (yG st) h)=some p:=by kernel_rfl)(e3:qv (vv (zX st)) (pr st) n (zX st)=true:=by kernel_rfl)(ep:pr st=pr0 st::(pr st).tail:=by kernel_rfl)(len:vp F (pr st).tail.length:=by intro _ _ h;repeat(first|exact congrArg dF h.1|obtain⟨_,h⟩:=h)):
  Go E T ⟨3,x,cl,st,F,dv⟩:=λ_ ho _ _ _ Fu=>ep▸okI Fu (ep▸(vS e3).1) len λ_ _ _ _ _ _ hr=>zOR ep (vS e3).1 (vS e3).2 ho e2 rd _ _ _ _ _ _ _ _ hr
theorem vk4(n:Nat)(h:List Nat)(e1:wd (wq (xr E false (vv (zX st)) st T) 60 (yG st) h)=some p)(rd:RdI (E.A cl) F n p)(e2:wd (wq (xr E true (vv (zX st)) st T) 60 (yG st) h)=some p:=by kernel_rfl)(e3:qv (vv (zX st)) (pr st) n (zX st)=true:=by kernel_rfl)(ep:pr st=pr0 st::(pr st).tail:=by kernel_rfl)(len:vp F (pr st).tail.length:=by intro _ _ h;repeat(first|exact congrArg dF h.1|obtain⟨_,h⟩:=h)):
  Go E T ⟨4,x,cl,st,F,dv⟩:=λ_ ho _ _ _ _ Fu=>ep▸K6 Fu (ep▸(vS e3).1) len λ_ _ _ _ _ _ hr=>zOR ep (vS e3).1 (vS e3).2 ho e2 rd _ _ _ _ _ _ _ _ hr
end
end Vg
namespace L2
open PySem PySem.Spec PyProof.Rows
theorem Zh{α:Type}{P:List α->Prop}(h:∀x0:α,P [x0]):∀us:List α,us.length=1->P us
 |[x0],_=>h x0
theorem qw{α:Type}{P:List α->Prop}(h:∀x0 x1:α,P [x0,x1]):∀us:List α,us.length=2->P us
 |[x0,x1],_=>h x0 x1
theorem qx{α:Type}{P:List α->Prop}(h:∀x0 x1 x2:α,P [x0,x1,x2]):∀us:List α,us.length=3->P us
 |[x0,x1,x2],_=>h x0 x1 x2
theorem kb{α:Type}{P:List α->Prop}(h:∀x0 x1 x2 x3:α,P [x0,x1,x2,x3]):∀us:List α,us.length=4->P us
 |[x0,x1,x2,x3],_=>h x0 x1 x2 x3
theorem WY{α:Type}{P:List α->Prop}(h:∀x0 x1 x2 x3 x4:α,P [x0,x1,x2,x3,x4]):∀us:List α,us.length=5->P us
 |[x0,x1,x2,x3,x4],_=>h x0 x1 x2 x3 x4
theorem WZ{α:Type}{P:List α->Prop}(h:∀x0 x1 x2 x3 x4 x5:α,P [x0,x1,x2,x3,x4,x5]):∀us:List α,us.length=6->P us
 |[x0,x1,x2,x3,x4,x5],_=>h x0 x1 x2 x3 x4 x5
theorem Wa{α:Type}{P:List α->Prop}(h:∀x0 x1 x2 x3 x4 x5 x6:α,P [x0,x1,x2,x3,x4,x5,x6]):∀us:List α,us.length=7->P us
 |[x0,x1,x2,x3,x4,x5,x6],_=>h x0 x1 x2 x3 x4 x5 x6
structure Gf(K:W.Frag)(x:Str)(st:Stmt)(f:Addr)(fd:FuncData):Prop where
 at_:W.nsIn K mainGlobals x=some (some (.ref f))
 F:wO K x x st f fd
abbrev Ge(K:W.Frag)(x:Str)(st:Stmt):Prop:=∃f fd,Gf K x st f fd
structure Gm(K:W.Frag)(C:Addr)(x q:Str)(st:Stmt)(f:Addr)(fd:FuncData):Prop where
 at_:W.findIn K (.ref C) x=some (some (.ref f))
 fn:W.isFn K (.ref f)=true
 F:wO K x q st f fd
abbrev Gn(K:W.Frag)(C:Addr)(x q:Str)(st:Stmt):Prop:=∃f fd,Gm K C x q st f fd
structure Gd(K:W.Frag)(x:Str)(st:Stmt)(f:Addr)(fd:FuncData)(d:Value):Prop where
 at_:W.nsIn K mainGlobals x=some (some (.ref f))
 F:xU K x x st f fd d
abbrev Gi(K:W.Frag)(x:Str)(st:Stmt)(i:Int):Prop:=∃f fd t,Gd K x st f fd (.int i t)
structure Gk(K:W.Frag)(C:Addr)(x q:Str)(st:Stmt)(f:Addr)(fd:FuncData)(d:Value):Prop where
 at_:W.findIn K (.ref C) x=some (some (.ref f))
 fn:W.isFn K (.ref f)=true
 F:xU K x q st f fd d
abbrev Gj(K:W.Frag)(C:Addr)(x q:Str)(st:Stmt)(i:Int):Prop:=∃f fd t,Gk K C x q st f fd (.int i t)
structure Gc(K:W.Frag)(x:Str)(C:Addr):Prop where
 nm:W.nsIn K mainGlobals x=some (some (.ref C))
 pg:W.plainGet K C lW=true
 hd:W.hasDictIn K C=true
 po:W.plainOver K C=true
 sa:W.findIn K (.ref C) "__setattr__"=some (some (.builtin "object.__setattr__"))
 mk_:W.makesIn K C=true
 kc:W.keepIn K (.ref C)=true
 ha:W.findIn K (.ref C) "__class__"=some (some (.builtin "object.__class__"))
 hn:W.specialIn K (.builtin "object.__class__") "__get__"=some (some (.builtin "getset_descriptor.__get__"))
 tk:W.takesIn K (.builtin "object.__class__")=some true
 hm:W.mroIn K C (.type "object")=some true
section
variable{P:Program}{w:World}{K:W.Frag}{mg:Str->Option Value}{base h:Heap}{x q:Str}{st:Stmt}{f C T:Addr}{fd:FuncData}{ps:List Str}{k:Nat}{sp:Sp}{oc kV doc pm cdv ct oT:Value}{od an dT:Option Addr}{osl sT:Array (Option Value)}
theorem zPe(a:W.nsIn K mainGlobals x=some (some (.ref f)))(l:K.lookup f=some ⟨oc,od,.func (W.fnOf x x (wI st) (yG st) (zX st) .none kV doc pm an cdv ct),osl⟩)(c:W.codeIn K cdv x=true)(k:W.keepIn K (.ref f)=true):Ge K x st:=⟨f,_,a,Qr l c k⟩
theorem zSP(a:W.findIn K (.ref C) x=some (some (.ref f)))(i:W.isFn K (.ref f)=true)(l:K.lookup f=some ⟨oc,od,.func (W.fnOf x q (wI st) (yG st) (zX st) .none kV doc pm an cdv ct),osl⟩)(c:W.codeIn K cdv q=true)(k:W.keepIn K (.ref f)=true):Gn K C x q st:=⟨f,_,a,i,Qr l c k⟩
theorem Wb(a:W.nsIn K mainGlobals x=some (some (.ref f)))(l:K.lookup f=some ⟨oc,od,.func (W.fnOf x x (wI st) (yG st) (zX st) (.ref T) kV doc pm an cdv ct),osl⟩)(c:W.codeIn K cdv x=true)(k:W.keepIn K (.ref f)=true)(d:K.lookup T=some ⟨oT,dT,.seq #[.int i t] n,sT⟩):Gi K x st i:=⟨f,_,t,a,zK5 l c k d rfl⟩
theorem Wc(a:W.findIn K (.ref C) x=some (some (.ref f)))(z:W.isFn K (.ref f)=true)(l:K.lookup f=some ⟨oc,od,.func (W.fnOf x q (wI st) (yG st) (zX st) (.ref T) kV doc pm an cdv ct),osl⟩)(c:W.codeIn K cdv q=true)(k:W.keepIn K (.ref f)=true)(d:K.lookup T=some ⟨oT,dT,.seq #[.int i t] n,sT⟩):Gj K C x q st i:=⟨f,_,t,a,z,zK5 l c k d rfl⟩
theorem Gc.cls(g:Gc K x C)(X:K.In h)(G:h.Ns mainGlobals mg):xV K mg x C:=⟨⟨g.pg,g.hd,g.po,g.sa⟩,W.mg_of X G g.nm,g.ha,g.hn,g.tk,g.hm⟩
abbrev Bn(x q:Str)(st:Stmt)(ps:List Str):Prop:=∀(kV doc pm:Value)(an:Option Addr)(cdv ct:Value)(us:List Value),us.length=ps.length->bindArgs (W.fnOf x q (wI st) (yG st) (zX st) .none kV doc pm an cdv ct) ⟨us,[]⟩=pure (ps.zip us)
structure Wh(P:Program)(w:World)(K:W.Frag)(mg:Str->Option Value)(base h:Heap):Prop where
 X:K.In h
 G:h.Ns mainGlobals mg
theorem Gf.fn(g:Gf K x st f fd)(Y:Wh P w K mg base h)(o:zS P w K mg base yN k f fd ps sp)(b:Bn x x st ps):Fn P w K mg base x ps k sp:=⟨f,fd,o,W.mg_of Y.X Y.G g.at_,g.F.kp,g.F.binds b⟩
theorem Gm.fm(g:Gm K C x q st f fd)(_:Wh P w K mg base h)(o:zS P w K mg base yN k f fd ps sp)(b:Bn x q st ps):qi P w K mg base C x ps k sp:=⟨f,fd,o,⟨g.at_,g.fn,g.F.kp⟩,g.F.binds b⟩
theorem Gm.fc{y:Str}(g:Gm K C "__init__" q st f fd)(_:Wh P w K mg base h)(c:Gc K y C)(o:zS P w K mg base yN k f fd ps sp)(b:Bn "__init__" q st ps):jh P w K mg base C ps k sp:=⟨f,fd,o,⟨c.mk_,g.at_,g.fn,c.kc⟩,g.F.binds b⟩
theorem Gd.fn(g:Gd K x st f fd (.int i t))(Y:Wh P w K mg base h)(b:∀(T:Addr)(kV doc pm:Value)(an:Option Addr)(cdv ct:Value)(us:List Value),us.length=ps.length->∃k:Option (Array Value)->Sem (List (Str×Value)),bindArgs (W.fnOf x x (wI st) (yG st) (zX st) (.ref T) kV doc pm an cdv ct) ⟨us,[]⟩=seqItems? (.ref T)>>= k/\k (some #[.int i t])=pure (ps.zip us))
  (d:∀(T:Addr)(kV doc pm:Value)(an:Option Addr)(cdv ct:Value)(us:List Value),us.length+1=ps.length->∃k:Option (Array Value)->Sem (List (Str×Value)),bindArgs (W.fnOf x x (wI st) (yG st) (zX st) (.ref T) kV doc pm an cdv ct) ⟨us,[]⟩=seqItems? (.ref T)>>= k/\k (some #[.int i t])=pure (ps.zip (us++[.int i t]))) (o:zS P w K mg base yN k f fd ps sp):u7 P w K mg base x ps k sp (.int i):=
 ⟨f,fd,_,o,W.mg_of Y.X Y.G g.at_,g.F.kp,g.F.binds b,g.F.binds1 d,⟨_,rfl⟩⟩
theorem Gk.fcd{i:Int}{t:Tok}{y:Str}(g:Gk K C "__init__" q st f fd (.int i t))(_:Wh P w K mg base h)(c:Gc K y C)(b:∀(T:Addr)(kV doc pm:Value)(an:Option Addr)(cdv ct:Value)(us:List Value),us.length=ps.length->∃k:Option (Array Value)->Sem (List (Str×Value)),bindArgs (W.fnOf "__init__" q (wI st) (yG st) (zX st) (.ref T) kV doc pm an cdv ct) ⟨us,[]⟩=seqItems? (.ref T)>>= k/\k (some #[.int i t])=pure (ps.zip us))
  (d:∀(T:Addr)(kV doc pm:Value)(an:Option Addr)(cdv ct:Value)(us:List Value),us.length+1=ps.length->∃k:Option (Array Value)->Sem (List (Str×Value)),bindArgs (W.fnOf "__init__" q (wI st) (yG st) (zX st) (.ref T) kV doc pm an cdv ct) ⟨us,[]⟩=seqItems? (.ref T)>>= k/\k (some #[.int i t])=pure (ps.zip (us++[.int i t]))) (o:zS P w K mg base yN k f fd ps sp):xj P w K mg base C ps k sp (.int i):=
 ⟨f,fd,_,o,⟨c.mk_,g.at_,g.fn,c.kc⟩,g.F.binds b,g.F.binds1 d,⟨_,rfl⟩⟩
end
end L2
namespace Vg
open PySem L2 Sh Pu
variable[Tbl]
abbrev Jp(x q:Str)(st:Stmt)(ps:List Str)(i:Int):Prop:=∀t:Tok,(∀(T:Addr)(kV doc pm:Value)(an:Option Addr)(cdv ct:Value)(us:List Value),us.length=ps.length->∃k:Option (Array Value)->Sem (List (Str×Value)),bindArgs (W.fnOf x q (wI st) (yG st) (zX st) (.ref T) kV doc pm an cdv ct) ⟨us,[]⟩=seqItems? (.ref T)>>= k/\k (some #[.int i t])=pure (ps.zip us))∧
 ∀(T:Addr)(kV doc pm:Value)(an:Option Addr)(cdv ct:Value)(us:List Value),us.length+1=ps.length->∃k:Option (Array Value)->Sem (List (Str×Value)),bindArgs (W.fnOf x q (wI st) (yG st) (zX st) (.ref T) kV doc pm an cdv ct) ⟨us,[]⟩=seqItems? (.ref T)>>= k/\k (some #[.int i t])=pure (ps.zip (us++[.int i t]))
def Ct.St(K:W.Frag)(A:Nat->Addr)(m:Nat)(t:Ct):Prop:=match t.kd with
 |0=>Ge K t.x t.st/\Bn t.x t.x t.st (pr t.st)
 |1=>Gi K t.x t.st t.dv/\Jp t.x t.x t.st (pr t.st) t.dv
 |2=>∃q,Gn K (A t.cl) t.x q t.st/\Bn t.x q t.st (pr t.st)
 |3=>∃q,Gn K (A t.cl) t.x q t.st/\Bn t.x q t.st (pr t.st)/\t.cl<m/\t.x="__init__"
 |_=>∃q,Gj K (A t.cl) t.x q t.st t.dv/\Jp t.x q t.st (pr t.st) t.dv/\t.cl<m/\t.x="__init__"
inductive StA(K:W.Frag)(A:Nat->Addr)(m:Nat):List Ct->Prop
 |nil:StA K A m []
 |cons {t:Ct} {T:List Ct} (s:t.St K A m) (r:StA K A m T):StA K A m (t::T)
section
variable{K:W.Frag}{A:Nat->Addr}{T:List Ct}{x q:Str}{cl m:Nat}{st:Stmt}{F:FL}{dv:Int}
theorem st0_(g:Ge K x st)(b:Bn x x st (pr st))(r:StA K A m T):StA K A m (⟨0,x,cl,st,F,dv⟩::T):=.cons ⟨g,b⟩ r
theorem st1_(g:Gi K x st dv)(b:Jp x x st (pr st) dv)(r:StA K A m T):StA K A m (⟨1,x,cl,st,F,dv⟩::T):=.cons ⟨g,b⟩ r
theorem st2_(g:Gn K (A cl) x q st)(b:Bn x q st (pr st))(r:StA K A m T):StA K A m (⟨2,x,cl,st,F,dv⟩::T):=.cons ⟨q,g,b⟩ r
theorem st3_(g:Gn K (A cl) "__init__" q st)(b:Bn "__init__" q st (pr st))(r:StA K A m T)(l:cl<m:=by decide):StA K A m (⟨3,"__init__",cl,st,F,dv⟩::T):=.cons ⟨q,g,b,l,rfl⟩ r
theorem st4_(g:Gj K (A cl) "__init__" q st dv)(b:Jp "__init__" q st (pr st) dv)(r:StA K A m T)(l:cl<m:=by decide):StA K A m (⟨4,"__init__",cl,st,F,dv⟩::T):=.cons ⟨q,g,b,l,rfl⟩ r
end
theorem ar1{α:Type}{P:List α->Prop}(h:∀x:α,P [x])(us:List α)(l:us.length+1=2):P us:=L2.Zh h us (Nat.succ.inj l)
theorem ar2{α:Type}{P:List α->Prop}(h:∀x y:α,P [x,y])(us:List α)(l:us.length+1=3):P us:=L2.qw h us (Nat.succ.inj l)
theorem ar3{α:Type}{P:List α->Prop}(h:∀x y z:α,P [x,y,z])(us:List α)(l:us.length+1=4):P us:=L2.qx h us (Nat.succ.inj l)
inductive CsA(K:W.Frag)(A:Nat->Addr):Nat->List Str->Prop
 |nil {i:Nat}:CsA K A i []
 |cons {i:Nat} {x:Str} {xs:List Str} (g:Gc K x (A i)) (r:CsA K A (i+1) xs):CsA K A i (x::xs)
theorem CsA.at:∀{l:List Str}{j:Nat},CsA K A j l->∀i x,l[i]? =some x->Gc K x (A (j+i))
 |[],_,_,_,_,e=>by simp at e
 |y::l,j,.cons g r,0,x,e=>by simp at e;subst e;exact g
 |y::l,j,.cons g r,i+1,x,e=>by
  have:=CsA.at r i x (by simpa using e);rwa[show j+1+i=j+(i+1)by omega]at this
noncomputable def kg{α:Type}:Option (Option α)->Bool
 |some none=>true
 |_=>false
theorem sn{α:Type}{o:Option (Option α)}(h:kg o=true):o=some none:=by rcases o with _|_|_ <;> first|rfl|cases h
noncomputable def isI(n:Int):Value->Bool
 | .int m _=>m==n
 |_=>false
noncomputable def We(n:Int):Option (Option Value)->Bool
 |some (some v)=>isI n v
 |_=>false
theorem si(h:We n o=true):∃t,o=some (some (.int n t)):=by
 rcases o with _|_|v <;> try cases h
 cases v <;> try cases h
 cases eq_of_beq h;exact⟨_,rfl⟩
noncomputable def ur(K:W.Frag)(C:Addr)(f:Str):Bool:=kg (W.findIn K (.ref C) f)
noncomputable def noN(K:W.Frag)(x:Str):Bool:=kg (W.nsIn K mainGlobals x)
noncomputable def isN(K:W.Frag)(x:Str)(n:Int):Bool:=We n (W.nsIn K mainGlobals x)
noncomputable def Zj(K:W.Frag)(A:Nat->Addr):Nat->List (List Str)->Bool
 |_,[]=>true
 |i,fs::r=>fs.all (ur K (A i))&&Zj K A (i+1) r
theorem zOO:∀{l:List (List Str)}{j:Nat},Zj K A j l=true->∀i fs f,l[i]? =some fs->f∈fs->qZ K (A (j+i)) f
 |[],_,_,_,_,_,e,_=>by simp at e
 |gs::l,j,h,0,fs,f,e,m=>by
  simp at e;subst e;unfold Zj at h;rw[bQ]at h;exact sn (aT.mp h.1 f m)
 |gs::l,j,h,i+1,fs,f,e,m=>by
  unfold Zj at h;rw[bQ]at h;have:=zOO h.2 i fs f (by simpa using e) m;rwa[show j+1+i=j+(i+1)by omega]at this
noncomputable abbrev bls:List Str:=["isinstance","int","bool","tuple","len","all","any","list","range","zip","sum","max","enumerate","min","abs"]
section
variable{cn:List Str}{cf:List (List Str)}{cs:List (Str×Int)}
noncomputable def evOf(P:Program)(w:World)(K:W.Frag)(mg:Str->Option Value)(base h:Heap)(A:Nat->Addr)(X:K.In h)(G:h.Ns mainGlobals mg)(c:CsA K A 0 cn)(l:cf.length<=cn.length)(f:Zj K A 0 cf=true)(s:cs.all (λp=>Vg.isN K p.1 p.2)=true)(b:bls.all (noN K)=true):Ev cn cf cs where
 P:=P
 w:=w
 K:=K
 mg:=mg
 base:=base
 A:=A
 cl:=λi x e=>by have:=(c.at i x e).cls X G;rwa[cW]at this
 cf_:=λi fs f' e m=>by have n:=zOO f i fs f' e m;rw[cW]at n;have li:i<cn.length:=a9 (aN.mp e).1 l;have:=(c.at i _ (aE li)).cls X G;rw[cW]at this;exact⟨this.cl,n⟩
 cs_:=λi x n e=>by obtain⟨_,q⟩:=si (aT.mp s _ (bH e));exact⟨_,W.mg_of X G q⟩
 bl:=λx m=>W.mg_none_of X G (sn (aT.mp b _ m))
variable{E:Ev cn cf cs}{h0:Heap}
theorem zOk{t:Ct}(Y:Wh E.P E.w E.K E.mg E.base h0)(gc:CsA E.K E.A 0 cn)(b:t.Bd E lv)(s:t.St E.K E.A cn.length):t.Ok E.P E.w E.K E.mg E.base E.A lv:=by
 rcases t with⟨_|_|_|_|_,_,cl,_,_,_⟩
 ·obtain⟨⟨f,fd,g⟩,n⟩:=s;exact g.fn Y (b _ _ g.F) n
 ·obtain⟨⟨f,fd,t,g⟩,n⟩:=s;exact g.fn Y (n t).1 (n t).2 (b _ _ _ g.F)
 ·obtain⟨q,⟨f,fd,g⟩,n⟩:=s;exact g.fm Y (b _ _ _ g.F) n
 ·obtain⟨q,⟨f,fd,g⟩,n,l,rfl⟩:=s;have c:=gc.at _ _ (aE l);rw[cW cl]at c;exact g.fc Y c (b _ _ _ g.F) n
 ·obtain⟨q,⟨f,fd,t,g⟩,n,l,rfl⟩:=s;have c:=gc.at _ _ (aE l);rw[cW cl]at c;exact g.fcd Y c (n t).1 (n t).2 (b _ _ _ _ g.F)
theorem Wf(h:∀ds R,¬F ds R):Go E T ⟨0,x,cl,st,F,dv⟩/\Go E T ⟨1,x,cl,st,F,dv⟩:=⟨λ_ _ _ _ _=>zS.no λ_ _ _ _ ⟨_,ds,R,_,_,f,_⟩=>h ds R f,λ_ _ _ _ _ _=>zS.no λ_ _ _ _ ⟨_,ds,R,_,_,f,_⟩=>h ds R f⟩
theorem Hs.up(h:Hs E n T)(l:n<=m):Hs E m T:=λt k=>by
 have h:=h t k;rcases t with⟨_|_|_|_|_,_,_,_,_,_⟩
 ·exact Fn.mono h l
 ·exact u7.mono h l
 ·exact qi.mono h l
 ·exact jh.mono h l
 ·exact xj.mono h l
inductive Ch(E:Ev cn cf cs):Nat->List Ct->Prop
 |nil:Ch E 0 []
 |cons {n:Nat} {T:List Ct} {t:Ct} (c:Ch E n T) (b:Go E T t):Ch E (n+2) (t::T)
 |own {n:Nat} {T:List Ct} {t:Ct} (c:Ch E n T) (b:Hs E n T->t.Ok E.P E.w E.K E.mg E.base E.A (n+2)):Ch E (n+2) (t::T)
 |again {n kd cl:Nat} {T:List Ct} {x:Str} {st:Stmt} {F:Nat->FL} {dv:Int} (m:Nat) (c:Ch E n T) (z:Go E T ⟨kd,x,cl,st,F 0,dv⟩) (b:∀j,Go E (⟨kd,x,cl,st,F j,dv⟩::T) ⟨kd,x,cl,st,F (j+1),dv⟩):Ch E (n+2+2*m) (⟨kd,x,cl,st,F m,dv⟩::T)
theorem Hs.cons{n m:Nat}{T:List Ct}{t:Ct}(h:Hs E n T)(o:t.Ok E.P E.w E.K E.mg E.base E.A m)(l:n<=m:=by exact bM _ _):Hs E m (t::T):=λu k=>(a8.mp k).elim (λe=>e▸o) (h.up l u)
theorem Ch.run(Y:Wh E.P E.w E.K E.mg E.base h0)(gc:CsA E.K E.A 0 cn)(c:Ch E n T):StA E.K E.A cn.length T->Hs E n T:=by
 induction c with
 |nil=>exactλ_ _ h=>nomatch h
 |cons c b ih=>
  intro s;cases s with
  |cons s r=>exact(ih r).cons (zOk Y gc (b _ (ih r)) s)
 |own c b ih=>
  intro s;cases s with
  |cons s r=>exact(ih r).cons (b (ih r))
 |@again n kd cl T x st F dv m c z b ih=>
  intro s;cases s with
  |cons s r=>
   have h:=ih r
   have go:∀j,Ct.Ok E.P E.w E.K E.mg E.base E.A (n+2+2*j) ⟨kd,x,cl,st,F j,dv⟩:=λj=>by
    induction j with
    |zero=>exact zOk Y gc (z _ h) s
    |succ j hj=>exact zOk (t:=⟨kd,x,cl,st,F (j+1),dv⟩) Y gc (b j _ (h.cons hj (by show n<=n+2+2*j;omega))) s
   exact h.cons (go m) (by show n<=n+2+2*m;omega)
theorem Hs.at{n:Nat}{T:List Ct}(h:Hs E n T)(i:Nat){t:Ct}(e:T[i]? =some t:=by rfl):t.Ok E.P E.w E.K E.mg E.base E.A n:=h t (bH e)
theorem Hs.fn(h:Hs E n T)(i:Nat)(e:T[i]? =some ⟨0,x,cl,st,F,dv⟩):Fn E.P E.w E.K E.mg E.base x (pr st) (n+1) (wB F):=Fn.mono (Hs.at h i e) (dR n)
theorem Hs.mk(h:Hs E n T)(i:Nat)(e:T[i]? =some ⟨3,x,cl,st,F,dv⟩):jh E.P E.w E.K E.mg E.base (E.A cl) (pr st) n (vo (E.A cl) F):=Hs.at h i e
theorem Hs.mkD(h:Hs E n T)(i:Nat)(e:T[i]? =some ⟨4,x,cl,st,F,dv⟩):xj E.P E.w E.K E.mg E.base (E.A cl) (pr st) n (vo (E.A cl) F) (.int dv):=Hs.at h i e
end
end Vg
namespace K98
open PySem L2 Sh Pu Vg
noncomputable def zR(i:Nat):Stmt:=PySem.Challenge.pw_steadyhand_k98_whole_papers_turned.main.body.getD i (.Pass ⟨0,0,0,0⟩)
noncomputable abbrev xF:List Str:=["Mode","Thing","Claim","Settles","Comes","Paper","Rooms","Falls"]
noncomputable abbrev xM:List (List Str):=[["rows","nexts","steer","push","add","divisor"],["many","kept_pushes","kept_modes"],[],["start","rows","turn"],["start","goal","turns"],[],["rooms","back","starts","steps","stays"],["room","starts","steps","measure","step","top","falls","floors","tops"]]
noncomputable abbrev xN:List (Str×Int):=[("MOST_NUMBERS",3),("MOST_PUSHES",6),("MOST_MODES",40)]
noncomputable abbrev T_0(_:Nat->Addr):List Ct:=[]
structure Bl(mg:Str->Option Value):Prop where
 isinstance_:mg "isinstance"=none
 int_:mg "int"=none
 bool_:mg "bool"=none
 tuple_:mg "tuple"=none
 len_:mg "len"=none
 all_:mg "all"=none
 list_:mg "list"=none
 range_:mg "range"=none
 zip_:mg "zip"=none
 sum_:mg "sum"=none
 max_:mg "max"=none
 enumerate_:mg "enumerate"=none
 min_:mg "min"=none
 abs_:mg "abs"=none
 MOST_NUMBERS_:∃t,mg "MOST_NUMBERS"=some (.int 3 t)
 MOST_PUSHES_:∃t,mg "MOST_PUSHES"=some (.int 6 t)
 MOST_MODES_:∃t,mg "MOST_MODES"=some (.int 40 t)
theorem zQD[Tbl](E:Ev xF xM xN):Bl E.mg:=⟨E.bl _ (by decide),E.bl _ (by decide),E.bl _ (by decide),E.bl _ (by decide),E.bl _ (by decide),E.bl _ (by decide),E.bl _ (by decide),E.bl _ (by decide),E.bl _ (by decide),E.bl _ (by decide),E.bl _ (by decide),E.bl _ (by decide),E.bl _ (by decide),E.bl _ (by decide),E.cs_ 0 _ _ rfl,E.cs_ 1 _ _ rfl,E.cs_ 2 _ _ rfl⟩
variable[Tbl]
inductive Fw:Nat->D->Prop
 |int {k:Nat} (i:Int):Fw (k+1) (.int i)
 |bool {k:Nat} (b:Bool):Fw (k+1) (.bool b)
 |non {k:Nat}:Fw (k+1) .non
 |str {k:Nat} (x:Str):Fw (k+1) (.str x)
 |lst {k:Nat} {ds:List D} (l:ds.length<=900) (h:∀d∈ds,Fw k d):Fw (k+1) (.lst ds)
 |tup {k:Nat} {ds:List D} (l:ds.length<=900) (h:∀d∈ds,Fw k d):Fw (k+1) (.tup ds)
theorem Fw.no(h:Fw k d):d.isObj=false:=by cases h <;> rfl
theorem Fw.lst_inv(h:Fw k d)(e:d.isLst=true):∃ds,d=.lst ds/\ds.length<=900/\∃j,k=j+1/\∀d∈ds,Fw j d:=by
 cases h with
 |lst l h=>exact⟨_,rfl,l,_,rfl,h⟩
 |_=>cases e
theorem Fw.tup_inv(h:Fw k d)(e:d.isTup=true):∃ds,d=.tup ds/\ds.length<=900/\∃j,k=j+1/\∀d∈ds,Fw j d:=by
 cases h with
 |tup l h=>exact⟨_,rfl,l,_,rfl,h⟩
 |_=>cases e
theorem zK4{ns:List Int}:∀d∈ns.map D.int,Fw (k+1) d:=λd m=>by obtain⟨i,_,rfl⟩:=aG.mp m;exact .int i
theorem k0{n:Nat}(h:n.ble 1000=true:=by rfl):n<=1000:=bJ h
theorem bR{R:D->Prop}(q:R (.bool a))(e:a=b):R (.bool b):=e▸q
noncomputable def qO(d:D):Bool:=d.isInt&&!d.isBool
noncomputable def Jq(n:Int):D->Bool
 | .lst ds=>decide ((ds.length:Int)=n)&&ds.all qO
 |_=>false
noncomputable def Wg(h w:Int):D->Bool
 | .lst ds=>decide ((ds.length:Int)=h)&&ds.all (Jq w)
 |_=>false
noncomputable def qP(n:Int):D->Bool
 | .tup ds=>decide ((ds.length:Int)=n+1)&&ds.all qO
 |_=>false
noncomputable def zQ5(n:Int):D->Bool
 | .lst ds=>ds.all (qP n)
 |_=>false
theorem ub{α:Type}(f:α->Bool)(xs:List α):(xs.map f).all id=xs.all f:=by rw[eE];rfl
def zSY:FL:=λds R=>∃d,ds=[d]/\d.isObj=false/\R (.bool (qO d))
def Wi:FL:=λds R=>∃d n k,ds=[d,.int n]/\Fw k d/\R (.bool (Jq n d))
def fTab:FL:=λds R=>∃d h w k,ds=[d,.int h,.int w]/\Fw k d/\R (.bool (Wg h w d))
def fRow:FL:=λds R=>∃d n k,ds=[d,.int n]/\Fw k d/\R (.bool (qP n d))
def Wj:FL:=λds R=>∃d n k,ds=[d,.int n]/\Fw k d/\R (.bool (zQ5 n d))
def zSk(j:Nat):FL:=λds R=>∃d n,ds=[d,.int n]/\Fw j d/\R d
def Wl:FL:=λds R=>∃p w n:Int,ds=[.int p,.int w,.int n]/\0<=w/\w<=900/\R (L (yH p w.toNat n))
def IS(d:D)(ns:List Int):Prop:=d=L ns\/d=U ns
theorem IS.seq(h:IS d ns){R:List D->Prop}(q:R (ns.map D.int)):Xp d R:=by
 rcases h with rfl|rfl
 ·exact q
 ·exact q
def zPo:FL:=λds R=>∃(f:Int)(d:D)(ns:List Int),ds=[.int f,d]/\IS d ns/\ns.length<=900/\Bd 9000 f/\(∀x∈ns,Bd 9000 x)/\R (L (ns.map (f*·)))
def zPq:FL:=λds R=>∃(d e:D)(ns os:List Int),ds=[d,e]/\IS d ns/\IS e os/\ns.length<=900/\(∀x∈ns,Bd 9000 x)/\(∀x∈os,Bd 9000 x)/\R (.int (zD ns os))
theorem zHO:∀ns os:List Int,b_ yr (ns.map D.int) (os.map D.int)=(ns.zip os).map λq=>yr (.int q.1) (.int q.2)
 |[],_=>rfl
 |_::_,[]=>rfl
 |_::ns,_::os=>by rw[bg,bg,dN,zHO ns os];rfl
theorem IS.zip{ns os:List Int}(h:IS d ns)(k:IS e os){R:List D->Prop}(q:R ((ns.zip os).map λq=>yr (.int q.1) (.int q.2))):jK [d,e] R:=by rw[<- zHO]at q;rcases h with rfl|rfl <;> rcases k with rfl|rfl <;> exact q
theorem zSu{qs:List (Int×Int)}{R:D->Prop}(g)(few:qs.length<=1000)(h:∀q,q∈qs->G (yr (.int q.1) (.int q.2)) λe=>e=.int (g q))(k:R (.lst ((qs.map g).map D.int))):zo (qs.map λq=>yr (.int q.1) (.int q.2)) G R:=
 zo.map (λd=>match d with| .tup [x,y]=>.int (g (zw x,zw y))|_=>.non) (by rw[aB];exact few) (λd m=>by obtain⟨q,hq,rfl⟩:=aG.mp m;exact h q hq) (by rw[aQ]at k|-;exact k)
theorem zHX:∀ns os,((ns.zip os).map λq=>q.1*q.2).sum=zD ns os
 |[],_=>rfl
 |_::_,[]=>rfl
 |n::ns,o::os=>by rw[eJ,bg,iN,zHX ns os];rfl
noncomputable abbrev Tb(t:List (List Int)):D:=.lst (t.map L)
noncomputable abbrev Rm(t:List (List Int)):D:=.lst (t.map U)
noncomputable def zp:D->List Int
 | .lst ds=>ds.map zw
 | .tup ds=>ds.map zw
 |_=>[]
theorem zH3(ns:List Int):(ns.map D.int).map zw=ns:=by rw[aQ];exact dH _
theorem qQ(ns):zp (L ns)=ns:=zH3 ns
theorem jQ(ns):zp (U ns)=ns:=zH3 ns
theorem xC{α:Type}{xs:List α}{G:D->(D->Prop)->Prop}{R:D->Prop}(u:α->D)(v:D->α)(hv:∀x,v (u x)=x)(g:α->D)(few:xs.length<=1000)(h:∀x,x∈xs->G (u x) λe=>e=g x)(q:R (.lst (xs.map g))):zo (xs.map u) G R:=
 zo.map (λd=>g (v d)) (by rw[aB];exact few) (λd m=>by
  obtain⟨x,hx,rfl⟩:=aG.mp m;rw[hv];exact h x hx) (by
  rw[aQ,show((λd=>g (v d)) ∘ u)=g from funext λx=>congrArg g (hv x)];exact q)
def IT(e:D)(ls:List (List Int)):Prop:=e=Tb ls\/e=Rm ls
theorem zJG{α:Type}(u:α->D):∀(ns:List Int)(ls:List α),b_ yr (ns.map D.int) (ls.map u)=(ns.zip ls).map λq=>yr (.int q.1) (u q.2)
 |[],_=>rfl
 |_::_,[]=>rfl
 |_::ns,_::ls=>by rw[bg,bg,dN,zJG u ns ls];rfl
noncomputable def v2(d:D):Int×List Int:=match d with
 | .tup [x,y]=>(zw x,zp y)
 |_=>(0,[])
theorem vK{ns:List Int}(h:j<ns.length)(e:i=(j:Int)):yc (ns.map D.int) i=some (.int (ns.getD j 0)):=by rw[kK,e];unfold yc xw;grind
theorem IS.zipT(h:IS d ns)(k:IT e ls){R:List D->Prop}(q:∀u:List Int->D,u=L\/u=U->R ((ns.zip ls).map λq=>yr (.int q.1) (u q.2))):jK [d,e] R:=by have q1:=q L (.inl rfl);have q2:=q U (.inr rfl);rw[<- zJG]at q1 q2;rcases h with rfl|rfl <;> rcases k with rfl|rfl <;> first|exact q1|exact q2
theorem Wm(hu:u=L\/u=U)(q):v2 (yr (.int q.1) (u q.2))=q:=by
 rcases hu with rfl|rfl
 ·show(q.1,zp (L q.2))=q;rw[qQ]
 ·show(q.1,zp (U q.2))=q;rw[jQ]
def zSn:FL:=λds R=>∃(d e:D)(ns:List Int)(ls:List (List Int))(w:Nat),ds=[d,e,.int (w:Int)]/\IS d ns/\IT e ls/\w<=900/\ns.length<=900/\(∀x∈ns,Bd 9000 x)/\(∀r∈ls,w<=r.length/\∀x∈r,Bd 9000 x)/\R (L ((aI w).map (zH ns ls)))
def zPm:FL:=λds R=>∃p w n b:Int,ds=[.int p,.int w,.int n,.int b]/\0<=w/\w<=900/\R (U (yH p w.toNat n++[b]))
theorem jr{r:List Int}(h:∀x∈r,Bd e x)(j):Bd e (r.getD j 0):=by
 rw[aD];cases hj:r[j]? with
 |none=>show(0:Int).natAbs<2^e;exact fC e
 |some x=>exact h x (bH hj)
noncomputable abbrev Wn(A:Nat->Addr):List Ct:=⟨0,"is_table",0,zR 18,fTab,0⟩::⟨0,"is_numbers",0,zR 17,Wi,0⟩::⟨0,"is_whole",0,zR 10,zSY,0⟩::T_0 A
noncomputable abbrev zFb(j:Nat)(A:Nat->Addr):Ct:=⟨1,"copied",0,zR 19,zSk j,5⟩
noncomputable abbrev Jr(A:Nat->Addr):List Ct:=⟨0,"paired",0,zR 23,zPq,0⟩::⟨0,"scaled",0,zR 21,zPo,0⟩::⟨1,"unit",0,zR 20,Wl,1⟩::zFb 6 A::Wn A
section
variable{E:Ev xF xM xN}
theorem zJA:Gx E (Wn E.A) 2:=vk 0 [0,50,0,0,50,1,0] rfl λds R h=>by
 obtain⟨d,rfl,o,q⟩:=h;refine⟨o,λc=>⟨o,bR q ?_⟩,λc=>bR q ?_⟩
 ·unfold qO;rw[c];rfl
 ·unfold qO;rw[c];rfl
theorem zGY:Gx E (Wn E.A) 1:=vk 0 [0,50,2,0,0,0,0,1,4,0,0,0,60,0] rfl λds R h=>by
 obtain⟨d,n,k,rfl,f,q⟩:=h;refine⟨f.no,λc=>?_,λc=>bR q ?_⟩
 ·obtain⟨es,rfl,le,j,rfl,hj⟩:=f.lst_inv c;refine⟨λc2=>?_,λc2=>bR q ?_⟩
  ·refine zo.bool qO zA (λd m=>⟨d,rfl,(hj d m).no,rfl⟩) ⟨_,rfl,bR q ?_⟩;show(decide _&&_)=_;rw[c2,ub];rfl
  ·show(decide _&&_)=_;rw[c2];rfl
 ·cases d <;> first|rfl|cases c
theorem zJB:Gx E (Wn E.A) 0:=vk 0 [0,50,2,0,0,0,0,1,4,1,2,0,0,60,0,1] rfl λds R h=>by
 obtain⟨d,h,w,k,rfl,f,q⟩:=h;refine⟨f.no,λc=>?_,λc=>bR q ?_⟩
 ·obtain⟨es,rfl,le,j,rfl,hj⟩:=f.lst_inv c;refine⟨λc2=>?_,λc2=>bR q ?_⟩
  ·refine zo.bool (Jq w) zA (λd m=>⟨d,w,j,rfl,hj d m,rfl⟩) ⟨_,rfl,bR q ?_⟩;show(decide _&&_)=_;rw[c2,ub];rfl
  ·show(decide _&&_)=_;rw[c2];rfl
 ·cases d <;> first|rfl|cases c
theorem zNY:Go E (zFb j E.A::Wn E.A) (zFb (j+1) E.A):=vk1 0 [0,0,0,0,1,0,0,0,0,0,50,2,0,0,1,1,0,0,60,0,1,0,0,0,50,3,0,0,7,1,1,0,0,60,0,1,0,0] rfl λds R h=>by
 obtain⟨d,n,rfl,f,q⟩:=h;refine⟨λc=>q,λc=>?_⟩;refine⟨f.no,λc=>?_,λc=>?_⟩
 ·obtain⟨es,rfl,le,i,e1,hj⟩:=f.lst_inv c;cases e1;refine zo.map id zA (λd m=>⟨d,_,rfl,hj d m,rfl⟩) ?_;rw[dH];exact q
 refine⟨f.no,λc=>?_,λc=>q⟩;obtain⟨es,rfl,le,i,e1,hj⟩:=f.tup_inv c;cases e1;refine zo.map id zA (λd m=>⟨d,_,rfl,hj d m,rfl⟩) ?_;rw[dH];exact q
theorem zS1:Gx E (Jr E.A) 2:=vk1 0 [0,2,0,2,1,1,0,0,1,2] rfl λds R h=>by
 obtain⟨p,w,n,rfl,w0,w1,q⟩:=h;refine⟨by exact vT,by exact QL,zo.rng0 (λi=>.int (if(i:Int)=p then n else 0)) (by omega) (λk hk=>?_) ?_⟩
 ·refine⟨λc=>?_,λc=>?_⟩
  ·show D.int n=_;rw[if_pos (of_decide_eq_true c)]
  ·show D.int 0=_;rw[if_neg (of_decide_eq_false c)]
 ·unfold yH L at q;rw[aQ]at q;exact q
theorem zNV:Gx E (Jr E.A) 1:=vk 0 [0,1,0,0,1,1,0] rfl λds R h=>by obtain⟨f,d,ns,rfl,h,l,bf,bn,q⟩:=h;exact h.seq (zo.int _ zA (λn hn=>⟨bf.mono,(bn n hn).mono,rfl⟩) q)
theorem zNW:Gx E (Jr E.A) 0:=vk 0 [0,1,0,3,0,1,0,1] rfl λds R h=>by obtain⟨d,e,ns,os,rfl,h,k,l,bn,bo,q⟩:=h;refine h.zip k (zSu (λq=>q.1*q.2) (by rw[cu];exact u2) (λp hp=>⟨(bn _ (bC hp).1).mono,(bo _ (bC hp).2).mono,rfl⟩) ⟨_,rfl,?_⟩);rw[zHX];exact q
end
end K98
namespace K98
open PySem L2 Sh Pu Vg
variable[Tbl]
noncomputable abbrev Wo(A:Nat->Addr):List Ct:=⟨0,"single",0,zR 28,zPm,0⟩::⟨0,"is_room",0,zR 27,Wj,0⟩::⟨0,"is_row",0,zR 26,fRow,0⟩::⟨0,"added_up",0,zR 24,zSn,0⟩::Jr A
section
variable{E:Ev xF xM xN}
theorem zJE:Gx E (Wo E.A) 3:=vk 0 [0,2,0,1,1,2,1,1,0,3,1,2,0,0,1,2] rfl λds R h=>by
 obtain⟨d,e,ns,ls,w,rfl,h,k,lw,ln,bn,bl,q⟩:=h;refine⟨by exact zb,by exact yj,?_⟩;rw[show((w:Nat):Int).toNat=w by exact rfl];refine zo.rng0 (λj=>.int (zH ns ls j)) zA (λj hj=>?_) (by unfold L at q;rw[aQ]at q;exact q);refine h.zipT k λu hu=>xC (λq=>yr (.int q.1) (u q.2)) v2 (Wm hu) (λq=>.int (q.1*q.2.getD j 0)) (by rw[cu];exact u2) (λq hq=>?_) ⟨(ns.zip ls).map λq=>q.1*q.2.getD j 0,by rw[aQ];rfl,rfl⟩;have hb:=bl q.2 (bC hq).2;rcases hu with rfl|rfl
 all_goals exact⟨_,vK (j:=j) (by omega) rfl,(bn _ (bC hq).1).mono,(jr hb.2 j).mono,rfl⟩
theorem zNX:Gx E (Wo E.A) 2:=vk 0 [0,50,3,0,0,0,0,1,4,0,0,0,67,0] rfl λds R h=>by
 obtain⟨d,n,k,rfl,f,q⟩:=h;refine⟨f.no,λc=>?_,λc=>bR q ?_⟩
 ·obtain⟨es,rfl,le,j,rfl,hj⟩:=f.tup_inv c;refine⟨λc2=>?_,λc2=>bR q ?_⟩
  ·refine zo.bool qO zA (λd m=>⟨d,rfl,(hj d m).no,rfl⟩) ⟨_,rfl,bR q ?_⟩;show(decide _&&_)=_;rw[c2,ub];rfl
  ·show(decide _&&_)=_;rw[c2];rfl
 ·cases d <;> first|rfl|cases c
theorem zLg:Gx E (Wo E.A) 1:=vk 0 [0,50,2,0,4,1,1,0,0,60,0,1] rfl λds R h=>by
 obtain⟨d,n,k,rfl,f,q⟩:=h;refine⟨f.no,λc=>?_,λc=>bR q ?_⟩
 ·obtain⟨es,rfl,le,j,rfl,hj⟩:=f.lst_inv c;refine zo.bool (qP n) zA (λd m=>⟨d,n,j,rfl,hj d m,rfl⟩) ⟨_,rfl,bR q ?_⟩;rw[ub];rfl
 ·cases d <;> first|rfl|cases c
theorem zNU:Gx E (Wo E.A) 0:=vk 0 [0,7,65,0,1,2,3] rfl λds R h=>by obtain⟨p,w,n,b,rfl,w0,w1,q⟩:=h;refine⟨p,w,n,rfl,w0,w1,k0,by rw[aB,qj];show _+1<=1000;omega,?_⟩;unfold U at q;rw[aS]at q;exact q
end
end K98
namespace K98
open PySem L2 Sh Pu Vg
variable[Tbl]
noncomputable abbrev zOG:List Str:=["rows","nexts","steer","push","add","divisor"]
noncomputable abbrev zOf:List Str:=["many","kept_pushes","kept_modes"]
noncomputable abbrev xc(C:Addr)(m:MD):D:=.obj C zOG [Rm m.rows,Tb m.nexts,L m.steer,Tb m.push,L m.add,.int m.div]
noncomputable abbrev zn(b:Int×Int):D:=.tup [.int b.1,.int b.2]
noncomputable abbrev yu(C CM:Addr)(n:Nat)(bs:List (Int×Int))(ms:List MD):D:=.obj C zOf [.int (n:Int),.lst (bs.map zn),.lst (ms.map (xc CM))]
theorem vL(h:ns.length<=900):Fw (k+2) (L ns):=.lst (by rw[aB];exact h) zK4
theorem fw_U(h:ns.length<=900):Fw (k+2) (U ns):=.tup (by rw[aB];exact h) zK4
theorem qy(h:t.length<=900)(h2:∀r∈t,r.length<=900):Fw (k+3) (Tb t):=.lst (by rw[aB];exact h) λd m=>by obtain⟨r,hr,rfl⟩:=aG.mp m;exact vL (h2 r hr)
theorem kh(h:t.length<=900)(h2:∀r∈t,r.length<=900):Fw (k+3) (Rm t):=.lst (by rw[aB];exact h) λd m=>by obtain⟨r,hr,rfl⟩:=aG.mp m;exact fw_U (h2 r hr)
theorem zGh(ns:List Int):(ns.map D.int).all qO=true:=aT.mpr λd m=>by obtain⟨i,_,rfl⟩:=aG.mp m;rfl
theorem zGv(h:(ns.length:Int)=n):Jq n (L ns)=true:=by show(decide _&&_)=true;rw[aB,decide_eq_true h,zGh];rfl
theorem Js(e:(t.length:Int)=h)(k:∀r∈t,(r.length:Int)=w):Wg h w (Tb t)=true:=by
 show(decide _&&_)=true;rw[aB,decide_eq_true e]
 exact aT.mpr λd m=>by obtain⟨r,hr,rfl⟩:=aG.mp m;exact zGv (k r hr)
theorem zQ4(h:(ns.length:Int)=n+1):qP n (U ns)=true:=by show(decide _&&_)=true;rw[aB,decide_eq_true h,zGh];rfl
theorem Jt(k:∀r∈t,(r.length:Int)=n+1):zQ5 n (Rm t)=true:=aT.mpr λd m=>by obtain⟨r,hr,rfl⟩:=aG.mp m;exact zQ4 (k r hr)
def zSg(C:Addr):FL:=λds R=>∃r n s p a d,ds=[r,n,s,p,a,d]/\Fw 5 r/\Fw 5 n/\Fw 5 s/\Fw 5 p/\Fw 5 a/\R (.obj C zOG [r,n,s,p,a,d])
def zPu:FL:=λds R=>∃b:Int×Int,ds=[zn b]/\b.1<=b.2/\R (.bool true)
def zPv(C:Addr):FL:=λds R=>∃(m:MD)(n p:Nat),ds=[xc C m,.int (n:Int),.int (p:Int)]/\yf m n p/\R (.bool true)
def zM8(C:Addr):FL:=λds R=>∃(n:Nat)(bs:List (Int×Int))(ms:List MD),ds=[.int (n:Int),.lst (bs.map zn),.lst (ms.map (xc C))]/\vd n bs ms/\R (.bool true)
def zPk(C CM:Addr):FL:=λds R=>∃(n:Nat)(bs:List (Int×Int))(ms:List MD),ds=[.int (n:Int),.lst (bs.map zn),.lst (ms.map (xc CM))]/\vd n bs ms/\R (yu C CM n bs ms)
def zPp(C CM:Addr):FL:=λds R=>∃n bs ms,ds=[yu C CM n bs ms]/\R (.lst (bs.map zn))
def zSf(C CM:Addr):FL:=λds R=>∃n bs ms,ds=[yu C CM n bs ms]/\R (.lst (ms.map (xc CM)))
noncomputable def kj(ms:List MD):Bool:=ms.all λm=>m.steer.all λx=>decide (x=0)
def zIx(C:Addr):FL:=λds R=>∃m,ds=[xc C m]/\m.steer.length<=900/\R (.bool (m.steer.all λx=>decide (x=0)))
def zPx(C CM:Addr):FL:=λds R=>∃n bs ms,ds=[yu C CM n bs ms]/\vd n bs ms/\R (.bool (kj ms))
def zIy(C CM:Addr):FL:=λds R=>∃n bs ms,ds=[yu C CM n bs ms]/\vd n bs ms/\kj ms=true/\R .non
theorem zSv{ns:List Int}{R:D->Prop}(g)(few:ns.length<=1000)(h:∀n,n∈ns->G (.int n) λe=>e=.bool (g n))(q:R (.lst ((ns.map g).map D.bool))):zo (ns.map D.int) G R:=xC D.int zw (λ_=>rfl) (λn=>.bool (g n)) few h (by rw[aQ]at q;exact q)
noncomputable def xW(d:D):MD:=match d with
 | .obj _ _ [.lst r,.lst n,s,.lst p,a,d]=>⟨r.map zp,n.map zp,zp s,p.map zp,zp a,zw d⟩
 |_=>⟨[],[],[],[],[],0⟩
theorem zNj(t:List (List Int)):(t.map L).map zp=t:=by rw[aQ,show(zp ∘ L)=id from funext λr=>qQ r];exact dH _
theorem zQh(t:List (List Int)):(t.map U).map zp=t:=by rw[aQ,show(zp ∘ U)=id from funext λr=>jQ r];exact dH _
theorem Ju(C)(m):xW (xc C m)=m:=by show MD.mk ((m.rows.map U).map zp) ((m.nexts.map L).map zp) (zp (L m.steer)) ((m.push.map L).map zp) (zp (L m.add)) m.div=m;rw[zQh,zNj,zNj,qQ,qQ]
noncomputable def Wp(d:D):Int×Int:=match d with
 | .tup [x,y]=>(zw x,zw y)
 |_=>(0,0)
theorem Fw.mono0(h:Fw j a):∀{k:Nat},j<=k->Fw k a:=by
 induction h with
 |lst l _ ih=>
  intro k hk;obtain⟨m,rfl⟩:∃m,k=m+1:=⟨k-1,by omega⟩
  exact .lst l λa ha=>ih a ha jz
 |tup l _ ih=>
  intro k hk;obtain⟨m,rfl⟩:∃m,k=m+1:=⟨k-1,by omega⟩
  exact .tup l λa ha=>ih a ha jz
 |int i=>intro k hk;obtain⟨m,rfl⟩:∃m,k=m+1:=⟨k-1,by omega⟩;exact .int i
 |bool i=>intro k hk;obtain⟨m,rfl⟩:∃m,k=m+1:=⟨k-1,by omega⟩;exact .bool i
 |non=>intro k hk;obtain⟨m,rfl⟩:∃m,k=m+1:=⟨k-1,by omega⟩;exact .non
 |str i=>intro k hk;obtain⟨m,rfl⟩:∃m,k=m+1:=⟨k-1,by omega⟩;exact .str i
structure MBd(m:MD):Prop where
 nexts:∀r∈m.nexts,∀x∈r,Bd 9000 x
 push:∀r∈m.push,∀x∈r,Bd 9000 x
 add:∀x∈m.add,Bd 9000 x
 div:Bd 9000 m.div
theorem Fw.mono{j k:Nat}{a:D}(h:Fw j a)(l:j<=k:=by decide):Fw k a:=h.mono0 l
noncomputable abbrev jR(A:Nat->Addr):List Ct:=⟨0,"ask_closed",0,zR 45,zIy (A 1) (A 0),0⟩::⟨2,"is_closed",1,gj (zR 40) 3,zPx (A 1) (A 0),0⟩::⟨0,"is_unsteered",0,zR 44,zIx (A 0),0⟩::⟨2,"modes",1,gj (zR 40) 2,zSf (A 1) (A 0),0⟩::⟨2,"pushes",1,gj (zR 40) 1,zPp (A 1) (A 0),0⟩::⟨3,"__init__",1,gj (zR 40) 0,zPk (A 1) (A 0),0⟩::⟨0,"is_sound",0,zR 41,zM8 (A 0),0⟩::⟨0,"is_mode",0,zR 43,zPv (A 0),0⟩::⟨0,"is_push",0,zR 42,zPu,0⟩::⟨3,"__init__",0,gj (zR 39) 0,zSg (A 0),0⟩::Wo A
section
variable{E:Ev xF xM xN}
theorem zEC:Gx E (jR E.A) 9:=vk3 0 [0,0,0,67,1,0,0,0,67,2,0,0,0,67,3,0,0,0,67,4,0,0,0,67,5,0,0,6] rfl λo ds R h=>by obtain⟨r,n,s,p,a,d,rfl,f1,f2,f3,f4,f5,q⟩:=h;refine⟨r,5,rfl,f1.mono,rfl,by decide+kernel,by decide,rfl,?_⟩;refine⟨n,5,rfl,f2.mono,rfl,by decide+kernel,by decide,rfl,?_⟩;refine⟨s,5,rfl,f3.mono,rfl,by decide+kernel,by decide,rfl,?_⟩;refine⟨p,5,rfl,f4.mono,rfl,by decide+kernel,by decide,rfl,?_⟩;refine⟨a,5,rfl,f5.mono,rfl,by decide+kernel,by decide,rfl,?_⟩;exact⟨rfl,by decide+kernel,by decide,rfl,rfl,q⟩
theorem zLh:Gx E (jR E.A) 8:=vk 0 [0,0,0,50,3,0,0,0,0,0,0,71,0,0,71,0,0,0,0,0,0,0] rfl λds R h=>by obtain⟨b,rfl,h,q⟩:=h;refine⟨rfl,wF rfl (wF rfl ?_)⟩;refine⟨_,rfl,_,rfl,rfl,wT rfl ?_⟩;refine⟨_,rfl,_,rfl,rfl,wT rfl ?_⟩;exact⟨_,rfl,_,rfl,bR q (decide_eq_true h).symm⟩
theorem zLi:Gx E (jR E.A) 7:=vk 0 [0,0,0,51,0,0,63,0,0,1,0,0,0,0,70,0,0,1,1,70,0,0,1,2,0,0,0,0,71,0,0,1,71,0,0,1,0,0,72,0,0,0,0,0] rfl λds R h=>by obtain⟨m,n,p,rfl,h,q⟩:=h;have n3:=h.n3;have p6:=h.p6;refine⟨⟨_,_,(E.cl 0 _ rfl)⟩,_,Q2,wF rfl ?_⟩;refine⟨rfl,_,rfl,_,_,3,rfl,kh h.few (λr hr=>by rw[h.rows r hr];exact y6),wF (by rw[Jt λr hr=>by rw[h.rows r hr];rfl];rfl) ?_⟩;refine⟨rfl,_,rfl,_,_,_,3,rfl,qy (by rw[h.nexts.1];exact zA) (λr hr=>by rw[h.nexts.2 r hr];exact zA),wF (by rw[Js (by rw[h.nexts.1]) (λr hr=>by rw[h.nexts.2 r hr])];rfl) ?_⟩;refine⟨rfl,_,rfl,_,_,_,3,rfl,qy (by rw[h.push.1];exact zA) (λr hr=>by rw[h.push.2 r hr];exact zA),wF (by rw[Js (by rw[h.push.1]) (λr hr=>by rw[h.push.2 r hr])];rfl) ?_⟩;refine⟨rfl,_,rfl,_,_,2,rfl,vL (by rw[h.steer];exact zA),wF (by rw[zGv (by rw[h.steer])];rfl) ?_⟩;refine⟨rfl,_,rfl,_,_,2,rfl,vL (by rw[h.add];exact zA),wF (by rw[zGv (by rw[h.add])];rfl) ?_⟩;refine⟨rfl,_,rfl,_,rfl,rfl,wT rfl ?_⟩;exact⟨rfl,_,rfl,bR q (decide_eq_true h.div).symm⟩
theorem zJC:Gx E (jR E.A) 6:=vk 0 [0,0,0,73,0,0,0,0,0,60,0,0,0,0,50,2,1,4,0,0,1,61,0,0,0,0,0,50,2,2,0,0,2,0,0,4,2,0,1,0,2,60,0,1,0,2] rfl λds R h=>by obtain⟨n,bs,ms,rfl,h,q⟩:=h;have n1:=h.n1;have n3:=h.n3;have m40:=h.m40;have m1:=h.m1;have b6:=h.b6;refine⟨_,rfl,rfl,wF rfl (wF (decide_eq_false (by omega)) (wF (decide_eq_false (by omega)) ?_))⟩;refine⟨rfl,wF rfl ?_⟩;refine xC zn Wp (λ_=>rfl) (λ_=>.bool true) zA (λb hb=>⟨b,rfl,h.bok b hb,rfl⟩) ⟨bs.map λ_=>true,by rw[aQ];rfl,?_⟩;rw[show(bs.map λ_=>true).all id=true from aT.mpr λx hx=>by obtain⟨_,_,rfl⟩:=aG.mp hx;rfl];refine wF rfl ?_;refine⟨rfl,wF rfl (wF (decide_eq_false (by rw[aB];exact uK)) ?_)⟩;refine xC (xc (E.A 0)) xW (Ju _) (λ_=>.bool true) zA (λm hm=>⟨m,n,bs.length,by rw[aB],h.mok m hm,rfl⟩) ⟨ms.map λ_=>true,by rw[aQ];rfl,bR q ?_⟩;exact(aT.mpr λx hx=>by obtain⟨_,_,rfl⟩:=aG.mp hx;rfl).symm
theorem zDQ:Gx E (jR E.A) 5:=vk3 0 [0,0,0,60,1,2,3,0,0,0,0,0,0,2,61,0,0,3,62,0,0,0,1,1,0,0,1,8,2,0,1,8,3] rfl λo ds R h=>by obtain⟨n,bs,ms,rfl,h,q⟩:=h;have m40:=h.m40;have b6:=h.b6;refine⟨n,bs,ms,rfl,h,wF rfl ?_⟩;refine wF (decide_eq_false (by rw[aB];omega)) (wF (decide_eq_false (by rw[aB];omega)) ?_);refine⟨rfl,by decide+kernel,by decide,rfl,?_⟩;refine⟨rfl,by decide+kernel,by decide,rfl,?_⟩;exact⟨rfl,by decide+kernel,by decide,rfl,rfl,q⟩
theorem zEZ:Gx E (jR E.A) 4:=vk2 0 [0,8,1,0] rfl λds R h=>by obtain⟨n,bs,ms,rfl,q⟩:=h;exact⟨rfl,_,rfl,q⟩
theorem zFf:Gx E (jR E.A) 3:=vk2 0 [0,8,1,0] rfl λds R h=>by obtain⟨n,bs,ms,rfl,q⟩:=h;exact⟨rfl,_,rfl,q⟩
theorem zEU:Gx E (jR E.A) 2:=vk 0 [0,4,0,0,0,0,0,0] rfl λds R h=>by obtain⟨m,rfl,h,q⟩:=h;refine⟨rfl,_,rfl,?_⟩;refine zSv (λx=>decide (x=0)) zA (λn hn=>rfl) ⟨_,rfl,bR q ?_⟩;rw[ub]
theorem zC8:Gx E (jR E.A) 1:=vk2 0 [0,4,0,0,1,0,60,0] rfl λds R h=>by obtain⟨n,bs,ms,rfl,h,q⟩:=h;refine⟨rfl,_,rfl,?_⟩;have m40:=h.m40;refine xC (xc (E.A 0)) xW (Ju _) (λm=>.bool (m.steer.all λx=>decide (x=0))) zA (λm hm=>⟨m,rfl,by have:=(h.mok m hm).steer;have:=h.n3;exact wz,rfl⟩) ⟨ms.map λm=>m.steer.all λx=>decide (x=0),by rw[aQ];rfl,bR q ?_⟩;rw[ub];rfl
theorem zGc:Gx E (jR E.A) 0:=vk 0 [0,0,0,0,0] rfl λds R h=>by obtain⟨n,bs,ms,rfl,h,c,q⟩:=h;exact⟨rfl,by decide+kernel,n,bs,ms,rfl,h,wF (by rw[c];rfl) q⟩
end
end K98
namespace K98
open PySem L2 Sh Pu Vg
variable[Tbl]
noncomputable def uF(n p:Nat)(ws:List Int)(b:Int)(m:MD):List Int:=((aI n).map (zH ws m.nexts)++(aI p).map (zH ws m.push))++[m.div*b-zD ws m.add]
theorem zE6:∀rows nums j,xB rows nums j=zH nums rows j
 |[],nums,j=>by unfold xB zH;simp
 |r::rows,[],j=>by unfold xB zH;simp
 |r::rows,x::nums,j=>by rw[Yz,gz,zE6 rows nums j,fK]
noncomputable def uG:D->Bool
 | .int i=>decide (0<=i)
 |_=>false
noncomputable def xY(c:Nat):D->Bool
 | .tup [x,.lst ys]=>uG x&&(decide (ys.length=c)&&ys.all uG)
 |_=>false
noncomputable def qz(rows:List (List Int))(tw:List Int)(n:Nat):D->Bool
 | .tup [.int o,.lst ys]=>xY rows.length (.tup [.int o,.lst ys])&&gu rows tw o (ys.map zw) n
 |_=>false
def ShB(a:D):Prop:=∀o ys,a=.tup [.int o,.lst ys]->Bd 6000 o/\∀y∈ys,Bd 6000 (zw y)
structure vb(rows:List (List Int))(n:Nat):Prop where
 row:∀r∈rows,r.length=n+1/\∀x∈r,Bd 1000 x
 few:rows.length<=500
 nar:n<=100
theorem zEl:∀{ys:List D},ys.all uG=true->∃ns,ys=ns.map .int/\ys.map zw=ns/\∀x∈ns,0<=x
 |[],_=>⟨[],rfl,rfl,λ_ h=>by cases h⟩
 |a::ys,h=>by
  rw[dj,bQ]at h;obtain⟨ns,rfl,e,h0⟩:=zEl h.2;cases a with
  |int i=>exact⟨i::ns,rfl,by rw[bg,e];rfl,λx hx=>(a8.mp hx).elim (λz=>z▸of_decide_eq_true h.1) (h0 x)⟩
  |_=>cases h.1
theorem zME(h:xY c a=true):∃o ns,a=.tup [.int o,L ns]/\0<=o/\ns.length=c/\∀x∈ns,0<=x:=by
 rcases a with _|_|_|_|_|_|as|_ <;> try cases h
 rcases as with _|⟨x,as⟩ <;> try cases h
 rcases as with _|⟨y,as⟩ <;> try cases h
 cases y <;> try cases h
 all_goals(rcases as with _|_ <;> try cases h)
 rename_i ys;change(uG x&&(decide (ys.length=c)&&ys.all uG))=true at h;rw[bQ,bQ,decide_eq_true_iff]at h;obtain⟨ns,rfl,_,h0⟩:=zEl h.2.2;cases x with
 |int o=>exact⟨o,ns,rfl,of_decide_eq_true h.1,by have:=h.2.1;rw[aB]at this;exact this,h0⟩
 |_=>cases h.1
theorem zMD(h:xY rows.length a=false):qz rows tw n a=false:=by
 rcases a with _|_|_|_|_|_|as|_ <;> try rfl
 rcases as with _|⟨x,as⟩ <;> try rfl
 cases x <;> try rfl
 all_goals(rcases as with _|⟨y,as⟩ <;> try rfl)
 cases y <;> try rfl
 all_goals(rcases as with _|_ <;> try rfl)
 show(_&&_)=_;rw[h];rfl
theorem zMr(ns:List Int):(ns.map D.int).map zw=ns:=by rw[aQ];exact dH _
theorem zJg(h:xY rows.length (.tup [.int o,L ns])=true):qz rows tw n (.tup [.int o,L ns])=gu rows tw o ns n:=by show(xY rows.length (.tup [.int o,.lst (ns.map .int)])&&gu rows tw o ((ns.map D.int).map zw) n)=_;rw[show xY rows.length (.tup [.int o,.lst (ns.map .int)])=true from h,zMr];rfl
noncomputable def Zk(c:Int):D->Bool
 | .lst as=>decide ((as.length:Int)=c)
 |_=>false
noncomputable def jS(rows tws:List (List Int))(n:Nat):D->Bool
 | .lst as=>decide ((as.length:Int)=(tws.length:Int))&&(tws.zip as).all λp=>qz rows p.1 n p.2
 |_=>false
def jT(a:D):Prop:=∀as,a=.lst as->∀x∈as,ShB x
theorem Jv(h:Zk c a=true):∃as,a=.lst as/\(as.length:Int)=c:=by
 cases a with
 |lst as=>exact⟨as,rfl,of_decide_eq_true h⟩
 |_=>cases h
theorem zNB(h:Zk (tws.length:Int) a=false):jS rows tws n a=false:=by
 cases a with
 |lst as=>show(decide _&&_)=false;rw[show decide ((as.length:Int)=(tws.length:Int))=false from h];rfl
 |_=>rfl
theorem wK:Bd e (0:Int):=by show(0:Int).natAbs<2^e;exact fC e
theorem zHF{r:List Int}(h:∀x∈r,Bd e x)(j):Bd e (r.getD j 0):=by
 rw[aD];cases hj:r[j]? with
 |none=>exact wK
 |some x=>exact h x (bH hj)
theorem Zl:∀{ns os:List Int},(∀x∈ns,Bd a x)->(∀x∈os,Bd b x)->Bd (a+b+ns.length+1) (zD ns os)
 |[],_,_,_=>by unfold zD;exact wK
 |_::_,[],_,_=>by unfold zD;exact wK
 |n::ns,o::os,hn,ho=>by
  have i:=Zl (a:=a) (b:=b) (ns:=ns) (os:=os) (λq m=>hn q (aK _ m)) (λq m=>ho q (aK _ m));rw[bF];show Bd _ (n*o+zD ns os);exact(((hn n aR).mul (ho o aR)).mono (show a+b<=a+b+ns.length+1 by omega) |>.add i).mono (aJ _)
theorem km(h:∀x∈ns,Bd a x)(hN:∀r∈N,∀x∈r,Bd b x):Bd (a+b+ns.length+1) (zH ns N j):=by rw[qk];refine Zl h λx hx=>?_;obtain⟨r,hr,rfl⟩:=aG.mp hx;exact zHF (hN r hr) j
structure MS(m:MD):Prop where
 nexts:∀r∈m.nexts,∀x∈r,Bd 300 x
 push:∀r∈m.push,∀x∈r,Bd 300 x
 add:∀x∈m.add,Bd 300 x
 div:Bd 300 m.div
 rows:∀r∈m.rows,∀x∈r,Bd 300 x
 few:m.rows.length<=100
structure wr(room:List (List Int))(n:Nat):Prop where
 row:∀r∈room,r.length=n+1/\∀x∈r,Bd 300 x
 few:room.length<=100
theorem wr.rw(h:wr room n)(n3:n<=3):vb room n:=⟨λr hr=>⟨(h.row r hr).1,λx hx=>((h.row r hr).2 x hx).mono⟩,by have:=h.few;exact zA,by exact zA⟩
theorem zHE(h:Bd e nu):∀x∈yH pl n nu,Bd e x:=λx hx=>by
 obtain⟨i,_,rfl⟩:=aG.mp hx;show Bd e (if(i:Int)=pl then nu else 0);split
 ·exact h
 ·exact wK
theorem zMA(h:∀r∈rows,r.length=n+1/\∀x∈r,Bd 1000 x)(few:rows.length<=400)(n3:n<=3)(b6:bs.length<=6)(bb:∀b∈bs,Bd 300 b.1/\Bd 300 b.2):vb (jA n bs rows) (n+bs.length):=by
 have b1:Bd 4 (1:Int):=Bd.lit;refine⟨λr hr=>?_,?_,by exact we⟩
 ·rcases be.mp hr with hr|hr
  ·obtain⟨q,hq,rfl⟩:=aG.mp hr;obtain⟨lq,bq⟩:=h q hq;refine⟨by unfold wa;simp;omega,λx hx=>?_⟩;unfold wa at hx;rcases be.mp hx with hx|hx
   ·rcases be.mp hx with hx|hx
    ·exact bq x (bN hx)
    ·rw[fW hx];exact wK
   ·rw[a6.mp hx];exact zHF bq n
  ·obtain⟨l,hl,hr⟩:=f9.mp hr;obtain⟨i,hi,rfl⟩:=ie.mp hl;have hb:=bb _ (cq hi)
   have key:∀(y c:Int),Bd 1000 y->Bd 1000 c->(yH ((n+i:Nat):Int) (n+bs.length) y++[c]).length=n+bs.length+1/\∀x∈yH ((n+i:Nat):Int) (n+bs.length) y++[c],Bd 1000 x:=λy c hy hc=>⟨by rw[aF,qj];rfl,λx hx=>by
    rcases be.mp hx with hx|hx
    ·exact zHE hy x hx
    ·rw[a6.mp hx];exact hc⟩
   rcases a8.mp hr with rfl|hr
   ·exact key _ _ b1.mono (hb.2.mono)
   ·rw[a6.mp hr];exact key _ _ (b1.neg.mono) (hb.1.neg.mono)
 ·unfold jA;rw[aF,aB]
  have:((bs.mapIdx (uS n bs.length)).flatten).length=2*bs.length:=by
   rw[iI]
   have e:(bs.mapIdx (uS n bs.length)).map dF=aL bs.length 2:=by refine dg (by simp) λi h1 h2=>?_;simp[uS]
   rw[e];simp;exact h_ _ _
  omega
theorem zFs(n p)(ws)(b)(m):(uF n p ws b m).length=n+p+1:=by unfold uF;simp;exact rfl
theorem zMI(h:MS m)(lw:ws.length<=3)(bw:∀x∈ws,Bd 301 x)(bb:Bd 301 b):∀x∈uF n p ws b m,Bd 700 x:=λx hx=>by
 unfold uF at hx;rcases be.mp hx with hx|hx
 ·rcases be.mp hx with hx|hx <;> obtain⟨j,_,rfl⟩:=aG.mp hx
  ·exact(km bw h.nexts).mono u1
  ·exact(km bw h.push).mono u1
 ·rw[a6.mp hx];exact(((h.div.mul bb).mono (show 300+301<=650 by decide)).sub ((Zl bw h.add).mono (show 301+300+ws.length+1<=650 by exact u1))).mono
noncomputable def ko(n p:Nat)(m:MD)(behind:List (List Int)):List (List Int):=behind.map λr=>uF n p (r.take n) (r.getD n 0) m
noncomputable def Zm(n:Nat)(bs:List (Int×Int))(room behind:List (List Int))(m:MD)(a:D):Bool:=jS (jA n bs (room++m.rows)) (ko n bs.length m behind) (n+bs.length) a
noncomputable def kq(n:Nat)(bs:List (Int×Int))(ms:List MD)(room behind:List (List Int)):D->Bool
 | .lst as=>decide ((as.length:Int)=(ms.length:Int))&&(ms.zip as).all λp=>Zm n bs room behind p.1 p.2
 |_=>false
structure Zo(n:Nat)(bs:List (Int×Int))(ms:List MD):Prop where
 ok:vd n bs ms
 ms:∀m∈ms,MS m
 bs:∀b∈bs,Bd 300 b.1/\Bd 300 b.2
theorem zKv(h:Zk (ms.length:Int) a=false):kq n bs ms room behind a=false:=by
 cases a with
 |lst as=>show(decide _&&_)=false;rw[show decide ((as.length:Int)=(ms.length:Int))=false from h];rfl
 |_=>rfl
def jU(a:D):Prop:=∀as,a=.lst as->∀x∈as,jT x
theorem ut{r:List Int}(h:r.length=n+1):zm (r.map D.int) none (some (-1))=(r.take n).map D.int:=by
 have e1:HT.sIx (r.map D.int).length 0 none=0:=HT.sIx_none _ _
 have e2:HT.sIx (r.map D.int).length (r.map D.int).length (some (-1))=n:=by rw[aB,h];show(if(-1:Int)<0 then((-1:Int)+((n+1:Nat):Int)).toNat else min (-1:Int).toNat (n+1))=n;rw[if_pos (by decide)];exact Z5
 unfold zm;rw[e1,e2,d_,ia,dk]
theorem Wq(ws)(b):zm ((ws++[b]).map D.int) none (some (-1))=ws.map D.int:=by rw[ut (n:=ws.length) (by rw[aF];rfl),cY (aJ _),bO (aJ _)]
theorem kr{r:List Int}(h:r.length=n+1):yc (r.map D.int) (-1)=some (.int (r.getD n 0)):=by rw[kK];unfold yc xw;rw[if_neg (by decide),if_pos (by omega)];show e6 D.int r[((-1:Int)+(r.length:Int)).toNat]? =_;rw[show((-1:Int)+(r.length:Int)).toNat=n by omega,aE yx,aD,aE yx];rfl
theorem Wr(ws)(b):yc ((ws++[b]).map D.int) (-1)=some (.int b):=by rw[kr (n:=ws.length) (by rw[aF];rfl),aD,cS (aJ _),dE];rfl
theorem RmA(a b):D.lst (a.map U++b.map U)=Rm (a++b):=by rw[Rm,aS]
theorem Ws{α:Type}(u:α->D):∀(xs:List α)(ys:List D),b_ yr (xs.map u) ys=(xs.zip ys).map λq=>yr (u q.1) q.2
 |[],_=>rfl
 |_::_,[]=>rfl
 |_::xs,_::ys=>by rw[bg,dN,Ws u xs ys];rfl
theorem Wt{α:Type}{xs:List α}{ys:List D}{G:D->(D->Prop)->Prop}{R:D->Prop}(u:α->D)(v:D->α)(hv:∀x,v (u x)=x)(g:α->D->Bool)(few:xs.length<=1000)(h:∀x y,(x,y)∈xs.zip ys->G (yr (u x) y) λe=>e=.bool (g x y))(q:R (.lst (((xs.zip ys).map λp=>g p.1 p.2).map D.bool))):zo (b_ yr (xs.map u) ys) G R:=by rw[Ws];refine xC (λp:α×D=>yr (u p.1) p.2) (λd=>match d with| .tup [a,b]=>(v a,b)|_=>(v .non,.non)) (λp=>?_) (λp=>.bool (g p.1 p.2)) (by rw[cu];exact Z6) (λp hp=>h p.1 p.2 hp) (by rw[aQ]at q;exact q);show(v (u p.1),p.2)=p;rw[hv]
theorem zJJ(h:qO d=true):∃i,d=.int i:=by
 cases d with
 |int i=>exact⟨i,rfl⟩
 |bool b=>cases h
 |_=>cases h
theorem MS.mbd(h:MS m):MBd m:=⟨λr hr x hx=>(h.nexts r hr x hx).mono,λr hr x hx=>(h.push r hr x hx).mono,λx hx=>(h.add x hx).mono,h.div.mono⟩
theorem zo.cast{R:D->Prop}(e:ds=ds')(h:zo ds' G R):zo ds G R:=by rw[e];exact h
theorem Wu(ns):(L ns).pl 50=true:=Kj 48 ns
theorem Wv{α:Type}(f:α->List Int)(xs:List α):D.lst (xs.map λr=>U (f r))=Rm (xs.map f):=by unfold Rm;rw[aQ];rfl
theorem q9(h:(!b)=true):b=false:=by cases b <;> first|rfl|cases h
theorem jt(h:(!b)=false):b=true:=by cases b <;> first|rfl|cases h
def zLB(C CM:Addr):FL:=λds R=>∃n bs ms rows,ds=[yu C CM n bs ms,Rm rows]/\n<=3/\bs.length<=6/\(∀r∈rows,r.length=n+1)/\rows.length<=900/\R (Rm (jA n bs rows))
def zSe(C CM:Addr):FL:=λds R=>∃n bs ms m r,ds=[yu C CM n bs ms,xc CM m,U r]/\n<=3/\bs.length<=6/\yf m n bs.length/\MBd m/\r.length=n+1/\(∀x∈r,Bd 9000 x)/\R (U (uF n bs.length (r.take n) (r.getD n 0) m))
def zSm:FL:=λds R=>∃rows d ns n,ds=[Rm rows,d,.int ((n:Nat):Int)]/\IS d ns/\n<=800/\ns.length<=900/\(∀x∈ns,Bd 9000 x)/\(∀r∈rows,n+1<=r.length/\∀x∈r,Bd 9000 x)/\R (U ((aI (n+1)).map (zH ns rows)))
def zSj:FL:=λds R=>∃d,ds=[d]/\d.isObj=false/\R (.bool (uG d))
def zPn:FL:=λds R=>∃d c k,ds=[d,.int ((c:Nat):Int)]/\Fw k d/\R (.bool (xY c d))
def zSc:FL:=λds R=>∃rows tw n d k,ds=[Rm rows,U tw,d]/\tw.length=n+1/\(∀x∈tw,Bd 1000 x)/\vb rows n/\Fw k d/\ShB d/\R (.bool (qz rows tw n d))
def zPs:FL:=λds R=>∃d c k,ds=[d,.int c]/\Fw k d/\R (.bool (Zk c d))
def Ww:FL:=λds R=>∃rows tws n d k,ds=[Rm rows,Rm tws,d]/\vb rows n/\vb tws n/\Fw k d/\jT d/\R (.bool (jS rows tws n d))
def zPr(C CM:Addr):FL:=λds R=>∃n bs ms m room behind d k,ds=[yu C CM n bs ms,xc CM m,Rm room,Rm behind,d]/\Zo n bs ms/\yf m n bs.length/\MS m/\wr room n/\wr behind n/\Fw k d/\jT d/\R (.bool (Zm n bs room behind m d))
def zSi(C CM:Addr):FL:=λds R=>∃n bs ms room behind d k,ds=[yu C CM n bs ms,Rm room,Rm behind,d]/\Zo n bs ms/\wr room n/\wr behind n/\Fw k d/\jU d/\R (.bool (kq n bs ms room behind d))
def fNo:FL:=λ_ _=>False
theorem Wx{r:List Int}(h:r.length=n+1):r=r.take n++[r.getD n 0]:=by
 conv=>lhs;rw[<- fb n r]
 congr 1;rw[aD,aE yx];exact dw yx |>.trans (by rw[dM wc];rfl)
theorem zOe{α:Type}{l:List (List α)}{k:Nat}{x:List α}(h:l[k]? =some x):(l.take (k+1)).flatten=(l.take k).flatten++x:=by rw[Ym h,List.flatten_append,List.flatten_singleton]
noncomputable abbrev jV(A:Nat->Addr):List Ct:=⟨0,"leads",0,zR 97,zSi (A 1) (A 0),0⟩::⟨0,"mode_leads",0,zR 98,zPr (A 1) (A 0),0⟩::⟨0,"each_shown",0,zR 91,Ww,0⟩::⟨0,"is_list_of",0,zR 90,zPs,0⟩::⟨0,"shows",0,zR 84,zSc,0⟩::⟨0,"are_shares",0,zR 83,zPn,0⟩::⟨0,"is_from_0_on",0,zR 82,zSj,0⟩::⟨0,"added",0,zR 81,zSm,0⟩::⟨0,"reach",0,zR 79,zSe (A 1) (A 0),0⟩::⟨0,"standing",0,zR 78,zLB (A 1) (A 0),0⟩::jR A
section
variable{E:Ev xF xM xN}
theorem zI5:Gx E (jV E.A) 9:=vkN ["thing","rows","pushes","wide","noughts","told","place","push"] 6 [0,0,2,4,0,0,0,3,1,0,0,2,0,0,4,7,0,0,2,0,2,5,1,4,0,1,2,0,1,0,0,0,0,6,2,1,0,6,7,0,1,5,70,6,3,0,7,1,5,70,6,3,0,7,20,5,5] rfl λds R h=>by
 obtain⟨n,bs,ms,rows,rfl,n3,b6,hr0,l9,q⟩:=h;have hp:(eN zn bs).length=bs.length:=aB ..;refine⟨rfl,by decide+kernel,n,bs,ms,rfl,?_⟩;refine⟨rfl,_,rfl,?_⟩;refine xC zn Wp (λ_=>rfl) (λ_=>.int 0) zA (λb hb=>rfl) ?_;refine xC U zp jQ (λr=>U (wa n bs.length r)) zA (λr hr=>?_) ?_
 ·have lr:=hr0 r hr;refine⟨by rw[ut lr,aB,aB,aZ];omega,_,kr lr,k0,by rw[ut lr,aF,aB,aB,aZ];show _+1<=1000;omega,?_⟩;rw[ut lr];unfold wa U;rw[aS,aS,dm,l7];rfl
 refine⟨rfl,_,rfl,by exact zb,by exact yj,?_⟩;rw[show((n:Nat):Int).toNat=n by exact rfl];refine⟨λk Γ=>∃s6 s7,Γ=[.sh (yu (E.A 1) (E.A 0) n bs ms),.sh (Rm rows),.sh (.lst (bs.map zn)),.sh (.int ((n:Int)+((bs.map zn).length:Int))),.sh (.tup (bs.map λ_=>.int 0)),.ow ((rows.map (wa n bs.length)++((bs.mapIdx (uS n bs.length)).take k).flatten).map U),s6,s7],⟨_,_,by rw[ma,List.flatten_nil,cH,aQ];rfl⟩,?_,?_⟩
 ·rintro k d Γ' hk ⟨s6,s7,rfl⟩;obtain⟨d',hd',rfl⟩:=qL hk;rw[aV]at hd';cases hb:bs[k]? with
  |none=>rw[hb]at hd';cases hd'
  |some b=>
  rw[hb]at hd';cases hd';have kl:k<bs.length:=(aN.mp hb).1;have hx:(bs.mapIdx (uS n bs.length))[k]? =some (uS n bs.length k b):=by rw[List.getElem?_mapIdx,hb];rfl
  have ll:((bs.mapIdx (uS n bs.length)).take k).flatten.length=2*k:=by
   rw[iI]
   have e:((bs.mapIdx (uS n bs.length)).take k).map dF=aL k 2:=by refine dg (by simp;omega) λi h1 h2=>?_;simp[uS]
   rw[e];simp;exact h_ _ _
  have lw:((rows.map (wa n bs.length)++((bs.mapIdx (uS n bs.length)).take k).flatten).map U).length=rows.length+2*k:=by rw[aB,aF,aB,ll]
  have e:((rows.map (wa n bs.length)++((bs.mapIdx (uS n bs.length)).take (k+1)).flatten).map U)=((rows.map (wa n bs.length)++((bs.mapIdx (uS n bs.length)).take k).flatten).map U)++[U (yH ((n+k:Nat):Int) ((n:Int)+((bs.map zn).length:Int)).toNat 1++[b.2])]++[U (yH ((n+k:Nat):Int) ((n:Int)+((bs.map zn).length:Int)).toNat (-1)++[-b.1])]:=by rw[zOe hx,<- cv,aS,hp,show((n:Int)+(bs.length:Int)).toNat=n+bs.length by exact rfl,cv];rfl
  refine⟨_,rfl,_,_,_,_,rfl,by exact zb,by omega,by omega,?_⟩;refine⟨_,rfl,_,_,_,_,rfl,by exact zb,by omega,by rw[aF];show _+1<1000;omega,?_⟩;refine⟨.sh (.int ((n+k:Nat):Int)),.sh (zn b),?_⟩;rw[e];rfl
 ·rintro Γ' ⟨s6,s7,rfl⟩;rw[jp,hp,bO (by rw[List.length_mapIdx];exact aJ _)];exact q
theorem zQJ:Gx E (jV E.A) 8:=vk 2 [0,0,3,2,2,0,0,4,74,3,0,1,1,0,74,3,0,1,0,5,0,0,7,4,0,1,0,2,75,3,0,1] rfl λds R h=>by
 obtain⟨n,bs,ms,m,r,rfl,n3,b6,MO,MB,lr,br,q⟩:=h;have lt:(r.take n).length=n:=by rw[aZ];omega
 have bt:∀x∈r.take n,Bd 9000 x:=λx hx=>br x (bN hx);have hp:(eN zn bs).length=bs.length:=aB ..;refine⟨rfl,_,rfl,rfl,_,rfl,_,_,r.take n,m.nexts,n,rfl,.inr (by rw[ut lr]),.inl rfl,by exact zA,by exact zg,bt,λx hx=>⟨by rw[MO.nexts.2 x hx];exact aJ _,MB.nexts x hx⟩,?_⟩;refine⟨rfl,_,rfl,rfl,by decide+kernel,n,bs,ms,rfl,_,_,r.take n,m.push,bs.length,by rw[hp],.inr (by rw[ut lr]),.inl rfl,by exact zA,by exact zg,bt,λx hx=>⟨by rw[MO.push.2 x hx];exact aJ _,MB.push x hx⟩,?_⟩;refine⟨by rw[aB,aB,aB,aB,aM,aM];exact we,?_⟩;refine⟨rfl,_,rfl,_,kr lr,MB.div.mono,(jr br n).mono,rfl,_,rfl,_,_,r.take n,m.add,rfl,.inr (by rw[ut lr]),.inl rfl,by exact zg,bt,MB.add,k0,?_,?_⟩
 ·rw[aF,aB,aB,aB,aB,aM,aM];show _+1<=1000;omega
 ·unfold uF U at q;rw[aS,aS]at q;exact q
theorem zQQ:Gx E (jV E.A) 7:=vk 0 [0,7,75,1,0,2] rfl λds R h=>by obtain⟨rows,d,ns,n,rfl,h,n8,l9,bn,br,q⟩:=h;exact⟨_,_,ns,rows,n+1,rfl,h,.inr rfl,by exact y6,l9,bn,br,q⟩
theorem zEV:Gx E (jV E.A) 6:=vk 0 [0,83,0,0,0] rfl λds R h=>by
 obtain⟨d,rfl,o,q⟩:=h;refine⟨d,rfl,o,w2 (λc=>?_) (λc=>bR q ?_)⟩
 ·obtain⟨i,rfl⟩:=zJJ c;exact q
 ·cases d <;> first|rfl|cases c
theorem zGd:Gx E (jV E.A) 5:=vk 0 [0,0,0,50,3,0,0,0,0,0,0,0,0,60,0,0,50,2,0,0,0,0,0,0,1,0,0,4,0,0,0,0,60,0] rfl λds R h=>by
 obtain⟨d,c,k,rfl,f,q⟩:=h;refine⟨f.no,w2 (λc1=>wT rfl (bR q ?_)) λc1=>?_⟩
 ·cases d <;> first|rfl|cases c1
 obtain⟨es,rfl,le,j,rfl,hj⟩:=f.tup_inv (by cases z:d.isTup with|true=>rfl|false=>rw[z]at c1;cases c1);refine w2 (λc2=>bR q ?_) λc2=>?_
 ·match es,c2 with
  |[],_=>rfl
  |[_],_=>rfl
  |[_,_],c2=>cases c2
  |_::y::_::_,_=>cases y <;> rfl
 obtain⟨x,y,rfl⟩:∃x y,es=[x,y]:=by
  match es,c2 with
  |[x,y],_=>exact⟨x,y,rfl⟩
  |[],c2=>cases c2
  |[_],c2=>cases c2
  |_::_::_::_,c2=>
   have c2:(!decide (((_:Nat):Int)=2))=false:=c2;rw[iQ,decide_eq_true_iff]at c2;simp at c2;omega
 have fx:=hj x aR;have fy:=hj y (aK _ aR);refine⟨x,rfl,x,rfl,fx.no,w2 (λc3=>wT rfl (bR q ?_)) λc3=>?_⟩
 ·cases y <;> first|rfl|(show(uG x&&_)=false;rw[show uG x=false by cases z:uG x with|false=>rfl|true=>rw[z]at c3;cases c3];rfl)
 have c3:uG x=true:=by cases z:uG x with|true=>rfl|false=>rw[z]at c3;cases c3
 refine⟨y,rfl,fy.no,w2 (λc4=>wT rfl (bR q ?_)) λc4=>?_⟩
 ·cases y <;> first|rfl|cases c4
 obtain⟨ys,rfl,ly,i,rfl,hi⟩:=fy.lst_inv (by cases z:y.isLst with|true=>rfl|false=>rw[z]at c4;cases c4)
 have key:xY c (.tup [x,.lst ys])=(decide (ys.length=c)&&ys.all uG):=by show(uG x&&_)=_;rw[c3];rfl
 rw[key]at q;refine⟨_,rfl,w2 (λc5=>bR q ?_) λc5=>?_⟩
 ·have c5:(!decide ((ys.length:Int)=(c:Int)))=true:=c5;rw[i4,decide_eq_false_iff_not]at c5;rw[decide_eq_false (by omega)];rfl
 have c5:(!decide ((ys.length:Int)=(c:Int)))=false:=c5;rw[iQ,decide_eq_true_iff]at c5;refine⟨_,rfl,zo.bool uG zA (λd m=>⟨d,rfl,(hi d m).no,rfl⟩) ⟨_,rfl,bR q ?_⟩⟩;rw[ub,decide_eq_true (by omega)];rfl
theorem zQI:Gx E (jV E.A) 4:=vk 2 [0,0,0,60,2,0,0,0,0,0,3,62,0,0,2,0,1,0,0,0,0,0,2,0,4,0,0,2,3,0,0,0,0,3,0,0,4,80,0,2,1,0,0,8,2,3,2,4,0,0,3,0,4] rfl λds R h=>by
 obtain⟨rows,tw,n,d,k,rfl,lt,bt,RW,f,sb,q⟩:=h;have lr:(eN U rows).length=rows.length:=aB ..;have ltw:(eN D.int tw).length=n+1:=by rw[aB];exact lt
 have nar:=RW.nar;have fewr:=RW.few;refine⟨d,rows.length,k,by rw[lr],f,w2 (λc1=>bR q ?_) λc1=>?_⟩
 ·exact zMD (by cases z:xY rows.length d with|false=>rfl|true=>rw[z]at c1;cases c1)
 have c1:xY rows.length d=true:=by cases z:xY rows.length d with|true=>rfl|false=>rw[z]at c1;cases c1
 obtain⟨o,ns,rfl,o0,ln,n0⟩:=zME c1;rw[zJg c1]at q;obtain⟨bo,bn⟩:=sb o _ rfl;have bn:∀x∈ns,Bd 6000 x:=λx hx=>bn (.int x) (aG.mpr ⟨x,hx,rfl⟩);have tot:(aI (n+1)).map (zH ns rows)=(aI n).map (zH ns rows)++[zH ns rows n]:=by rw[ic,aS];rfl
 have e1:(aI n).map (xB rows ns)=(aI n).map (zH ns rows):=a7 λj _=>zE6 rows ns j;unfold gu at q;rw[e1,zE6]at q;refine⟨_,rfl,rows,_,ns,n,by rw[ltw];show[Rm rows,L ns,D.int (((n+1:Nat):Int)-1)]=_;rw[show((n+1:Nat):Int)-1=(n:Int)by exact gH],.inl rfl,by exact zA,by exact zg,λx hx=>(bn x hx).mono,λr hr=>⟨by rw[(RW.row r hr).1];exact aJ _,λx hx=>((RW.row r hr).2 x hx).mono⟩,?_⟩;rw[tot];refine⟨_,rfl,w2 (λc2=>?_) λc2=>?_⟩
 ·rw[if_pos (of_decide_eq_true c2)]at q;refine zo.cast (Wq _ _) (zSv (λx=>decide (x=0)) (by rw[aB,aM];exact zA) (λx hx=>rfl) ⟨_,rfl,w2 (λc3=>?_) λc3=>bR q ?_⟩)
  ·refine⟨_,Wr _ _,bR q ?_⟩;rw[ub]at c3;rw[c3];rfl
  ·rw[ub]at c3;rw[c3];rfl
 ·rw[if_neg (of_decide_eq_false c2)]at q;have lsc:(tw.map (o*·)).length=n+1:=by rw[aB];exact lt
  have ets:(tw.map (o*·)).take n=(tw.take n).map (o*·):=(dk ..).symm;refine⟨_,rfl,o,_,tw,rfl,.inr rfl,by omega,bo.mono,λx hx=>(bt x hx).mono,?_⟩;refine⟨by rw[Wq];exact Wu _,by rw[ut lsc];exact Wu _,w2 (λc3=>?_) λc3=>bR q ?_⟩
  all_goals rw[Wq,ut lsc,XS,ets]at c3
  ·refine⟨_,Wr _ _,_,kr lsc,bR q ?_⟩;rw[c3]
   rw[show(tw.map (o*·)).getD n 0=o*tw.getD n 0 by rw[aD,aV,aE yx,aD,aE yx];rfl]
   rfl
  ·rw[c3];rfl
theorem zGZ:Gx E (jV E.A) 3:=vk 0 [0,50,2,0,0,0,0,1] rfl λds R h=>by
 obtain⟨d,c,k,rfl,f,q⟩:=h;refine⟨f.no,w2 (λc1=>?_) λc1=>bR q ?_⟩
 ·obtain⟨es,rfl,le,j,rfl,hj⟩:=f.lst_inv c1;exact q
 ·cases d <;> first|rfl|cases c1
theorem zGb:Gx E (jV E.A) 2:=vk 0 [0,0,0,60,2,0,1,0,0,4,1,0,3,1,2,61,2,0,1] rfl λds R h=>by
 obtain⟨rows,tws,n,d,k,rfl,RW,RT,f,sb,q⟩:=h;have lt:(eN U tws).length=tws.length:=aB ..;have fewt:=RT.few;refine⟨d,_,k,rfl,f,w2 (λc1=>bR q ?_) λc1=>?_⟩
 ·rw[lt]at c1;exact zNB (q9 c1)
 rw[lt]at c1;obtain⟨as,rfl,la⟩:=Jv (jt c1);obtain⟨es,e1,le,j,rfl,hj⟩:=f.lst_inv rfl;cases e1;have sb:=sb as rfl;refine Wt U zp jQ (λt a=>qz rows t n a) zA (λt a hm=>?_) ⟨_,rfl,bR q ?_⟩
 ·have h1:=(bC hm).1;have h2:=(bC hm).2;exact⟨rows,t,n,a,j,rfl,(RT.row t h1).1,(RT.row t h1).2,RW,hj a h2,sb a h2,rfl⟩
 ·show(decide _&&_)=_;rw[decide_eq_true la,ub];rfl
theorem zGX:Gx E (jV E.A) 1:=vk 0 [0,60,67,0,2,0,1,2,0,1,0,3,66,1,2,0,4] rfl λds R h=>by
 obtain⟨n,bs,ms,m,room,behind,d,k,rfl,TS,MO,MSm,R1,R2,f,sb,q⟩:=h;have n1:=TS.ok.n1;have n3:=TS.ok.n3;have b6:=TS.ok.b6;have f1:=R1.few;have f2:=R2.few;have f3:=MSm.few
 have hrl:∀r∈room++m.rows,r.length=n+1/\∀x∈r,Bd 1000 x:=λr hr=>by
  rcases be.mp hr with hr|hr
  ·exact⟨(R1.row r hr).1,λx hx=>((R1.row r hr).2 x hx).mono⟩
  ·exact⟨MO.rows r hr,λx hx=>(MSm.rows r hr x hx).mono⟩
 refine⟨rfl,_,rfl,by rw[aB,aB];exact we,n,bs,ms,room++m.rows,by rw[RmA],n3,b6,λr hr=>(hrl r hr).1,by rw[aF];exact we,?_⟩;refine xC U zp jQ (λr=>U (uF n bs.length (r.take n) (r.getD n 0) m)) zA (λr hr=>?_) ?_
 ·exact⟨n,bs,ms,m,r,rfl,n3,b6,MO,MSm.mbd,(R2.row r hr).1,λx hx=>((R2.row r hr).2 x hx).mono,rfl⟩
 have RW2:vb (ko n bs.length m behind) (n+bs.length):=by refine⟨λr hr=>?_,by unfold ko;rw[aB];exact zA,by exact we⟩;obtain⟨r0,h0,rfl⟩:=aG.mp hr;obtain⟨lr,br⟩:=R2.row r0 h0;exact⟨zFs ..,λx hx=>(zMI MSm (by rw[aZ];exact Z6) (λy hy=>(br y (bN hy)).mono) (zHF br n).mono x hx).mono⟩
 exact⟨_,ko n bs.length m behind,n+bs.length,d,k,by rw[Wv (λr:List Int=>uF n bs.length (r.take n) (r.getD n 0) m)];rfl,zMA hrl (by rw[aF];exact we) n3 b6 TS.bs,RW2,f,sb,q⟩
theorem zQL:Gx E (jV E.A) 0:=vk 1 [0,0,4,12,0,0,0,0,62,3,0,4,0,0,4,3,0,1,2,3,4,3,60,2,0,3,4,1] rfl λds R h=>by
 obtain⟨n,bs,ms,room,behind,d,k,rfl,TS,R1,R2,f,sb,q⟩:=h;have m40:=TS.ok.m40;have lm:(eN (xc (E.A 0)) ms).length=ms.length:=aB ..;refine⟨rfl,by decide+kernel,n,bs,ms,rfl,?_⟩;refine⟨d,_,k,rfl,f,w2 (λc1=>bR q ?_) λc1=>?_⟩
 ·rw[lm]at c1;exact zKv (q9 c1)
 rw[lm]at c1;obtain⟨as,rfl,la⟩:=Jv (jt c1);obtain⟨es,e1,le,j,rfl,hj⟩:=f.lst_inv rfl;cases e1;have sb:=sb as rfl;refine Wt (xc (E.A 0)) xW (Ju _) (λm a=>Zm n bs room behind m a) zA (λm a hm=>?_) ⟨_,rfl,bR q ?_⟩
 ·have h1:=(bC hm).1;have h2:=(bC hm).2;exact⟨n,bs,ms,m,room,behind,a,j,rfl,TS,TS.ok.mok m h1,TS.ms m h1,R1,R2,hj a h2,sb a h2,rfl⟩
 ·show(decide _&&_)=_;rw[decide_eq_true la,ub];rfl
end
end K98
namespace K98
open PySem L2 Sh Pu Vg
variable[Tbl]
noncomputable abbrev zQ2:List Str:=["start","rows","turn"]
noncomputable abbrev zQ6:List Str:=["rooms","back","starts","steps","stays"]
noncomputable abbrev uu(rooms:List (List (List Int))):D:=.lst (rooms.map Rm)
noncomputable abbrev kt(C:Addr)(s g:List (List Int))(t:Int):D:=.obj C zQ2 [Rm s,Rm g,.int t]
noncomputable abbrev ku(C:Addr)(rooms:List (List (List Int)))(BK A1 A2 A3:D):D:=.obj C zQ6 [uu rooms,BK,A1,A2,A3]
def zQa(a:D):Prop:=∀as,a=.lst as->∀x∈as,jU x
noncomputable def Zp(n:Nat)(bs:List (Int×Int))(ms:List MD)(rooms:List (List (List Int)))(b:Nat):D->Bool
 | .lst as=>decide ((as.length:Int)=(rooms.length:Int))&&(rooms.zip ((rooms.drop 1++[rooms.getD b []]).zip as)).all λp=>kq n bs ms p.1 p.2.1 p.2.2
 |_=>false
noncomputable def Zq(n:Nat)(rooms:List (List (List Int)))(f:Nat)(g:List (List Int)):D->Bool
 | .lst as=>decide ((as.length:Int)=(rooms.length:Int))&&((rooms.drop f).zip (as.drop f)).all λp=>jS p.1 g n p.2
 |_=>false
noncomputable def jW(n:Nat)(bs:List (Int×Int))(ms:List MD)(s g:List (List Int))(t:Int)(rooms:List (List (List Int)))(BK A1 A2 A3:D):Bool:=
 match BK with
 | .int b=>if b<0\/(rooms.length:Int)<=b then false else jS s (rooms.getD 0 []) n A1&&(Zp n bs ms rooms b.toNat A2&&Zq n rooms (min b t).toNat g A3)
 |_=>false
structure Zr(n:Nat)(rooms:List (List (List Int))):Prop where
 rm:∀r∈rooms,wr r n
 few:rooms.length<=100
theorem zIw(h:Zk (rooms.length:Int) a=false):Zp n bs ms rooms b a=false:=by
 cases a with
 |lst as=>show(decide _&&_)=false;rw[show decide ((as.length:Int)=(rooms.length:Int))=false from h];rfl
 |_=>rfl
theorem zL9(h:Zk (rooms.length:Int) a=false):Zq n rooms f g a=false:=by
 cases a with
 |lst as=>show(decide _&&_)=false;rw[show decide ((as.length:Int)=(rooms.length:Int))=false from h];rfl
 |_=>rfl
noncomputable def ju:D->List (List Int)
 | .lst ds=>ds.map zp
 |_=>[]
theorem ky(r):ju (Rm r)=r:=by show(r.map U).map zp=r;rw[aQ];exact(a7 λx _=>jQ x).trans (dH _)
theorem kz{rooms:List (List (List Int))}(h0:0<=b)(h1:b<(rooms.length:Int)):yc (rooms.map Rm) b=some (Rm (rooms.getD b.toNat [])):=by rw[kK];unfold yc xw;grind
theorem k7{rooms:List (List (List Int))}(h:b<rooms.length):rooms.getD b []∈rooms:=by rw[aD,aE h];exact cq _
theorem Jw{α:Type}{xs:List α}{b:Int}(h:0<=b):zm xs (some b) none=xs.drop b.toNat:=by
 obtain⟨k,rfl⟩:=b9 h;unfold zm;have e:HT.sIx xs.length 0 (some ((k:Nat):Int))=min k xs.length:=HT.sIx_nat ..;show(xs.drop (HT.sIx xs.length 0 (some ((k:Nat):Int)))).take (xs.length-HT.sIx xs.length 0 (some ((k:Nat):Int)))=xs.drop ((k:Nat):Int).toNat;rw[e,cJ,bO (by rw[cc];exact aJ _)];by_cases c:k<=xs.length
 ·rw[dQ c]
 ·rw[lK (by omega),dM (aJ _),dM (show xs.length<=k by omega)]
def Wy(C:Addr):FL:=λds R=>∃s g t,ds=[s,g,t]/\Fw 6 s/\Fw 6 g/\R (.obj C zQ2 [s,g,t])
def Wz(C:Addr):FL:=λds R=>∃a b c d e,ds=[a,b,c,d,e]/\Fw 6 a/\Fw 6 c/\Fw 6 d/\Fw 6 e/\R (.obj C zQ6 [a,b,c,d,e])
def W0(C:Addr):FL:=λds R=>∃s g t n,ds=[kt C s g t,.int ((n:Nat):Int)]/\n<=3/\wr s n/\wr g n/\0<=t/\R (.bool true)
def W4:FL:=λds R=>∃rooms n,ds=[uu rooms,.int ((n:Nat):Int)]/\Zr n rooms/\n<=3/\R (.bool true)
def zPw(C CM CR:Addr):FL:=λds R=>∃n bs ms rooms b A1 A2 A3 k,ds=[yu C CM n bs ms,ku CR rooms (.int b) A1 A2 A3]/\Zo n bs ms/\Zr n rooms/\0<=b/\b<(rooms.length:Int)/\Fw k A2/\zQa A2/\R (.bool (Zp n bs ms rooms b.toNat A2))
def W5(CS CR:Addr):FL:=λds R=>∃n s g t rooms b A1 A2 A3 k,ds=[kt CS s g t,ku CR rooms (.int b) A1 A2 A3]/\n<=3/\Zr n rooms/\wr g n/\0<=t/\0<=b/\Fw k A3/\jU A3/\R (.bool (Zq n rooms (min b t).toNat g A3))
def zSh(C CM CS CR:Addr):FL:=λds R=>∃n bs ms s g t rooms BK A1 A2 A3 k,ds=[yu C CM n bs ms,kt CS s g t,ku CR rooms BK A1 A2 A3]/\Zo n bs ms/\wr s n/\wr g n/\0<=t/\Zr n rooms/\BK.isObj=false/\Fw k A1/\Fw k A2/\Fw k A3/\jT A1/\zQa A2/\jU A3/\kj ms=true/\R (.bool (jW n bs ms s g t rooms BK A1 A2 A3))
noncomputable abbrev qR(A:Nat->Addr):List Ct:=⟨0,"lets_by",0,zR 89,zSh (A 1) (A 0) (A 3) (A 6),0⟩::⟨0,"lets_fall_by",0,zR 100,fNo,0⟩::⟨0,"lets_rooms_by",0,zR 94,zSh (A 1) (A 0) (A 3) (A 6),0⟩::⟨0,"rooms_stay",0,zR 99,W5 (A 3) (A 6),0⟩::⟨0,"rooms_follow",0,zR 96,zPw (A 1) (A 0) (A 6),0⟩::⟨0,"are_rooms",0,zR 95,W4,0⟩::⟨0,"settles_over",0,zR 92,W0 (A 3),0⟩::⟨3,"__init__",6,gj (zR 87) 0,Wz (A 6),0⟩::⟨4,"__init__",3,gj (zR 55) 0,Wy (A 3),0⟩::jV A
section
variable{E:Ev xF xM xN}
theorem zCm:Gx E (qR E.A) 8:=vk4 0 [0,0,3,87,1,0,0,3,87,2,0,3,3] rfl λo ds R h=>by obtain⟨s,g,t,rfl,f1,f2,q⟩:=h;refine⟨s,5,rfl,f1,rfl,by decide+kernel,by decide,rfl,?_⟩;refine⟨g,5,rfl,f2,rfl,by decide+kernel,by decide,rfl,?_⟩;exact⟨rfl,by decide+kernel,by decide,rfl,rfl,q⟩
theorem zDR:Gx E (qR E.A) 7:=vk3 0 [0,0,6,88,1,0,0,6,2,0,0,6,88,3,0,0,6,88,4,0,6,88,5] rfl λo ds R h=>by obtain⟨a,b,c,d,e,rfl,f1,f3,f4,f5,q⟩:=h;refine⟨a,5,rfl,f1,rfl,by decide+kernel,by decide,rfl,?_⟩;refine⟨rfl,by decide+kernel,by decide,rfl,?_⟩;refine⟨c,5,rfl,f3,rfl,by decide+kernel,by decide,rfl,?_⟩;refine⟨d,5,rfl,f4,rfl,by decide+kernel,by decide,rfl,?_⟩;exact⟨e,5,rfl,f5,rfl,by decide+kernel,by decide,rfl,rfl,q⟩
theorem zEQ:Gx E (qR E.A) 6:=vk 0 [0,83,3,0,1,83,3,0,1,68,3,0] rfl λds R h=>by obtain⟨s,g,t,n,rfl,n3,RS,RG,t0,q⟩:=h;refine⟨rfl,_,rfl,_,_,3,rfl,kh (by have:=RS.few;exact zA) (λr hr=>by rw[(RS.row r hr).1];exact y6),wT (by rw[Jt λr hr=>by rw[(RS.row r hr).1];rfl]) ?_⟩;refine⟨rfl,_,rfl,_,_,3,rfl,kh (by have:=RG.few;exact zA) (λr hr=>by rw[(RG.row r hr).1];exact y6),wT (by rw[Jt λr hr=>by rw[(RG.row r hr).1];rfl]) ?_⟩;exact⟨rfl,_,rfl,_,rfl,rfl,bR q (decide_eq_true t0).symm⟩
theorem zHK:Gx E (qR E.A) 5:=vk 0 [0,50,2,0,4,1,1,0,0,84,0,1] rfl λds R h=>by
 obtain⟨rooms,n,rfl,RR,n3,q⟩:=h;have few:=RR.few;refine⟨rfl,wT rfl (xC Rm ju ky (λ_=>.bool true) zA (λr hr=>?_) ⟨rooms.map λ_=>true,by rw[aQ];rfl,bR q ?_⟩)⟩
 ·have h:=RR.rm r hr;refine⟨_,_,3,rfl,kh (by have:=h.few;exact zA) (λr hr=>by rw[(h.row r hr).1];exact y6),?_⟩;rw[Jt λr hr=>by rw[(h.row r hr).1];rfl]
 ·rw[eE];exact(aT.mpr λ_ _=>rfl).symm
theorem zER:Gx E (qR E.A) 4:=vk 1 [0,0,0,67,6,1,0,6,1,0,0,0,2,2,6,1,0,6,1,6,1,0,4,1,0,4,6,1,2,6,1,64,3,0,1,2] rfl λds R h=>by
 obtain⟨n,bs,ms,rooms,b,A1,A2,A3,k,rfl,TS,RR,b0,bl,F2,B2,q⟩:=h;have few:=RR.few;have lm:(eN Rm rooms).length=rooms.length:=aB ..;refine⟨rfl,_,rfl,rfl,_,rfl,A2,_,k,rfl,F2,w2 (λc1=>bR q (zIw (by rw[lm]at c1;exact q9 c1))) λc1=>?_⟩;rw[lm]at c1;obtain⟨as,rfl,la⟩:=Jv (jt c1);obtain⟨es,e1,le,j,rfl,hj⟩:=F2.lst_inv rfl;cases e1;have B2:=B2 as rfl
 have ef:D.lst (zm (rooms.map Rm) (some 1) none++[Rm (rooms.getD b.toNat [])])=uu (rooms.drop 1++[rooms.getD b.toNat []]):=by unfold uu;rw[Jw (by decide),aS,dq];rfl
 have hf:∀r∈rooms.drop 1++[rooms.getD b.toNat []],wr r n:=λr hr=>by
  rcases be.mp hr with hr|hr
  ·exact RR.rm r (cA hr)
  ·rw[a6.mp hr];exact RR.rm _ (k7 (by omega))
 refine⟨rfl,_,rfl,rfl,_,rfl,rfl,_,rfl,_,kz b0 bl,k0,by rw[Jw (by decide),cc,lm];show _+1<=1000;omega,?_⟩;rw[ef];refine⟨rfl,_,rfl,rfl,_,rfl,?_⟩;refine zo.cast (zNf Rm Rm rooms (rooms.drop 1++[rooms.getD b.toNat []]) as) (xC (λp:List (List Int)×List (List Int)×D=>Xr (Rm p.1) (Rm p.2.1) p.2.2) (λd=>match d with| .tup [x,y,z]=>(ju x,ju y,z)|_=>([],[],.non)) (λp=>by show(ju (Rm p.1),ju (Rm p.2.1),p.2.2)=p;rw[ky,ky]) (λp=>.bool (kq n bs ms p.1 p.2.1 p.2.2)) (by rw[cu];exact u2) (λp hp=>?_) ⟨(rooms.zip ((rooms.drop 1++[rooms.getD b.toNat []]).zip as)).map λp=>kq n bs ms p.1 p.2.1 p.2.2,by rw[aQ];rfl,bR q ?_⟩)
 ·have h1:=(bC hp).1;have h2:=bC (bC hp).2;exact⟨n,bs,ms,p.1,p.2.1,p.2.2,j,rfl,TS,RR.rm _ h1,hf _ h2.1,hj _ h2.2,B2 _ h2.2,rfl⟩
 ·rw[ub];show(decide _&&_)=_;rw[decide_eq_true la];rfl
theorem zGW:Gx E (qR E.A) 3:=vk 1 [0,0,0,68,6,1,0,6,1,0,0,0,2,3,6,1,3,0,0,4,1,0,3,2,6,1,2,2,6,1,2,67,0,3,2,1] rfl λds R h=>by
 obtain⟨n,s,g,t,rooms,b,A1,A2,A3,k,rfl,n3,RR,RG,t0,b0,F3,B3,q⟩:=h;have few:=RR.few;have lm:(eN Rm rooms).length=rooms.length:=aB ..;refine⟨rfl,_,rfl,rfl,_,rfl,A3,_,k,rfl,F3,w2 (λc1=>bR q (zL9 (by rw[lm]at c1;exact q9 c1))) λc1=>?_⟩;rw[lm]at c1;obtain⟨as,rfl,la⟩:=Jv (jt c1);obtain⟨es,e1,le,j,rfl,hj⟩:=F3.lst_inv rfl;cases e1;have B3:=B3 as rfl;have m0:0<=min b t:=by omega
 refine⟨rfl,_,rfl,rfl,_,rfl,rfl,_,rfl,rfl,_,rfl,?_⟩;refine zo.cast (ds':=b_ yr ((rooms.drop (min b t).toNat).map Rm) (as.drop (min b t).toNat)) (by rw[Jw m0,Jw m0,<- dq]) (Wt Rm ju ky (λr a=>jS r g n a) (by rw[cc];omega) (λr a hm=>?_) ⟨_,rfl,bR q ?_⟩)
 ·have h1:=cA (bC hm).1;have h2:=cA (bC hm).2;exact⟨rfl,_,rfl,r,g,n,a,j,rfl,(RR.rm r h1).rw n3,RG.rw n3,hj a h2,B3 a h2,rfl⟩
 ·rw[ub];show(decide _&&_)=_;rw[decide_eq_true la];rfl
theorem zEB:Gx E (qR E.A) 2:=vk 0 [0,0,0,63,1,1,0,62,6,2,1,0,0,0,0,0,72,6,2,0,6,2,0,6,2,0,0,0,0,68,3,1,0,6,2,6,2,0,0,61,0,2,60,1,2] rfl λds R h=>by
 obtain⟨n,bs,ms,s,g,t,rooms,BK,A1,A2,A3,k,rfl,TS,RS,RG,t0,RR,bo,F1,F2,F3,B1,B2,B3,cl,q⟩:=h;have n3:=TS.ok.n3;have lm:(eN Rm rooms).length=rooms.length:=aB ..;refine⟨rfl,_,rfl,s,g,t,n,rfl,n3,RS,RG,t0,wF rfl ?_⟩;refine⟨rfl,_,rfl,rfl,_,rfl,rooms,n,rfl,RR,n3,wF rfl ?_⟩;refine⟨rfl,_,rfl,BK,rfl,bo,w2 (λc1=>wT rfl (bR q ?_)) λc1=>?_⟩
 ·have c1:=q9 c1;cases BK with
  |int b=>exact if_pos (.inl (by have:=of_decide_eq_false c1;omega))
  |_=>rfl
 obtain⟨b,rfl,b0⟩:∃b,BK=.int b/\0<=b:=by
  have c1:=jt c1;cases BK with
  |int b=>exact⟨b,rfl,of_decide_eq_true c1⟩
  |_=>cases c1
 refine⟨rfl,_,rfl,rfl,_,rfl,w2 (λc2=>bR q (if_pos (.inr (by have:=of_decide_eq_true c2;omega)))) λc2=>?_⟩;have bl:b<(rooms.length:Int):=by have:=of_decide_eq_false c2;omega
 have z:jW n bs ms s g t rooms (.int b) A1 A2 A3=(jS s (rooms.getD 0 []) n A1&&(Zp n bs ms rooms b.toNat A2&&Zq n rooms (min b t).toNat g A3)):=if_neg (by omega);rw[z]at q;refine⟨rfl,_,rfl,rfl,_,rfl,_,kz (b:=0) (by decide) (by omega),rfl,_,rfl,s,rooms.getD 0 [],n,A1,k,rfl,RS.rw n3,(RR.rm _ (k7 (by omega))).rw n3,F1,B1,w2 (λc3=>bR q (by rw[q9 c3];rfl)) λc3=>?_⟩;rw[jt c3]at q;refine⟨n,bs,ms,rooms,b,A1,A2,A3,k,rfl,TS,RR,b0,bl,F2,B2,w2 (λc4=>?_) λc4=>bR q (by rw[c4];rfl)⟩;rw[c4]at q;exact⟨n,s,g,t,rooms,b,A1,A2,A3,k,rfl,n3,RR,RG,t0,b0,F3,B3,q⟩
theorem zLb:Gx E (qR E.A) 0:=vk 0 [0,0,78,0,0,0,0,51,3,1,51,6,2,0,61,0,1,2,0,0,0,51,4,1,51,7,2,0,60,0,1,2,0] rfl λds R h=>by obtain⟨n,bs,ms,s,g,t,rooms,BK,A1,A2,A3,k,rfl,TS,RS,RG,t0,RR,bo,F1,F2,F3,B1,B2,B3,cl,q⟩:=h;refine⟨n,bs,ms,rfl,TS.ok,cl,?_⟩;refine⟨⟨_,_,(E.cl 3 _ rfl)⟩,_,Q2,wT rfl ?_⟩;refine⟨⟨_,_,(E.cl 6 _ rfl)⟩,_,Q2,wT rfl ?_⟩;exact⟨n,bs,ms,s,g,t,rooms,BK,A1,A2,A3,k,rfl,TS,RS,RG,t0,RR,bo,F1,F2,F3,B1,B2,B3,cl,q⟩
end
end K98
namespace K98
open PySem L2 Sh Pu Vg
variable[Tbl]
theorem zJc(h:∀r∈rows,r.length=n+1):∀r∈jA n bs rows,r.length=n+bs.length+1:=λr hr=>by
 rcases be.mp hr with hr|hr
 ·obtain⟨q,hq,rfl⟩:=aG.mp hr;have:=h q hq;unfold wa;simp;omega
 ·obtain⟨l,hl,hr⟩:=f9.mp hr;obtain⟨i,hi,rfl⟩:=ie.mp hl;rcases a8.mp hr with rfl|hr
  ·rw[aF,qj];rfl
  ·rw[a6.mp hr,aF,qj];rfl
theorem zIj(h:TB n T B)(hr:∀r∈rows,r.length=n+p+1)(ht:tw.length=n+p+1):qz (rows.map (zY n B)) (zY n B tw) (n+p) a=qz rows tw (n+p) a:=by
 rcases a with _|_|_|_|_|_|as|_ <;> try rfl
 rcases as with _|⟨x,as⟩ <;> try rfl
 cases x <;> try rfl
 all_goals(rcases as with _|⟨y,as⟩ <;> try rfl)
 cases y <;> try rfl
 all_goals(rcases as with _|_ <;> try rfl)
 show(xY _ _&&_)=(xY _ _&&_)
 rw[aB,zIi h hr ht]
theorem zC3(h:TB n T B)(hr:∀r∈rows,r.length=n+p+1)(ht:∀r∈tws,r.length=n+p+1):jS (rows.map (zY n B)) (tws.map (zY n B)) (n+p) a=jS rows tws (n+p) a:=by
 cases a with
 |lst as=>
  show(decide _&&_)=(decide _&&_)
  rw[aB];congr 1;rw[List.zip_map_left,eE];rw[de,aT,aT];refine forall_congr' λq=>forall_congr' λhq=>?_;have:=zIj (a:=q.2) h hr (ht q.1 (bC hq).1);show qz (rows.map (zY n B)) (zY n B q.1) (n+p) q.2=true↔_;rw[this]
 |_=>rfl
theorem zFk:(zY n B r).take n=fB n B (r.take n):=by unfold zY fB;grind
structure TM(n p:Nat)(T B:List (List Int))(m m':MD):Prop where
 rows:m'.rows=m.rows.map (zY n B)
 nexts:m'.nexts=yR (yR T m.nexts n) B n
 push:m'.push=yR T m.push p
 add:m'.add=T.map λq=>zD q m.add
 div:m'.div=m.div
theorem zMH(h:TB n T B)(t:TM n p T B m m')(o:yf m n p)(lw:ws.length=n):uF n p (fB n B ws) b m'=zY n B (uF n p ws b m):=by have:=zIl (b:=b) (d:=m.div) h lw o.nexts.1 o.nexts.2 o.push.1 o.push.2 o.add;unfold uF;rw[t.nexts,t.push,t.add,t.div];exact this
theorem zGx(h:TB n T B)(t:TM n bs.length T B m m')(o:yf m n bs.length)(h1:∀r∈room,r.length=n+1)(h2:∀r∈behind,r.length=n+1):
  Zm n bs (room.map (zY n B)) (behind.map (zY n B)) m' a=Zm n bs room behind m a:=by
 unfold Zm;have hR:∀r∈room++m.rows,r.length=n+1:=λr hr=>(be.mp hr).elim (h1 r) (o.rows r)
 have e2:ko n bs.length m' (behind.map (zY n B))=(ko n bs.length m behind).map (zY n B):=by unfold ko;rw[aQ,aQ];refine a7 λr hr=>?_;show uF n bs.length ((zY n B r).take n) ((zY n B r).getD n 0) m'=zY n B (uF n bs.length (r.take n) (r.getD n 0) m);rw[zFk,JF (aJ n)];exact zMH h t o (by have:=h2 r hr;rw[aZ];omega)
 rw[t.rows,<- aS,zIh hR,e2]
 exact zC3 h (zJc hR) (λr hr=>by obtain⟨q,_,rfl⟩:=aG.mp hr;exact zFs ..)
theorem zDI{α β γ:Type}{f:α->β->Bool}{g:γ->β->Bool}{R:α->γ->Prop}:∀{xs:List α}{ys:List γ}(as:List β),Paired R xs ys->(∀x y,R x y->∀b,f x b=g y b)->((xs.zip as).all λp=>f p.1 p.2)=((ys.zip as).all λp=>g p.1 p.2)
 |_,_,[],.nil,_=>rfl
 |_,_,_::_,.nil,_=>rfl
 |_,_,[],.cons _ _,_=>rfl
 |_,_,b::as,.cons h t,k=>by
  rw[eJ,eJ,dj,dj,zDI as t k,k _ _ h b]
def TMs(n p:Nat)(T B:List (List Int))(ms ms':List MD):Prop:=Paired (λm' m=>TM n p T B m m'/\yf m n p) ms' ms
theorem zIs(h:TB n T B)(t:TMs n bs.length T B ms ms')(h1:∀r∈room,r.length=n+1)(h2:∀r∈behind,r.length=n+1):
  kq n bs ms' (room.map (zY n B)) (behind.map (zY n B)) a=kq n bs ms room behind a:=by
 cases a with
 |lst as=>
  show(decide _&&_)=(decide _&&_)
  rw[Paired.length t];congr 1;exact zDI as t λm' m hm b=>zGx h hm.1 hm.2 h1 h2
 |_=>rfl
def y4(T:List (List Int)):Prop:=∀r∈T,∀x∈r,Bd 20 x
structure vx(e:Nat)(m:MD):Prop where
 nexts:∀r∈m.nexts,∀x∈r,Bd e x
 steer:∀x∈m.steer,Bd e x
 push:∀r∈m.push,∀x∈r,Bd e x
 add:∀x∈m.add,Bd e x
 div:Bd e m.div
 rows:∀r∈m.rows,∀x∈r,Bd e x
 few:m.rows.length<=100
theorem vx.ms(h:vx e m)(k:e<=300):MS m:=⟨λr hr x hx=>(h.nexts r hr x hx).mono k,λr hr x hx=>(h.push r hr x hx).mono k,λx hx=>(h.add x hx).mono k,h.div.mono k,λr hr x hx=>(h.rows r hr x hx).mono k,h.few⟩
noncomputable def xf(n w:Nat)(T B:List (List Int))(m:MD):MD:=⟨m.rows.map (zY n B),yR (yR T m.nexts n) B n,T.map λq=>zD q m.steer,yR T m.push w,T.map λq=>zD q m.add,m.div⟩
theorem k8:(yR T O w).length=T.length:=aB ..
theorem Zu:∀r∈yR T O w,r.length=w:=λr hr=>by obtain⟨q,_,rfl⟩:=aG.mp hr;rw[aB,aM]
theorem Jx(hl:∀r∈T,r.length<=l)(hT:∀r∈T,∀x∈r,Bd a x)(hO:∀r∈O,∀x∈r,Bd b x):∀r∈yR T O w,∀x∈r,Bd (a+b+l+1) x:=λr hr x hx=>by obtain⟨q,hq,rfl⟩:=aG.mp hr;obtain⟨j,_,rfl⟩:=aG.mp hx;exact(km (hT q hq) hO).mono (by have:=hl q hq;omega)
theorem zOY(lr:r.length=n+1)(n3:n<=3)(hr:∀x∈r,Bd b x)(hB:y4 B):∀x∈zY n B r,Bd (b+25) x:=λx hx=>by
 rcases be.mp hx with hx|hx
 ·obtain⟨j,_,rfl⟩:=aG.mp hx;exact(km (λy hy=>hr y (bN hy)) hB).mono (by rw[aZ];omega)
 ·exact(hr x (cA hx)).mono (bM _ _)
theorem zOd(h:TB n T B)(o:yf m n w):yf (xf n w T B m) n w where
 rows:=λr hr=>by obtain⟨q,hq,rfl⟩:=aG.mp hr;rw[KA (by rw[o.rows q hq];exact dR _)];exact o.rows q hq
 few:=by show(m.rows.map _).length<=900;rw[aB];exact o.few
 nexts:=⟨by show(yR _ _ _).length=n;rw[k8,k8];exact h.tl,Zu⟩
 steer:=by show(T.map _).length=n;rw[aB];exact h.tl
 push:=⟨by show(yR _ _ _).length=n;rw[k8];exact h.tl,Zu⟩
 add:=by show(T.map _).length=n;rw[aB];exact h.tl
 div:=o.div
 n3:=o.n3
 p6:=o.p6
theorem W6(h:TB n T B)(o:yf m n w)(hT:y4 T)(hB:y4 B)(k:vx 200 m):vx 260 (xf n w T B m) where
 nexts:=λr hr x hx=>by have n3:=o.n3;exact(Jx (l:=3) (λq hq=>by rw[Zu q hq];exact zA) (Jx (l:=3) (λq hq=>by rw[h.tr q hq];exact zA) hT k.nexts) hB r hr x hx).mono
 steer:=λx hx=>by have n3:=o.n3;obtain⟨q,hq,rfl⟩:=aG.mp hx;exact(Zl (hT q hq) k.steer).mono (by rw[h.tr q hq];exact u1)
 push:=λr hr x hx=>by have n3:=o.n3;exact(Jx (l:=3) (λq hq=>by rw[h.tr q hq];exact zA) hT k.push r hr x hx).mono
 add:=λx hx=>by have n3:=o.n3;obtain⟨q,hq,rfl⟩:=aG.mp hx;exact(Zl (hT q hq) k.add).mono (by rw[h.tr q hq];exact u1)
 div:=k.div.mono
 rows:=λr hr x hx=>by obtain⟨q,hq,rfl⟩:=aG.mp hr;exact(zOY (o.rows q hq) o.n3 (k.rows q hq) hB x hx).mono
 few:=by show(m.rows.map _).length<=100;rw[aB];exact k.few
theorem zQm{bs:List (Int×Int)}(o:∀m∈ms,yf m n bs.length):TMs n bs.length T B ms (ms.map (xf n bs.length T B)):=by
 induction ms with
 |nil=>exact .nil
 |cons m ms ih=>exact .cons ⟨⟨rfl,rfl,rfl,rfl,rfl⟩,o m aR⟩ (ih λx hx=>o x (aK _ hx))
theorem zDJ:∀{q z:List Int},(∀x∈z,x=0)->zD q z=0
 |[],_,_=>by unfold zD;rfl
 |_::_,[],_=>by unfold zD;rfl
 |a::q,b::z,h=>by
  show a*b+zD q z=0;rw[h b aR,zDJ λx hx=>h x (aK _ hx)];omega
theorem zFm(h:kj ms=true):kj (ms.map (xf n w T B))=true:=aT.mpr λm' hm=>by obtain⟨m,hm1,rfl⟩:=aG.mp hm;refine aT.mpr λx hx=>decide_eq_true ?_;obtain⟨q,_,rfl⟩:=aG.mp hx;exact zDJ λy hy=>of_decide_eq_true (aT.mp (aT.mp h m hm1) y hy)
def zM7:FL:=λds R=>∃T O w,ds=[Tb T,Tb O,.int ((w:Nat):Int)]/\w<=900/\T.length<=900/\(∀r∈T,r.length<=900/\∀x∈r,Bd 9000 x)/\(∀r∈O,w<=r.length/\∀x∈r,Bd 9000 x)/\R (Tb (yR T O w))
def W7:FL:=λds R=>∃B r n,ds=[Tb B,U r]/\r.length=n+1/\n<=800/\(∀x∈r,Bd 9000 x)/\(∀q∈B,n<=q.length/\∀x∈q,Bd 9000 x)/\R (U (zY n B r))
def zSa(CM:Addr):FL:=λds R=>∃m T B n w,ds=[xc CM m,Tb T,Tb B,.int ((w:Nat):Int)]/\TB n T B/\y4 T/\y4 B/\yf m n w/\vx 200 m/\R (xc CM (xf n w T B m))
def zPt:FL:=λds R=>∃T B n,ds=[Tb T,Tb B,.int ((n:Nat):Int)]/\TB n T B/\y4 T/\y4 B/\n<=3/\R (.bool true)
def zPj(C CM:Addr):FL:=λds R=>∃n bs ms T B,ds=[yu C CM n bs ms,Tb T,Tb B]/\vd n bs ms/\TB n T B/\y4 T/\y4 B/\(∀m∈ms,vx 200 m)/\R (yu C CM n bs (ms.map (xf n bs.length T B)))
theorem zPA(t):(Tb t).pl 50=true:=aT.mpr λd m=>by obtain⟨r,_,rfl⟩:=aG.mp m;exact Kj 47 r
theorem W8{r:List Int}(h:r.length=n+1):r.drop n=[r.getD n 0]:=by have:=Wx h;grind
noncomputable abbrev Zv(A:Nat->Addr):List Ct:=⟨0,"turned",0,zR 49,zPj (A 1) (A 0),0⟩::⟨0,"is_turn",0,zR 50,zPt,0⟩::⟨0,"turned_mode",0,zR 52,zSa (A 0),0⟩::⟨0,"turned_row",0,zR 48,W7,0⟩::⟨0,"product",0,zR 51,zM7,0⟩::qR A
section
variable{E:Ev xF xM xN}
theorem zLZ:Gx E (Zv E.A) 4:=vk 0 [0,2,1,2,0,0,92,0,1,2] rfl λds R h=>by obtain⟨T,O,w,rfl,w9,t9,hT,hO,q⟩:=h;refine xC L zp qQ (λr=>L ((aI w).map (zH r O))) zA (λr hr=>⟨_,_,r,O,w,rfl,.inl rfl,.inl rfl,w9,(hT r hr).1,(hT r hr).2,hO,rfl⟩) ?_;unfold yR Tb at q;rw[aQ]at q;exact q
theorem zGU:Gx E (Zv E.A) 3:=vk 0 [0,7,93,2,1,0,0,1,0,1] rfl λds R h=>by obtain⟨B,r,n,rfl,lr,n8,br,bB,q⟩:=h;refine⟨_,_,r.take n,B,n,by rw[ut lr,aB,lr,show((n+1:Nat):Int)-1=(n:Int)by exact gH],.inr rfl,.inl rfl,by exact zA,by rw[aZ];exact u2,λx hx=>br x (bN hx),bB,?_⟩;refine⟨_,kr lr,k0,by rw[aB,aB,aM];show _+1<=1000;exact y6,?_⟩;unfold zY U at q;rw[aS,W8 lr]at q;exact q
theorem zFc:Gx E (Zv E.A) 2:=vk 1 [0,0,4,0,1,0,90,1,2,0,0,0,60,1,0,61,61,1,0,0,4,2,4,1,0,0,1,95,0,0,1,61,1,0,0,3,1,0,0,1,95,0,0,1,0,0] rfl λds R h=>by
 obtain⟨m,T,B,n,w,rfl,tb,hT,hB,o,k,q⟩:=h;have n3:=o.n3;have p6:=o.p6;have tl:=tb.tl;have kf:=k.few;have o2:=zOd tb o;have bT:∀r∈T,r.length<=900/\∀x∈r,Bd 9000 x:=λr hr=>⟨by rw[tb.tr r hr];exact zA,λx hx=>(hT r hr x hx).mono⟩
 have bB:∀r∈B,n<=r.length/\∀x∈r,Bd 9000 x:=λr hr=>⟨by rw[tb.br r hr];exact aJ _,λx hx=>(hB r hr x hx).mono⟩
 have lT:(eN L T).length=T.length:=aB ..;refine⟨rfl,_,rfl,?_⟩;refine xC U zp jQ (λr=>U (zY n B r)) zA (λr hr=>⟨B,r,n,rfl,o.rows r hr,by exact zA,λx hx=>(k.rows r hr x hx).mono,bB,rfl⟩) ?_;rw[Wv (zY n B)];refine⟨rfl,_,rfl,T,m.nexts,n,by rw[lT,tl],by exact zA,by exact zg,bT,λr hr=>⟨by rw[o.nexts.2 r hr];exact aJ _,λx hx=>(k.nexts r hr x hx).mono⟩,?_⟩;refine⟨yR T m.nexts n,B,n,by rw[lT,tl],by exact zA,by rw[k8];exact zg,λr hr=>⟨by rw[Zu r hr];exact zA,λx hx=>(Jx (l:=3) (λq hq=>by rw[tb.tr q hq];exact zA) hT k.nexts r hr x hx).mono⟩,bB,?_⟩;refine xC L zp qQ (λr=>.int (zD r m.steer)) zg (λr hr=>⟨rfl,_,rfl,_,_,r,m.steer,rfl,.inl rfl,.inl rfl,(bT r hr).1,(bT r hr).2,λx hx=>(k.steer x hx).mono,rfl⟩) ?_;refine⟨rfl,_,rfl,T,m.push,w,rfl,by exact zA,by exact zg,bT,λr hr=>⟨by rw[o.push.2 r hr];exact aJ _,λx hx=>(k.push r hr x hx).mono⟩,?_⟩;refine xC L zp qQ (λr=>.int (zD r m.add)) zg (λr hr=>⟨rfl,_,rfl,_,_,r,m.add,rfl,.inl rfl,.inl rfl,(bT r hr).1,(bT r hr).2,λx hx=>(k.add x hx).mono,rfl⟩) ?_;have e1:∀z:List Int,D.lst (T.map λr=>.int (zD r z))=L (T.map λr=>zD r z):=λz=>by unfold L;rw[aQ];rfl
 rw[e1,e1];refine⟨rfl,_,rfl,_,_,_,_,_,_,rfl,kh o2.few (λr hr=>by rw[o2.rows r hr];exact y6),qy (by rw[k8,k8];exact zg) (λr hr=>by rw[Zu r hr];exact zA),vL (by rw[aB];exact zg),qy (by rw[k8];exact zg) (λr hr=>by rw[Zu r hr];exact zA),vL (by rw[aB];exact zg),q⟩
theorem zLf:Gx E (Zv E.A) 1:=vk 0 [0,0,0,100,0,2,2,100,1,2,2,0,0,0,62,0,1,2,1,2,1,2,98,0,1] rfl λds R h=>by
 obtain⟨T,B,n,rfl,tb,hT,hB,n3,q⟩:=h;have tl:=tb.tl;have bl:=tb.bl;refine⟨_,_,_,3,rfl,qy wz (λr hr=>by rw[tb.tr r hr];exact zA),wF (by rw[Js (by rw[tl]) (λr hr=>by rw[tb.tr r hr])];rfl) ?_⟩;refine⟨_,_,_,3,rfl,qy wz (λr hr=>by rw[tb.br r hr];exact zA),wF (by rw[Js (by rw[bl]) (λr hr=>by rw[tb.br r hr])];rfl) ?_⟩;refine⟨T,B,n,rfl,by exact zA,by exact wz,λr hr=>⟨by rw[tb.tr r hr];exact zA,λx hx=>(hT r hr x hx).mono⟩,λr hr=>⟨by rw[tb.br r hr];exact aJ _,λx hx=>(hB r hr x hx).mono⟩,?_⟩;refine⟨by exact zb,by exact yj,?_⟩;rw[show((n:Nat):Int).toNat=n by exact rfl];refine zo.rng0 (λi=>L (yH (i:Int) n 1)) zA (λi hi=>⟨(i:Int),n,1,rfl,by exact zb,by exact yj,by rw[show((n:Nat):Int).toNat=n by exact rfl]⟩) ?_
 have e:D.lst ((aI n).map λi:Nat=>L (yH (i:Int) n 1))=Tb (yR T B n):=by rw[tb.tb];unfold ve Tb;rw[aQ];rfl
 rw[e];exact⟨zPA _,zPA _,bR q (PySem.SeqAt.eqv_refl _ (wn 50 _ (zPA _)).lay).symm⟩
theorem zNR:Gx E (Zv E.A) 0:=vk 1 [0,0,0,60,1,2,1,0,0,0,1,3,3,0,1,2,0,26,0,61,0,2,3,0,27,1,0,88,1,0,27,0,3] rfl λds R h=>by obtain⟨n,bs,ms,T,B,rfl,o,tb,hT,hB,k,q⟩:=h;have n3:=o.n3;have m40:=o.m40;have lp:(eN zn bs).length=bs.length:=aB ..;refine⟨rfl,_,rfl,T,B,n,rfl,tb,hT,hB,n3,wF rfl ?_⟩;refine⟨rfl,by decide+kernel,n,bs,ms,rfl,?_⟩;refine xC (xc (E.A 0)) xW (Ju _) (λm=>xc (E.A 0) (xf n bs.length T B m)) zA (λm hm=>⟨rfl,by decide+kernel,n,bs,ms,rfl,m,T,B,n,bs.length,by rw[lp],tb,hT,hB,o.mok m hm,k m hm,rfl⟩) ?_;refine⟨rfl,_,rfl,rfl,by decide+kernel,n,bs,ms,rfl,n,bs,ms.map (xf n bs.length T B),by rw[aQ];rfl,⟨o.n1,o.n3,o.bok,o.b6,by rw[aB];exact o.m1,by rw[aB];exact o.m40,λm' hm=>?_⟩,q⟩;obtain⟨m,hm1,rfl⟩:=aG.mp hm;exact zOd tb (o.mok m hm1)
end
end K98
namespace K98
open PySem L2 Sh Pu Vg
variable[Tbl]
noncomputable def gI(t b:Int):Int:=if b<0 then -((iJ t.natAbs b.natAbs:Nat):Int) else((iJ t.natAbs b.natAbs:Nat):Int)
def W9:FL:=λds R=>∃a b:Int,ds=[.tup [.int a,.int b]]/\R (.int ((iJ a.natAbs b.natAbs:Nat):Int))
def UA:FL:=λds R=>∃t b:Int,ds=[.int t,.int b]/\b≠0/\Bd 7000 b/\R (.tup [.int (t.fdiv (gI t b)),.int (b.fdiv (gI t b))])
theorem zQV(x):(if x<0 then -x else x)=((x.natAbs:Nat):Int):=by split<;> omega
theorem zM5(a b):((a:Nat):Int).fmod ((b:Nat):Int)=((a % b:Nat):Int):=by rw[Int.fmod_eq_emod_of_nonneg _ (fJ b)];rfl
theorem UB(h:b≠0):gI t b≠0:=by have:0<iJ t.natAbs b.natAbs:=Nat.gcd_pos_of_pos_right _ (by omega);unfold gI;split<;> omega
theorem UC(h:b≠0)(hb:Bd e b):Bd e (gI t b):=by have:=Nat.gcd_le_right t.natAbs (show 0<b.natAbs by omega);refine hb.of_le ?_;unfold gI;split<;> omega
noncomputable abbrev T_8(A:Nat->Addr):List Ct:=⟨1,"fraction",0,zR 12,UA,1⟩::⟨0,"common_divisor",0,zR 11,W9,0⟩::Zv A
section
variable{E:Ev xF xM xN}
theorem zDP:Gx E (T_8 E.A) 1:=vk 4 [0,0,1,0,0,0,0,2,0,0,3,6,2,0,0,3,0,0,4,1,3,0,0,1,3,0,3,4,0,1] rfl λds R h=>by
 obtain⟨a,b,rfl,q⟩:=h;refine⟨λk Γ=>∃s2 s3 s4,Γ=[.sh (.tup [.int a,.int b]),.sh (.int (((match k with|0=>0|1=>a.natAbs|_=>iJ a.natAbs b.natAbs):Nat):Int)),s2,s3,s4],⟨_,_,_,rfl⟩,?_,?_⟩
 ·have key:∀(x:Int)(g:Nat)(s3 s4:Sl)(T:Kx),(∀s2 s3 s4,T.nx [.sh (.tup [.int a,.int b]),.sh (.int ((iJ g x.natAbs:Nat):Int)),s2,s3,s4])->jL (vI 3 (wx kR (Kp (qE 2) kJ))) (zKQ (wQ (wm kI (qE 3) (pC (.int 0)))) (jL (vI 4 (wm qG (qE 1) (qE 3))) (jL (vI 1 (qE 3)) (vI 3 (qE 4))))) T [.sh (.tup [.int a,.int b]),.sh (.int ((g:Nat):Int)),.sh (.int x),s3,s4]:=λx g s3 s4 T hT=>by
   refine⟨λm Γ=>∃(c r:Nat)(s4:Sl),Γ=[.sh (.tup [.int a,.int b]),.sh (.int ((c:Nat):Int)),.sh (.int x),.sh (.int ((r:Nat):Int)),s4]/\iJ c r=iJ g x.natAbs/\r=m,⟨_,g,x.natAbs,s4,by rw[zQV];rfl,rfl,rfl⟩,?_⟩;rintro m Γ' ⟨c,r,s4,rfl,hG,rfl⟩;refine w2 (λc1=>?_) λc1=>?_
   ·have r0:r≠0:=λz=>by rw[z]at c1;cases c1
    refine⟨by omega,c % r,Nat.mod_lt _ (Nat.pos_of_ne_zero ‹_›),r,c % r,_,by rw[zM5];rfl,?_,rfl⟩;rw[<- hG,Nat.gcd_comm c r,Nat.gcd_rec r c,Nat.gcd_comm]
   ·have r0:r=0:=by have:=of_decide_eq_true (jt c1);omega
    rw[r0,Nat.gcd_zero_right]at hG;rw[hG];exact hT _ _ _
  rintro k d Γ' hk ⟨s2,s3,s4,rfl⟩
  match k,hk with
  |0,hk=>
   cases hk;refine key a 0 s3 s4 _ λt2 t3 t4=>⟨t2,t3,t4,?_⟩
   rw[Nat.gcd_zero_left];rfl
  |1,hk=>
   cases hk;exact key b a.natAbs s3 s4 _ λt2 t3 t4=>⟨t2,t3,t4,rfl⟩
  |_+2,hk=>cases hk
 ·rintro Γ' ⟨s2,s3,s4,rfl⟩;exact q
theorem zJD:Gx E (T_8 E.A) 0:=vk1 1 [0,0,0,105,0,105,1,0,0,0,0,0,1,0,0,0,2,60,0,1,1,0,0,0,1,0,2,2,0,0,2,1,2] rfl λds R h=>by
 obtain⟨t,b,rfl,b0,bb,q⟩:=h;refine⟨_,rfl,rfl,wF rfl ⟨_,rfl,rfl,wF rfl (wF (decide_eq_false b0) ⟨k0,t,b,rfl,?_⟩)⟩⟩;refine⟨λΓ=>Γ=[.sh (.int t),.sh (.int b),.sh (.int (gI t b))],w2 (λc1=>?_) λc1=>?_,?_⟩
 ·unfold gI;rw[if_pos (of_decide_eq_true c1)];rfl
 ·unfold gI;rw[if_neg (of_decide_eq_false c1)];rfl
 rintro Γ' rfl;have g0:=UB (t:=t) b0;have gb:Bd 8000 (gI t b):=(UC (t:=t) b0 bb).mono;exact⟨g0,gb,g0,gb,k0,q⟩
end
end K98
namespace K98
open PySem L2 Sh Pu Vg
variable[Tbl]
theorem IS.zipL(h:IS d ns){R:List D->Prop}(q:R (b_ yr (ns.map D.int) es)):jK [d,.lst es] R:=by rcases h with rfl|rfl <;> exact q
theorem zwq{α β:Type}{u:α->D}{v:β->D}{xs:List α}{ys:List β}{k:Nat}{d:D}(h:(b_ yr (xs.map u) (ys.map v))[k]? =some d):∃x y,xs[k]? =some x/\ys[k]? =some y/\d=yr (u x) (v y):=by grind
theorem yw(h:1<=n):Bd n 1:=(Bd.lit (i:=1) (n:=1)).mono h
noncomputable abbrev zh(t b:Int):Int×Int:=(ze t b,zJ t b)
noncomputable abbrev zP(pts:List (Int×Int)):D:=.lst (pts.map zn)
theorem jX(h:Bd n t):Bd n (ze t b):=h.fdiv _
theorem jY(h:Bd n b):Bd n (zJ t b):=h.fdiv _
def fMin:FL:=λds R=>∃p q:Int×Int,ds=[zn p,zn q]/\0<p.2/\0<q.2/\Bd 9000 p.1/\Bd 9000 p.2/\Bd 9000 q.1/\Bd 9000 q.2/\Bd 7000 (p.2*q.2)/\R (zn (zh (p.1*q.2-q.1*p.2) (p.2*q.2)))
def fTim:FL:=λds R=>∃p q:Int×Int,ds=[zn p,zn q]/\0<p.2/\0<q.2/\Bd 9000 p.1/\Bd 9000 p.2/\Bd 9000 q.1/\Bd 9000 q.2/\Bd 7000 (p.2*q.2)/\R (zn (zh (p.1*q.1) (p.2*q.2)))
def fUnd:FL:=λds R=>∃p q:Int×Int,ds=[zn p,zn q]/\Bd 9000 p.1/\Bd 9000 p.2/\Bd 9000 q.1/\Bd 9000 q.2/\R (.bool (decide (p.1*q.2<q.1*p.2)))
def wW(n:Nat)(pts:List (Int×Int)):Prop:=pts.length=n/\n<=2/\∀p∈pts,0<p.2/\Bd 900 p.1/\Bd 900 p.2
def PtG(n:Nat)(pts:List (Int×Int)):Prop:=pts.length=n/\n<=4/\∀p∈pts,0<p.2/\Bd 900 p.1/\Bd 900 p.2
theorem wW.g(h:wW n pts):PtG n pts:=⟨h.1,by have:=h.2.1;exact zA,h.2.2⟩
def UD:FL:=λds R=>∃d ns n pts,ds=[d,zP pts]/\IS d ns/\ns.length=n/\(∀w∈ns,Bd 300 w)/\PtG n pts/\(0<(z9 ns pts).2->Bd (1202+901*n) (z9 ns pts).1->Bd (1+900*n) (z9 ns pts).2->R (zn (z9 ns pts)))
def fDvE:FL:=λds R=>∃d ns n pts a dv,ds=[d,zP pts,.int a,.int dv]/\IS d ns/\ns.length=n/\(∀w∈ns,Bd 300 w)/\PtG n pts/\0<dv/\Bd 300 a/\Bd 300 dv/\R (zn (zh ((z9 ns pts).1+a*(z9 ns pts).2) ((z9 ns pts).2*dv)))
def UE:FL:=λds R=>∃us b n pts,ds=[U (us++[b]),zP pts]/\us.length=n/\(∀w∈us,Bd 300 w)/\wW n pts/\(0<(z9 us pts).2->Bd 4000 (z9 us pts).1->Bd 2800 (z9 us pts).2->R (zn (zh (z9 us pts).1 (z9 us pts).2)))
def UF:FL:=λds R=>∃us b n pts,ds=[U (us++[b]),zP pts]/\us.length=n/\(∀w∈us,Bd 300 w)/\Bd 300 b/\wW n pts/\R (.bool (j7 us b pts))
theorem zQU{ns:List Int}{pts:List (Int×Int)}(hw:ns[k]? =some w)(hp:pts[k]? =some p):z9 (ns.take (k+1)) (pts.take (k+1))=v9 (z9 (ns.take k) (pts.take k)) (w,p):=by have l1:=(aN.mp hw).1;have l2:=(aN.mp hp).1;unfold z9;rw[Ym hw,Ym hp,l8 (by rw[aZ,aZ];omega),e7];rfl
noncomputable abbrev gA(A:Nat->Addr):List Ct:=⟨0,"holds",0,zR 32,UF,0⟩::⟨0,"divided_sum",0,zR 31,fDvE,0⟩::⟨0,"along",0,zR 30,UE,0⟩::⟨0,"raw_sum",0,zR 29,UD,0⟩::⟨0,"under",0,zR 15,fUnd,0⟩::⟨0,"times",0,zR 14,fTim,0⟩::⟨0,"minus",0,zR 13,fMin,0⟩::T_8 A
section
variable{E:Ev xF xM xN}
theorem zQK:Gx E (gA E.A) 6:=vk 0 [0,60,0,0,0,1,0,1,0,0,0,0,0,1] rfl λds R h=>by obtain⟨x,y,rfl,p0,q0,b1,b2,b3,b4,bb,q⟩:=h;exact⟨_,rfl,_,rfl,b1.mono,b4.mono,_,rfl,_,rfl,b3.mono,b2.mono,_,rfl,_,rfl,b2.mono,b4.mono,_,_,rfl,cM (dY p0 q0),bb,q⟩
theorem zQH:Gx E (gA E.A) 5:=vk 0 [0,61,0,0,0,1,0,0,0,1] rfl λds R h=>by obtain⟨x,y,rfl,p0,q0,b1,b2,b3,b4,bb,q⟩:=h;exact⟨_,rfl,_,rfl,b1.mono,b3.mono,_,rfl,_,rfl,b2.mono,b4.mono,_,_,rfl,cM (dY p0 q0),bb,q⟩
theorem zQG:Gx E (gA E.A) 4:=vk 0 [0,0,0,0,0,1,0,1,0,0] rfl λds R h=>by obtain⟨x,y,rfl,b1,b2,b3,b4,q⟩:=h;exact⟨_,rfl,_,rfl,b1.mono,b4.mono,_,rfl,_,rfl,b3.mono,b2.mono,q⟩
theorem zLY:Gx E (gA E.A) 3:=vk 4 [0,0,2,0,0,3,0,0,3,0,1,4,5,0,0,2,2,0,5,4,0,5,3,0,3,3,0,5,0,2,3] rfl λds R h=>by
 obtain⟨d,ns,n,pts,rfl,h,ln,bn,⟨lp,n3,hp⟩,q⟩:=h;refine h.zipL ?_;refine⟨λk Γ=>∃(st:Int×Int)(s4 s5:Sl),Γ=[.sh d,.sh (zP pts),.sh (.int st.1),.sh (.int st.2),s4,s5]/\st=z9 (ns.take k) (pts.take k)/\0<st.2/\Bd (1202+901*k) st.1/\Bd (1+900*k) st.2,⟨(0,1),.no,.no,rfl,rfl,by decide,wK,yw (by decide)⟩,?_,?_⟩
 ·rintro k d' Γ' hk ⟨st,s4,s5,rfl,es,a0,bt,bb⟩;obtain⟨w,x,hw,hx,rfl⟩:=zwq (u:=D.int) (v:=zn) hk;have kl:=(aN.mp hx).1;obtain⟨x0,bx1,bx2⟩:=hp x (bH hx);have bw:=bn w (bH hw);have bwx:=bw.mul bx1;refine⟨_,rfl,bt.mono (by omega),bx2.mono (fG _ _),_,rfl,bw.mono,bx1.mono,bwx.mono,bb.mono (by omega),_,rfl,bb.mono (by omega),bx2.mono,v9 st (w,x),.sh (.int w),.sh (zn x),rfl,by rw[zQU hw hx,es],dY a0 x0,?_,(bb.mul bx2).mono (aJ _)⟩;exact(((bt.mul bx2).mono (show _<=1202+901*k+900 by exact aJ _)).add ((bwx.mul bb).mono (by omega))).mono (aJ _)
 ·rintro Γ' ⟨st,s4,s5,rfl,es,a0,bt,bb⟩;rw[eA,aB,aB,ln,lp,lh]at es bt bb;rw[bO wc,bO wc]at es;subst es;exact⟨k0,q a0 (bt.mono (aJ _)) (bb.mono (aJ _))⟩
theorem zQP:Gx E (gA E.A) 2:=vk 1 [0,0,2,60,2,0,1,0,64,0,2,0,2] rfl λds R h=>by obtain⟨us,b,n,pts,rfl,lu,bu,PT,q⟩:=h;have n2:=PT.2.1;refine⟨_,us,n,pts,rfl,.inr (by rw[Wq]),lu,bu,PT.g,λa0 bt bb=>⟨_,rfl,_,rfl,_,_,rfl,cM a0,bb.mono (by omega),?_⟩⟩;exact q a0 (bt.mono (by omega)) (bb.mono (by omega))
theorem zFd:Gx E (gA E.A) 1:=vk 1 [0,0,4,61,0,1,0,65,0,4,2,0,4,0,4,3] rfl λds R h=>by obtain⟨d,ns,n,pts,a,dv,rfl,h,ln,bn,PT,d0,ba,bd,q⟩:=h;have n4:=PT.2.1;refine⟨d,ns,n,pts,rfl,h,ln,bn,PT,λa0 bt bb=>⟨_,rfl,_,rfl,ba.mono,bb.mono (by omega),_,rfl,bb.mono (by omega),bd.mono,_,_,rfl,cM (dY a0 d0),(bb.mul bd).mono (by omega),q⟩⟩
theorem zQO:Gx E (gA E.A) 0:=vk 1 [0,0,2,62,2,0,1,0,0,0,2,0,0,0,2] rfl λds R h=>by obtain⟨us,b,n,pts,rfl,lu,bu,bb,PT,q⟩:=h;have n2:=PT.2.1;refine⟨_,us,n,pts,rfl,.inr (by rw[Wq]),lu,bu,PT.g,λa0 bt bc=>⟨_,rfl,_,Wr us b,_,rfl,bb.mono,bc.mono (by omega),?_⟩⟩;exact q
end
end K98
namespace K98
open PySem L2 Sh Pu Vg
variable[Tbl]
theorem IS.ixD(h:IS d ns)(hj:j<ns.length){R:D->Prop}(q:R (.int (ns.getD j 0))):Pu.ixD d (.int (j:Int)) R:=by rcases h with rfl|rfl <;> exact⟨_,vK hj rfl,q⟩
theorem IS.ixL(h:IS d ns)(hj:ns.length=n+1){R:D->Prop}(q:R (.int (ns.getD n 0))):Pu.ixD d (.int (-1)) R:=by rcases h with rfl|rfl <;> exact⟨_,kr hj,q⟩
theorem Jy{i:Nat}{d:D}(h:es[i]? =some d):yc es (i:Int)=some d:=by have hl:=(aN.mp h).1;unfold yc xw;rw[if_pos (by exact zb),if_pos (by exact xR)];show es[((i:Nat):Int).toNat]? =_;rw[show((i:Nat):Int).toNat=i by exact rfl];exact h
theorem zo.enum{R:D->Prop}(P:Nat->D->Prop)(few:es.length<=1000)(h:∀(i:Nat)(x:D),es[i]? =some x->G (yr (.int (i:Int)) x) λe=>∃(i':Nat)(x':D),yr (.int (i:Int)) x=yr (.int (i':Int)) x'/\P i' e)(q:∀es',es'.length=es.length->(∀(i:Nat)(e:D),es'[i]? =some e->P i e)->R (.lst es')):zo (um 0 es) G R:=
 ⟨by rw[jp];exact few,λd e=>∃(i':Nat)(x':D),d=yr (.int (i':Int)) x'/\P i' e,λd hd=>by
  obtain⟨i,hi⟩:=dZ.mp hd;obtain⟨x,hx,rfl⟩:=qL hi;rw[cW];exact h i x hx,λes' p=>by
  have l:=Paired.length p;rw[jp]at l;refine q es' l.symm λi e he=>?_;have hl:=(aN.mp he).1;have hi:i<(um 0 es).length:=by rw[jp];exact zz
  obtain⟨e',he',i',x',ed,hP⟩:=Qz p (aE hi);rw[he]at he';cases he';obtain⟨x,hx,ex⟩:=qL (aE hi);grind⟩
def qS(es:List D)(L:List (List Int)):Prop:=es.length=L.length/\∀i d,es[i]? =some d->IS d (L.getD i [])
theorem qS.at_{L:List (List Int)}(h:qS es L)(hi:i<L.length):∃d,es[i]? =some d/\IS d (L.getD i []):=⟨_,aE (by rw[h.1];exact hi),h.2 i _ (aE (by rw[h.1];exact hi))⟩
def fFWg:FL:=λds R=>∃(es:List D)(L:List (List Int))(p f:Nat),ds=[.lst es,.int (p:Int)]/\qS es L/\L.length<=100/\p<=L.length/\(∀r∈L,p<r.length)/\wv (λk=>(L.getD k []).getD p 0) p (L.length-p)=some f/\R (.int (f:Int))
def fPAg:FL:=λds R=>∃(es:List D)(p f:Nat),ds=[.lst es,.int (p:Int),.int (f:Int)]/\p<es.length/\f<es.length/\es.length<=100/\R (.lst ((es.set p (es.getD f .non)).set f (es.getD p .non)))
def UG:FL:=λds R=>∃(d e:D)(ns ps:List Int)(p:Nat)(la:Int),ds=[d,e,.int (p:Int),.int la]/\IS d ns/\IS e ps/\ns.length=ps.length/\p<ns.length/\ns.length<=100/\la≠0/\Bd 1000 la/\(∀x∈ns,Bd 1000 x)/\(∀x∈ps,Bd 1000 x)/\R (L (uT ns ps p la))
def UH:FL:=λds R=>∃(es:List D)(rows:List (List Int))(n:Nat),ds=[.lst es]/\qS es rows/\Sq rows n/\n<=2/\x8 rows≠0/\(∀r∈rows,∀x∈r,Bd 200 x)/\(wW n (yS rows n)->R (zP (yS rows n)))
theorem zIF:∀{m p:Nat},wv f p m=some r->p<=r/\r<p+m/\f r≠0
 |0,_,h=>nomatch h
 |m+1,p,h=>by
  unfold wv at h;by_cases c:f p≠0
  ·rw[if_pos c]at h;cases h;exact⟨aJ _,by omega,c⟩
  ·rw[if_neg c]at h;obtain⟨a,b,d⟩:=zIF h;omega
theorem zOr(h:yo rows n=some st)(hk:k<n):∃L la f,yo rows k=some (L,la)/\wv (λi=>(L.getD i []).getD k 0) k (L.length-k)=some f/\yo rows (k+1)=some (jB (ya L k f) k la,((ya L k f).getD k []).getD k 0):=by
 have up:∀j,∃s,k+1+j=n->yo rows (k+1)=some s:=λj=>by
  induction j generalizing n st with
  |zero=>exact⟨st,λe=>by rw[j_]at e;rw[e];exact h⟩
  |succ j ih=>
   by_cases e:k+1+(j+1)=n
   ·subst e;have h':(yo rows (k+1+j)).bind (λst=>vC st (k+1+j))=some st:=h;cases c:yo rows (k+1+j)with
    |none=>rw[c]at h';cases h'
    |some s=>
     obtain⟨s',hs'⟩:=ih c (bM _ _);exact⟨s',λ_=>hs' rfl⟩
   ·exact⟨st,λz=>absurd z e⟩
 obtain⟨s,hs⟩:=up (n-k-1);have hs:=hs (by omega);have hb:(yo rows k).bind (λst=>vC st k)=some s:=hs;cases c:yo rows k with
 |none=>rw[c]at hb;cases hb
 |some t=>
  rw[c]at hb;obtain⟨L,la⟩:=t;have hb:vC (L,la) k=some s:=hb;unfold vC at hb;cases d:wv (λi=>(L.getD i []).getD k 0) k (L.length-k)with
  |none=>rw[d]at hb;cases hb
  |some f=>
   rw[d]at hb;refine⟨L,la,f,rfl,d,?_⟩;rw[hs,<- Option.some.inj hb]
theorem zJs:(ya rows p f).length=rows.length:=by unfold ya;rw[bS,bS]
theorem zOx(hp:p<rows.length)(hf:f<rows.length):∀r∈ya rows p f,r∈rows:=λr hr=>by unfold ya at hr;grind
theorem qS.put{L:List (List Int)}(h:qS es L)(hp:p<L.length)(hf:f<L.length):qS ((es.set p (es.getD f .non)).set f (es.getD p .non)) (ya L p f):=by
 have g:∀k,k<L.length->IS (es.getD k .non) (L.getD k []):=λk hk=>by obtain⟨d,hd,i⟩:=h.at_ hk;rw[aD,hd];exact i
 refine⟨by rw[bS,bS,zJs,h.1],λi d hd=>?_⟩;have il:=(aN.mp hd).1;rw[bS,bS,h.1]at il;have le:=h.1;unfold ya;grind
noncomputable def k9:Nat->Nat
 |0=>200
 |1=>401
 |_=>803
theorem zSx(h1:∀x∈ns,Bd e x)(h2:∀x∈ps,Bd e x):∀x∈uT ns ps p la,Bd (2*e+1) x:=λx hx=>by obtain⟨q,hq,rfl⟩:=aG.mp hx;have a:=(jr h2 p).mul (h1 _ (bC hq).1);have b:=(jr h1 p).mul (h2 _ (bC hq).2);exact(((a.mono (show _<=2*e by omega)).sub (b.mono (show _<=2*e by omega))).fdiv _).mono (aJ _)
theorem zP3(h:ns.length=ps.length):(uT ns ps p la).length=ns.length:=by unfold uT;rw[aB,cu,h,lh]
noncomputable abbrev jZ(A:Nat->Addr):List Ct:=⟨0,"solved",0,zR 58,UH,0⟩::⟨0,"cleared",0,zR 61,UG,0⟩::⟨0,"put_ahead",0,zR 60,fPAg,0⟩::⟨0,"first_with",0,zR 59,fFWg,0⟩::gA A
section
variable{E:Ev xF xM xN}
theorem zGa:Gx E (jZ E.A) 3:=vk 1 [0,0,2,1,0,0,2,0,0,0,0,0,0,2,1,0,2,0] rfl λds R h=>by
 obtain⟨es,L,p,f,rfl,W,few,pl,hw,hf,q⟩:=h;have le:=W.1;refine⟨by exact zb,by omega,by exact zb,by omega,?_⟩;have en:(((es.length:Nat):Int)-((p:Nat):Int)).toNat=L.length-p:=by omega
 refine⟨λk Γ=>∃s2,Γ=[.sh (.lst es),.sh (.int (p:Int)),s2]/\wv (λk=>(L.getD k []).getD p 0) (p+k) (L.length-p-k)=some f,⟨.no,rfl,hf⟩,?_,?_⟩
 ·rintro k d' Γ' hk ⟨s2,rfl,hf⟩
  have kl:k<L.length-p:=by have:=(aN.mp hk).1;unfold rng at this;rw[aB,aM]at this;exact xh
  have ed:d'=.int ((p+k:Nat):Int):=by unfold rng at hk;grind
  subst ed;obtain⟨m,hm⟩:∃m,L.length-p-k=m+1:=⟨L.length-p-k-1,by omega⟩
  rw[hm]at hf;unfold wv at hf;obtain⟨d,hd,hI⟩:=W.at_ (i:=p+k) (by omega);refine⟨_,Jy hd,hI.ixD (hw _ (yJ (by omega))) (w2 (λc1=>?_) λc1=>⟨_,rfl,?_⟩)⟩
  ·rw[if_pos (of_decide_eq_false (q9 c1))]at hf;cases hf;exact q
  ·rw[if_neg (λz=>z (of_decide_eq_true (jt c1)))]at hf;rw[show L.length-p-(k+1)=m by omega,<- Nat.add_assoc];exact hf
 ·rintro Γ' ⟨s2,rfl,hf⟩;unfold rng at hf;rw[aB,aM,show L.length-p-(((es.length:Nat):Int)-((p:Nat):Int)).toNat=0 by omega]at hf;cases hf
theorem zHG:Gx E (jZ E.A) 2:=vk 1 [0,4,3,0,0,0,3,0,0,2,1,0,0,3,0,0,1,2,20,3,3] rfl λds R h=>by
 obtain⟨es,p,f,rfl,pl,fl,few,q⟩:=h
 have ha:∀k,k<es.length->yc es (k:Int)=some (es.getD k .non):=λk hk=>by rw[aD,aE hk];exact Jy (aE hk)
 have hx:∀(m k:Nat),k<m->xw m (k:Int)=some k:=λm k hk=>by unfold xw;rw[if_pos (by exact zb),if_pos (by exact xR)];congr 1
 refine⟨_,ha f fl,_,_,rfl,hx _ _ pl,?_⟩;refine⟨_,ha p pl,_,_,rfl,hx _ _ (by rw[bS];exact fl),?_⟩;exact q
theorem zLk:Gx E (jZ E.A) 1:=vk 0 [0,4,0,1,2,3,3,0,1,0,3,4,0,0,2,4,1,5] rfl λds R h=>by obtain⟨d,e,ns,ps,p,la,rfl,h,k,ll,pl,few,l0,bl,bn,bp,q⟩:=h;refine h.zip k (zSu (λq=>(ps.getD p 0*q.1-ns.getD p 0*q.2).fdiv la) (by rw[cu];exact u2) (λq hq=>?_) q);have h1:=bn _ (bC hq).1;have h2:=bp _ (bC hq).2;exact k.ixD xh ⟨(jr bp p).mono,h1.mono,h.ixD pl ⟨(jr bn p).mono,h2.mono,l0,bl.mono,rfl⟩⟩
theorem zNT:Gx E (jZ E.A) 0:=vk 5 [0,0,1,0,0,0,2,0,0,1,0,0,3,0,0,4,62,1,3,0,0,0,1,4,0,0,0,1,61,1,3,4,0,0,5,0,1,3,0,1,1,3,2,3,5,5,1,0,0,3,1,60,1,4,3,2,0,2,0,5,3,0,0,5,1,70,0,1,0,1,0] rfl λds R h=>by
 obtain⟨es,rows,n,rfl,W,S,n2,dt,bd,q⟩:=h;have n1:=S.n1;have lr:=S.len;have le:=W.1;obtain⟨LL,DD,SO⟩:=zNq S dt;refine⟨by exact zb,by omega,?_⟩;rw[show((es.length:Nat):Int).toNat=n by exact Z4];refine⟨λk Γ=>∃(fs:List D)(L:List (List Int))(la:Int)(s3 s4 s5:Sl),Γ=[.sh (.lst es),.sh (.lst fs),.sh (.int la),s3,s4,s5]/\yo rows k=some (L,la)/\qS fs L/\L.length=n/\la≠0/\Bd (k9 k) la/\∀r∈L,r.length=n+1/\∀x∈r,Bd (k9 k) x,⟨es,rows,1,.no,.no,.no,rfl,rfl,W,lr,by decide,yw (by decide),λr hr=>⟨S.row r hr,bd r hr⟩⟩,?_,?_⟩
 ·rintro k d Γ' hk ⟨fs,L,la,s3,s4,s5,rfl,hR,W2,lL,l0,bl,hL⟩;obtain⟨kn,rfl⟩:=jm hk;obtain⟨L',la',f,e1,e2,e3⟩:=zOr SO.run kn;rw[hR]at e1;cases e1;obtain⟨f1,f2,f3⟩:=zIF e2;have fl:f<L.length:=by omega
  have kl:k<L.length:=by exact zz
  have sz:k9 k<=1000/\k9 (k+1)=2*k9 k+1:=by
   rcases(by omega:k=0\/k=1)with rfl|rfl
   ·exact⟨by decide,rfl⟩
   ·exact⟨by decide,rfl⟩
  have lf:=W2.1;have W3:=W2.put kl fl;have hP:∀r∈ya L k f,r.length=n+1/\∀x∈r,Bd (k9 k) x:=λr hr=>hL r (zOx kl fl r hr);have lp:(ya L k f).length=n:=by rw[zJs,lL]
  obtain⟨dp,hdp,hIp⟩:=W3.at_ (i:=k) Zy;have hk':=hP _ (yJ (d:=[]) (show k<(ya L k f).length by exact Zy))
  have pv:((ya L k f).getD k []).getD k 0=(L.getD f []).getD k 0:=by
   unfold ya;rw[JJ (by rw[bS];exact fl),JJ kl];by_cases c:k=f
   ·rw[if_pos c,c]
   ·rw[if_neg c,if_pos rfl]
  refine⟨fs,L,k,f,rfl,W2,by exact zg,by exact xQ,λr hr=>by rw[(hL r hr).1];exact yO,e2,wF rfl ⟨fs,k,f,rfl,by exact zz,by exact zz,by omega,_,Jy hdp,?_⟩⟩;have lq:=W3.1;refine zo.enum (λi e=>IS e (if i=k then(ya L k f).getD i [] else uT ((ya L k f).getD i []) ((ya L k f).getD k []) k la)) (by omega) (λi x hx=>?_) λfs' lf' hf=>?_
  ·have il:=(aN.mp hx).1;refine w2 (λc1=>?_) λc1=>?_
   ·have e:i=k:=by have:=of_decide_eq_true c1;omega
    refine⟨i,x,rfl,?_⟩;rw[if_pos e];exact W3.2 i x hx
   ·have e:i≠k:=by have:=of_decide_eq_false c1;omega
    have hi':=hP _ (yJ (d:=[]) (show i<(ya L k f).length by exact xh));refine⟨x,dp,_,_,k,la,rfl,W3.2 i x hx,hIp,by rw[hi'.1,hk'.1],by rw[hi'.1];exact yO,by rw[hi'.1];exact y6,l0,bl.mono sz.1,λz hz=>(hi'.2 z hz).mono sz.1,λz hz=>(hk'.2 z hz).mono sz.1,i,x,rfl,?_⟩;rw[if_neg e];exact .inl rfl
  refine hIp.ixD (by rw[hk'.1];exact yO) ?_;refine⟨fs',jB (ya L k f) k la,_,_,_,_,rfl,e3,⟨?_,λi e he=>?_⟩,?_,by rw[pv];exact f3,?_,λr hr=>?_⟩
  ·unfold jB;rw[aB,aM];exact Z4
  ·have il:=(aN.mp he).1;have:=hf i e he;unfold jB;rw[qB (by omega)];exact this
  ·unfold jB;rw[aB,aM,lp]
  ·rw[sz.2];exact(hk'.2 _ (yJ (by rw[hk'.1];exact yO))).mono (by omega)
  ·unfold jB at hr;obtain⟨i,hi,rfl⟩:=aG.mp hr;have hi:=bj.mp hi;have hi':=hP _ (yJ (d:=[]) hi);rw[sz.2];by_cases c:i=k
   ·rw[if_pos c];exact⟨hi'.1,λx hx=>(hi'.2 x hx).mono (by omega)⟩
   ·rw[if_neg c];exact⟨by rw[zP3 (by rw[hi'.1,hk'.1]),hi'.1],zSx hi'.2 hk'.2⟩
 ·rintro Γ' ⟨fs,L,la,s3,s4,s5,rfl,hR,W2,lL,l0,bl,hL⟩;rw[ul]at hR bl hL;rw[SO.run]at hR;cases hR;have lf:=W2.1
  have sz:k9 n<=900:=by rcases(by omega:n=1\/n=2)with rfl|rfl <;> decide
  have sf:=JN SO;refine zo.enum (λi e=>e=zn (zh ((LL.getD i []).getD n 0) DD)) (by omega) (λi x hx=>?_) λfs' lf' hf=>?_
  ·have il:=(aN.mp hx).1;have hi:=hL _ (yJ (d:=[]) (show i<LL.length by exact xh));have hr:=W2.2 i x hx;refine hr.ixL (n:=n) hi.1 (hr.ixD (by rw[hi.1];omega) ?_);rw[(SO.dia i (by omega)).2];exact⟨_,_,rfl,l0,bl.mono zA,i,x,rfl,rfl⟩
  have e:fs'=(yS rows n).map zn:=by rw[sf];unfold ZQ;refine eZ λi=>?_;grind
  rw[e];refine q ⟨(g5 S dt).1,S.n3,λp hp=>?_⟩;rw[sf]at hp;obtain⟨i,hi,rfl⟩:=aG.mp hp;have hi:=hL _ (yJ (d:=[]) (show i<LL.length by have:=bj.mp hi;exact zz));exact⟨qc l0,(jX (hi.2 _ (yJ (by rw[hi.1];exact aJ _)))).mono sz,(jY bl).mono sz⟩
end
end K98
namespace K98
open PySem L2 Sh Pu Vg
variable[Tbl]
theorem yt{α:Type}{f:α->D}{l:List α}{k:Nat}(z:α)(h:k<l.length):yc (l.map f) (k:Int)=some (f (l.getD k z)):=by rw[aD,aE h];exact Jy (by rw[aV,aE h];rfl)
noncomputable abbrev cN(cs:List Nat):D:=.lst (cs.map λx=>.int ((x:Nat):Int))
noncomputable def uc(d:D):Nat:=(zw d).toNat
theorem Jz(x):uc (.int ((x:Nat):Int))=x:=by show(((x:Nat):Int)).toNat=x;exact rfl
theorem zP2{cs:List Nat}{R:D->Prop}(g)(few:cs.length<=1000)(h:∀c∈cs,G (.int ((c:Nat):Int)) λe=>e=g c)(q:R (.lst (cs.map g))):zo (cs.map λx=>D.int ((x:Nat):Int)) G R:=xC (λx=>D.int ((x:Nat):Int)) uc Jz g few h q
theorem ZJ{α β:Type}{f:α->β}{l:List α}{i:Nat}{d:β}(z:α)(h:(l.map f)[i]? =some d):i<l.length/\d=f (l.getD i z):=by grind
def fExc:FL:=λds R=>∃(cs:List Nat)(p x:Nat),ds=[cN cs,.int ((p:Nat):Int),.int ((x:Nat):Int)]/\p<cs.length/\cs.length<=100/\R (cN (cs.set p x))
theorem zOp(L):qS (L.map U) L:=⟨aB ..,λi d h=>by obtain⟨_,rfl⟩:=ZJ [] h;exact .inr rfl⟩
noncomputable def zy(n:Nat):List (List Int):=(aI n).map λ(k:Nat)=>yH (k:Int) n 1++[0]
structure J0(rows:List (List Int))(cs:List Nat)(n:Nat):Prop where
 C:Cr rows n cs
 bd:∀r∈rows,∀x∈r,Bd 200 x
 few:rows.length<=100
 n2:n<=2
def fAxE:FL:=λds R=>∃n:Nat,ds=[.int (n:Int)]/\n<=3/\R (Rm (zy n))
def fCPe:FL:=λds R=>∃rows cs n,ds=[Rm rows,cN cs]/\J0 rows cs n/\(wW n (xo rows cs n)->R (zP (xo rows cs n)))
def fWOe:FL:=λds R=>∃rows cs n us,ds=[Rm rows,cN cs,U us]/\J0 rows cs n/\us.length=n+1/\(∀x∈us.take n,Bd 200 x)/\(wW n (zq rows cs us n)->R (zP (zq rows cs us n)))
def UI:FL:=λds R=>∃pts:List (Int×Int),ds=[zP pts]/\pts.length<=4/\(∀p∈pts,0<p.2/\Bd 900 p.1/\Bd 900 p.2)/\R (.tup [.int (yK pts),L (yB pts)])
def UJ:FL:=λds R=>∃rows cs n pl nu,ds=[Rm rows,cN cs,.int ((pl:Nat):Int),.int nu]/\J0 rows cs n/\pl<n/\(nu=1\/nu=-1)/\(wW n (yS (xD rows cs pl nu n) n)->R (L (yB (yS (xD rows cs pl nu n) n))))
theorem zGt:∀(pts:List (Int×Int))(D:Int)(e:Nat),Bd e D->(∀p∈pts,Bd 900 p.2)->Bd (e+900*pts.length) (pts.foldl (λD p=>(D*p.2).fdiv (c8 D p.2:Int)) D)
 |[],D,e,h,_=>h.mono (by simp)
 |p::pts,D,e,h,hp=>by
  have z:=zGt pts ((D*p.2).fdiv (c8 D p.2:Int)) (e+900) ((h.mul (hp p aR)).fdiv _) λq hq=>hp q (aK _ hq);exact z.mono (by rw[bF];omega)
theorem zKe(h:∀p∈pts,0<p.2/\Bd 900 p.1/\Bd 900 p.2)(h4:pts.length<=4):Bd 3700 (yK pts)/\∀x∈yB pts,Bd 4600 x:=by have z:Bd 3700 (yK pts):=(zGt pts 1 1 Bd.lit λp hp=>(h p hp).2.2).mono (by omega);refine⟨z,λx hx=>?_⟩;obtain⟨p,hp,e⟩:=aG.mp hx;rw[<- e];exact((h p hp).2.1.mul (z.fdiv _)).mono
theorem zMh{pts:List (Int×Int)}(hp:pts[k]? =some p):yK (pts.take (k+1))=(yK (pts.take k)*p.2).fdiv (c8 (yK (pts.take k)) p.2:Int):=by unfold yK;rw[Ym hp,e7];rfl
noncomputable abbrev vz(A:Nat->Addr):List Ct:=⟨0,"way_off",0,zR 69,UJ,0⟩::⟨0,"exchanged",0,zR 71,fExc,0⟩::⟨0,"over_one_bottom",0,zR 74,UI,0⟩::⟨0,"weights_of",0,zR 68,fWOe,0⟩::⟨0,"corner_point",0,zR 67,fCPe,0⟩::⟨0,"axes",0,zR 65,fAxE,0⟩::jZ A
section
variable{E:Ev xF xM xN}
theorem zS3:Gx E (vz E.A) 5:=vk 0 [0,1,0,1,0,107,0,1] rfl λds R h=>by
 obtain⟨n,rfl,n3,q⟩:=h;refine⟨by exact zb,by exact yj,?_⟩;rw[show((n:Nat):Int).toNat=n by exact rfl];refine zo.rng0 (λp=>U (yH (p:Int) n 1++[0])) zA (λp hp=>⟨(p:Int),(n:Int),1,0,rfl,by exact zb,by exact yj,?_⟩) ?_
 ·rw[show((n:Nat):Int).toNat=n by exact rfl]
 ·unfold Rm zy at q;rw[aQ]at q;exact q
theorem zEY:Gx E (vz E.A) 4:=vk 0 [0,61,1,0,0,1,0,1,0] rfl λds R h=>by obtain⟨rows,cs,n,rfl,W,q⟩:=h;have C:=W.C;have n2:=W.n2;have lc:=C.len;refine zP2 (λc=>U (rows.getD c [])) wz (λc hc=>⟨_,yt [] (C.lt c hc),rfl⟩) ?_;rw[show cs.map (λc=>U (rows.getD c []))=(yy rows cs).map U by unfold yy;rw[aQ];rfl];refine⟨_,yy rows cs,n,rfl,zOp _,C.sqC,n2,C.det,λr hr=>?_,q⟩;obtain⟨c,hc,rfl⟩:=aG.mp hr;exact W.bd _ (yJ (C.lt c hc))
theorem zGT:Gx E (vz E.A) 3:=vk 0 [0,62,3,0,1,2,1,0,1,7,2,0,1,0,2,0,0,2,0,1,0,3,0] rfl λds R h=>by
 obtain⟨rows,cs,n,us,rfl,W,lu,bu,q⟩:=h;have C:=W.C;have n2:=W.n2;have lc:=C.len;have lm:(cs.map λx=>D.int ((x:Nat):Int)).length=n:=by rw[aB];exact lc
 refine⟨by exact zb,by omega,?_⟩;rw[lm,show((n:Nat):Int).toNat=n by exact rfl];refine zo.rng0 (λj=>U ((cs.map λc=>(rows.getD c []).getD j 0)++[us.getD j 0])) zA (λj hj=>?_) ?_
 ·refine zP2 (λc=>.int ((rows.getD c []).getD j 0)) zg (λc hc=>⟨_,yt [] (C.lt c hc),_,vK (j:=j) (by rw[C.row _ (yJ (C.lt c hc))];exact yO) rfl,rfl⟩) ?_;refine⟨_,vK (j:=j) (by omega) rfl,k0,by rw[aB];show _+1<=1000;exact vV,?_⟩;unfold U;rw[aS,aQ];rfl
 ·rw[show(aI n).map (λj=>U ((cs.map λc=>(rows.getD c []).getD j 0)++[us.getD j 0]))=(xn rows cs us n).map U by unfold xn;rw[aQ];rfl];refine⟨_,xn rows cs us n,n,rfl,zOp _,C.sqW us,n2,C.detW us,λr hr x hx=>?_,q⟩;obtain⟨j,hj,rfl⟩:=aG.mp hr;have hj:=bj.mp hj;rcases be.mp hx with hx|hx
  ·obtain⟨c,hc,rfl⟩:=aG.mp hx;exact jr (W.bd _ (yJ (C.lt c hc))) j
  ·rw[a6.mp hx,<- g6 (n:=n) hj];exact jr bu j
theorem zC7:Gx E (vz E.A) 2:=vk 2 [0,0,1,0,0,0,0,2,0,1,1,0,2,75,1,0,2,0,1,1,1,0,0,0,0,1,0,0] rfl λds R h=>by
 obtain⟨pts,rfl,l4,hp,q⟩:=h;refine⟨λk Γ=>∃(o:Int)(s2:Sl),Γ=[.sh (zP pts),.sh (.int o),s2]/\o=yK (pts.take k)/\0<o/\Bd (1+900*k) o,⟨1,_,rfl,rfl,by decide,yw (by decide)⟩,?_,?_⟩
 ·rintro k d Γ' hk ⟨o,s2,rfl,eo,p0,bb⟩;obtain⟨kl,rfl⟩:=ZJ (0,1) hk;have hx:pts[k]? =some (pts.getD k (0,1)):=by rw[aD,aE kl];rfl
  obtain⟨x0,bx1,bx2⟩:=hp _ (yJ (d:=(0,1)) kl);have g0:(c8 o (pts.getD k (0,1)).2:Int)≠0:=cM (zK3 (cM x0))
  have gb:Bd 900 (c8 o (pts.getD k (0,1)).2:Int):=bx2.of_le (by have:=Int.gcd_le_right (a:=o) x0;omega)
  exact⟨_,rfl,bb.mono (by omega),bx2.mono,_,rfl,k0,_,_,rfl,g0,gb.mono,_,_,rfl,by rw[zMh hx,<- eo];rfl,(zF9 p0 x0).1,((bb.mul bx2).fdiv _).mono (aJ _)⟩
 ·rintro Γ' ⟨o,s2,rfl,eo,p0,bb⟩;rw[aB,bO (aJ _)]at eo;subst eo;obtain⟨b1,b2⟩:=zKe hp l4;refine xC zn (λd=>match d with| .tup [x,y]=>(zw x,zw y)|_=>(0,0)) (λ_=>rfl) (λp=>.int (p.1*(yK pts).fdiv p.2)) zA (λp hq=>⟨_,rfl,_,rfl,cM (hp p hq).1,(hp p hq).2.2.mono,(hp p hq).2.1.mono,(b1.fdiv _).mono,rfl⟩) ⟨k0,?_⟩;rw[show pts.map (λp=>D.int (p.1*(yK pts).fdiv p.2))=(yB pts).map D.int by unfold yB;rw[aQ];rfl];exact q
theorem zHJ:Gx E (vz E.A) 1:=vk 0 [0,2,0,1,2,2,0,1] rfl λds R h=>by
 obtain⟨cs,p,x,rfl,pl,l9,q⟩:=h;have e1:HT.sIx (cs.map λx=>D.int ((x:Nat):Int)).length (cs.map λx=>D.int ((x:Nat):Int)).length (some ((p:Nat):Int))=p:=by rw[HT.sIx_nat,aB];omega
 have e0:HT.sIx (cs.map λx=>D.int ((x:Nat):Int)).length 0 none=0:=HT.sIx_none _ _
 have e2:zm (cs.map λx=>D.int ((x:Nat):Int)) none (some ((p:Nat):Int))=(cs.take p).map λx=>D.int ((x:Nat):Int):=by unfold zm;rw[e0,e1,d_,ia,dk]
 have e3:zm (cs.map λx=>D.int ((x:Nat):Int)) (some (((p:Nat):Int)+1)) none=(cs.drop (p+1)).map λx=>D.int ((x:Nat):Int):=by
  unfold zm;have f1:HT.sIx (cs.map λx=>D.int ((x:Nat):Int)).length 0 (some (((p+1:Nat)):Int))=p+1:=by rw[HT.sIx_nat,aB];exact QM
  have f2:HT.sIx (cs.map λx=>D.int ((x:Nat):Int)).length (cs.map λx=>D.int ((x:Nat):Int)).length none=cs.length:=by rw[HT.sIx_none,aB]
  rw[show(((p:Nat):Int)+1)=((p+1:Nat):Int)by exact rfl,f1,f2,bO (by rw[cc,aB];exact aJ _),dq]
 have l1:(cs.take p).length<=100:=by rw[aZ];omega
 have l2:(cs.drop (p+1)).length<=100:=by rw[cc];omega
 refine⟨k0,?_,?_,?_⟩
 ·rw[e2,aB];show _+1<=1000;exact y6
 ·rw[e2,e3,aF,aB,aB];show _+1+_<=1000;omega
 ·rw[e2,e3];unfold cN at q;rw[List.set_eq_take_append_cons_drop,if_pos pl,aS,bg]at q;rw[cv];exact q
theorem zLX:Gx E (vz E.A) 0:=vk 1 [0,1,4,4,0,1,2,3,0,1,2,0,1,0,0,0,0,2,3,4,0,0,61,65,4] rfl λds R h=>by
 obtain⟨rows,cs,n,pl,nu,rfl,W,pn,hnu,q⟩:=h;have C:=W.C;have n2:=W.n2;have lc:=C.len;refine zP2 (λc=>U ((rows.getD c []).take n++[if c=cs.getD pl 0 then nu else 0])) wz (λc hc=>?_) ?_
 ·have rl:=C.row _ (yJ (d:=[]) (C.lt c hc));refine⟨_,yt [] (C.lt c hc),_,yt 0 zz,?_⟩;have e:zm ((rows.getD c []).map D.int) none (some (-1))=((rows.getD c []).take n).map D.int:=ut rl
  have f:∀z:Int,D.tup (zm ((rows.getD c []).map D.int) none (some (-1))++[.int z])=U ((rows.getD c []).take n++[z]):=λz=>by rw[e];unfold U;rw[aS];rfl
  have lz:(zm ((rows.getD c []).map D.int) none (some (-1))).length+1<=1000:=by rw[e,aB,aZ];omega
  refine w2 (λc1=>⟨k0,lz,?_⟩) λc1=>⟨k0,lz,?_⟩
  ·have z:c=cs.getD pl 0:=by have:=of_decide_eq_true c1;omega
   rw[if_pos z];exact f nu
  ·have z:c≠cs.getD pl 0:=by have:=of_decide_eq_false c1;omega
   rw[if_neg z];exact f 0
 rw[show cs.map (λc=>U ((rows.getD c []).take n++[if c=cs.getD pl 0 then nu else 0]))=(xD rows cs pl nu n).map U by unfold xD;rw[aQ];rfl];refine⟨_,xD rows cs pl nu n,n,rfl,zOp _,C.sqD pl nu,n2,C.detD pl nu,λr hr x hx=>?_,λPT=>⟨_,rfl,by rw[PT.1];exact zA,PT.2.2,_,rfl,q PT⟩⟩;obtain⟨c,hc,rfl⟩:=aG.mp hr;rcases be.mp hx with hx|hx
 ·exact W.bd _ (yJ (C.lt c hc)) x (bN hx)
 ·rw[a6.mp hx];split
  ·rcases hnu with rfl|rfl
   ·exact yw (by decide)
   ·exact(yw (n:=1) (by decide)).neg.mono
  ·exact wK
end
end K98
namespace K98
open PySem L2 Sh Pu Vg
variable[Tbl]
theorem J1(z):vl n (r.take n) z=vl n r z:=by unfold vl;exact xX λj hj=>by rw[g6 hj]
theorem zFM(h:r.length=n+1)(lp:pts.length=n)(hp:∀p∈pts,0<p.2):j7 (r.take n) (r.getD n 0) pts=true↔vl n r (zi pts)<=bo n r:=by
 have lt:(r.take n).length=n:=by rw[aZ];omega
 obtain⟨a1,a2⟩:=KT (us:=r.take n) (pts:=pts) (by omega) hp;have q:=qm a1;rw[JO lt,J1]at a2;unfold j7 bo;rw[decide_eq_true_iff];constructor
 ·intro z;have z':(((z9 (r.take n) pts).1:Int):Rat)<=((r.getD n 0*(z9 (r.take n) pts).2:Int):Rat):=by exact_mod_cast z
  rw[a2,bE]at z';apply bA;intro c;have:=bP (show((r.getD n 0:Int):Rat)<vl n r (zi pts)by grind) q;grind
 ·intro z;have z':=cr z (cK q);rw[<- a2,<- bE]at z'
  exact_mod_cast z'
theorem zQg(hp:0<p.2)(hq:0<q.2):(p.1*q.2<q.1*p.2)↔zc p<zc q:=by
 have e1:=jC hp;have e2:=jC hq;have a:=qm hp;have b:=qm hq;constructor
 ·intro z;have z':((p.1*q.2:Int):Rat)<((q.1*p.2:Int):Rat):=by exact_mod_cast z
  rw[bE,bE,<- e1,<- e2]at z';apply bA;intro c;have c1:=cr (show zc q<=zc p by grind) (cK a);have c2:=cr c1 (cK b);grind
 ·intro z;have c1:=bP z a;have c2:=bP c1 b
  have z':((p.1*q.2:Int):Rat)<((q.1*p.2:Int):Rat):=by rw[bE,bE,<- e1,<- e2];grind
  exact_mod_cast z'
theorem zOX(t):zc (t,1)=(t:Rat):=JM (show(0:Int)<1 by decide) (by show(t:Rat)=(t:Rat)*((1:Int):Rat);rw[show((1:Int):Rat)=1 from rfl,ey])
theorem J5{t b:Int}(h:b≠0)(e:(t:Rat)=x*(b:Rat)):(t:Rat)/(b:Rat)=x:=by rw[e,cZ,d7,eL _ (λz=>h (by exact_mod_cast z)),ey]
theorem zJP(hp:0<p.2)(hq:0<q.2):0<zJ ((p.1*q.2-q.1*p.2)) (p.2*q.2)/\zc (ze ((p.1*q.2-q.1*p.2)) (p.2*q.2),zJ ((p.1*q.2-q.1*p.2)) (p.2*q.2))=zc p-zc q:=by have ne:p.2*q.2≠0:=cM (dY hp hq);obtain⟨a,b⟩:=Y6 (t:=p.1*q.2-q.1*p.2) ne;refine⟨a,b.trans (J5 ne ?_)⟩;rw[fF,bE,bE,bE,<- jC hp,<- jC hq];grind
theorem zJO(hp:0<p.2)(hq:0<q.2):0<zJ ((p.1*q.1)) (p.2*q.2)/\zc (ze ((p.1*q.1)) (p.2*q.2),zJ ((p.1*q.1)) (p.2*q.2))=zc p*zc q:=by have ne:p.2*q.2≠0:=cM (dY hp hq);obtain⟨a,b⟩:=Y6 (t:=p.1*q.1) ne;refine⟨a,b.trans (J5 ne ?_)⟩;rw[bE,bE,<- jC hp,<- jC hq];grind
section
variable{rows:List (List Int)}{n c r:Nat}{x d:Nat->Rat}
theorem zKo(no:∀k,k<c->¬0<VA rows n k d)(p:0<VA rows n c d):vg rows n (c+1) x d c:=⟨bW c,p,λk hk z=>absurd z (no k hk),λk hk z=>by
 by_cases e:k=c
 ·rw[e];exact fD
 ·exact absurd z (no k (by omega))⟩
theorem zMp(M:vg rows n c x d r)(p:0<VA rows n c d)(lt:(BA rows n c-VA rows n c x)*VA rows n r d<(BA rows n r-VA rows n r x)*VA rows n c d):vg rows n (c+1) x d c:=by
 have all:∀k,k<c->0<VA rows n k d->(BA rows n c-VA rows n c x)*VA rows n k d<(BA rows n k-VA rows n k x)*VA rows n c d:=λk hk z=>zIO p M.up z lt (M.all k hk z)
 exact⟨bW c,p,all,λk hk z=>by
  by_cases e:k=c
  ·rw[e];exact fD
  ·exact cK (all k (by omega) z)⟩
theorem zH7(M:vg rows n c x d r)(h:0<VA rows n c d->¬(BA rows n c-VA rows n c x)*VA rows n r d<(BA rows n r-VA rows n r x)*VA rows n c d):vg rows n (c+1) x d r:=⟨cw M.lt,M.up,M.first,λk hk z=>by
 by_cases e:k=c
 ·rw[e];have:=h (e▸z);grind
 ·exact M.all k (by omega) z⟩
end
theorem zMB{a1 a2 v1 v2 D:Rat}(p1:0<v1)(p2:0<v2)(pD:0<D):(a1/(D*v1)<a2/(D*v2))↔a1*v2<a2*v1:=by
 have q1:=fE pD p1;have q2:=fE pD p2;have n1:D*v1≠0:=λz=>by rw[z]at q1;exact absurd q1 d6
 have n2:D*v2≠0:=λz=>by rw[z]at q2;exact absurd q2 d6
 have e1:a1/(D*v1)*(D*v1)=a1:=by rw[cZ,d7,dl _ n1,ey]
 have e2:a2/(D*v2)*(D*v2)=a2:=by rw[cZ,d7,dl _ n2,ey]
 generalize a1/(D*v1)=s1 at*
 generalize a2/(D*v2)=s2 at*
 have q3:=fE q1 p2;subst e1 e2;constructor
 ·intro z;have:=bP z q3;grind
 ·intro z;apply bA;intro c;have:=cr (show s2<=s1 by grind) (cK q3);grind
theorem zKP{ds es:List D}(p:Paired (λd e=>e=d) ds es):es=ds:=by
 induction p with
 |nil=>rfl
 |cons h _ ih=>rw[h,ih]
def jw(room:List (List Int))(n:Nat):Prop:=room.length<=60/\∀r∈room,r.length=n+1/\∀x∈r,Bd 200 x
def ZA:FL:=λds R=>∃(cs:List Nat)(fs:List Bool),ds=[cN cs,.lst (fs.map D.bool)]/\fs.length=cs.length/\cs.length<=100/\((∀p,p<cs.length->fs.getD p false=false)->R .non)/\∀p,p<cs.length->fs.getD p false=true->(∀k,k<cs.length->fs.getD k false=true->cs.getD p 0<=cs.getD k 0)->R (.int ((p:Nat):Int))
def fFBe:FL:=λds R=>∃room n pts,ds=[Rm room,zP pts]/\jw room n/\wW n pts/\((∀i,i<room.length->VA room n i (zi pts)<=BA room n i)->R .non)/\∀i,i<room.length->BA room n i<VA room n i (zi pts)->(∀j,j<i->VA room n j (zi pts)<=BA room n j)->R (.int ((i:Nat):Int))
def fFMe:FL:=λds R=>∃room n pts wp,ds=[Rm room,zP pts,L (yB wp)]/\jw room n/\n<=2/\wW n pts/\wW n wp/\((∀k,k<room.length->¬0<VA room n k (zi wp))->R .non)/\∀r,vg room n room.length (zi pts) (zi wp) r->R (.int ((r:Nat):Int))
def UK:FL:=λds R=>∃(m:Nat)(cs:List Nat)(pts:List (Int×Int)),ds=[.int (m:Int),cN cs,zP pts]/\m<=100/\cs.length<=100/\pts.length<=4/\(∀p∈pts,0<p.2/\Bd 900 p.1/\Bd 900 p.2)/\R (.tup [.int (yK pts),L (Y8 m cs (yB pts))])
theorem zJd:∀{qs:List (Nat×Int)}{ns:List Int},ns.length=m->(∀x∈ns,Bd e x)->(∀q∈qs,Bd e q.2)->(qs.foldl (λns q=>if q.1<m then ns.set q.1 q.2 else ns) ns).length=m/\∀x∈qs.foldl (λns q=>if q.1<m then ns.set q.1 q.2 else ns) ns,Bd e x
 |[],ns,h,b,_=>⟨h,b⟩
 |q::qs,ns,h,b,c=>zJd (qs:=qs) (by dsimp only;split<;> simp[h]) (λx hx=>by
   dsimp only at hx;split at hx
   ·rcases eg hx with h|h
    ·exact b x h
    ·rw[h];exact c q aR
   ·exact b x hx) λy hy=>c y (aK _ hy)
theorem J7(h:∀x∈xs,Bd e x):(Y8 m cs xs).length=m/\∀x∈Y8 m cs xs,Bd e x:=zJd (bX ..) (λx hx=>by rw[(dr.mp hx).2];exact wK) λq hq=>h _ (bC hq).2
theorem J8{r:List Int}(h:r.length=n+1):r.take n++[r.getD n 0]=r:=by refine eZ λi=>?_;grind
theorem zQx(rl:r.length=n+1)(W:wW n wp):((zD (r.take n) (yB wp):Int):Rat)=(yK wp:Rat)*vl n r (zi wp):=by
 have lw:=W.1;have lt:(r.take n).length=n:=by rw[aZ];omega
 rw[KM (by rw[zKd];omega),lt];unfold vl;rw[<- qA]
 exact xX λj hj=>by rw[g6 hj,zPQ (λp hp=>(W.2.2 p hp).1) zz];grind
theorem zRz(W:wW n pts)(n2:n<=2):∀x∈yB pts,Bd 2701 x:=λx hx=>by have z:Bd 1801 (yK pts):=(zGt pts 1 1 Bd.lit λp hp=>(W.2.2 p hp).2.2).mono (by rw[W.1];omega);obtain⟨p,hp,e⟩:=aG.mp hx;rw[<- e];exact((W.2.2 p hp).2.1.mul (z.fdiv _)).mono
theorem zHa:∀{us vs:List Int},(∀x∈us,Bd a x)->(∀x∈vs,Bd e x)->Bd (a+e+us.length) (zD us vs)
 |[],_,_,_=>wK
 |_::_,[],_,_=>wK
 |u::us,v::vs,hu,hv=>by
  have h1:=(hu u aR).mul (hv v aR);have h2:=zHa (us:=us) (vs:=vs) (λx h=>hu x (aK _ h)) λx h=>hv x (aK _ h);exact(h1.mono (bM _ _)).add h2
theorem J9(t):zh t 1=(t,1):=by
 have e:cm t 1=1:=by unfold cm;rw[if_neg (by decide),Int.gcd_one];rfl
 unfold zh ze zJ;rw[e,Int.fdiv_one];rfl
noncomputable abbrev qU(A:Nat->Addr):List Ct:=⟨0,"spread",0,zR 75,UK,0⟩::⟨0,"first_met",0,zR 73,fFMe,0⟩::⟨0,"first_broken",0,zR 72,fFBe,0⟩::⟨0,"least_place",0,zR 70,ZA,0⟩::vz A
section
variable{E:Ev xF xM xN}
noncomputable abbrev UL:Stmt:=zR 70
end
section
variable{P:Program}{w:World}{K:aH}{mg:Str->Option Value}{base:Heap}
theorem zBc:wH ["corner","fit","places"] ["corner","fit"] (zX UL):=.a
theorem zEK(hI:∀H,Tbl.I H↔yC Pt "least_place.<locals>.<lambda>" ⟨266,27,266,54⟩ H)(hc:fd.code=.ref c)(T:wV base mg c Pt)(k2:2<=k)(F:wO K "least_place" "least_place" UL f fd)(B:Bl mg):zS P w K mg base yN (k+1) f fd ["corner","fit"] (wB (ZA)):=by
 refine okPC F hc zBc (λds R h=>by obtain⟨cs,fs,rfl,_⟩:=h;rfl) λA outer s H E hr=>?_;have hr2:=hr.mono k2
 refine⟨_,(wJ (zFu 2 false zBc.nd rfl rfl (own:=["place"]) (caps:=[(1,"fit")]) (uo zBc) rfl rfl vn (Ku rfl B.range_ (zQ (jI Ye JZ rfl B.len_ Yj (zQ (zK 0) yW)) yW)) (λ_ _ _ _=>(uC 0 (vR ["place","fit"]))) (λ_ _ _ _=>(zJq (pxi (zK 1) (zK 0)))) (λ_ _ _ _=>(zK 0)) rfl)
  (qK (Zd (zJ4 (iy:=0) hI T (zK 2) rfl hr2 rfl B.min_ zGK rfl rfl rfl rfl rfl rfl rfl (by decide) rfl rfl rfl (λ_ _ _ _=>rfl) (by decide) (by decide) (by decide) (by decide))))),λds R h=>?_⟩
 obtain⟨cs,fs,rfl,lf,l9,q0,q1⟩:=h;have lm:(cs.map λx=>D.int ((x:Nat):Int)).length=cs.length:=aB ..;refine⟨by exact zb,by omega,?_⟩;rw[lm,show((cs.length:Nat):Int).toNat=cs.length by exact rfl];refine Ji.mk (by rw[ul];exact zA) (λd=>fs.getD (uc d) false) (λd e=>e=d) (λd hd=>?_) (λd hd _=>rfl) λes pe=>?_
 ·obtain⟨j,hj⟩:=dZ.mp hd;obtain⟨jl,rfl⟩:=jm hj;refine⟨_,yt false zz,?_⟩;rw[Jz];exact rfl
 cases zKP pe
 have e1:(rng0 cs.length).filter (λd=>fs.getD (uc d) false)=(((aI cs.length).filter λk=>fs.getD k false).map λ(k:Nat)=>(k:Int)).map D.int:=by unfold rng0;rw[List.filter_map,aQ];congr 1
 rw[e1];have e2:(cN cs)=.lst ((cs.map λ(k:Nat)=>(k:Int)).map D.int):=by rw[aQ];rfl
 refine⟨_,_,rfl,by rw[<- e2];rfl,λn hn=>?_,λz=>q0 λp hp=>?_,λn hn hm=>?_⟩
 ·obtain⟨k,hk,rfl⟩:=aG.mp hn;have:=bj.mp (dD.mp hk).1;rw[aB];omega
 ·cases h:fs.getD p false with
  |false=>rfl
  |true=>
   have:((p:Nat):Int)∈((aI cs.length).filter λk=>fs.getD k false).map λ(k:Nat)=>(k:Int):=aG.mpr ⟨p,dD.mpr ⟨bj.mpr hp,h⟩,rfl⟩;rw[z]at this;cases this
 ·obtain⟨k,hk,rfl⟩:=aG.mp hn;have kl:=bj.mp (dD.mp hk).1;refine q1 k kl (dD.mp hk).2 λj jl hj=>?_;have z:=hm ((j:Nat):Int) (aG.mpr ⟨j,dD.mpr ⟨bj.mpr jl,hj⟩,rfl⟩);rw[show((k:Nat):Int).toNat=k by exact rfl,show((j:Nat):Int).toNat=j by exact rfl,vE (d:=0) kl,vE (d:=0) jl]at z;omega
end
section
variable{E:Ev xF xM xN}
theorem zEX:Gx E (qU E.A) 2:=vk 2 [0,0,5,0,2,3,0,0,71,3,1,0,2,0] rfl λds R h=>by
 obtain⟨room,n,pts,rfl,RO,PT,q0,q1⟩:=h;have few:=RO.1;refine⟨λk Γ=>∃s2 s3,Γ=[.sh (Rm room),.sh (zP pts),s2,s3]/\∀j,j<k->VA room n j (zi pts)<=BA room n j,⟨_,_,rfl,λj hj=>absurd hj (df j)⟩,?_,?_⟩
 ·rintro k d Γ' hk ⟨s2,s3,rfl,hh⟩;obtain⟨x,hx,rfl⟩:=qL hk;obtain⟨kl,rfl⟩:=ZJ [] hx;obtain⟨rl,rb⟩:=RO.2 _ (yJ (d:=[]) kl);have ra:=J8 rl;have hf:=zFM rl PT.1 λp hp=>(PT.2.2 p hp).1;refine⟨(room.getD k []).take n,(room.getD k []).getD n 0,n,pts,by rw[ra],by rw[aZ];omega,λw hw=>(rb w (bN hw)).mono,(rb _ (yJ yx)).mono,PT,?_⟩;refine w2 (λc1=>?_) λc1=>⟨_,_,rfl,λj hj=>?_⟩
  ·rw[cW];refine q1 k kl ?_ hh;grind
  ·by_cases z:j=k
   ·rw[z];exact hf.mp (jt c1)
   ·exact hh j (by omega)
 ·rintro Γ' ⟨s2,s3,rfl,hh⟩;rw[jp,aB]at hh;exact q0 hh
theorem zHI:Gx E (qU E.A) 1:=vk 6 [0,0,3,0,0,4,79,0,0,5,0,5,6,0,0,7,119,2,6,2,0,0,0,7,0,0,8,77,78,79,0,6,74,6,1,79,7,0,0,1,3,76,8,4,0,0,3,5,0,4,8,0,3] rfl λds R h=>by
 obtain⟨room,n,pts,wp,rfl,RO,n2,PT,W,q0,q1⟩:=h;have few:=RO.1;have DQ:=qm (zPR λp hp=>(W.2.2 p hp).1);have bow:=zRz W n2;have lol:(yB wp).length=n:=by rw[zKd];exact W.1
 refine⟨0,1,rfl,by decide,yw (by decide),?_⟩;refine⟨λk Γ=>∃(me:D)(f:Int×Int)(s5 s6 s7 s8:Sl),Γ=[.sh (Rm room),.sh (zP pts),.sh (L (yB wp)),.sh me,.sh (zn f),s5,s6,s7,s8]/\Bd 5000 f.1/\Bd 7000 f.2/\0<f.2/\((me=.non/\∀j,j<k->¬0<VA room n j (zi wp))\/∃j:Nat,me=.int (j:Int)/\vg room n k (zi pts) (zi wp) j/\zc f=(BA room n j-VA room n j (zi pts))/((yK wp:Rat)*VA room n j (zi wp))),⟨.non,zh 0 1,_,_,_,_,rfl,jX (t:=0) (b:=1) wK,jY (t:=0) (b:=1) (yw (by decide)),qc (t:=0) (b:=1) (by decide),.inl ⟨rfl,λj hj=>absurd hj (df j)⟩⟩,?_,?_⟩
 ·rintro k d Γ' hk ⟨me,f,s5,s6,s7,s8,rfl,bf1,bf2,f0,hme⟩;obtain⟨y,hy,rfl⟩:=qL hk;obtain⟨kl,rfl⟩:=ZJ [] hy;obtain⟨rl,rb⟩:=RO.2 _ (yJ (d:=[]) kl);have esp:=zQx rl W;have ra:=J8 rl;have va:∀z,VA room n k z=vl n (room.getD k []) z:=λ_=>rfl;have ba:BA room n k=(((room.getD k []).getD n 0:Int):Rat):=rfl;generalize room.getD k []=r at rl rb esp ra va ba;have lt:(r.take n).length=n:=by rw[aZ];omega
  have bws:∀x∈r.take n,Bd 200 x:=λx hx=>rb x (bN hx);refine⟨_,_,r.take n,yB wp,rfl,.inr (by rw[ut rl]),.inl rfl,by exact zg,λx hx=>(bws x hx).mono,λx hx=>(bow x hx).mono,?_⟩;have bsp:Bd 2910 (zD (r.take n) (yB wp)):=(zHa bws bow).mono (by omega)
  have sgn:0<zD (r.take n) (yB wp)↔0<VA room n k (zi wp):=by
   rw[va];constructor
   ·intro z;have z':=qm z;rw[esp]at z';apply bA;intro c;have:=e_ (cK DQ) (show 0<=-(vl n r (zi wp))by grind);grind
   ·intro z;have z':=fE DQ z;rw[<- esp]at z'
    exact_mod_cast z'
  generalize zD (r.take n) (yB wp)=sp at*
  rw[cW];refine w2 (λc1=>?_) λc1=>?_
  ·have hb':0<sp:=of_decide_eq_true c1;have up:=sgn.mp hb';have bb:=rb _ (yJ (d:=0) (show n<r.length by exact yx));obtain⟨a1,a2⟩:=KT (us:=r.take n) (pts:=pts) (by rw[PT.1];exact lt) λp hp=>(PT.2.2 p hp).1;rw[JO lt,J1]at a2;refine⟨_,kr rl,_,_,rfl,by decide,yw (by decide),?_⟩;refine⟨r.take n,r.getD n 0,n,pts,by rw[ra],lt,λw hw=>(bws w hw).mono,PT,λ_ bal1 bal2=>?_⟩;generalize z9 (r.take n) pts=al at*
   have ane:al.2≠0:=by exact vU
   have q0':0<zJ al.1 al.2:=qc ane;have b7:Bd 4000 (ze al.1 al.2):=jX bal1;have b8:Bd 2800 (zJ al.1 al.2):=jY bal2;have v7:zc (zh al.1 al.2)=vl n r (zi pts):=((Y6 ane).2).trans (J5 ane a2);refine⟨(r.getD n 0,1),zh al.1 al.2,by show[zn (zh (r.getD n 0) 1),_]=_;rw[J9],fH,q0',bb.mono,yw (by decide),b7.mono,b8.mono,(Bd.mul (yw (n:=1) (by decide)) b8).mono,?_⟩;obtain⟨m1,m2⟩:=zJP (p:=(r.getD n 0,1)) (q:=zh al.1 al.2) fH q0';have c1:Bd 4010 (ze (r.getD n 0*zJ al.1 al.2-ze al.1 al.2*1) (1*zJ al.1 al.2)):=jX (((bb.mul b8).mono (show 200+2800<=4002 by decide) |>.sub ((b7.mul (yw (n:=1) (by decide))).mono (show 4000+1<=4002 by decide))).mono);have c2:Bd 2802 (zJ (r.getD n 0*zJ al.1 al.2-ze al.1 al.2*1) (1*zJ al.1 al.2)):=jY ((Bd.mul (yw (n:=1) (by decide)) b8).mono);rw[zOX,v7]at m2;refine⟨1,sp,rfl,cM hb',bsp.mono,?_⟩;have d1:Bd 1 (ze 1 sp):=jX (yw (by decide));have d2:Bd 2910 (zJ 1 sp):=jY bsp;obtain⟨w1,w2⟩:=Y6 (t:=1) (b:=sp) (cM hb');have m1:0<zJ (r.getD n 0*zJ al.1 al.2-ze al.1 al.2*1) (1*zJ al.1 al.2):=m1;have m2:zc (zh (r.getD n 0*zJ al.1 al.2-ze al.1 al.2*1) (1*zJ al.1 al.2))=((r.getD n 0:Int):Rat)-vl n r (zi pts):=m2;refine⟨zh (r.getD n 0*zJ al.1 al.2-ze al.1 al.2*1) (1*zJ al.1 al.2),zh 1 sp,rfl,m1,w1,c1.mono,c2.mono,d1.mono,d2.mono,(c2.mul d2).mono,?_⟩;obtain⟨k1,k2⟩:=zJO (p:=zh (r.getD n 0*zJ al.1 al.2-ze al.1 al.2*1) (1*zJ al.1 al.2)) (q:=zh 1 sp) m1 w1;have g1:Bd 5000 (ze (ze (r.getD n 0*zJ al.1 al.2-ze al.1 al.2*1) (1*zJ al.1 al.2)*ze 1 sp) (zJ (r.getD n 0*zJ al.1 al.2-ze al.1 al.2*1) (1*zJ al.1 al.2)*zJ 1 sp)):=jX ((c1.mul d1).mono);have g2:Bd 7000 (zJ (ze (r.getD n 0*zJ al.1 al.2-ze al.1 al.2*1) (1*zJ al.1 al.2)*ze 1 sp) (zJ (r.getD n 0*zJ al.1 al.2-ze al.1 al.2*1) (1*zJ al.1 al.2)*zJ 1 sp)):=jY ((c2.mul d2).mono)
   have vf:zc (zh ((zh (r.getD n 0*zJ al.1 al.2-ze al.1 al.2*1) (1*zJ al.1 al.2)).1*(zh 1 sp).1) ((zh (r.getD n 0*zJ al.1 al.2-ze al.1 al.2*1) (1*zJ al.1 al.2)).2*(zh 1 sp).2))=(BA room n k-VA room n k (zi pts))/((yK wp:Rat)*VA room n k (zi wp)):=k2.trans (by rw[m2,show zc (zh 1 sp)=_ from w2,esp,va,va,ba,cZ,cZ];show _*(((1:Int):Rat)*_)=_;rw[show((1:Int):Rat)=1 from rfl,Rat.one_mul])
   generalize hg:zh ((zh (r.getD n 0*zJ al.1 al.2-ze al.1 al.2*1) (1*zJ al.1 al.2)).1*(zh 1 sp).1) ((zh (r.getD n 0*zJ al.1 al.2-ze al.1 al.2*1) (1*zJ al.1 al.2)).2*(zh 1 sp).2)=g at*
   have g1:Bd 5000 g.1:=by rw[<- hg];exact g1
   have g2:Bd 7000 g.2:=by rw[<- hg];exact g2
   have g0:0<g.2:=by rw[<- hg];exact k1
   rcases hme with⟨rfl,hno⟩|⟨j,rfl,M,ej⟩
   ·exact wT rfl (wT rfl ⟨_,g,_,_,_,_,rfl,g1,g2,g0,.inr ⟨k,rfl,zKo hno up,vf⟩⟩)
   ·refine wF rfl ⟨g,f,rfl,g1.mono,g2.mono,bf1.mono,bf2.mono,?_⟩
    have cmp:(g.1*f.2<f.1*g.2)↔(BA room n k-VA room n k (zi pts))*VA room n j (zi wp)<(BA room n j-VA room n j (zi pts))*VA room n k (zi wp):=by rw[zQg g0 f0,vf,ej];exact zMB up M.up DQ
    refine⟨λhu=>⟨_,g,_,_,_,_,rfl,g1,g2,g0,.inr ⟨k,rfl,zMp M up (cmp.mp (of_decide_eq_true hu)),vf⟩⟩,λhu=>⟨_,f,_,_,_,_,rfl,bf1,bf2,f0,.inr ⟨j,rfl,zH7 M λ_ z=>of_decide_eq_false hu (cmp.mpr z),ej⟩⟩⟩
  ·have up:¬0<VA room n k (zi wp):=λz=>of_decide_eq_false c1 (sgn.mpr z);refine⟨me,f,_,_,_,_,rfl,bf1,bf2,f0,?_⟩;rcases hme with⟨rfl,hno⟩|⟨j,rfl,M,ej⟩
   ·refine .inl ⟨rfl,λi hi=>?_⟩;by_cases e:i=k
    ·rw[e];exact up
    ·exact hno i (by omega)
   ·exact .inr ⟨j,rfl,zH7 M λz=>absurd z up,ej⟩
 ·rintro Γ' ⟨me,f,s5,s6,s7,s8,rfl,bf1,bf2,f0,hme⟩;rw[jp,aB]at hme;rcases hme with⟨rfl,hno⟩|⟨j,rfl,M,ej⟩
  ·exact q0 hno
  ·exact q1 j M
theorem zNS:Gx E (qU E.A) 0:=vkN ["count","corner","weights","whole","numbers","number","share"] 4 [0,0,3,65,2,0,2,4,0,1,0,0,0,3,1,0,3,5,6,0,0,0,5,0,0,4,6,5,20,4,0,3,4] rfl λds R h=>by
 obtain⟨m,cs,xs,rfl,m1,l1,l2,bx,q⟩:=h;refine⟨xs,rfl,l2,bx,by exact zb,by exact yj,?_⟩;rw[show((m:Nat):Int).toNat=m by exact rfl];refine zo.rng0 (λ_=>.int 0) zA (λk hk=>rfl) ⟨_,rfl,?_⟩;refine⟨λk Γ=>∃(zs:List Int)(s5 s6:Sl),Γ=[.sh (.int (m:Int)),.sh (cN cs),.sh (zP xs),.sh (.tup [.int (yK xs),L (yB xs)]),.ow (zs.map D.int),s5,s6]/\zs.length=m/\zs=((cs.zip (yB xs)).take k).foldl (λ(ns:List Int) (q:Nat×Int)=>if q.1<m then ns.set q.1 q.2 else ns) (aL m 0),⟨aL m 0,.no,.no,by rw[show((aI m).map λ_=>D.int 0)=(aL m (0:Int)).map D.int by rw[dm,l7,aM]];rfl,bX ..,rfl⟩,?_,?_⟩
 ·rintro k d Γ' hk ⟨zs,s5,s6,rfl,lz,ez⟩;obtain⟨c,x,hc,hx,rfl⟩:=zwq (u:=λx:Nat=>D.int ((x:Nat):Int)) (v:=D.int) hk
  have et:((cs.zip (yB xs)).take (k+1)).foldl (λ(ns:List Int) (q:Nat×Int)=>if q.1<m then ns.set q.1 q.2 else ns) (aL m 0)=if c<m then zs.set c x else zs:=by rw[Ym (show(cs.zip (yB xs))[k]? =some (c,x)by rw[List.getElem?_zip_eq_some];exact⟨hc,hx⟩),e7,<- ez];rfl
  refine w2 (λc1=>?_) λc1=>⟨zs,_,_,rfl,lz,by rw[et,if_neg (by have:=of_decide_eq_false c1;omega)]⟩
  have cm:c<m:=by have:=of_decide_eq_true c1;omega
  refine⟨_,c,rfl,?_,zs.set c x,.sh (.int ((c:Nat):Int)),.sh (.int x),?_,by rw[bS];exact lz,by rw[et,if_pos cm]⟩
  ·unfold xw;rw[if_pos (by exact zb),if_pos (by rw[aB];omega)];congr 1
  ·rw[lg];rfl
 ·rintro Γ' ⟨zs,s5,s6,rfl,lz,ez⟩;rw[eA,aB,aB,bO (by rw[cu];exact aJ _)]at ez;rw[ez];exact⟨_,rfl,k0,q⟩
end
end K98
namespace K98
open PySem L2 Sh Pu Vg
variable[Tbl]
theorem zG9{α:Type}(xs:List α)(k:Nat):zm xs none (some (k:Int))=xs.take k:=by unfold zm;rw[HT.sIx_none,HT.sIx_nat,d_,ia];exact List.take_eq_take_iff.mpr (by omega)
theorem QA(h:0<p.2):(0<zc p↔0<p.1)/\(zc p<0↔p.1<0)/\(zc p=0↔p.1=0):=by
 have e:=jC h;have q:=qm h
 have a:0<zc p->0<p.1:=λz=>by
  have:=fE z q;rw[e]at this
  exact_mod_cast this
 have b:zc p<0->p.1<0:=λz=>by
  have:=bP z q;rw[e,k_]at this
  exact_mod_cast this
 have c:zc p=0->p.1=0:=λz=>by
  rw[z,k_]at e
  exact_mod_cast e.symm
 grind
noncomputable def ZB(w:List (Int×Int))(count:Nat)(cs:List Nat)(q:Nat):Bool:=decide (count<=cs.getD q 0)&&decide ((w.getD q (0,1)).1≠0)
noncomputable def j9(w:List (Int×Int))(count:Nat)(cs:List Nat)(q:Nat):Bool:=decide ((w.getD q (0,1)).1<0)||(decide (count<=cs.getD q 0)&&decide ((w.getD q (0,1)).1≠0))
noncomputable def ZC(w:List (Int×Int))(q:Nat):Bool:=decide (0<(w.getD q (0,1)).1)
section
variable{rows:List (List Int)}{n count:Nat}{cs:List Nat}{us:List Int}
theorem QB(C:Cr rows n cs)(us)(hk:k<n):0<((zq rows cs us n).getD k (0,1)).2:=(C.wLen us).2 _ (yJ (by rw[(C.wLen us).1];exact hk))
theorem zFQ(C:Cr rows n cs)(hk:k<n):ZB (zq rows cs us n) count cs k=true↔vj rows n count us cs k:=by have s:=QA (QB C us hk);unfold ZB vj;rw[cx,decide_eq_true_iff,decide_eq_true_iff];show _↔_/\zc ((zq rows cs us n).getD k (0,1))≠0;exact⟨λ⟨a,b⟩=>⟨a,λz=>b (s.2.2.mp z)⟩,λ⟨a,b⟩=>⟨a,λz=>b (s.2.2.mpr z)⟩⟩
theorem zFP(C:Cr rows n cs)(hk:k<n):j9 (zq rows cs us n) count cs k=true↔x9 rows n count us cs k:=by have s:=QA (QB C us hk);unfold j9 x9;rw[Bool.or_eq_true_iff,cx,decide_eq_true_iff,decide_eq_true_iff,decide_eq_true_iff];show _↔zc ((zq rows cs us n).getD k (0,1))<0\/_/\zc ((zq rows cs us n).getD k (0,1))≠0;rw[s.2.1];exact or_congr Iff.rfl ⟨λ⟨a,b⟩=>⟨a,λz=>b (s.2.2.mp z)⟩,λ⟨a,b⟩=>⟨a,λz=>b (s.2.2.mpr z)⟩⟩
theorem zFO(C:Cr rows n cs)(hk:k<n):ZC (zq rows cs us n) k=true↔0<YC rows n cs us k:=by have s:=QA (QB C us hk);unfold ZC;rw[decide_eq_true_iff];exact s.1.symm
end
theorem zNA(lu:us.length=n):xn rows cs (us++[b]) n=xn rows cs us n:=by unfold xn;exact a7 λj hj=>by rw[qr lu (bj.mp hj)]
theorem zOU(lu:us.length=n):zq rows cs (us++[b]) n=zq rows cs us n:=by unfold zq;rw[zNA lu]
theorem zPV(M:vg rows n c x d r)(N:vg rows n c x d s):r=s:=by
 rcases i5 r s with h|h|h
 ·have a:=N.first r h M.up;have b:=M.all s N.lt N.up;grind
 ·exact h
 ·have a:=M.first s h N.up;have b:=N.all r M.lt M.up;grind
section
variable{room ax:List (List Int)}{n:Nat}
theorem zQS(h:i<room.length):(room++ax).getD i []=room.getD i []:=by rw[aD,du h,<- aD]
theorem gB(h:i<room.length)(z):VA (room++ax) n i z=VA room n i z/\BA (room++ax) n i=BA room n i:=by show vl n ((room++ax).getD i []) z=vl n (room.getD i []) z/\bo n ((room++ax).getD i [])=bo n (room.getD i []);rw[zQS h];exact⟨rfl,rfl⟩
theorem zFG(M:vg room n room.length x d r):vg (room++ax) n room.length x d r:=by
 have hr:=M.lt;have e:=λk (hk:k<room.length) z=>gB (ax:=ax) (n:=n) hk z;refine⟨hr,by rw[(e r hr d).1];exact M.up,λk hk z=>?_,λk hk z=>?_⟩
 ·have hk':k<room.length:=by omega
  rw[(e k hk' d).1]at z;rw[(e r hr x).1,(e r hr x).2,(e k hk' d).1,(e k hk' x).1,(e k hk' x).2,(e r hr d).1];exact M.first k hk z
 ·rw[(e k hk d).1]at z;rw[(e r hr x).1,(e r hr x).2,(e k hk d).1,(e k hk x).1,(e k hk x).2,(e r hr d).1];exact M.all k hk z
end
theorem zL0{p:Nat}(h:j<n):(yH (p:Int) n c).getD j 0=if(j:Int)=(p:Int) then c else 0:=by unfold yH;rw[aD,aV,bY h];rfl
theorem UM(h:k<n):(zy n).getD k []=yH (k:Int) n 1++[0]:=qB h
theorem zLl(n):(zy n).length=n:=by unfold zy;rw[aB,aM]
theorem UN(n1:1<=n)(n3:n<=2)(h:∀r∈room,r.length=n+1):jD (room++zy n) n room.length:=by
 refine⟨n1,n3,λr hr=>?_,by rw[aF,zLl],λk hk j hj=>?_⟩
 ·rcases be.mp hr with hr|hr
  ·exact h r hr
  ·obtain⟨k,_,e⟩:=aG.mp hr;rw[<- e,aF,qj];rfl
 ·have e0:(room++zy n).getD (room.length+k) []=yH (k:Int) n 1++[0]:=by
   rw[aD,cS (bM _ _),dG,<- aD,UM hk]
  rw[e0,qr (qj _ _ _) hj,zL0 hj];omega
theorem QC(h:kB rows n count cs r)(k:kB rows n count cs s):r=s:=by
 rcases i5 r s with z|z|z
 ·have:=k.2.2 r z;have:=h.2.1;grind
 ·exact z
 ·have:=h.2.2 s z;have:=k.2.1;grind
theorem zHP{cs:List Nat}{g:Nat->D->Bool}(h1:p<cs.length)(h2:p<ys.length):((cs.zip ys).map λq=>g q.1 q.2).getD p false=g (cs.getD p 0) (ys.getD p .non):=by grind
noncomputable def ud:D->Int×Int
 | .tup [x,y]=>(zw x,zw y)
 |_=>(0,1)
theorem zRN{pts:List (Int×Int)}(h:p<pts.length):(pts.map zn).getD p .non=zn (pts.getD p (0,1)):=by rw[aD,aV,aE h,aD,aE h];rfl
structure qV(rows:List (List Int))(n count:Nat):Prop where
 ok:jD rows n count
 bd:∀r∈rows,∀x∈r,Bd 200 x
 few:rows.length<=100
 n2:n<=2
theorem qV.co(h:qV rows n count)(C:Cr rows n cs):J0 rows cs n:=⟨C,h.bd,h.few,h.n2⟩
theorem zOo(h:jw room n)(n1:1<=n)(n2:n<=2):qV (room++zy n) n room.length:=by
 have few:=h.1;refine⟨UN n1 zA λr hr=>(h.2 r hr).1,λr hr x hx=>?_,by rw[aF,zLl];exact we,n2⟩;rcases be.mp hr with hr|hr
 ·exact(h.2 r hr).2 x hx
 ·obtain⟨k,_,rfl⟩:=aG.mp hr;rcases be.mp hx with hx|hx
  ·exact zHE (yw (by decide)) x hx
  ·rw[a6.mp hx];exact wK
def fFCe:FL:=λds R=>∃rows n count,ds=[Rm rows,.int ((count:Nat):Int)]/\qV rows n count/\R (cN (FC rows n count count))
def UO(m:Nat)(R:D->Prop):ZU->Prop
 | .emp ns=>ns.length=m->(∀x∈ns,Bd 4600 x)->R (.tup [.str "empty",.tup [.int 0,L ns]])
 | .mst f d ns pts=>0<f.2->Bd 4000 f.1->Bd 2800 f.2->Bd 3700 d->ns.length=m->(∀x∈ns,Bd 4600 x)->R (.tup [.str "most",zn f,.tup [.int d,L ns],zP pts])
 | .opn pts way=>R (.tup [.str "open",zP pts,L way])
def UP:FL:=λds R=>∃room n m cs us b R0,ds=[Rm (room++zy n),.int ((room.length:Nat):Int),cN cs,U (us++[b])]/\jw room n/\1<=n/\n<=2/\Cr (room++zy n) n cs/\us.length=n/\(∀x∈us,Bd 200 x)/\qC (room++zy n) n room.length us m cs R0/\UO room.length R R0
def UQ:FL:=λds R=>∃room n m us b R0,ds=[Rm room,U (us++[b])]/\jw room n/\1<=n/\n<=2/\us.length=n/\(∀x∈us,Bd 200 x)/\qD (room++zy n) n room.length us m (FC (room++zy n) n room.length room.length) R0/\UO room.length R R0
noncomputable abbrev qW(A:Nat->Addr):List Ct:=⟨0,"most",0,zR 63,UQ,0⟩::⟨0,"climbed",0,zR 64,UP,0⟩::⟨0,"first_corner",0,zR 66,fFCe,0⟩::qU A
section
variable{E:Ev xF xM xN}
theorem zEW:Gx E (qW E.A) 2:=vk 4 [0,0,2,52,1,0,0,0,0,1,1,3,0,0,0,0,10,2,1,0,2,0,0,4,67,0,2,0,0,3,0,0,5,63,2,1,1,3,2,4,0,0,2,0,0,1,0,0,1,5,0,2,65,2,5,3,0,2] rfl λds R h=>by
 obtain⟨rows,n,count,rfl,X,q⟩:=h;have RM:=X.ok;have n1:=RM.n1;have n2:=X.n2;have few:=X.few;have ll:=RM.len;have lr:(rows.map U).length=count+n:=by rw[aB];exact ll
 refine⟨_,_,rfl,rfl,by exact zb,by omega,by exact zb,by omega,?_⟩
 have e0:D.lst ((aI (((((rows.map U).length:Nat):Int)-((count:Nat):Int)).toNat)).map λ(k:Nat)=>D.int (((count:Nat):Int)+(k:Int)))=cN (FC rows n count 0):=by rw[lr,show((((count+n:Nat)):Int)-((count:Nat):Int)).toNat=n by omega];show _=cN ((aI n).map λk=>count+k);unfold cN;rw[aQ];refine congrArg D.lst (a7 λk _=>?_);show D.int (((count:Nat):Int)+((k:Nat):Int))=D.int (((count+k:Nat)):Int);rw[ir]
 rw[e0];refine⟨by exact zb,by omega,?_⟩;rw[show((count:Nat):Int).toNat=count by exact rfl];refine⟨λk Γ=>∃cs s3 s4 s5,Γ=[.sh (Rm rows),.sh (.int ((count:Nat):Int)),.sh (cN cs),s3,s4,s5]/\cs=FC rows n count k,⟨_,.no,.no,.no,rfl,rfl⟩,?_,?_⟩
 ·rintro k d Γ' hk ⟨cs,s3,s4,s5,rfl,ec⟩;obtain⟨kl,rfl⟩:=jm hk;have C:Cr rows n cs:=by rw[ec];exact(JP RM k xQ)
  have lc:=C.len;refine⟨cs.map λ(x:Nat)=>(x:Int),by rw[aQ];rfl,by rw[aB];exact zz,λM hM hmax=>w2 (λc1=>?_) λc1=>?_⟩
  ·have c1:=of_decide_eq_true c1
   have z:=zK9 (rows:=rows) (n:=n) (count:=count) (i:=k) (λp hp=>by rw[<- ec];have:((cs.getD p 0:Nat):Int)<=M:=hmax _ (aG.mpr ⟨_,yJ zz,rfl⟩);omega) (count-k)
   rw[show k+(count-k)=count by omega,<- ec]at z;rw[z]at q;exact q
  have hrk:=RM.row _ (yJ (d:=[]) (show k<rows.length by omega));refine⟨_,yt [] (by omega),rows,cs,n,rows.getD k [],rfl,X.co C,hrk,λx hx=>X.bd _ (yJ (show k<rows.length by omega)) x (bN hx),λPT=>?_⟩;have lw:=PT.1;refine Wt (λx:Nat=>D.int ((x:Nat):Int)) uc Jz (λc y=>decide (count<=c)&&decide ((ud y).1≠0)) zg (λc y hcy=>?_) ?_
  ·obtain⟨x,_,rfl⟩:=aG.mp (bC hcy).2;refine w2 (λc1=>⟨_,rfl,?_⟩) λc1=>?_
   ·have z:decide (count<=c)=true:=decide_eq_true (by have:=of_decide_eq_true c1;omega);show D.bool (!decide (x.1=0))=D.bool (_&&decide (x.1≠0));rw[z,decide_not];rfl
   ·have z:decide (count<=c)=false:=decide_eq_false (by have:=of_decide_eq_false c1;omega);rw[z];rfl
  have key:∀p,p<n->((cs.zip ((zq rows cs (rows.getD k []) n).map zn)).map λq=>(λc y=>decide (count<=c)&&decide ((ud y).1≠0)) q.1 q.2).getD p false=ZB (zq rows cs (rows.getD k []) n) count cs p:=λp hp=>by rw[zHP (g:=λc y=>decide (count<=c)&&decide ((ud y).1≠0)) zz (by rw[aB];exact zz),zRN zz];rfl
  refine⟨cs,_,rfl,by rw[aB,cu,aB,lw];omega,by exact zg,λhz=>wF rfl ⟨cs,_,_,_,rfl,?_⟩,λp hp hf hl=>wT rfl ⟨cs,p,k,rfl,hp,by exact zg,cs.set p k,_,_,_,rfl,?_⟩⟩
  ·rw[ec];refine(KW k λp hp fp=>?_).symm;rw[<- ec]at fp;have:=hz p zz;rw[key p hp,(zFQ C hp).mpr fp]at this;cases this
  ·rw[ec];refine(zLA k (by rw[<- ec];exact C) ?_).symm;rw[<- ec];have pn:p<n:=by exact j2
   rw[key p pn]at hf;exact⟨pn,(zFQ C pn).mp hf,λj hj fj=>hl j zz (by rw[key j hj];exact(zFQ C hj).mpr fj)⟩
 ·rintro Γ' ⟨cs,s3,s4,s5,rfl,ec⟩;rw[ul]at ec;rw[ec];exact q
theorem zLj:Gx E (qW E.A) 1:=vk 5 [0,0,0,4,69,0,2,0,0,5,68,0,2,3,0,0,6,64,2,1,1,3,2,5,0,0,1,0,0,2,0,0,1,0,0,0,1,6,0,77,3,4,61,1,2,5,4,0,0,7,65,0,2,6,0,0,0,5,6,0,0,8,62,2,0,1,4,7,0,0,0,1,8,0,4,7,0,2,66,2,6,8] rfl λds R h=>by
 obtain⟨room,n,m,cs,us,b,R0,rfl,RO,n1,n2,C,lu,bu,hR,hT⟩:=h;have X:=zOo RO n1 n2;have ll:=X.ok.len;have few:=RO.1
 have bu2:∀x∈(us++[b]).take n,Bd 200 x:=λx hx=>by rw[cY yx,bO wc]at hx;exact bu x hx
 have lu2:(us++[b]).length=n+1:=by rw[aF,lu];rfl
 have cut:zm ((room++zy n).map U) none (some ((room.length:Nat):Int))=room.map U:=by rw[zG9,<- dk,cY (aJ _),bO (aJ _)]
 refine⟨λm Γ=>∃cs s4 s5 s6 s7 s8,Γ=[.sh (Rm (room++zy n)),.sh (.int ((room.length:Nat):Int)),.sh (cN cs),.sh (U (us++[b])),s4,s5,s6,s7,s8]/\Cr (room++zy n) n cs/\qC (room++zy n) n room.length us m cs R0,⟨m,cs,.no,.no,.no,.no,.no,rfl,C,hR⟩,?_⟩;clear hR C cs m;rintro m Γ' ⟨cs,s4,s5,s6,s7,s8,rfl,C,hR⟩;have lc:=C.len;refine wT rfl ⟨_,cs,n,rfl,X.co C,λPT=>⟨_,cs,n,us++[b],rfl,X.co C,lu2,bu2,λPW=>?_⟩⟩;rw[zOU lu]at PW|-
 have lw:=PW.1;refine Wt (λx:Nat=>D.int ((x:Nat):Int)) uc Jz (λc y=>decide ((ud y).1<0)||(decide (room.length<=c)&&decide ((ud y).1≠0))) zg (λc y hcy=>?_) ?_
 ·obtain⟨x,_,rfl⟩:=aG.mp (bC hcy).2;refine⟨_,rfl,w2 (λc0=>?_) λc0=>w2 (λc1=>⟨_,rfl,?_⟩) λc1=>?_⟩
  ·show D.bool true=D.bool (decide (x.1<0)||_);rw[show decide (x.1<0)=true from c0];rfl
  ·have z:decide (room.length<=c)=true:=decide_eq_true (by have:=of_decide_eq_true c1;omega);show D.bool (!decide (x.1=0))=D.bool (decide (x.1<0)||(_&&decide (x.1≠0)));rw[show decide (x.1<0)=false from c0,z,decide_not];rfl
  ·have z:decide (room.length<=c)=false:=decide_eq_false (by have:=of_decide_eq_false c1;omega);show D.bool false=D.bool (decide (x.1<0)||(_&&decide (x.1≠0)));rw[show decide (x.1<0)=false from c0,z];rfl
 have key:∀p,p<n->((cs.zip ((zq (room++zy n) cs us n).map zn)).map λq=>(λc y=>decide ((ud y).1<0)||(decide (room.length<=c)&&decide ((ud y).1≠0))) q.1 q.2).getD p false=j9 (zq (room++zy n) cs us n) room.length cs p:=λp hp=>by rw[zHP (g:=λc y=>decide ((ud y).1<0)||(decide (room.length<=c)&&decide ((ud y).1≠0))) zz (by rw[aB];exact zz),zRN zz];rfl
 refine⟨cs,_,rfl,by rw[aB,cu,aB,lw];omega,by exact zg,λhz=>wT rfl ?_,λp hp hf hl=>wF rfl ?_⟩
 ·have no:∀k,k<n->¬x9 (room++zy n) n room.length us cs k:=λk hk fk=>by
   have:=hz k zz;rw[key k hk,(zFP C hk).mpr fk]at this;cases this
  refine⟨us,b,n,_,rfl,lu,λx hx=>(bu x hx).mono,PT,λa0 b1 b2=>⟨room.length,cs,_,rfl,by exact zA,by exact zg,by exact zg,PW.2.2,k0,?_⟩⟩;cases hR with
  |mst h=>
   obtain⟨o1,o2⟩:=zKe PW.2.2 zg;exact hT (qc (cM a0)) (jX b1) (jY b2) o1 (J7 o2).1 (J7 o2).2
  |opn h _=>exact absurd h.fit (no _ h.lt)
  |go h _ _=>exact absurd h.fit (no _ h.lt)
 ·have pn:p<n:=by exact j2
  rw[key p pn]at hf;have LP:uU (x9 (room++zy n) n room.length us cs) cs n p:=⟨pn,(zFP C pn).mp hf,λj hj fj=>hl j zz (by rw[key j hj];exact(zFP C hj).mpr fj)⟩
  have wp:=QB C us pn;have sg:0<YC (room++zy n) n cs us p↔0<((zq (room++zy n) cs us n).getD p (0,1)).1:=(QA wp).1;refine⟨_,yt (0,1) zz,_,rfl,?_⟩;have way:∀nu:Int,nu=vh (YC (room++zy n) n cs us p)->yS (xD (room++zy n) cs p nu n) n=vF (room++zy n) cs us p n:=λnu e=>by unfold vF;rw[e]
  refine⟨λc=>⟨_,cs,n,p,_,rfl,X.co C,pn,.inl rfl,?a⟩,λc=>⟨_,cs,n,p,_,rfl,X.co C,pn,.inr rfl,?b⟩⟩
  case' a=>rw[way 1 (by unfold vh;rw[if_pos (sg.mpr (of_decide_eq_true c))])]
  case' b=>rw[way (-1) (by unfold vh;rw[if_neg λz=>of_decide_eq_false c (sg.mp z)])]
  all_goals
   intro PD;refine⟨room,n,xo (room++zy n) cs n,vF (room++zy n) cs us p n,by rw[cut],RO,n2,PT,PD,λno=>wT rfl ⟨k0,?_⟩,λr M=>wF rfl ⟨cs,p,r,rfl,hp,by exact zg,?_⟩⟩
   ·cases hR with
    |mst h=>exact absurd LP.fit (h p pn)
    |opn h _=>
     have e:=h.one C LP;subst e;exact hT
    |go h M _=>
     rw[h.one C LP]at M;exact absurd (by have:=M.up;rw[(gB M.lt _).1]at this;exact this) (no _ M.lt)
   ·cases hR with
    |mst h=>exact absurd LP.fit (h p pn)
    |opn h no=>
     rw[h.one C LP]at no;exact absurd (zFG M).up (no _ M.lt)
    |go h M' z=>
     rw[h.one C LP]at M' z;rw[<- zPV (zFG M) M']at z;exact⟨_,bW _,cs.set p r,_,_,_,_,_,rfl,(KP C (by omega) pn (C.wayIs pn) M.lt (zFG M).up).1,z⟩
theorem zS2:Gx E (qW E.A) 0:=vk 7 [0,0,2,0,0,0,0,3,0,71,0,1,0,0,4,61,3,2,0,0,0,5,64,0,70,3,4,0,0,0,1,5,0,60,3,2,4,1,0,0,6,69,3,4,0,3,5,0,0,7,65,4,0,0,6,0,0,0,0,0,0,1,7,0,1,8,0,0,6,83,0,0,0,0,0,0,62,2,4,5,8,83,0,4,67,4,7,5] rfl λds R h=>by
 obtain⟨room,n,m,us,b,R0,rfl,RO,n1,n2,lu,bu,hR,hT⟩:=h;have X:=zOo RO n1 n2;have ll:=X.ok.len;have few:=RO.1;have lr:((us++[b]).map D.int).length=n+1:=by rw[aB,aF,lu];rfl
 have lT:(room.map U).length=room.length:=aB ..;refine⟨n,by rw[lr,show(((n+1:Nat):Int)-1)=(n:Int)by exact gH],by exact yO,by rw[lT,aB,zLl];exact we,?_⟩;rw[<- aS,lT];refine⟨_,n,room.length,rfl,X,?_⟩;have C:=(JP X.ok room.length (aJ _))
 generalize FC (room++zy n) n room.length room.length=cs at C hR;refine⟨λm Γ=>∃cs s5 s6 s7 s8,Γ=[.sh (Rm room),.sh (U (us++[b])),.sh (.int ((room.length:Nat):Int)),.sh (Rm (room++zy n)),.sh (cN cs),s5,s6,s7,s8]/\Cr (room++zy n) n cs/\qD (room++zy n) n room.length us m cs R0,⟨m,cs,.no,.no,.no,.no,rfl,C,hR⟩,?_⟩;clear hR C cs m;rintro m Γ' ⟨cs,s5,s6,s7,s8,rfl,C,hR⟩;have lc:=C.len;refine wT rfl ⟨_,cs,n,rfl,X.co C,λPT=>?_⟩;refine⟨room,n,_,rfl,RO,PT,λhh=>wT rfl ?_,λr hr hb hl=>wF rfl ?_⟩
 ·have Fx:Fe (room++zy n) n room.length cs:=λi hi=>by
   rw[(gB hi _).1,(gB (ax:=zy n) (n:=n) hi (λ_=>0)).2];exact hh i hi
  have nb:∀r,¬kB (room++zy n) n room.length cs r:=λr h=>by have:=Fx r h.1;have:=h.2.1;grind
  cases hR with
  |done h z=>exact⟨room,n,_,cs,us,b,R0,rfl,RO,n1,n2,C,lu,bu,z,hT⟩
  |emp h _=>exact absurd h (nb _)
  |go h _ _=>exact absurd h (nb _)
 have FB:kB (room++zy n) n room.length cs r:=⟨hr,by rw[(gB hr _).1,(gB (ax:=zy n) (n:=n) hr (λ_=>0)).2];exact hb,λi hi=>by
  have hi':i<room.length:=by omega
  rw[(gB hi' _).1,(gB (ax:=zy n) (n:=n) hi' (λ_=>0)).2];exact hl i hi⟩
 have nF:¬Fe (room++zy n) n room.length cs:=λF=>by have:=F r FB.1;have:=FB.2.1;grind
 have hrr:=X.ok.row _ (yJ (d:=[]) (show r<(room++zy n).length by omega));refine⟨_,yt [] (by omega),_,cs,n,_,rfl,X.co C,hrr,λx hx=>X.bd _ (yJ (show r<(room++zy n).length by omega)) x (bN hx),λPW=>?_⟩;have lw:=PW.1;refine xC zn ud (λ_=>rfl) (λp=>.bool (decide (0<p.1))) zg (λp _=>⟨_,rfl,rfl⟩) ?_
 have key:∀p,p<n->((zq (room++zy n) cs ((room++zy n).getD r []) n).map λp=>decide (0<p.1)).getD p false=ZC (zq (room++zy n) cs ((room++zy n).getD r []) n) p:=λp hp=>by rw[vE (d:=(0,1)) zz];rfl
 refine⟨cs,(zq (room++zy n) cs ((room++zy n).getD r []) n).map λp=>decide (0<p.1),by rw[aQ (g:=D.bool)];rfl,by rw[aB];omega,by exact zg,λhz=>wT rfl ?_,λp hp hf hl2=>wF rfl ?_⟩
 ·have hpz:∀x∈(zq (room++zy n) cs ((room++zy n).getD r []) n).map (λp=>zh (-p.1) p.2)++[zh 1 1],0<x.2/\Bd 900 x.1/\Bd 900 x.2:=λx hx=>by
   rcases be.mp hx with hx|hx
   ·obtain⟨y,hy,rfl⟩:=aG.mp hx;obtain⟨y0,y1,y2⟩:=PW.2.2 y hy;exact⟨qc (cM y0),jX y1.neg,jY y2⟩
   ·rw[a6.mp hx];exact⟨qc (t:=1) (b:=1) (by decide),jX (t:=1) (b:=1) (yw (by decide)),jY (t:=1) (b:=1) (yw (by decide))⟩
  refine xC zn ud (λ_=>rfl) (λp=>zn (zh (-p.1) p.2)) zg (λp hp=>⟨_,rfl,_,rfl,_,_,rfl,cM (PW.2.2 p hp).1,(PW.2.2 p hp).2.2.mono,rfl⟩) ?_;have e1:cN (cs++[r])=.lst ((cs.map λx=>D.int ((x:Nat):Int))++[.int (r:Int)]):=by unfold cN;rw[aS];rfl
  have e2:zP ((zq (room++zy n) cs ((room++zy n).getD r []) n).map (λp=>zh (-p.1) p.2)++[zh 1 1])=.lst ((zq (room++zy n) cs ((room++zy n).getD r []) n).map (λp=>zn (zh (-p.1) p.2))++[zn (zh 1 1)]):=by unfold zP;rw[aS,aQ];rfl
  refine⟨k0,by rw[aB];show _+1<=1000;exact vV,_,_,rfl,by decide,yw (by decide),k0,by rw[aB];show _+1<=1000;exact vV,?_⟩;refine⟨room.length,cs++[r],_,by rw[e1,e2];rfl,by exact zA,by rw[aF];show _+1<=100;exact vV,by rw[aF,aB];show _+1<=4;exact vV,hpz,_,rfl,k0,k0,?_⟩
  ·have no:∀k,k<n->¬0<YC (room++zy n) n cs ((room++zy n).getD r []) k:=λk hk fk=>by
    have:=hz k zz;rw[key k hk,(zFO C hk).mpr fk]at this;cases this
   cases hR with
   |done h _=>exact absurd h nF
   |emp h _=>
    have e:=QC h FB;subst e;obtain⟨o1,o2⟩:=zKe hpz (by rw[aF,aB];show _+1<=4;exact vV);exact hT (J7 o2).1 (J7 o2).2
   |go h l _=>
    rw[QC h FB]at l;exact absurd l.fit (no _ l.lt)
 ·have pn:p<n:=by exact j2
  rw[key p pn]at hf;have LP:uU (λk=>0<YC (room++zy n) n cs ((room++zy n).getD r []) k) cs n p:=⟨pn,(zFO C pn).mp hf,λj hj fj=>hl2 j zz (by rw[key j hj];exact(zFO C hj).mpr fj)⟩
  cases hR with
  |done h _=>exact absurd h nF
  |emp h no=>
   rw[QC h FB]at no;exact absurd LP.fit (no _ pn)
  |go h l z=>
   rw[QC h FB]at l z;rw[l.one C LP]at z;refine⟨cs,p,r,rfl,hp,by exact zg,_,bW _,cs.set p r,_,_,_,_,rfl,C.exch pn (by omega) (λy=>?_),z⟩;have:=LP.fit;have y:YC (room++zy n) n cs ((room++zy n).getD r []) p=0:=y;rw[y]at this;exact absurd this d6
end
end K98
namespace K98
open PySem L2 Sh Pu Vg
variable[Tbl]
def UR:FL:=λds R=>∃room n us b,ds=[Rm room,U (us++[b])]/\jw room n/\1<=n/\n<=2/\us.length=n/\(∀x∈us,Bd 200 x)/\Bd 300 b/\R .non/\∀d ns,Bd 3700 d->ns.length=room.length->(∀x∈ns,Bd 4600 x)->R (.tup [.int d,L ns])
noncomputable abbrev US(A:Nat->Addr):List Ct:=⟨0,"shares_for",0,zR 76,UR,0⟩::qW A
section
variable{E:Ev xF xM xN}
theorem zGV:Gx E (US E.A) 0:=vk 1 [0,0,2,60,0,1,0,0,0,0,0,2,0,0,2,0,0,0,0,0,2,81,84,0,1,0,2,0,0,0,2] rfl λds R h=>by
 obtain⟨room,n,us,b,rfl,RO,n1,n2,lu,bu,bb,q0,q1⟩:=h;obtain⟨m,R0,hR⟩:=zMn (us:=us) (zOo RO n1 n2).ok;refine⟨room,n,m,us,b,R0,rfl,RO,n1,n2,lu,bu,hR,?_⟩;cases R0 with
 |emp ns=>exactλl1 b1=>⟨_,rfl,wT rfl ⟨_,rfl,q1 _ ns wK l1 b1⟩⟩
 |opn pts way=>exact⟨_,rfl,wF rfl ⟨_,rfl,wT rfl (wT rfl q0)⟩⟩
 |mst f d ns pts=>
  intro f0 b1 b2 bd l1 bz;refine⟨_,rfl,wF rfl ⟨_,rfl,wF rfl ⟨_,Wr us b,b,1,rfl,by decide,yw (by decide),_,rfl,(b,1),f,by show[zn (zh b 1),_]=_;rw[J9],bb.mono,yw (by decide),b1.mono,b2.mono,w2 (λ_=>q0) λ_=>⟨_,rfl,q1 d ns bd l1 bz⟩⟩⟩⟩
end
end K98
namespace K98
open PySem L2 Sh Pu Vg
variable[Tbl]
theorem zR5{a b:Int}(h:0<b):((a:Rat)/(b:Rat)).num=a.fdiv (c8 a b:Int)/\((((a:Rat)/(b:Rat)).den:Nat):Int)=b.fdiv (c8 a b:Int):=by
 obtain⟨n,rfl⟩:∃n:Nat,b=(n:Int):=⟨b.toNat,by omega⟩
 have nz:n≠0:=by omega
 have e:(a:Rat)/(((n:Nat):Int):Rat)=mkRat a n:=by rw[lM];rfl
 have g0:(0:Int)<=(c8 a (n:Int):Int):=fJ _;rw[e];unfold mkRat;rw[dif_neg nz,Rat.normalize_eq,fI _ g0,fI _ g0];exact⟨rfl,rfl⟩
theorem zGI(j):∀{r:List Int}{ls:List (List Int)},r.length=ls.length->((zH r ls j:Int):Rat)=zF r.length λi=>(r.getD i 0:Rat)*((ls.getD i []).getD j 0:Rat)
 |[],[],_=>by show((0:Int):Rat)=0;rfl
 |[],_::_,h=>nomatch h
 |_::_,[],h=>nomatch h
 |x::xs,y::ys,h=>by
  show((x*y.getD j 0+zH xs ys j:Int):Rat)=zF (xs.length+1) λi=>((x::xs).getD i 0:Rat)*(((y::ys).getD i []).getD j 0:Rat)
  rw[Y5,eK,bE,zGI j (Nat.succ.inj h)];rfl
theorem zEN(f:Nat->Int)(h:j<n):((aI n).map f).getD j 0=f j:=by rw[aD,aV,bY h];rfl
theorem QD(hl:r.length=ls.length)(q):yI ((aI n).map (zH r ls)) q=zF r.length λi=>(r.getD i 0:Rat)*zF n λj=>((ls.getD i []).getD j 0:Rat)*q j:=by
 unfold yI;rw[aB,aM];rw[xX (g:=λj=>zF r.length λi=>(r.getD i 0:Rat)*(((ls.getD i []).getD j 0:Rat)*q j)) λj hj=>?_]
 ·rw[KL];exact xX λi hi=>qA _ _ _
 ·rw[zEN _ hj,zGI j hl];rw[show zF r.length (λi=>(r.getD i 0:Rat)*(((ls.getD i []).getD j 0:Rat)*q j))=zF r.length (λi=>q j*((r.getD i 0:Rat)*((ls.getD i []).getD j 0:Rat)))from xX λi _=>by grind,qA];grind
theorem zHW(f)(n):∀p,zF (n+p) f=zF n f+zF p (λj=>f (n+j))
 |0=>by show zF n f=zF n f+0;grind
 |p+1=>by
  show zF (n+p) f+f (n+p)=zF n f+(zF p (λj=>f (n+j))+f (n+p))
  rw[zHW f n p];grind
noncomputable abbrev qp(x:Rat):Int×Int:=(x.num,(x.den:Int))
noncomputable abbrev uv(ns:List Int)(pts:List (Int×Int))(a d:Int):Int×Int:=zh ((z9 ns pts).1+a*(z9 ns pts).2) ((z9 ns pts).2*d)
theorem gC(l:ns.length=pts.length)(hp:∀p∈pts,0<p.2)(d0:0<d):uv ns pts a d=qp ((yI ns (zi pts)+(a:Rat))/(d:Rat)):=by
 obtain⟨b0,e⟩:=KT l hp;have bp:=dY b0 d0;have dn:(d:Rat)≠0:=by exact_mod_cast (show d≠0 by exact vU)
 have q:((((z9 ns pts).1+a*(z9 ns pts).2:Int)):Rat)/((((z9 ns pts).2*d:Int)):Rat)=(yI ns (zi pts)+(a:Rat))/(d:Rat):=J5 vU (by rw[eK,bE,bE,e,cZ];have i:=dl _ dn;grind)
 have g:cm ((z9 ns pts).1+a*(z9 ns pts).2) ((z9 ns pts).2*d)=(c8 ((z9 ns pts).1+a*(z9 ns pts).2) ((z9 ns pts).2*d):Int):=by unfold cm;rw[if_neg (by omega)]
 unfold uv zh ze zJ;rw[<- q,g];unfold qp;rw[(zR5 bp).1,(zR5 bp).2]
theorem zNt(x):zc (qp x)=x:=by have h:=Rat.mkRat_self x;rw[lM]at h;exact h
theorem QE(x):0<(qp x).2:=by
 have:=x.den_nz;show 0<(x.den:Int)
 omega
noncomputable def y9(T:List (List Int))(pts:List (Int×Int)):List (Int×Int):=T.map λr=>uv r pts 0 1
noncomputable def yF(n:Nat)(m:MD)(pts us:List (Int×Int)):List (Int×Int):=(aI n).map λi=>uv (m.nexts.getD i []++m.push.getD i []) (pts++us) (m.add.getD i 0) m.div
theorem UT{α:Type}{a b:List α}{i:Nat}{d:α}(h:i<a.length):(a++b).getD i d=a.getD i d:=by rw[aD,du h,aD]
theorem ja{α:Type}{a b:List α}{i:Nat}{d:α}(h:a.length<=i):(a++b).getD i d=b.getD (i-a.length) d:=by rw[aD,cS h,aD]
theorem zII(l:A.length=xs.length):yI (A++B) (zi (xs++ys))=yI A (zi xs)+yI B (zi ys):=by
 unfold yI zi;rw[aF,zHW];congr 1
 ·refine xX λj hj=>?_;rw[UT hj,UT xh]
 ·refine xX λj hj=>?_;rw[ja (bM _ _),ja (by omega),l,dG]
section
variable{n:Nat}{T B:List (List Int)}{pts us:List (Int×Int)}(h:TB n T B)(lp:pts.length=n)(hp:∀p∈pts,0<p.2)
include h lp hp
theorem UU(hj:j<n):zi (y9 T pts) j=yI (T.getD j []) (zi pts):=by
 have lj:j<T.length:=by rw[h.tl];exact hj
 unfold y9;rw[show zi (T.map λr=>uv r pts 0 1) j=zc (uv (T.getD j []) pts 0 1)by unfold zi;rw[vE (d:=[]) lj],gC (by rw[h.tr _ (yJ lj),lp]) hp (by decide),zNt];show(_+(0:Rat))/(1:Rat)=_;grind
theorem zNl(lr:r.length=n):yI ((aI n).map (zH r B)) (zi (y9 T pts))=yI r (zi pts):=by
 rw[QD (by rw[lr,h.bl]),lr];unfold yI;rw[lr];refine xX λi hi=>?_;congr 1;have li:i<B.length:=by rw[h.bl];exact hi
 have lb:=h.br _ (yJ (d:=[]) li)
 rw[xX (g:=λj=>((B.getD i []).getD j 0:Rat)*zF n λk=>((T.getD j []).getD k 0:Rat)*zi pts k) λj hj=>by rw[UU h lp hp hj];unfold yI;rw[h.tr _ (yJ (by rw[h.tl];exact hj))]]
 have e:=QD (n:=n) (r:=B.getD i []) (ls:=T) (by rw[lb,h.tl]) (zi pts);rw[lb]at e;rw[<- e]
 have u:(aI n).map (zH (B.getD i []) T)=yH (i:Int) n 1:=by have z:=congrArg (λt=>t.getD i []) h.bt;unfold yR ve at z;rw[vE (d:=[]) li,qB hi]at z;exact z
 rw[u];unfold yI yH
 rw[aB,aM,xX (g:=λk=>zi pts k*(if k=i then 1 else 0)) λk hk=>by
  rw[qB hk];by_cases z:k=i
  ·rw[if_pos z,if_pos (by omega)];show(1:Rat)*_=_;grind
  ·rw[if_neg z,if_neg (by omega)];show(0:Rat)*_=_;grind,KO hi]
 grind
theorem zOZ(lr:r.length=n+1)(hq:∀p∈y9 T pts,0<p.2):j7 ((zY n B r).take n) ((zY n B r).getD n 0) (y9 T pts)=j7 (r.take n) (r.getD n 0) pts:=by
 have lt:(zY n B r).length=n+1:=by rw[KA (by omega)];exact lr
 have e1:vl n (zY n B r) (zi (y9 T pts))=vl n r (zi pts):=by rw[<- J1 (r:=r),<- J1 (r:=zY n B r),zFk,<- JO (by unfold fB;rw[aB,aM]),<- JO (by rw[aZ];omega)];exact zNl h lp hp (by rw[aZ];omega)
 have e2:bo n (zY n B r)=bo n r:=by unfold bo zY;rw[ja (by rw[aB,aM];exact aJ _),aB,aM,dE];rw[aD,List.getElem?_drop,aD];rfl
 have a:=zFM lt (by unfold y9;rw[aB];exact h.tl) hq;have b:=zFM lr lp hp;rw[e1,e2,<- b]at a;cases c:j7 (r.take n) (r.getD n 0) pts with
 |true=>exact a.mpr c
 |false=>exact Bool.eq_false_iff.mpr λz=>by rw[a.mp z]at c;cases c
theorem zQk(o:yf m n w)(lu:us.length=w)(hu:∀p∈us,0<p.2):y9 T (yF n m pts us)=yF n (xf n w T B m) (y9 T pts) us:=by
 have d1:0<m.div:=by have:=o.div;exact‹_›
 have dn:(m.div:Rat)≠0:=by exact_mod_cast (show m.div≠0 by exact vU)
 have hb:∀p∈yF n m pts us,0<p.2:=λp hp'=>by obtain⟨i,hi,rfl⟩:=aG.mp hp';have hi:=bj.mp hi;rw[gC (by rw[aF,aF,o.nexts.2 _ (yJ (by rw[o.nexts.1];exact hi)),o.push.2 _ (yJ (by rw[o.push.1];exact hi)),lp,lu]) (λp hp2=>(be.mp hp2).elim (hp p) (hu p)) d1];exact QE _
 have ht:∀p∈y9 T pts,0<p.2:=λp hp'=>by obtain⟨r,hr,rfl⟩:=aG.mp hp';rw[gC (by rw[h.tr r hr,lp]) hp (by decide)];exact QE _
 have lb:(yF n m pts us).length=n:=by unfold yF;rw[aB,aM]
 have lt:(y9 T pts).length=n:=by unfold y9;rw[aB];exact h.tl
 have eT:y9 T (yF n m pts us)=(aI n).map λi=>uv (T.getD i []) (yF n m pts us) 0 1:=by
  unfold y9;refine eZ λi=>?_;rw[aV,aV];by_cases c:i<n
  ·rw[bY c,aE (by rw[h.tl];exact c)];show some _=some (uv (T.getD i []) _ _ _);rw[aD,aE (by rw[h.tl];exact c)];rfl
  ·rw[fh (by rw[h.tl];omega),fh (by rw[aM];omega)];rfl
 rw[eT];refine a7 λi hi=>?_;have hi:=bj.mp hi;have li:i<T.length:=by rw[h.tl];exact hi
 have lr:=h.tr _ (yJ (d:=[]) li)
 have nx:((xf n w T B m).nexts.getD i [])=(aI n).map (zH ((aI n).map (zH (T.getD i []) m.nexts)) B):=by show(yR (yR T m.nexts n) B n).getD i []=_;unfold yR;rw[vE (d:=[]) (by rw[aB];exact li),vE (d:=[]) li]
 have ps:((xf n w T B m).push.getD i [])=(aI w).map (zH (T.getD i []) m.push):=by show(yR T m.push w).getD i []=_;unfold yR;rw[vE (d:=[]) li]
 have ad:((xf n w T B m).add.getD i 0)=zD (T.getD i []) m.add:=by show(T.map λq=>zD q m.add).getD i 0=_;rw[vE (d:=[]) li]
 show _=uv (_++_) _ _ m.div;rw[nx,ps,ad,gC (by rw[lr,lb]) hb (by decide),gC (by rw[aF,aF,aB,aB,aM,aM,lt,lu]) (λp hp2=>(be.mp hp2).elim (ht p) (hu p)) d1];congr 1;rw[zII (by rw[aB,aM,lt]),zNl h lp hp (by rw[aB,aM]),QD (by rw[lr,o.nexts.1]),QD (by rw[lr,o.push.1]),KM (by rw[lr,o.add]),lr];show(_+(0:Rat))/(1:Rat)=(_+_+_)/(m.div:Rat)
 have e:yI (T.getD i []) (zi (yF n m pts us))*(m.div:Rat)=(zF n λj=>((T.getD i []).getD j 0:Rat)*zF n λk=>((m.nexts.getD j []).getD k 0:Rat)*zi pts k)+(zF n λj=>((T.getD i []).getD j 0:Rat)*zF w λk=>((m.push.getD j []).getD k 0:Rat)*zi us k)+zF n λj=>((T.getD i []).getD j 0:Rat)*(m.add.getD j 0:Rat):=by
  unfold yI;rw[lr,<- Y4,<- Y4,show zF n (λj=>((T.getD i []).getD j 0:Rat)*zi (yF n m pts us) j)*(m.div:Rat)=(m.div:Rat)*zF n (λj=>((T.getD i []).getD j 0:Rat)*zi (yF n m pts us) j)by grind,<- qA];refine xX λj hj=>?_;have ln:=o.nexts.2 _ (yJ (d:=[]) (show j<m.nexts.length by rw[o.nexts.1];exact hj));have lw:=o.push.2 _ (yJ (d:=[]) (show j<m.push.length by rw[o.push.1];exact hj))
  have b:zi (yF n m pts us) j=(yI (m.nexts.getD j []) (zi pts)+yI (m.push.getD j []) (zi us)+(m.add.getD j 0:Rat))/(m.div:Rat):=by unfold yF;rw[show∀f:Nat->Int×Int,zi ((aI n).map f) j=zc (f j)fromλf=>by unfold zi;rw[qB hj],gC (by rw[aF,aF,ln,lw,lp,lu]) (λp hp2=>(be.mp hp2).elim (hp p) (hu p)) d1,zNt,zII (by rw[ln,lp])]
  rw[b,cZ];unfold yI;rw[ln,lw];have i2:=dl _ dn;grind
 rw[cZ,cZ,<- e];have i2:=eL _ dn;grind
end
theorem zIW{α:Type}{l:List α}{f:α->D}{k:Nat}(z:α)(h:l.length=k+1):yc (l.map f) (-1)=some (f (l.getD k z)):=by rw[kK];unfold yc xw;rw[if_neg (by decide),if_pos (by omega)];show e6 f l[((-1:Int)+(l.length:Int)).toNat]? =_;rw[show((-1:Int)+(l.length:Int)).toNat=k by omega,aE yx,aD,aE yx];rfl
noncomputable abbrev xg(w:List Int):List (Int×Int):=w.map λv=>(v,1)
abbrev v5:=Nat×List Int
noncomputable abbrev wu(s:v5):D:=.tup [.int ((s.1:Nat):Int),zn (0,1),zP (xg s.2)]
noncomputable def jx(n:Nat)(rm:List (List Int))(pts:List (Int×Int)):Bool:=rm.all λr=>j7 (r.take n) (r.getD n 0) pts
def uw(bs:List (Int×Int))(w:List Int):Prop:=w.length=bs.length/\∀q∈w.zip bs,q.2.1<=q.1/\q.1<=q.2.2
structure gD(n:Nat)(bs:List (Int×Int))(ms:List MD):Prop where
 n2:n<=2
 b2:bs.length<=2
 m40:ms.length<=40
 mo:∀m∈ms,yf m n bs.length/\vx 290 m
 cl:kj ms=true
 bb:∀b∈bs,Bd 200 b.1/\Bd 200 b.2
theorem gD.st(T:gD n bs ms)(hm:m∈ms)(i):m.steer.getD i 0=0:=by
 have h:=aT.mp T.cl m hm;rw[aD];cases c:m.steer[i]? with
 |none=>rfl
 |some x=>exact of_decide_eq_true (aT.mp h x (bH c))
noncomputable abbrev wD(ms:List MD)(k:Nat):MD:=ms.getD k ⟨[],[],[],[],[],1⟩
noncomputable def ux(n:Nat)(ms:List MD):List (Int×Int)->List v5->List (List (Int×Int))
 |x,[]=>[x]
 |x,s::ss=>x::ux n ms (yF n (wD ms s.1) x (xg s.2)) ss
def jb(n:Nat)(bs:List (Int×Int))(ms:List MD):List (Int×Int)->List v5->Prop
 |_,[]=>True
 |x,s::ss=>wW n x/\s.1<ms.length/\jx n (wD ms s.1).rows x=true/\uw bs s.2/\jb n bs ms (yF n (wD ms s.1) x (xg s.2)) ss
theorem uw.bd(I:uw bs w)(h:∀b∈bs,Bd 200 b.1/\Bd 200 b.2):∀x∈w,Bd 202 x:=λx hx=>by
 obtain⟨i,hi,rfl⟩:=cz.mp hx;have hb:i<bs.length:=by rw[<- I.1];exact hi
 have hz:(w[i],bs[i])∈w.zip bs:=cz.mpr ⟨i,by rw[cu];omega,by rw[lO]⟩;have hh:bs[i].1<=w[i]/\w[i]<=bs[i].2:=I.2 _ hz;obtain⟨h1,h2⟩:=h _ (cq hb);unfold Bd at h1 h2|-
 have:(2:Nat)^200<=2^202:=iA (by decide) (by decide);omega
theorem UV(I:uw bs w)(h:∀b∈bs,Bd 200 b.1/\Bd 200 b.2):∀p∈xg w,0<p.2/\Bd 202 p.1/\Bd 1 p.2:=λp hp=>by obtain⟨v,hv,rfl⟩:=aG.mp hp;exact⟨fH,I.bd h v hv,yw (n:=1) (by decide)⟩
def fTPt:FL:=λds R=>∃n T pts,ds=[Tb T,zP pts]/\T.length<=3/\(∀r∈T,r.length=n/\∀x∈r,Bd 20 x)/\wW n pts/\R (zP (y9 T pts))
def UW:FL:=λds R=>∃rm n pts,ds=[Rm rm,zP pts]/\rm.length<=900/\(∀r∈rm,r.length=n+1/\∀x∈r,Bd 300 x)/\wW n pts/\R (.bool (jx n rm pts))
def fBtP:FL:=λds R=>∃(x:Int)(b:Int×Int),ds=[zn (x,1),zn b]/\Bd 300 x/\Bd 300 b.1/\Bd 300 b.2/\b.1<=x/\x<=b.2/\R (.bool true)
def fCnP(CM:Addr):FL:=λds R=>∃n bs ms pts s,ds=[.lst (ms.map (xc CM)),.lst (bs.map zn),zP pts,wu s]/\gD n bs ms/\wW n pts/\s.1<ms.length/\uw bs s.2/\R (.bool (jx n (wD ms s.1).rows pts))
def fNBp(CM:Addr):FL:=λds R=>∃m n bs ms i pts w,ds=[xc CM m,.int ((i:Nat):Int),zP pts,zn (0,1),zP (xg w)]/\gD n bs ms/\m∈ms/\i<n/\wW n pts/\uw bs w/\R (zn (uv (m.nexts.getD i []++m.push.getD i []) (pts++xg w) (m.add.getD i 0) m.div))
def fPBp(CM:Addr):FL:=λds R=>∃m n bs ms pts w,ds=[xc CM m,zP pts,zn (0,1),zP (xg w)]/\gD n bs ms/\m∈ms/\wW n pts/\uw bs w/\R (zP (yF n m pts (xg w)))
def fWkP(C CM:Addr):FL:=λds R=>∃n bs ms pts ss,ds=[yu C CM n bs ms,zP pts,.lst (ss.map wu)]/\gD n bs ms/\pts.length<=900/\ss.length<=20/\jb n bs ms pts ss/\R (.lst ((ux n ms pts ss).map zP))
theorem QF{α:Type}{f:α->D}{xs:List α}{k:Nat}{d:D}(h:(xs.map f)[k]? =some d):∃x,xs[k]? =some x/\d=f x:=by
 rw[aV]at h;cases e:xs[k]? with
 |none=>rw[e]at h;cases h
 |some x=>rw[e]at h;cases h;exact⟨x,rfl,rfl⟩
theorem ue{α:Type}{as:List α}{k:Nat}{z:α}(h:k<as.length):as.getD k z∈as:=yJ h
noncomputable abbrev vM(A:Nat->Addr):List Ct:=⟨0,"walked",0,zR 110,fWkP (A 1) (A 0),0⟩::⟨0,"point_behind",0,zR 108,fPBp (A 0),0⟩::⟨0,"number_behind",0,zR 109,fNBp (A 0),0⟩::⟨0,"can_be_made",0,zR 111,fCnP (A 0),0⟩::⟨0,"lies_between",0,zR 112,fBtP,0⟩::⟨0,"lies_in",0,zR 33,UW,0⟩::⟨0,"turned_point",0,zR 47,fTPt,0⟩::US A
section
variable{E:Ev xF xM xN}
theorem zEP:Gx E (vM E.A) 6:=vk 0 [0,1,1,0,0,79,0,1] rfl λds R h=>by obtain⟨n,T,pts,rfl,t3,hT,PT,q⟩:=h;refine xC L zp qQ (λr=>zn (uv r pts 0 1)) zA (λr hr=>⟨_,r,n,pts,0,1,rfl,.inl rfl,(hT r hr).1,λx hx=>((hT r hr).2 x hx).mono,PT.g,by decide,wK,yw (by decide),rfl⟩) ?_;unfold zP y9 at q;rw[aQ]at q;exact q
theorem zLa:Gx E (vM E.A) 5:=vk 0 [0,4,1,1,0,0,79,0,1] rfl λds R h=>by obtain⟨rm,n,pts,rfl,few,hr,PT,q⟩:=h;refine xC U zp jQ (λr=>.bool (j7 (r.take n) (r.getD n 0) pts)) zA (λr h=>⟨r.take n,r.getD n 0,n,pts,by rw[J8 (hr r h).1],by rw[aZ,(hr r h).1];omega,λw hw=>(hr r h).2 w (bN hw),(hr r h).2 _ (yJ (by rw[(hr r h).1];exact aJ _)),PT,rfl⟩) ⟨rm.map λr=>j7 (r.take n) (r.getD n 0) pts,by rw[aQ];rfl,bR q ?_⟩;unfold jx;rw[eE];rfl
theorem zET:Gx E (vM E.A) 4:=vk 0 [0,84,0,87,0,1,84,87,0,1,0] rfl λds R h=>by obtain⟨x,b,rfl,bx,b1,b2,h1,h2,q⟩:=h;refine⟨_,rfl,_,_,rfl,by decide,yw (by decide),?_⟩;refine⟨(x,1),(b.1,1),by show[_,zn (zh b.1 1)]=_;rw[J9],bx.mono,yw (by decide),b1.mono,yw (by decide),wT (by show(!decide (x*1<b.1*1))=true;rw[decide_eq_false (by omega)];rfl) ?_⟩;refine⟨_,rfl,_,_,rfl,by decide,yw (by decide),?_⟩;refine⟨(b.2,1),(x,1),by show[zn (zh b.2 1),_]=_;rw[J9],b2.mono,yw (by decide),bx.mono,yw (by decide),bR q ?_⟩;rw[decide_eq_false (by omega)];rfl
theorem zFe:Gx E (vM E.A) 3:=vk 0 [0,0,0,0,0,3,0,0,3,0,0,0,0,0,0,61,0,0,0,0,3,2,0,0,0,3,0,1,0,0,4,0,3,0,3,1,60,0,1] rfl λds R h=>by
 obtain⟨n,bs,ms,pts,s,rfl,T,PT,ks,I,q⟩:=h;have b2:=T.b2;have l1:=I.1;have ms':=ue (z:=(⟨[],[],[],[],[],1⟩:MD)) ks;obtain⟨mo,me⟩:yf (wD ms s.1) n bs.length/\vx 290 (wD ms s.1):=T.mo _ ms';refine⟨_,rfl,wF (decide_eq_false (by omega)) ⟨_,rfl,wF (decide_eq_false (by rw[aB];omega)) ⟨_,rfl,_,yt ⟨[],[],[],[],[],1⟩ ks,rfl,_,rfl,?_⟩⟩⟩;refine⟨(wD ms s.1).rows,n,pts,rfl,by have:=me.few;exact zA,λr hr=>⟨mo.rows r hr,λx hx=>(me.rows r hr x hx).mono⟩,PT,w2 (λc1=>?_) λc1=>?_⟩
 ·refine wT rfl (bR q ?_);exact q9 c1
 rw[jt c1]at q;refine⟨_,rfl,wF ?_ ⟨_,rfl,?_⟩⟩
 ·show(!decide _)=false;rw[aB,aB,aB,l1,decide_eq_true rfl];rfl
 show zo (b_ yr ((xg s.2).map zn) (bs.map zn)) _ _;rw[show b_ yr ((xg s.2).map zn) (bs.map zn)=(s.2.zip bs).map λq=>yr (zn (q.1,1)) (zn q.2)by show _=eN _ (b_ Prod.mk s.2 bs);rw[aQ,List.zipWith_map,List.map_zipWith];rfl];refine xC (λq:Int×Int×Int=>yr (zn (q.1,1)) (zn q.2)) (λd=>match d with| .tup [.tup [x,_],.tup [y,z]]=>(zw x,zw y,zw z)|_=>(0,0,0)) (λ_=>rfl) (λ_=>.bool true) (by rw[cu];omega) (λq hq=>?_) ⟨(s.2.zip bs).map λ_=>true,by rw[aQ];rfl,bR q ?_⟩
 ·obtain⟨h1,h2⟩:=I.2 q hq;obtain⟨h3,h4⟩:=bC hq;exact⟨q.1,q.2,rfl,(I.bd T.bb _ h3).mono,(T.bb _ h4).1.mono,(T.bb _ h4).2.mono,h1,h2,rfl⟩
 ·exact(aT.mpr λx hx=>by obtain⟨_,_,rfl⟩:=aG.mp hx;rfl).symm
theorem zEA:Gx E (vM E.A) 2:=vk 2 [0,0,5,0,0,0,1,0,0,0,1,0,0,6,2,4,1,0,0,0,0,0,0,1,0,0,5,5,0,0,0,1,0,6,6,3,0,83,5,6,0,0,0,1,0,0] rfl λds R h=>by
 obtain⟨m,n,bs,ms,i,pts,w,rfl,T,hm,hi,PT,I,q⟩:=h;obtain⟨mo,me⟩:=T.mo m hm;have b2:=T.b2;have n2:=T.n2;have lp:=PT.1;have lw:=I.1;have k1:i<m.nexts.length:=by rw[mo.nexts.1];exact hi
 have k2:i<m.push.length:=by rw[mo.push.1];exact hi
 have l1:(m.nexts.getD i []).length=n:=mo.nexts.2 _ (ue k1);have l2:(m.push.getD i []).length=bs.length:=mo.push.2 _ (ue k2);refine⟨rfl,_,rfl,_,yt [] k1,rfl,_,rfl,_,yt [] k2,by rw[aB,aB];omega,?_⟩;rw[<- aS];refine⟨by rw[aB,aB,aB];omega,?_⟩;rw[<- aS];refine⟨λΓ=>Γ=[.sh (xc (E.A 0) m),.sh (.int ((i:Nat):Int)),.sh (zP pts),.sh (zn (0,1)),.sh (zP (xg w)),.sh (L (m.nexts.getD i []++m.push.getD i [])),.sh (zP (pts++xg w))],⟨rfl,_,rfl,_,vK (j:=i) (by rw[mo.steer];exact hi) rfl,wF (by rw[T.st hm i];rfl) rfl⟩,?_⟩;rintro Γ' rfl;refine⟨rfl,_,rfl,_,vK (j:=i) (by rw[mo.add];exact hi) rfl,rfl,_,rfl,?_⟩;refine⟨_,_,n+bs.length,pts++xg w,_,_,rfl,.inl rfl,by rw[aF,l1,l2],λx hx=>?_,⟨by rw[aF,aB,lp,lw],by exact we,λp hp=>(be.mp hp).elim (PT.2.2 p) λh=>?_⟩,by have:=mo.div;exact‹_›,(jr me.add i).mono,me.div.mono,q⟩
 ·rcases be.mp hx with h|h
  ·exact(me.nexts _ (ue k1) x h).mono
  ·exact(me.push _ (ue k2) x h).mono
 ·obtain⟨p0,p1,p2⟩:=UV I T.bb p h;exact⟨p0,p1.mono,p2.mono⟩
theorem zES:Gx E (vM E.A) 1:=vk 0 [0,4,0,1,2,3,1,0,0,0,60,1,0,2,3,4] rfl λds R h=>by
 obtain⟨m,n,bs,ms,pts,w,rfl,T,hm,PT,I,q⟩:=h;obtain⟨mo,me⟩:=T.mo m hm;have n2:=T.n2;have lm:(m.nexts.map L).length=n:=by rw[aB];exact mo.nexts.1
 refine⟨rfl,_,rfl,by exact zb,by omega,?_⟩;rw[lm,show((n:Nat):Int).toNat=n by exact rfl];refine zo.rng0 (λi=>zn (uv (m.nexts.getD i []++m.push.getD i []) (pts++xg w) (m.add.getD i 0) m.div)) zA (λi hi=>⟨m,n,bs,ms,i,pts,w,rfl,T,hm,hi,PT,I,rfl⟩) ?_;unfold zP yF at q;rw[aQ]at q;exact q
theorem zNQ:Gx E (vM E.A) 0:=vk 5 [0,0,3,60,0,0,0,4,61,0,0,3,5,8,1,0,0,5,2,6,7,0,0,0,62,3,4,1,5,7,0,1,5,60,0,3,0,7,1,5,0,7,0,7,20,5,5] rfl λds R h=>by
 obtain⟨n,bs,ms,pts,ss,rfl,T,p9,s20,W,q⟩:=h;refine⟨rfl,by decide+kernel,n,bs,ms,rfl,rfl,by decide+kernel,n,bs,ms,rfl,k0,?_⟩;refine⟨λk Γ=>∃(pre:List (List (Int×Int)))(cur:List (Int×Int))(s6 s7:Sl),Γ=[.sh (yu (E.A 1) (E.A 0) n bs ms),.sh (zP pts),.sh (.lst (ss.map wu)),.sh (.lst (ms.map (xc (E.A 0)))),.sh (.lst (bs.map zn)),.ow ((pre++[cur]).map zP),s6,s7]/\pre.length=k/\ux n ms pts ss=pre++ux n ms cur (ss.drop k)/\jb n bs ms cur (ss.drop k),⟨[],pts,.no,.no,rfl,rfl,rfl,W⟩,?_,?_⟩
 ·rintro k d Γ' hk ⟨pre,cur,s6,s7,rfl,lp,e,W⟩;obtain⟨y,hy,rfl⟩:=qL hk;obtain⟨s,hg,rfl⟩:=QF hy;have kl:=(aN.mp hg).1;have ed:ss.drop k=s::ss.drop (k+1):=by rw[dw kl,(aN.mp hg).2]
  rw[ed]at e W;obtain⟨PT,ks,ok,I,W2⟩:=W;have al:yc ((pre++[cur]).map zP) (-1)=some (zP cur):=by rw[zIW [] (k:=k) (by rw[aF,lp];rfl),ja wc,lp,dE];rfl
  refine⟨_,al,n,bs,ms,cur,s,rfl,T,PT,ks,I,wF (by rw[ok];rfl) ⟨_,rfl,_,yt ⟨[],[],[],[],[],1⟩ ks,_,al,_,rfl,_,rfl,wD ms s.1,n,bs,ms,cur,s.2,rfl,T,ue ks,PT,I,by rw[aB,aF,lp];show k+1<1000;omega,pre++[cur],yF n (wD ms s.1) cur (xg s.2),.sh (.int ((0+k:Nat):Int)),.sh (wu s),by rw[aS (l₁:=pre++[cur])];rfl,by rw[aF,lp];rfl,?_,W2⟩⟩;rw[e,cv];rfl
 ·rintro Γ' ⟨pre,cur,s6,s7,rfl,lp,e,W⟩;rw[jp,aB,eS (aJ _)]at e;rw[e]at q;exact q
end
end K98
namespace K98
open PySem L2 Sh Pu Vg
variable[Tbl]
theorem md(a:Int)(h:0<b):0<=a.fmod b/\a.fmod b<b:=⟨dO a h,eO a h⟩
theorem UX{a b:Int}(h:Bd n b)(p:0<b):Bd n (a.fmod b):=by have:=md a p;exact h.of_le (by omega)
theorem zQE{n:Nat}(h:n<=3):Bd 2 (n:Int):=by show(n:Int).natAbs<2^2;exact u0
theorem zLm{α:Type}{xs:List α}{i:Int}(h0:0<=i)(h1:i<(xs.length:Int)):∃x∈xs,yc xs i=some x:=by
 obtain⟨k,rfl⟩:=b9 h0;have hk:k<xs.length:=by omega
 refine⟨xs[k],cq hk,?_⟩;unfold yc xw;grind
theorem zS4{xs:List Int}(h0:0<=i)(h1:i<(xs.length:Int)):∃x∈xs,yc (xs.map D.int) i=some (.int x):=by obtain⟨x,hx,e⟩:=zLm h0 h1;exact⟨x,hx,by rw[kK,e];rfl⟩
theorem gE{xs:List Int}{R:D->Prop}(h0:0<=i)(h1:i<(xs.length:Int))(q:∀x∈xs,R (.int x)):∃d,yc (xs.map D.int) i=some d/\R d:=by obtain⟨x,hx,e⟩:=zS4 h0 h1;exact⟨_,e,q x hx⟩
theorem zSG{R:D->Prop}(h0:0<=i)(h1:i<(xs.length:Int))(q:∀x∈xs,R x):∃d,yc xs i=some d/\R d:=by obtain⟨x,hx,e⟩:=zLm h0 h1;exact⟨_,e,q x hx⟩
theorem qX{α:Type}{P:α->Prop}{xs:List α}{y:α}(h:∀x∈xs,P x)(k:P y):∀x∈xs++[y],P x:=λx hx=>by
 rcases be.mp hx with hx|hx
 ·exact h x hx
 ·rw[a6.mp hx];exact k
theorem zMq{α β:Type}(f:α->β)(xs:List α)(y:α):(xs.map f)++[f y]=(xs++[y]).map f:=by rw[aS];rfl
theorem zIM{xs:List D}{k:Nat}:zm xs (some (k:Int)) none=xs.drop k:=by
 unfold zm;rw[HT.sIx_none,HT.sIx_nat,bO (by rw[cc];exact aJ _)];by_cases h:k<=xs.length
 ·rw[dQ h]
 ·rw[lK (by omega),List.drop_length,eS (by omega)]
def UY:FL:=λds R=>∃ns k,ds=[.scr ns,.int k]/\0<=k/\∀c,R (.int c)
def Stm(xs:List Int):Prop:=∀x∈xs,0<=x/\Bd 31 x
def zPl:FL:=λds R=>∃(c:Int)(n:Nat),ds=[.int c,.int (n:Int)]/\n<=100/\∀xs,xs.length=n->Stm xs->R (L xs)
def fDrw:FL:=λds R=>∃(c:Int)(k:Nat),ds=[.int c,.int (k:Int),.int 20]/\k<=1/\∀xs,xs.length=20->R (L xs)
structure TW(n:Nat)(bs:List (Int×Int))(ms:List MD):Prop where
 n1:1<=n
 n2:n<=2
 b2:bs.length<=2
 bb:∀b∈bs,b.1<=b.2/\Bd 2 b.1/\Bd 2 b.2
 m1:1<=ms.length
 m2:ms.length<=2
 md:∀m∈ms,yf m n bs.length/\vx 3 m/\(∀x∈m.steer,x=0)/\m.rows.length<=1
theorem TW.ok(h:TW n bs ms):vd n bs ms:=⟨h.n1,by have:=h.n2;exact yO,λb hb=>(h.bb b hb).1,by have:=h.b2;exact zA,h.m1,by have:=h.m2;exact zA,λm hm=>(h.md m hm).1⟩
theorem TW.cl(h:TW n bs ms):kj ms=true:=aT.mpr λm hm=>aT.mpr λx hx=>decide_eq_true ((h.md m hm).2.2.1 x hx)
def UZ(C CM:Addr):FL:=λds R=>∃(c:Int)(n:Nat),ds=[.int c,.int (n:Int)]/\1<=n/\n<=2/\∀bs ms,TW n bs ms->R (yu C CM n bs ms)
theorem zSs{α:Type}{xs:List α}{a b:Nat}(h:a<=b)(hb:b<=xs.length):zm xs (some (a:Int)) (some (b:Int))=(xs.drop a).take (b-a):=by unfold zm;rw[HT.sIx_nat,HT.sIx_nat,dQ (show a<=xs.length by exact jy),dQ hb]
theorem zP1{zs:List Int}{a b:Nat}(ha:x=(a:Int))(hy:y=(b:Int))(h:a<=b)(hb:b<=zs.length):D.lst (zm (zs.map D.int) (some x) (some y))=L ((zs.drop a).take (b-a)):=by rw[ha,hy,zSs h (by rw[aB];exact hb),<- dq,<- dk]
theorem zG8{zs:List Int}(h:a<=b)(hb:b<=zs.length):((zs.drop a).take (b-a)).length=b-a:=by rw[aZ,cc];omega
theorem zG7{zs:List Int}{P:Int->Prop}(h:∀z∈zs,P z):∀z∈(zs.drop a).take b,P z:=λz hz=>h z (cA (bN hz))
noncomputable abbrev jc(A:Nat->Addr):List Ct:=⟨0,"_law_thing",0,zR 117,UZ (A 1) (A 0),0⟩::⟨0,"_law_draws",0,zR 116,fDrw,0⟩::⟨0,"_law_stream",0,zR 115,zPl,0⟩::⟨0,"_law_cell_at",0,zR 114,UY,0⟩::vM A
section
variable{E:Ev xF xM xN}
theorem zHH:Gx E (jc E.A) 3:=vk 0 [0,0,0,0,1,0,0,0,0,0,1,0] rfl λds R h=>by obtain⟨ns,k,rfl,h0,q⟩:=h;refine w2 (λc=>?_) λc=>q 0;obtain⟨x,_,e⟩:=zLm h0 (of_decide_eq_true c);exact⟨x,e,q x⟩
theorem zI7:Gx E (jc E.A) 2:=vk 4 [0,3,2,0,0,0,0,0,0,0,3,0,0,0,1,1,4,0,1,2,3,0,3,3,20,2,2,0,0,5,0,0,0,1,1,4,0,0,5,5,5,5,4,1,2,5,20,2,2,2] rfl λds R h=>by
 obtain⟨c,n,rfl,n1,q⟩:=h;have b31:Bd 31 (2147483647:Int):=Bd.lit;have p31:(0:Int)<2147483647:=by decide
 refine⟨k0,⟨by decide,by decide,by decide⟩,w2 (λc1=>?_) λc1=>?_⟩
 ·refine⟨⟨by decide,by decide,by decide⟩,by exact zb,by exact yj,?_⟩;rw[show((n:Nat):Int).toNat=n by exact rfl];refine⟨λk Γ=>∃(xs:List Int)(r:Int)(s4:Sl),Γ=[.sh (.int c),.sh (.int (n:Int)),.ow (xs.map D.int),.sh (.int r),s4,.no]/\xs.length=k/\Stm xs,⟨[],_,.no,rfl,rfl,λ_ h=>nomatch h⟩,?_,?_⟩
  ·rintro k d Γ' hk ⟨xs,r,s4,rfl,lx,hx⟩;obtain⟨kn,rfl⟩:=jm hk;refine⟨by decide,by rw[aB];omega,?_⟩;refine⟨by decide,b31.mono,?_⟩;refine⟨xs++[r.fmod (2147483647:Int)],r.fdiv (2147483647:Int),.sh (.int (k:Int)),?_,by rw[aF,lx];rfl,qX hx ⟨(md r p31).1,UX b31 p31⟩⟩;rw[aS];rfl
  ·rintro Γ' ⟨xs,r,s4,rfl,lx,hx⟩;rw[ul]at lx;exact q xs lx hx
 ·refine⟨by decide,?_⟩;have bm:Bd 31 (c.fmod (2147483647:Int)):=UX b31 p31;refine⟨by exact zb,by omega,?_⟩;rw[show((n:Int)+2).toNat=n+2 by exact rfl];refine⟨λk Γ=>∃(xs:List Int)(r:Int)(s4:Sl),Γ=[.sh (.int c),.sh (.int (n:Int)),.ow (xs.map D.int),.no,s4,.sh (.int r)]/\xs.length=k/\Stm xs/\Bd 70 r,⟨[],_,.no,rfl,rfl,(λ_ h=>nomatch h),(bm.add ((Bd.lit (i:=48271) (n:=16)).mono)).mono⟩,?_,?_⟩
  ·rintro k d Γ' hk ⟨xs,r,s4,rfl,lx,hx,br⟩;obtain⟨kn,rfl⟩:=jm hk;refine⟨br.mono,br.mono,(Bd.lit (i:=48271) (n:=16)).mono,br.mono,by decide,by rw[aB];omega,?_⟩;refine⟨xs++[(r*r+48271*r+(k:Int)).fmod (2147483647:Int)],(r*r+48271*r+(k:Int)).fmod (2147483647:Int),.sh (.int (k:Int)),?_,?_,qX hx ⟨(md _ p31).1,UX b31 p31⟩,(UX b31 p31).mono⟩
   ·rw[aS];rfl
   ·rw[aF,lx];rfl
  ·rintro Γ' ⟨xs,r,s4,rfl,lx,hx,br⟩;rw[ul]at lx;have e:zm (xs.map D.int) (some 2) none=(xs.drop 2).map D.int:=by rw[show(2:Int)=((2:Nat):Int)from rfl,zIM,dq]
   have qq:=q (xs.drop 2) (by rw[cc];omega) (λx hx'=>hx x (cA hx'));unfold L at qq;rw[<- e]at qq;exact qq
theorem zLe:Gx E (jc E.A) 1:=vk 0 [0,0,0,0,0,0,2,60,0,2,1,2,1,0,60,0,1,2] rfl λds R h=>by
 obtain⟨c,k,rfl,k1,q⟩:=h;have b20:Bd 5 (20:Int):=Bd.lit;have bk:Bd 2 (k:Int):=zQE zA;refine⟨⟨by decide,by decide,by decide⟩,w2 (λc1=>?_) λc1=>?_⟩
 ·have bk1:Bd 2 ((k:Int)+1):=by have:=zQE (n:=k+1) y6;rw[ir]at this;exact this
  refine⟨b20.mono,bk1.mono,c,20*(k+1),by rw[Int.natCast_mul,ir];rfl,by omega,λxs lx hx=>?_⟩;refine⟨b20.mono,bk.mono,?_⟩;have e:zm (xs.map D.int) (some (20*(k:Int))) none=(xs.drop (20*k)).map D.int:=by rw[show 20*(k:Int)=((20*k:Nat):Int)by exact rfl,zIM,dq]
  have qq:=q (xs.drop (20*k)) (by rw[cc];omega);unfold L at qq;rw[<- e]at qq;exact qq
 ·exact⟨(Bd.lit (i:=7919) (n:=13)).mono,bk.mono,_,20,rfl,by decide,λxs lx _=>q xs lx⟩
theorem zLc:Gx E (jc E.A) 0:=vk 8 [0,0,2,61,0,0,0,3,0,2,0,3,4,0,0,1,0,2,5,0,0,6,0,0,60,0,5,0,0,0,7,2,7,2,6,1,0,6,0,2,0,1,8,2,1,6,1,1,2,2,0,0,1,0,1,9,2,3,6,1,1,2,2,0,0,1,1,4,130,7,8,1,9,2,6,1,0,6,20,4,126,1,1,2,1,3,0,1,0,0,1,0,4] rfl λds R h=>by
 obtain⟨c,n,rfl,n1,n2,q⟩:=h;refine⟨c,4,rfl,by decide,λxs lx hx=>?_⟩;refine gE (by decide) (by omega) λx0 _=>⟨by decide,k0,?_⟩
 have m0:=md x0 (show(0:Int)<3 by decide);obtain⟨w,hw⟩:=b9 m0.1;rw[hw]at m0|-
 refine gE (by decide) (by omega) λx3 _=>⟨by decide,?_⟩
 have m3:=md x3 (show(0:Int)<2 by decide);generalize x3.fmod 2=z3 at m3|-
 refine⟨by omega,by omega,?_⟩;refine⟨λk Γ=>∃(ms:List MD)(s5 s6 s7 s8 s9:Sl),Γ=[.sh (.int c),.sh (.int (n:Int)),.sh (L xs),.sh (.int (w:Int)),.ow (ms.map (xc (E.A 0))),s5,s6,s7,s8,s9]/\ms.length=k/\∀m∈ms,yf m n w/\vx 3 m/\(∀x∈m.steer,x=0)/\m.rows.length<=1,⟨[],.no,.no,.no,.no,.no,rfl,rfl,λ_ h=>nomatch h⟩,?_,?_⟩
 ·rintro k d Γ' hk ⟨ms,s5,s6,s7,s8,s9,rfl,lm,hm⟩;obtain⟨kn,rfl⟩:=jm hk;refine⟨c,k,rfl,by omega,λys ly=>?_⟩;refine xC D.int zw (λ_=>rfl) (λy=>.int ((y.fdiv 7).fmod 5-2)) QK (λy hy=>⟨by decide,(Bd.lit (i:=7) (n:=3)).mono,by decide,rfl⟩) ?_
  obtain⟨zs,ez,lz,bz⟩:∃zs:List Int,ys.map (λy=>D.int ((y.fdiv 7).fmod 5-2))=zs.map D.int/\zs.length=20/\∀z∈zs,Bd 2 z:=⟨ys.map λy=>(y.fdiv 7).fmod 5-2,by rw[aQ];rfl,by rw[aB];exact ly,λz hz=>by obtain⟨y,_,rfl⟩:=aG.mp hz;have:=md (y.fdiv 7) (show(0:Int)<5 by decide);show((y.fdiv 7).fmod 5-2).natAbs<2^2;omega⟩
  rw[ez];have b2:Bd 2 (2:Int):=Bd.lit;have e1:zm (zs.map D.int) none (some (n:Int))=(zs.take n).map D.int:=by rw[zG9,dk]
  refine⟨_,vK (j:=18) (by omega) rfl,k0,by rw[e1,aB,aZ];show _+1<=1000;omega,k0,?_⟩;refine gE (by decide) (by omega) λx5 _=>⟨by decide,b2.mono,by decide,?_⟩
  have m5:=md (x5.fdiv 2) (show(0:Int)<2 by decide);obtain⟨j,hj⟩:=b9 m5.1;rw[hj,e1]
  obtain⟨rows,er,r1,rr⟩:∃rows:List (List Int),D.lst (zm [D.tup ((zs.take n).map D.int++[.int (zs.getD 18 0)])] none (some (j:Int)))=Rm rows/\rows.length<=1/\∀r∈rows,r=zs.take n++[zs.getD 18 0]:=⟨[zs.take n++[zs.getD 18 0]].take j,by unfold Rm;rw[zG9,dk (f:=U)];show _=D.lst (List.take j [D.tup ((zs.take n++[zs.getD 18 0]).map D.int)]);rw[aS];rfl,by rw[aZ];show min j 1<=1;exact lD _ _,λr hr=>a6.mp (bN hr)⟩
  have bi:∀i,i<n->Bd 2 (i:Int):=λi hi=>zQE (by omega);refine⟨by omega,by omega,?_⟩;rw[show((n:Nat):Int).toNat=n by exact rfl];refine zo.rng0 (λi=>L ((zs.drop (4+2*i)).take (4+2*i+n-(4+2*i)))) zA (λi hi=>⟨b2.mono,(bi i hi).mono,b2.mono,(bi i hi).mono,zP1 rfl rfl (bM _ _) (by omega)⟩) ?_;refine⟨by omega,by omega,?_⟩;rw[show((n:Nat):Int).toNat=n by exact rfl];refine zo.rng0 (λi=>L ((zs.drop (8+2*i)).take (8+2*i+w-(8+2*i)))) zA (λi hi=>⟨b2.mono,(bi i hi).mono,b2.mono,(bi i hi).mono,zP1 rfl rfl (bM _ _) (by omega)⟩) ?_
  obtain⟨nx,en,ln,bn⟩:∃nx:List (List Int),D.lst ((aI n).map λi=>L ((zs.drop (4+2*i)).take (4+2*i+n-(4+2*i))))=Tb nx/\nx.length=n/\∀r∈nx,r.length=n/\∀x∈r,Bd 2 x:=⟨(aI n).map λi=>(zs.drop (4+2*i)).take (4+2*i+n-(4+2*i)),by unfold Tb;rw[aQ];rfl,by rw[aB,aM],λr hr=>by obtain⟨i,hi,rfl⟩:=aG.mp hr;have hi:=bj.mp hi;exact⟨by rw[zG8 (bM _ _) (by omega)];omega,zG7 bz⟩⟩
  obtain⟨ps,ep,lp,bp⟩:∃ps:List (List Int),D.lst ((aI n).map λi=>L ((zs.drop (8+2*i)).take (8+2*i+w-(8+2*i))))=Tb ps/\ps.length=n/\∀r∈ps,r.length=w/\∀x∈r,Bd 2 x:=⟨(aI n).map λi=>(zs.drop (8+2*i)).take (8+2*i+w-(8+2*i)),by unfold Tb;rw[aQ];rfl,by rw[aB,aM],λr hr=>by obtain⟨i,hi,rfl⟩:=aG.mp hr;have hi:=bj.mp hi;exact⟨by rw[zG8 (bM _ _) (by omega)];omega,zG7 bz⟩⟩
  have es:D.lst (aL ((n:Nat):Int).toNat (.int 0))=L (aL n 0):=by unfold L;rw[dm,cJ]
  have ea:D.lst (zm (zs.map D.int) (some 12) (some (12+(n:Int))))=L ((zs.drop 12).take (12+n-12)):=zP1 (by decide) rfl (bM _ _) (by omega);have la:((zs.drop 12).take (12+n-12)).length=n:=by rw[zG8 (bM _ _) (by omega)];omega
  have lr:∀r∈rows,r.length=n+1/\∀x∈r,Bd 2 x:=λr hr=>by grind
  have m9:=md (zs.getD 19 0) (show(0:Int)<3 by decide);refine⟨k0,by exact zb,by exact yj,_,vK (j:=19) yx rfl,by decide,_,_,_,_,_,_,rfl,er▸kh zA (λr hr=>by rw[(lr r hr).1];exact y6),en▸qy zg (λr hr=>by rw[(bn r hr).1];exact zA),es▸vL (by rw[bX];exact zA),ep▸qy zg (λr hr=>by rw[(bp r hr).1];omega),ea▸vL zg,by rw[aB];omega,?_⟩;rw[er,en,es,ep,ea];refine⟨ms++[⟨rows,nx,aL n 0,ps,(zs.drop 12).take (12+n-12),1+(zs.getD 19 0).fmod 3⟩],_,_,_,_,_,by rw[aS];rfl,by rw[aF,lm];rfl,qX hm ⟨⟨λr hr=>(lr r hr).1,by show rows.length<=900;exact zA,⟨ln,λr hr=>(bn r hr).1⟩,bX ..,⟨lp,λr hr=>(bp r hr).1⟩,la,by show 1<=1+(zs.getD 19 0).fmod 3;omega,by exact yO,by omega⟩,⟨λr hr x hx=>((bn r hr).2 x hx).mono,λx hx=>by rw[(dr.mp hx).2];exact wK,λr hr x hx=>((bp r hr).2 x hx).mono,λx hx=>(zG7 bz x hx).mono,by show(1+(zs.getD 19 0).fmod 3).natAbs<2^3;omega,λr hr x hx=>((lr r hr).2 x hx).mono,by show rows.length<=100;exact zA⟩,λx hx=>(dr.mp hx).2,r1⟩⟩
 ·rintro Γ' ⟨ms,s5,s6,s7,s8,s9,rfl,lm,hm⟩;rw[ul]at lm;refine⟨by omega,by omega,?_⟩;rw[show((w:Nat):Int).toNat=w by exact rfl];refine zo.all (λd=>∃b:Int×Int,d=zn b/\b.1<=b.2/\Bd 2 b.1/\Bd 2 b.2) (by rw[ul];omega) (λd hd=>?_) λes le he=>?_
  ·obtain⟨i,hi⟩:=dZ.mp hd;obtain⟨iw,rfl⟩:=jm hi;refine gE zb (by omega) λy1 _=>⟨by decide,gE zb (by omega) λy2 _=>⟨by decide,(Bd.lit (i:=2) (n:=2)).mono,by decide,k0,?_⟩⟩
   have a1:=md y1 (show(0:Int)<2 by decide);have a2:=md (y2.fdiv 2) (show(0:Int)<2 by decide);exact⟨(0-y1.fmod 2,(y2.fdiv 2).fmod 2),rfl,by show 0-y1.fmod 2<=(y2.fdiv 2).fmod 2;omega,by show(0-y1.fmod 2).natAbs<2^2;omega,by show((y2.fdiv 2).fmod 2).natAbs<2^2;omega⟩
  ·obtain⟨bs,eb,hb⟩:∃bs:List (Int×Int),es=bs.map zn/\∀b∈bs,b.1<=b.2/\Bd 2 b.1/\Bd 2 b.2:=by
    clear le
    induction es with
    |nil=>exact⟨[],rfl,λ_ h=>nomatch h⟩
    |cons d es ih=>
     obtain⟨bs,eb,hb⟩:=ih λx hx=>he x (aK _ hx);obtain⟨b,rfl,h⟩:=he d aR;exact⟨b::bs,by rw[eb];rfl,λx hx=>(a8.mp hx).elim (λz=>z▸h) (hb x)⟩
   rw[ul]at le;have lb:bs.length=w:=by rw[<- le,eb,aB]
   have T:TW n bs ms:=⟨n1,n2,by omega,hb,by omega,by omega,λm h=>by rw[lb];exact hm m h⟩
   exact⟨n,bs,ms,by rw[eb],T.ok,q bs ms T⟩
end
end K98
namespace K98
open PySem L2 Sh Pu Vg
variable[Tbl]
noncomputable def gF{α:Type}{P:α->Prop}:R {p:α//P p}->Option α
 |some (⟨p,_⟩,[])=>some p
 |_=>none
theorem zJK{α:Type}{P:α->Prop}{r:R {p:α//P p}}{p:α}(e:gF r=some p):P p:=by
 unfold gF at e;split at e
 ·rename_i I;cases e;exact I
 ·cases e
section
variable{E:Ev xF xM xN}{N:List Str}{st s:Stmt}{e:Expr}{T:List Ct}{X:Cx}
theorem wS{p:ye}(V:Vs (xr E true N st T) X)(h:List Nat)(_:gF (sW (xr E false N st T) 60 s h)=some p)(e2:gF (sW (xr E true N st T) 60 s h)=some p:=by kernel_rfl):PS X s (yA p):=zJK e2 rfl X V
theorem wE{p:zj}(V:Vs (xr E true N st T) X)(h:List Nat)(_:gF (rr.e (xr E false N st T) e h)=some p)(e2:gF (rr.e (xr E true N st T) e h)=some p:=by kernel_rfl):PE X e (tP p):=zJK e2 rfl X V.v
theorem wC{p:xq}(V:Vs (xr E true N st T) X)(h:List Nat)(_:gF (rr.t (xr E false N st T) e h)=some p)(e2:gF (rr.t (xr E true N st T) e h)=some p:=by kernel_rfl):PT X e (y8 p):=zJK e2 rfl X V.v
end
noncomputable def tU:Nat->Nat->Int:=λr c=>if r=c then 1 else 0
noncomputable def rD(n:Nat)(f:Nat->Int):D:=.lst ((aI n).map λc=>.int (f c))
noncomputable def tD(n:Nat)(t:Nat->Nat->Int):List D:=(aI n).map λr=>rD n (t r)
noncomputable def rI(n:Nat)(b:Nat->Nat->Int)(p:Nat):List Int:=(aI n).map (b p)
theorem zQs(n)(t):tD n t=(xH n t).map L:=by unfold tD xH;rw[aQ];refine a7 λr _=>?_;show rD n (t r)=L ((aI n).map (t r));unfold rD L;rw[aQ];rfl
theorem Zw{α:Type}{f:Nat->α}{n i:Nat}(h:i<n):yc ((aI n).map f) (i:Int)=some (f i):=zLn (by rw[aV,bY h];rfl)
theorem QG{α:Type}{f g:Nat->α}{n i:Nat}{x:α}(h:x=g i)(k:∀j,j≠i->g j=f j):((aI n).map f).set i x=(aI n).map g:=by
 refine dg (by simp) λj a b=>?_;simp only[dh,fu,dP];by_cases e:i=j
 ·rw[if_pos e,h,e]
 ·rw[if_neg e,k j λz=>e z.symm]
theorem Ua{r c:Nat}:(.int (if decide ((c:Int)=(r:Int))=true then 1 else 0):D)=.int (tU c r):=by
 unfold tU;by_cases h:c=r
 ·rw[if_pos h,if_pos (decide_eq_true (by rw[h]))]
 ·rw[if_neg h,if_neg (by rw[decide_eq_false (λz=>h (by omega))];decide)]
theorem zJa(h:∀r c,r<n->c<n->Bd k (t r c))(k20:k<=20):y4 (xH n t):=λrow hr x hx=>by obtain⟨r,hr2,rfl⟩:=aG.mp hr;obtain⟨c,hc,rfl⟩:=aG.mp hx;exact(h r c (bj.mp hr2) (bj.mp hc)).mono k20
def zSZ:FL:=λds R=>∃(xs:List Int)(n:Nat),ds=[L xs,.int (n:Int)]/\xs.length<=4/\1<=n/\n<=2/\∀T B,TB n T B->y4 T->y4 B->R (.tup [Tb T,Tb B])
theorem _root_.Pu.Rw.st(R:Rw Z H0 l as rf σ H)(h:σ'[2]? =σ[2]?):Rw Z H0 l as rf σ' H:=⟨R.l0,R.lz,R.le,R.a0,R.inj,λm k=>R.t m (h▸k)⟩
theorem zFg(h:yc ns i=some x):yc (ns.map D.int) i=some (.int x):=by rw[kK,h];rfl
theorem zNc:∀{l:List Nat},b_ yr (l.map f) (l.map g)=l.map λc=>yr (f c) (g c)
 |[]=>rfl
 |a::l=>by rw[bg,bg,dN,zNc,bg]
theorem zJl:∀{as:List Addr}{rs:List (List Int)},as.length=rs.length->(∀(p:Nat)(a:Addr),as[p]? =some a->∃r,rs[p]? =some r/\Hh a=some (.lst (r.map V.int)))->yD Hh (as.map V.ref) (rs.map L)
 |[],[],_,_=>.nil
 |a::as,r::rs,l,h=>by
  obtain⟨r',e,k⟩:=h 0 a rfl;cases e;exact .cons (.lst k JT) (zJl (Nat.succ.inj l) λp b hb=>h (p+1) b hb)
noncomputable abbrev Ub:List Str:=["_law_cells","_law_many","_law_there","_law_back","_law_cell","_law_i","_law_j","_law_by","_law_row"]
noncomputable abbrev gT(xa:Addr)(n:Nat)(T:List D)(l:Addr)(z i j y:Sl):List Sl:=[.sh (.raw xa),.sh (.int (n:Int)),.ow T,.sh (.raw l),z,i,j,y,.no]
theorem zSS:∀k ds,slot (gT xa n T l (.sh z) (.sh i) (.sh j) (.sh y)) k=.ow ds->k=2
 |0,_,h|1,_,h|3,_,h|4,_,h|5,_,h|6,_,h|7,_,h|8,_,h|_+9,_,h=>by cases h
 |2,_,_=>rfl
theorem zST:∀k o c ns ds,slot (gT xa n T l (.sh z) (.sh i) (.sh j) (.sh y)) k≠.ob o c ns ds
 |0,_,_,_,_,h|1,_,_,_,_,h|2,_,_,_,_,h|3,_,_,_,_,h|4,_,_,_,_,h|5,_,_,_,_,h|6,_,_,_,_,h|7,_,_,_,_,h|8,_,_,_,_,h|_+9,_,_,_,_,h=>by cases h
theorem Uc:∀k ds,slot (gT xa n T l (.sh z) .no .no .no) k=.ow ds->k=2
 |0,_,h|1,_,h|3,_,h|4,_,h|5,_,h|6,_,h|7,_,h|8,_,h|_+9,_,h=>by cases h
 |2,_,_=>rfl
theorem Ud:∀k o c ns ds,slot (gT xa n T l (.sh z) .no .no .no) k≠.ob o c ns ds
 |0,_,_,_,_,h|1,_,_,_,_,h|2,_,_,_,_,h|3,_,_,_,_,h|4,_,_,_,_,h|5,_,_,_,_,h|6,_,_,_,_,h|7,_,_,_,_,h|8,_,_,_,_,h|_+9,_,_,_,_,h=>by cases h
theorem zSR:∀k,slot (gT xa n T l .no .no .no .no) k=slot (zL (gT xa n T l z i j y) 8 .no) k\/slot (gT xa n T l .no .no .no .no) k=.no
 |0|1|2|3=>.inl rfl
 |4|5|6|7|8|_+9=>.inr rfl
theorem zOg{E:Ev xF xM xN}(es:st=zR 118):Go E T ⟨0,"_law_tables",0,st,zSZ,0⟩:=λlv ho f fd Fu=>by
 cases es;have S:=(vS (N:=Ub) (ps:=pr (zR 118)) (n:=7) (s:=zX (zR 118)) (by kernel_rfl)).1;refine Fu.ok S (Jg λds R h=>by obtain⟨xs,n,rfl,_⟩:=h;rfl) λcdv A outer s H vs Q X hr h=>?_;have W:=zJL (f:=f) (cdv:=cdv) (outer:=outer) (H:=H) (X:=X) S ho hr
 refine⟨_,uP (wS W [2,2,1,1,1,1,1,0,1,1,9,0,1,0] rfl) (uP (wS W [1,3,1,1,1,1,1,0,1,1,9,0,1,0] rfl) (uP (Us PassesOwn.never rfl (Qb (L2.pv 0)) (jg (i:=4) S.nd rfl (Or.inl rfl))
  (uP (wS W [0,5,4,1] rfl) (uP (wS W [0,6,5,1] rfl) (uP (wS W [0,7,4] rfl) (gK (zRR (wC W [0,5,6,0,4] rfl)
   (uP (wS W [0,2,0,0,1,2,5,0,5] rfl) (gK (Us PassesOwn.never rfl (Qb (L2.pv 3)) (jg (i:=8) S.nd rfl (Or.inl rfl)) (gK (gR (wE W [0,8,5] rfl) (Uq (L2.pv 8) (wE W [5] rfl) Qo))))))
   (uP (wS W [0,2,1,7,3,1,2,5,1,2,6,0,2,1,5] rfl) (gK (Us PassesOwn.never rfl (Qb (L2.pv 3)) (jg (i:=8) S.nd rfl (Or.inl rfl)) (gK (gR (wE W [0,8,6,7,0,8,5] rfl) (Uq (L2.pv 8) (wE W [6] rfl) Qo)))))))))))) (gK (zNx (Qi (wN (L2.pv 2) (wN (L2.pv 3) ug))))))),?_⟩
 obtain⟨Z,ds,R,zd,hv,⟨xs,n,rfl,c4,n1,n3,q0⟩,q⟩:=h;obtain⟨v1,v2,rfl,h1,h2⟩:=jJ hv;obtain⟨xa,xv,rfl,exa,hxv⟩:=h1.lst_inv;cases kF hxv;cases h2;have exa:=zx _ _ exa;have tn:((n:Nat):Int).toNat=n:=cJ n;have E0:zv Z H Z ([D.raw xa,.int n].map Sl.sh++aL 7 .no) (L2.wj Ub [.ref xa,.int n]) H:=⟨K2 zd (.cons (.raw xa) (.cons (.int _) .nil)) 7,λ_ h=>h,zd,Sm.refl _,λi as l e=>absurd e (Xx (λi as h=>by rw[vJ]at h;cases h) i as),λi o c ns as e=>absurd e (Xw (λi o c ns as h=>by rw[vJ]at h;cases h) i o c ns as)⟩
 refine kT E0 [.sh (.raw xa),.sh (.int n),.ow (tD n tU),.no,.no,.no,.no,.no,.no] ?_ λZ1 σ1 H1 E1 s1=>?_
 ·refine⟨by exact zb,by exact yj,?_⟩;rw[tn];refine zo.rng0 (λr=>rD n (tU r)) zA (λr hr=>⟨by exact zb,by exact yj,?_⟩) rfl;rw[tn];exact zo.rng0 (λc=>.int (tU r c)) zA (λc hc=>Ua) rfl
 obtain⟨_,g0,d0⟩:=E1.e.sh 0 _ rfl;obtain⟨_,g1,d1⟩:=E1.e.sh 1 _ rfl;obtain⟨ta,tv,g2,z2,e2,h2⟩:=E1.e.ow 2 _ rfl;cases d0;cases d1
 have EA:zv (λb=>∃u,H1 b=some u/\∀xs,u≠.tup xs) H1 (λb=>∃u,H1 b=some u/\∀xs,u≠.tup xs) [.sh (.raw xa),.sh (.int n),.sh (.raw ta),.no,.no,.no,.no,.no,.no] σ1 H1:=by
  have no:∀{i x},slot (aL 6 Sl.no) i=x->x=.no:=λ{i x} e=>e.symm.trans (vJ 6 i);refine⟨⟨λi d e=>?_,λi d e=>?_,λi o c ns d e=>?_,λi j d d' l e=>?_,⟨λb h=>h,E1.e.zd.i⟩,E1.e.len⟩,λb h=>h,⟨λb h=>h,E1.e.zd.i⟩,Sm.refl _,λi d l e=>?_,λi o c ns d e=>?_⟩ <;> rcases i with _|_|_|i <;> first|(cases e;done)|(cases no e;done)|skip
  ·cases e;exact⟨_,g0,.raw _⟩
  ·cases e;exact⟨_,g1,.int _⟩
  ·cases e;exact⟨_,g2,.raw _⟩
 refine kT EA [.sh (.raw xa),.sh (.int n),.sh (.raw ta),.sh (.lst (tD n tU)),.no,.no,.no,.no,.no] ?_ λZ2 σ2 H2 E2 s2=>?_
 ·refine⟨by exact zb,by exact yj,?_⟩;rw[tn];refine zo.rng0 (λr=>rD n (tU r)) zA (λr hr=>⟨by exact zb,by exact yj,?_⟩) rfl;rw[tn];exact zo.rng0 (λc=>.int (tU r c)) zA (λc hc=>Ua) rfl
 obtain⟨_,f0,d0⟩:=E2.e.sh 0 _ rfl;obtain⟨_,f1,d1⟩:=E2.e.sh 1 _ rfl;obtain⟨_,f2,d2⟩:=E2.e.sh 2 _ rfl;obtain⟨_,f3,d3⟩:=E2.e.sh 3 _ rfl;cases d0;cases d1;cases d2;obtain⟨l,lv,rfl,el,hl⟩:=d3.lst_inv;rw[zQs]at hl;obtain⟨as,rfl,pa⟩:=zJk hl
 have new:∀{b xs},zG Z2 H2 b=some (.lst xs)->H1 b=none:=λ{b xs} e=>by
  cases k:H1 b with
  |none=>rfl
  |some u=>exact absurd (E2.z0 b ⟨u,k,λys z=>by rw[z]at k;have:=(s2.at k).symm.trans (vP e).2;cases this⟩) (vP e).1
 have ga:∀{p a},as[p]? =some a->p<n/\zG Z2 H2 a=some (.lst ((rI n tU p).map V.int)):=λ{p a} h=>by
  obtain⟨r,hr,e⟩:=Qz pa h;unfold xH at hr;rw[aV]at hr;cases k:(aI n)[p]? with
  |none=>rw[k]at hr;cases hr
  |some p'=>
   rw[k]at hr;cases hr;obtain⟨k1,k2⟩:=aN.mp k;rw[dP]at k2;rw[aM]at k1;subst k2;exact⟨k1,e⟩
 have las:as.length=n:=(Paired.length pa).trans (JE ..)
 have R3:Rw (λb=>Z1 b\/(b=l\/b∈as)) H l as (rI n tU) σ2 H2:=by
  refine⟨s1.free (new el),.inr (.inl rfl),(vP el).2,λp a h=>⟨s1.free (new (ga h).2),.inr (.inr (bH h)),λz=>?_,(vP (ga h).2).2⟩,λp q a h k=>?_,λm h=>?_⟩
  ·have e:=(ga h).2;rw[z,el]at e;have e:=congrArg (·[0]?) (HO.lst.inj (Option.some.inj e));rw[aV,aV]at e;unfold rI at e;rw[aV,bY uJ,aE zz]at e;cases e
  ·obtain⟨p1,e⟩:=ga h;rw[(ga k).2]at e;have e:=congrArg (·[p]?) (HO.lst.inj (Option.some.inj e));unfold rI tU at e;rw[aV,aV,aV,aV,bY p1]at e;by_cases c:q=p
   ·exact c.symm
   ·have e:V.int (if q=p then 1 else 0)=V.int (if p=p then 1 else 0):=Option.some.inj e;rw[if_neg c,if_pos rfl]at e;cases e
  ·rw[f2]at h;cases h;refine⟨λz=>?_,λp h=>?_⟩
   ·have:=new el;rw[<- z,e2]at this;cases this
   ·have:=new (ga h).2;rw[e2]at this;cases this
 have E3:zv Z H (λb=>Z1 b\/(b=l\/b∈as)) (gT xa n (tD n tU) l .no .no .no .no) σ2 H2:=by
  refine(E1.set (.raw l) 3).carry s2 (λb hb=>?_) (λi v h e=>?_) (by rw[bS];exact E2.e.len.symm.trans E1.e.len)
  ·rcases hb with rfl|hb
   ·exact⟨new el,_,(vP el).2⟩
   ·obtain⟨p,hp,rfl⟩:=cz.mp hb;have:=(ga (aE hp)).2;exact⟨new this,_,(vP this).2⟩
  ·rcases i with _|_|_|_|i
   ·exact f0.trans ((g0.symm.trans (bv (by decide)).symm).trans e)
   ·exact f1.trans ((g1.symm.trans (bv (by decide)).symm).trans e)
   ·exact f2.trans ((g2.symm.trans (bv (by decide)).symm).trans e)
   ·rw[cD (by rw[<- E1.e.len];exact bJ rfl)]at e;exact f3.trans e
   ·exact absurd (vJ 5 i) h
 clear E0 E1 EA E2 pa
 refine⟨_,f0,xa,rfl,⟨_,zW.of ((s1.trans s2).at exa)⟩,zID (K:=E.K) (a:=xa) (xs:=xs.map V.int)
  (λk σ H'=>Sm H H'/\∃Zc t b,zv Z H Zc (gT xa n (tD n t) l .no .no .no .no) σ H'/\Rw Zc H l as (rI n b) σ H'/\ui n t b/\ui n b t/\∀r c,r<n->c<n->Bd (1+4*k) (t r c)/\Bd (1+4*k) (b r c))
  ⟨s1.trans s2,_,tU,tU,E3,R3,zIA n,zIA n,λr c _ _=>?b0⟩ (λk σ H' _ h=>zW.of (h.1.at exa)) ?_ ?_⟩
 case b0=>
  have:Bd 1 (tU r c):=by
   unfold tU;by_cases e:r=c
   ·rw[if_pos e];exact Bd.lit
   ·rw[if_neg e];exact Bd.lit
  exact⟨this,this⟩
 ·rintro k x σ3 H3 hk ⟨s3,Zc,t,b,E3,R3,I1,I2,BD⟩;obtain⟨z,hz,rfl⟩:=zM2 hk;have k4:k<xs.length:=(aN.mp hz).1;have nz:(n:Int)≠0:=by exact uK
  have i0:=dO z (show(0:Int)<(n:Int)by exact xR);have i1:=eO z (show(0:Int)<(n:Int)by exact xR);have j0:=dO (z.fmod (n:Int)+1) (show(0:Int)<(n:Int)by exact xR);have j1:=eO (z.fmod (n:Int)+1) (show(0:Int)<(n:Int)by exact xR);have y0:=dO (z.fdiv 6) (show(0:Int)<5 by decide);have y1:=eO (z.fdiv 6) (show(0:Int)<5 by decide);obtain⟨Zb,Hb,Eb,back⟩:=zOq (E3.set (.int z) 4) (R3.st (bv (by decide))) rfl Uc Ud;refine kT Eb (gT xa n (tD n t) l (.sh (.int z)) (.sh (.int (z.fmod n))) .no .no) ⟨nz,rfl⟩ λ_ _ _ E5 _=>?_;refine kT E5 (gT xa n (tD n t) l (.sh (.int z)) (.sh (.int (z.fmod n))) (.sh (.int ((z.fmod n+1).fmod n))) .no) ⟨nz,rfl⟩ λ_ _ _ E6 _=>?_;refine kT E6 (gT xa n (tD n t) l (.sh (.int z)) (.sh (.int (z.fmod n))) (.sh (.int ((z.fmod n+1).fmod n))) (.sh (.int ((z.fdiv 6).fmod 5-2)))) ⟨by decide,(Bd.lit:Bd 10 (6:Int)).mono,by decide,rfl⟩ λ_ _ _ E7 _=>?_;clear Eb E5 E6;generalize(z.fmod (n:Int)+1).fmod (n:Int)=jv at j0 j1 E7;generalize z.fmod (n:Int)=iv at i0 i1 E7;generalize hy:(z.fdiv 6).fmod 5-2=y at E7
  have bby:Bd 2 y:=by show y.natAbs<2^2;omega
  obtain⟨i,rfl⟩:=b9 i0;obtain⟨j,rfl⟩:=b9 j0;have hi:i<n:=by omega
  have hj:j<n:=by omega
  refine⟨_,_,λc=>c=false->i≠j,E7.e,⟨λ_ h=>(nomatch h),λc=>⟨by decide,(Bd.lit:Bd 10 (42:Int)).mono,by decide,λ_ e=>of_decide_eq_false c (by rw[e])⟩⟩,λc H8 hc s8=>?_⟩;have ln:(rI n b i).length=n:=by unfold rI;rw[aB,aM]
  cases c with
  |true=>
   refine kT (E7.mv s8) (gT xa n (tD n (xk i t)) l (.sh (.int z)) (.sh (.int (i:Int))) (.sh (.int (j:Int))) (.sh (.int y))) ?_ λZ9 σ9 H9 E9 _=>?_
   ·refine⟨_,Zw hi,zo.map (λd=>.int (0-zw d)) (by rw[aB,aM];exact zA) (λd m=>?_) ⟨_,i,rfl,Yo (by unfold tD;rw[aB,aM];exact hi),?_⟩⟩
    ·obtain⟨c,_,rfl⟩:=aG.mp m;rfl
    ·rw[aQ];show gT xa n ((tD n t).set i _) l _ _ _ _=_;rw[show(tD n t).set i _=tD n (xk i t)from QG (by rw[show xk i t i=λc=>0-t i c from funext λc=>if_pos rfl];rfl) λk nk=>congrArg (rD n) (funext λc=>if_neg nk)]
   obtain⟨Ea,Ra⟩:=back _ _ _ _ _ rfl E9;refine zJV Ea Ra (rf':=rI n (xy i b)) rfl (bJ rfl) zSS zST (λp hp=>⟨0-b p i,i,i,⟨_,(zFg (by unfold rI;exact Zw hi)),rfl⟩,rfl,Yo (by unfold rI;rw[aB,aM];exact hi),?_⟩) λσ' H' E' R'=>⟨E'.same,_,xk i t,xy i b,E'.weak rfl zSR,R',zPb I1 hi,zM0 I2,λr c hr hc=>?_⟩
   ·exact(QG (f:=b p) (g:=xy i b p) (if_pos rfl).symm λk nk=>if_neg nk).symm
   obtain⟨p1,p2⟩:=BD r c hr hc;obtain⟨q1,_⟩:=BD i c hi hc;obtain⟨_,q2⟩:=BD r i hr hi;constructor
   ·unfold xk;by_cases e:r=i
    ·rw[if_pos e,ix];exact q1.neg.mono (by omega)
    ·rw[if_neg e];exact p1.mono (by omega)
   ·unfold xy;by_cases e:c=i
    ·rw[if_pos e,ix];exact q2.neg.mono (by omega)
    ·rw[if_neg e];exact p2.mono (by omega)
  |false=>
   have ne:=hc rfl;refine kT (E7.mv s8) (gT xa n (tD n (xx i j y t)) l (.sh (.int z)) (.sh (.int (i:Int))) (.sh (.int (j:Int))) (.sh (.int y))) ?_ λZ9 σ9 H9 E9 _=>?_
   ·refine⟨_,Zw hi,_,Zw hj,?_⟩;show zo (b_ yr ((aI n).map λc=>D.int (t i c)) ((aI n).map λc=>D.int (t j c))) _ _;rw[zNc];refine zo.map (λd=>match d with| .tup [.int u,.int w]=>.int (u+y*w)|d=>d) (by rw[aB,aM];exact zA) (λd m=>?_) ⟨_,i,rfl,Yo (by unfold tD;rw[aB,aM];exact hi),?_⟩
    ·obtain⟨c,hc,rfl⟩:=aG.mp m;exact⟨bby.mono,(BD j c hj (bj.mp hc)).1.mono (by omega),rfl⟩
    ·rw[aQ];show gT xa n ((tD n t).set i _) l _ _ _ _=_;rw[show(tD n t).set i _=tD n (xx i j y t)from QG (by rw[show xx i j y t i=λc=>t i c+y*t j c from funext λc=>if_pos rfl];rfl) λk nk=>congrArg (rD n) (funext λc=>if_neg nk)]
   obtain⟨Ea,Ra⟩:=back _ _ _ _ _ rfl E9;refine zJV Ea Ra (rf':=rI n (xG i j y b)) rfl (bJ rfl) zSS zST (λp hp=>⟨b p j-y*b p i,j,j,⟨_,(zFg (by unfold rI;exact Zw hj)),⟨_,(zFg (by unfold rI;exact Zw hi)),bby.mono,(BD p i j2 hi).2.mono (by omega),rfl⟩⟩,rfl,Yo (by unfold rI;rw[aB,aM];exact hj),?_⟩) λσ' H' E' R'=>⟨E'.same,_,xx i j y t,xG i j y b,E'.weak rfl zSR,R',zPc I1 hi hj ne,zM1 I2 hi hj ne,λr c hr hc=>?_⟩
   ·exact(QG (f:=b p) (g:=xG i j y b p) (if_pos rfl).symm λk nk=>if_neg nk).symm
   obtain⟨p1,p2⟩:=BD r c hr hc;obtain⟨q1,_⟩:=BD i c hi hc;obtain⟨q3,_⟩:=BD j c hj hc;obtain⟨_,q2⟩:=BD r j hr hj;obtain⟨_,q4⟩:=BD r i hr hi;constructor
   ·unfold xx;by_cases e:r=i
    ·rw[if_pos e];exact((q1.mono (show _<=2+(1+4*k)by exact fG _ _)).add (bby.mul q3)).mono (by omega)
    ·rw[if_neg e];exact p1.mono (by omega)
   ·unfold xG;by_cases e:c=j
    ·rw[if_pos e];exact((q2.mono (show _<=2+(1+4*k)by exact fG _ _)).sub (bby.mul q4)).mono (by omega)
    ·rw[if_neg e];exact p2.mono (by omega)
 rintro σ9 H9 ⟨s9,Zc,t,b,E9,R9,I1,I2,BD⟩;rw[aB]at BD;obtain⟨ta,tv,g2,zt,et,ht⟩:=E9.e.ow 2 _ rfl;obtain⟨_,g3,d3⟩:=E9.e.sh 3 _ rfl;cases d3;refine⟨_,g2,_,g3,(by show 2<=sizeLine;decide),λtt htt=>?_⟩;have sn:=xJ htt (HO.tup [V.ref ta,V.ref l]);have nz:∀{a},H a=none->¬Z a:=λh=>zd.new h;refine q _ _ _ (q0 (xH n t) (xH n b) ⟨JE _ _,λr hr=>zHV hr,JE _ _,λr hr=>zHV hr,zIB I1,zIB I2⟩ (zJa (λr c hr hc=>(BD r c hr hc).1) (by omega)) (zJa (λr c hr hc=>(BD r c hr hc).2) (by omega))) (s9.trans sn) (.tup (wb (nz (s9.free htt)) xS) (.cons (.lst (wb (nz (E9.own 2 _ ta rfl g2)) (sn.at et)) ?_) (.cons (.lst (wb (nz R9.l0) (sn.at R9.le)) ?_) .nil)))
 ·rw[<- zQs];exact yq ((kG E9.z0).trans (yL sn)) ht
 ·refine zJl (by rw[las,JE]) λp a h=>?_;obtain⟨a0,_,_,e⟩:=R9.a0 p a h;have hp:p<n:=by rw[<- las];exact(aN.mp h).1
  refine⟨_,by unfold xH;rw[aV,bY hp];rfl,wb (nz a0) (sn.at e)⟩
noncomputable abbrev Ue(A:Nat->Addr):List Ct:=⟨0,"_law_tables",0,zR 118,zSZ,0⟩::jc A
section
variable{E:Ev xF xM xN}
theorem zI6:Gx E (Ue E.A) 0:=zOg rfl
end
end K98
namespace K98
open PySem L2 Sh Pu Vg
variable[Tbl]
theorem zOK(i j:Nat):(if decide ((j:Int)=(i:Int))=true then(1:Int) else 0)=if(j:Int)=(i:Int) then 1 else 0:=by grind
theorem Uf(h:a.length=n):zm ((a++c++[e]).map D.int) none (some ((n:Nat):Int))=a.map D.int:=by
 unfold zm;have e0:HT.sIx ((a++c++[e]).map D.int).length 0 none=0:=HT.sIx_none _ _;have e1:HT.sIx ((a++c++[e]).map D.int).length ((a++c++[e]).map D.int).length (some ((n:Nat):Int))=n:=by rw[HT.sIx_nat,aB,aF,aF];omega
 grind
theorem cutC(h:a.length=n):zm ((a++c++[e]).map D.int) (some ((n:Nat):Int)) (some (-1))=c.map D.int:=by
 unfold zm;have l:((a++c++[e]).map D.int).length=n+c.length+1:=by rw[aB,aF,aF,h];rfl
 have e0:HT.sIx ((a++c++[e]).map D.int).length 0 (some ((n:Nat):Int))=n:=by rw[HT.sIx_nat,l];omega
 have e1:HT.sIx ((a++c++[e]).map D.int).length ((a++c++[e]).map D.int).length (some (-1))=n+c.length:=by rw[l];show(if(-1:Int)<0 then((-1:Int)+((n+c.length+1:Nat):Int)).toNat else min (-1:Int).toNat (n+c.length+1))=_;rw[if_pos (by decide)];exact Z5
 grind
def qY(n:Nat)(rm:List (List Int)):Prop:=rm.length=2*n/\∀r∈rm,r.length=n+1/\∀x∈r,Bd 5 x
def Ug:FL:=λds R=>∃(n:Nat)(lo hi:Int),ds=[.int (n:Int),.int lo,.int hi]/\n<=2/\Bd 5 lo/\Bd 5 hi/\∀rm,qY n rm->R (Rm rm)
abbrev wy:=Int×List Int
noncomputable abbrev wG(s:wy):D:=.tup [.int s.1,L s.2]
def ShE(e:Nat)(s:wy):Prop:=Bd e s.1/\s.2.length<=100/\∀x∈s.2,Bd e x
abbrev Zx(s:wy):Prop:=ShE 5100 s
def Uh:FL:=λds R=>∃rows n t,ds=[Rm rows,U t]/\jw rows n/\1<=n/\n<=2/\t.length=n+1/\(∀x∈t,Bd 200 x)/\∀s,Zx s->R (wG s)
def Ui(C CM:Addr):FL:=λds R=>∃n bs ms rows a c e,ds=[yu C CM n bs ms,Rm rows,U (a++c++[e])]/\1<=n/\n<=2/\bs.length<=2/\(∀b∈bs,Bd 2 b.1/\Bd 2 b.2)/\jw rows n/\a.length=n/\c.length=bs.length/\(∀x∈a++c++[e],Bd 100 x)/\∀s,Zx s->R (wG s)
noncomputable abbrev uH(S:List wy):D:=.lst (S.map wG)
noncomputable abbrev uI(S:List (List wy)):D:=.lst (S.map uH)
noncomputable abbrev ZD(S:List (List (List wy))):D:=.lst (S.map uI)
def Z1(S:List wy):Prop:=S.length<=10/\∀s∈S,Zx s
def Y1(S:List wy):Prop:=S.length<=10/\∀s∈S,ShE 5200 s
theorem Z1.y(h:Z1 S):Y1 S:=⟨h.1,λs hs=>⟨(h.2 s hs).1.mono,(h.2 s hs).2.1,λx hx=>((h.2 s hs).2.2 x hx).mono⟩⟩
def Z2(S:List (List wy)):Prop:=S.length<=10/\∀s∈S,Z1 s
def Z3(S:List (List (List wy))):Prop:=S.length<=10/\∀s∈S,Z2 s
def Uj(C CM:Addr):FL:=λds R=>∃n bs ms rooms b,ds=[yu C CM n bs ms,uu rooms,.int b]/\TW n bs ms/\rooms.length<=2/\0<=b/\b<(rooms.length:Int)/\(∀rm∈rooms,qY n rm)/\∀S,Z3 S->R (ZD S)
def zSb:FL:=λds R=>∃d0 d1 S1 d3 S2 c,ds=[d0,d1,.lst (S1.map wG),d3,uI S2,.int c]/\Z1 S1/\Z2 S2/\∀S1' S2',Y1 S1'->Z2 S2'->R (.tup [d0,d1,uH S1',d3,uI S2'])
theorem ZE{α:Type}{f:α->D}{P:α->Prop}:∀{es:List D},(∀e∈es,∃s,e=f s/\P s)->∃ss:List α,es=ss.map f/\∀s∈ss,P s
 |[],_=>⟨[],rfl,λ_ h=>nomatch h⟩
 |e::es,h=>by
  obtain⟨ss,e1,h1⟩:=ZE λx hx=>h x (aK _ hx);obtain⟨s,rfl,hs⟩:=h e aR;exact⟨s::ss,by rw[e1];rfl,λx hx=>(a8.mp hx).elim (λz=>z▸hs) (h1 x)⟩
theorem qY.w(h:qY n rm)(n2:n<=2):jw rm n:=⟨by have:=h.1;omega,λr hr=>⟨(h.2 r hr).1,λx hx=>((h.2 r hr).2 x hx).mono⟩⟩
noncomputable abbrev jd(A:Nat->Addr):List Ct:=⟨0,"_law_steps",0,zR 122,Uj (A 1) (A 0),0⟩::⟨0,"_law_pushed",0,zR 120,Ui (A 1) (A 0),0⟩::⟨0,"_law_shares",0,zR 121,Uh,0⟩::⟨0,"_law_box",0,zR 119,Ug,0⟩::Ue A
section
variable{E:Ev xF xM xN}
theorem zQN:Gx E (jd E.A) 3:=vk 2 [0,3,3,0,0,1,0,4,0,1,3,7,1,4,1,0,9,0,0,1,2,1,3,7,1,4,1,0,9,0,0,1,1,20,3,3] rfl λds R h=>by
 obtain⟨n,lo,hi,rfl,n2,bl,bh,q⟩:=h;refine⟨k0,by exact zb,by exact yj,?_⟩;rw[show((n:Nat):Int).toNat=n by exact rfl];refine⟨λk Γ=>∃(rm:List (List Int))(s4:Sl),Γ=[.sh (.int (n:Int)),.sh (.int lo),.sh (.int hi),.ow (rm.map U),s4]/\rm.length=2*k/\∀r∈rm,r.length=n+1/\∀x∈r,Bd 5 x,⟨[],.no,rfl,rfl,λ_ h=>nomatch h⟩,?_,?_⟩
 ·rintro k d Γ' hk ⟨rm,s4,rfl,lr,hr⟩;obtain⟨kn,rfl⟩:=jm hk;have bu:∀x∈yH (k:Int) n 1,Bd 5 x:=zHE (yw (by decide));have lu:(yH (k:Int) n 1).length=n:=qj ..;refine⟨by exact zb,by exact yj,?_⟩;rw[show((n:Nat):Int).toNat=n by exact rfl];refine zo.rng0 (λj=>.int (if(j:Int)=(k:Int) then 1 else 0)) zA (λj hj=>by show D.int _=_;rw[zOK]) ?_;have eu:(aI n).map (λj:Nat=>D.int (if(j:Int)=(k:Int) then 1 else 0))=(yH (k:Int) n 1).map D.int:=by unfold yH;rw[aQ];rfl
  rw[eu];refine⟨k0,by rw[aB,lu];show _+1<=1000;exact y6,by rw[aB];omega,by exact zb,by exact yj,?_⟩;rw[show((n:Nat):Int).toNat=n by exact rfl];refine zo.rng0 (λj=>.int (0-if(j:Int)=(k:Int) then 1 else 0)) zA (λj hj=>by show D.int (0-_)=_;rw[zOK]) ?_;have ev:(aI n).map (λj:Nat=>D.int (0-if(j:Int)=(k:Int) then 1 else 0))=((yH (k:Int) n 1).map λx=>0-x).map D.int:=by unfold yH;rw[aQ,aQ];rfl
  rw[ev];refine⟨k0,by rw[aB,aB,lu];show _+1<=1000;exact y6,by rw[aF,aB];show _+1<1000;omega,?_⟩;refine⟨rm++[yH (k:Int) n 1++[hi],((yH (k:Int) n 1).map λx=>0-x)++[0-lo]],.sh (.int (k:Int)),?_,by rw[aF,lr];show _+2=_;exact rfl,λr h=>?_⟩
  ·rw[aS,bg,bg,i8,U,U,aS,aS,<- List.append_cons];rfl
  ·rcases be.mp h with h|h
   ·exact hr r h
   rcases a8.mp h with rfl|h
   ·exact⟨by rw[aF,lu];rfl,qX bu bh⟩
   ·rw[a6.mp h];refine⟨by rw[aF,aB,lu];rfl,qX (λx hx=>?_) (by rw[ix];exact bl.neg)⟩;obtain⟨y,hy,rfl⟩:=aG.mp hx;rw[ix];exact(bu y hy).neg
 ·rintro Γ' ⟨rm,s4,rfl,lr,hr⟩;rw[ul]at lr;exact q rm ⟨lr,hr⟩
theorem zI8:Gx E (jd E.A) 2:=vk 1 [0,0,2,73,8,0,1,0,0,0,1,2,0,0,0,0,2] rfl λds R h=>by
 obtain⟨rows,n,t,rfl,RW,n1,n2,lt,bt,q⟩:=h;have few:=RW.1;have ra:=J8 lt;refine⟨rows,n,t.take n,t.getD n 0,by rw[ra],RW,n1,n2,by rw[aZ];omega,λx hx=>bt x (bN hx),(bt _ (yJ yx)).mono,?_,λd ns bd ln bn=>wF rfl (q (d,ns) ⟨bd.mono,by show ns.length<=100;exact zg,λx hx=>(bn x hx).mono⟩)⟩;refine wT rfl ⟨k0,by exact zb,by rw[aB];exact yj,k0,?_⟩
 have e:D.tup [.int 1,.lst (aL (((rows.map U).length:Nat):Int).toNat (.int 0))]=wG (1,aL rows.length 0):=by unfold wG L;rw[aB,cJ,dm]
 have z:=q (1,aL rows.length 0) ⟨yw (by decide),by rw[bX];exact zA,λx hx=>by rw[(dr.mp hx).2];exact wK⟩;rw[<- e]at z;exact z
theorem zI9:Gx E (jd E.A) 1:=vk 6 [0,0,3,1,0,0,0,4,0,0,5,0,2,0,0,3,2,2,3,69,0,6,7,0,0,4,4,2,6,2,6,0,5,5,2,6,0,7,6,0,7,0,0,8,74,8,1,7,2,2,3,5,0,0,0,1,8,0,0,1,0,4,0,0,0,0,0,8,0,0,8,0,4,0,0,8,0,8,1,8,0,4,0,1,0] rfl λds R h=>by
 obtain⟨n,bs,ms,rows,a,c,x,rfl,n1,n2,b2,bb,RW,la,lc,bt,q⟩:=h;have few:=RW.1;have ba:∀y∈a,Bd 100 y:=λy h=>bt y (cQ _ (cQ _ h));have bc:∀y∈c,Bd 100 y:=λy h=>bt y (cQ _ (aU _ h));have bx:Bd 100 x:=bt x (aU _ (a6.mpr rfl));refine⟨rfl,_,rfl,k0,_,Wr (a++c) x,rfl,by decide+kernel,n,bs,ms,rfl,?_⟩;rw[cutC la];refine⟨λk Γ=>∃(ys:List Int)(z:Int)(s6 s7:Sl),Γ=[.sh (yu (E.A 1) (E.A 0) n bs ms),.sh (Rm rows),.sh (U (a++c++[x])),.sh (.int (n:Int)),.sh (L ys),.sh (.int z),s6,s7,.no]/\ys.length=2*k/\(∀y∈ys,Bd 101 y)/\Bd (104+k) z,⟨[],x,.no,.no,rfl,rfl,(λ_ h=>nomatch h),bx.mono⟩,?_,?_⟩
 ·rintro k d Γ' hk ⟨ys,z,s6,s7,rfl,ly,by_,bz⟩;obtain⟨y,b,hy,hb,rfl⟩:=zwq (u:=D.int) (v:=zn) hk;have kl:=(aN.mp hb).1;have y1:=bc y (bH hy);obtain⟨b1,b2'⟩:=bb b (bH hb);have m1:Bd 101 (max 0 y):=y1.of_le (by omega) |>.mono
  have m2:Bd 101 (max 0 (0-y)):=y1.of_le (by omega) |>.mono
  refine⟨k0,by rw[aB];show _+2<=1000;omega,_,rfl,y1.mono,b1.mono,_,rfl,y1.mono,b2'.mono,?_⟩;have p1:=y1.mul b1;have p2:=y1.mul b2';have p3:Bd 102 (max (y*b.1) (y*b.2)):=by rcases Int.le_total (y*b.1) (y*b.2)with h|h;exact(by rw[Int.max_eq_right h];exact p2);exact(by rw[Int.max_eq_left h];exact p1)
  refine⟨ys++[max 0 y,max 0 (0-y)],z-max (y*b.1) (y*b.2),.sh (.int y),.sh (zn b),by unfold L;rw[aS];rfl,by rw[aF,ly];show _+2=_;exact rfl,λw hw=>?_,(bz.sub (p3.mono (by omega))).mono (aJ _)⟩;grind
 ·rintro Γ' ⟨ys,z,s6,s7,rfl,ly,by_,bz⟩;rw[eA,aB,aB,lc,lh]at ly bz;refine⟨k0,by rw[Uf la,aB];show _+1<=1000;exact vV,?_⟩;rw[Uf la];refine⟨rows,n,a,z,by rw[show U (a++[z])=.tup (a.map D.int++[.int z])by unfold U;rw[aS];rfl],RW,n1,n2,la,λy h=>(ba y h).mono,bz.mono gG,?_,λd ns bd ln bn=>?_⟩
  ·refine wT rfl ⟨k0,by exact zb,by rw[aB,aB];omega,k0,?_⟩
   have e:D.tup [.int 1,.lst (aL ((((rows.map U).length:Nat):Int)+(((ys.map D.int).length:Nat):Int)).toNat (.int 0))]=wG (1,aL (rows.length+ys.length) 0):=by unfold wG L;rw[aB,aB,show(((rows.length:Nat):Int)+((ys.length:Nat):Int)).toNat=rows.length+ys.length by exact rfl,dm]
   have z:=q (1,aL (rows.length+ys.length) 0) ⟨yw (by decide),by rw[bX];omega,λx hx=>by rw[(dr.mp hx).2];exact wK⟩;rw[<- e]at z;exact z
  ·refine wF rfl ⟨_,rfl,w2 (λc1=>?_) λc1=>?_⟩
   ·refine⟨_,rfl,k0,by exact zb,by rw[aB];omega,by rw[aB,bX,aB];omega,k0,?_⟩
    have e:D.tup [.int 0,.lst (ns.map D.int++aL (((ys.map D.int).length:Nat):Int).toNat (.int 0))]=wG (0,ns++aL ys.length 0):=by unfold wG L;rw[aB,cJ,aS,dm]
    have z:=q (0,ns++aL ys.length 0) ⟨wK,by rw[aF,bX];omega,λx hx=>(be.mp hx).elim (λh=>(bn x h).mono) λh=>by rw[(dr.mp h).2];exact wK⟩;rw[<- e]at z;exact z
   ·refine⟨_,rfl,_,rfl,?_⟩;refine zo.int (λy=>d*y) (by omega) (λy hy=>⟨_,rfl,bd.mono,(by_ y hy).mono,rfl⟩) ⟨by rw[aB,aB,aB];omega,k0,?_⟩
    have z:=q (d,ns++ys.map λy=>d*y) ⟨bd.mono,by rw[aF,aB];omega,λx hx=>(be.mp hx).elim (λh=>(bn x h).mono) λh=>by obtain⟨y,hy,rfl⟩:=aG.mp h;exact(bd.mul (by_ y hy)).mono⟩
    unfold wG L at z;rw[aS]at z;exact z
theorem zLd:Gx E (jd E.A) 0:=vk 6 [0,3,3,0,0,1,0,1,4,0,0,5,0,1,0,1,2,4,0,3,6,0,0,0,69,0,7,0,0,8,0,1,4,0,7,1,6,3,0,7,8,0,5,60,1,3,124,1,2,0,21,6,3,6,20,3,3] rfl λds R h=>by
 obtain⟨n,bs,ms,rooms,b,rfl,T,r2,b0,bl,hR,q⟩:=h;have lr:(rooms.map Rm).length=rooms.length:=aB ..;have n2:=T.n2;have b2:=T.b2;have m2:=T.m2;refine⟨k0,by exact zb,by omega,?_⟩;rw[show((((rooms.map Rm).length:Nat)):Int).toNat=rooms.length by omega];refine⟨λk Γ=>∃(S:List (List (List wy)))(s4 s5 s6 s7 s8:Sl),Γ=[.sh (yu (E.A 1) (E.A 0) n bs ms),.sh (uu rooms),.sh (.int b),.ow (S.map uI),s4,s5,s6,s7,s8]/\S.length=k/\∀s∈S,Z2 s,⟨[],.no,.no,.no,.no,.no,rfl,rfl,λ_ h=>nomatch h⟩,?_,?_⟩
 ·rintro k d Γ' hk ⟨S,s4,s5,s6,s7,s8,rfl,lS,hS⟩;obtain⟨kn,rfl⟩:=jm hk;have hA:∀rm∈rooms++[rooms.getD b.toNat []],qY n rm:=qX hR (hR _ (k7 (by omega)));have kA:k+1<(rooms++[rooms.getD b.toNat []]).length:=by rw[aF];show _<_+1;exact u0
  refine⟨_,kz b0 bl,k0,by rw[lr];show _+1<=1000;exact y6,Rm ((rooms++[rooms.getD b.toNat []]).getD (k+1) []),by rw[zMq Rm,show((k:Nat):Int)+1=((k+1:Nat):Int)by exact rfl];exact yt [] kA,k0,rfl,by decide+kernel,n,bs,ms,rfl,?_⟩;obtain⟨lA,rA⟩:=hA _ (k7 kA);generalize(rooms++[rooms.getD b.toNat []]).getD (k+1) []=aft at lA rA;have hr:=hR _ (k7 kn);refine⟨λj Γ=>∃(Q:List (List wy))(s7 s8:Sl),Γ=[.sh (yu (E.A 1) (E.A 0) n bs ms),.sh (uu rooms),.sh (.int b),.ow (S.map uI),.sh (.int (k:Int)),.sh (Rm aft),.ow (Q.map uH),s7,s8]/\Q.length=j/\∀s∈Q,Z1 s,⟨[],_,_,rfl,rfl,λ_ h=>nomatch h⟩,?_,?_⟩
  ·rintro j d Γ' hj ⟨Q,s7,s8,rfl,lQ,hQ⟩;obtain⟨m,hg,rfl⟩:=QF hj;have jl:=(aN.mp hg).1;obtain⟨mo,me,_,m1⟩:=T.md m (bH hg);refine⟨_,yt [] kn,rfl,_,rfl,by rw[aB,aB,hr.1];omega,?_⟩;rw[<- aS];have RW:jw (rooms.getD k []++m.rows) n:=⟨by rw[aF,hr.1];omega,λr h=>(be.mp h).elim (λh=>⟨(hr.2 r h).1,λx hx=>((hr.2 r h).2 x hx).mono⟩) λh=>⟨mo.rows r h,λx hx=>(me.rows r h x hx).mono⟩⟩
   refine zo.all (λe=>∃s,e=wG s/\Zx s) (by rw[aB];omega) (λd hd=>?_) λes le he=>?_
   ·obtain⟨r,hr',rfl⟩:=aG.mp hd;obtain⟨l1,b1⟩:=rA r hr';refine⟨n,bs,ms,m,r,rfl,by exact yO,by exact zA,mo,(me.ms (by decide)).mbd,l1,λx hx=>(b1 x hx).mono,?_⟩;refine⟨n,bs,ms,_,(aI n).map (zH (r.take n) m.nexts),(aI bs.length).map (zH (r.take n) m.push),m.div*r.getD n 0-zD (r.take n) m.add,rfl,T.n1,n2,b2,λb hb=>(T.bb b hb).2,RW,by rw[aB,aM],by rw[aB,aM],?_,λs hs=>⟨s,rfl,hs⟩⟩;have bt:∀x∈r.take n,Bd 5 x:=λx hx=>b1 x (bN hx);have lt:(r.take n).length=n:=by rw[aZ];omega
    refine qX (λx hx=>?_) ?_
    ·rcases be.mp hx with h|h
     ·obtain⟨i,_,rfl⟩:=aG.mp h;exact(km bt me.nexts).mono (by omega)
     ·obtain⟨i,_,rfl⟩:=aG.mp h;exact(km bt me.push).mono (by omega)
    ·exact(((me.div.mul (b1 _ (yJ yx))).mono (show _<=50 by decide)).sub ((Zl bt me.add).mono (by omega))).mono
   ·obtain⟨ss,rfl,hs⟩:=ZE he;rw[aB,aB,lA]at le;refine⟨by rw[aB];omega,Q++[ss],_,_,by rw[aS (f:=uH)];rfl,by rw[aF,lQ];rfl,qX hQ ⟨by omega,hs⟩⟩
  ·rintro Γ' ⟨Q,s7,s8,rfl,lQ,hQ⟩;rw[aB]at lQ;exact⟨by rw[aB];omega,S++[Q],_,_,_,_,_,by rw[aS (f:=uI)];rfl,by rw[aF,lS];rfl,qX hS ⟨by exact zg,hQ⟩⟩
 ·rintro Γ' ⟨S,s4,s5,s6,s7,s8,rfl,lS,hS⟩;rw[ul]at lS;exact q S ⟨by exact zg,hS⟩
end
end K98
namespace K98
open PySem L2 Sh Pu Vg
variable[Tbl]
theorem zRT(s):(wG s).pl 49=true:=by show(true&&((s.2.map D.int).all (D.pl 47)&&true))=true;rw[Kj 46];rfl
theorem zRU(S):(uH S).pl 50=true:=aT.mpr λd h=>by obtain⟨s,_,rfl⟩:=aG.mp h;exact zRT s
theorem Y1.put(h:Y1 S)(hs:ShE 5200 s)(i):Y1 (S.set i s):=⟨by rw[bS];exact h.1,λx hx=>(eg hx).elim (h.2 x) λe=>e▸hs⟩
noncomputable def swD(d:D):wy:=match d with
 | .tup [x,y]=>(zw x,zp y)
 |_=>(0,[])
theorem zQu(s):swD (wG s)=s:=by show(s.1,zp (L s.2))=s;rw[qQ]
section
variable{E:Ev xF xM xN}
noncomputable abbrev QH:Stmt:=zR 123
end
section
variable{P:Program}{w:World}{K:aH}{mg:Str->Option Value}{base:Heap}
theorem uz:wH ["_law_paper_parts","_law_cell","_law_rooms","_law_back","_law_starts","_law_steps_here","_law_stays","_law_at","_law_often","_law_numbers"] ["_law_paper_parts","_law_cell"] (zX QH):=.a
theorem zGu(F:wO K "_law_spoilt" "_law_spoilt" QH f fd)(B:Bl mg):zS P w K mg base yN (k+1) f fd ["_law_paper_parts","_law_cell"] (Jl (zSb)):=by
 refine okM F uz rfl _ rfl λcdv A outer s H E hr=>⟨_,(uP (gR (ji 0) (zN0 rfl (gO (jg (i:=2) uz.nd rfl (Or.inl rfl)) (gO (jg (i:=3) uz.nd rfl (Or.inl rfl)) (gO (jg (i:=4) uz.nd rfl (Or.inl rfl)) (gO (jg (i:=5) uz.nd rfl (Or.inl rfl)) (gO (jg (i:=6) uz.nd rfl (Or.inl rfl)) zKC)))))))
  (qJ (Ze (zJv 4 (PW.pt (zJp (Kn hr.units (vH (zK 1) yM) yM) (zHj (Ko hr.units (zK 4) (zNv yW)))))) (wJ (vQ 7 uz.nd (vH (uY (zK 1) yM) (zGo 4 rfl B.len_)))
   (wJ (K0 (K1 4 (zK 7) (λ_ _=>rfl)) (Xn rfl (jM 8 uz.nd (jM 9 uz.nd Xm))))
   (qK (wU (gR (Xb (zQ (zK 8) (zQ (jo (own:=["_law_number"]) (caps:=[(1,"_law_cell")]) (uo uz) rfl rfl vn (uB (zK 9)) (λ_ _ _ _=>(uC 0 (vR ["_law_number","_law_cell"]))) (λ_ _ _ _=>(ZW (XQ (zK 0) (vH (uY (zK 1) yM) yM)) yM))) yW))) (Uq (ji 4) (zK 7) Yt)) zNm)))) ZZ)
  (qJ (Ze (Kn hr.units (vH (zK 1) yM) yM) (qK (Za 6 false uz.nd rfl rfl (own:=["_law_one"]) (caps:=[]) (uo uz) rfl rfl vn (uB (zK 6)) (λ_ _ _ _=>(uC 0 (vR ["_law_one"]))) (λ_ _ _ _=>(jo (own:=["_law_often","_law_numbers"]) (caps:=[]) bki rfl rfl (zFy (pn1 (pn1 pn0))) (uB (zK 0)) (λ_ _ _ _=>(Xn rfl (jM 0 (vR ["_law_often","_law_numbers"]) (jM 1 (vR ["_law_often","_law_numbers"]) Xm)))) (λ_ _ _ _=>(Xb (zQ (zK 0) (zQ (zNu (zK 1)) yW)))))) rfl)) ZZ)
  (qK (Kz 4 (Zd (Xb (zQ (zK 2) (zQ (zK 3) (zQ (zK 4) (zQ (zK 5) (zQ (zK 6) yW)))))))))))),λd0 d1 ds d3 d4 c R h=>?_⟩
 obtain⟨d0',d1',S1,d3',S2,c',e,z1,z2,q⟩:=h;cases e;refine⟨λΓ=>∃(S:List wy)(s7 s8 s9:Sl),Γ=[.no,.sh (.int c),.sh d0,.sh d1,.ow (S.map wG),.sh d3,.sh (uI S2),s7,s8,s9]/\Y1 S,⟨by decide,w2 (λc1=>⟨k0,zRU S1,rfl,w2 (λc2=>?_) λc2=>⟨S1,.no,.no,.no,rfl,z1.y⟩⟩) λc1=>wF rfl ⟨S1,.no,.no,.no,rfl,z1.y⟩⟩,?_⟩
 ·have s0:0<S1.length:=by
   cases S1 with
   |nil=>simp[D.py,wP,cE,c9]at c2
   |cons _ _=>exact Nat.succ_pos _
  have l10:=z1.1;have m0:=md (c.fdiv 4) (show(0:Int)<(S1.length:Int)by exact xR);obtain⟨i,hi⟩:=b9 m0.1;rw[hi]at m0;have il:i<S1.length:=by omega
  have lm:(S1.map wG).length=S1.length:=aB ..;refine⟨by decide,(Bd.lit (i:=4) (n:=3)).mono,by rw[lm];exact uK,?_⟩;rw[lm,hi];obtain⟨b1,l1,bn⟩:=z1.2 _ (yJ (d:=(0,[])) il);have m3:=md (c.fdiv 16) (show(0:Int)<3 by decide);have b3:Bd 2 ((c.fdiv 16).fmod 3):=UX Bd.lit (by decide);refine⟨_,yt (0,[]) il,?_⟩;generalize S1.getD i (0,[])=s at b1 l1 bn;refine zo.int (λy=>y+(c.fdiv 16).fmod 3-1) zA (λy hy=>⟨by decide,(Bd.lit (i:=16) (n:=5)).mono,by decide,rfl⟩) ⟨k0,_,i,rfl,by rw[lm];exact Yo il,S1.set i (s.1,s.2.map λy=>y+(c.fdiv 16).fmod 3-1),_,_,_,by rw[lg];rfl,z1.y.put (s:=(s.1,s.2.map λy=>y+(c.fdiv 16).fmod 3-1)) ⟨b1.mono,by show(s.2.map _).length<=100;rw[aB];exact l1,λx hx=>?_⟩ i⟩;obtain⟨y,hy,rfl⟩:=aG.mp hx;exact((((bn y hy).mono (show 5100<=5101 by decide)).add b3.mono).sub (yw (by decide))).mono
 ·rintro Γ' ⟨S,s7,s8,s9,rfl,z⟩;refine⟨λΓ=>∃(U2:List (List wy)),Γ=[.no,.sh (.int c),.sh d0,.sh d1,.ow (S.map wG),.sh d3,.sh (uI U2),s7,s8,s9]/\Z2 U2,⟨by decide,w2 (λc1=>?_) λc1=>⟨S2,rfl,z2⟩⟩,?_⟩
  ·have l2:=z2.1;refine zo.all (λe=>∃s,e=uH s/\Z1 s) (by rw[aB];exact zA) (λd hd=>?_) λes le he=>?_
   ·obtain⟨T,hT,rfl⟩:=aG.mp hd;have zT:=z2.2 T hT;have lT:=zT.1;refine xC wG swD zQu (λs=>wG (s.1,s.2.reverse)) zA (λs hs=>⟨k0,by unfold wG L;rw[List.map_reverse]⟩) ⟨T.map λs=>(s.1,s.2.reverse),by unfold uH;rw[aQ];rfl,by rw[aB];exact lT,λx hx=>?_⟩;obtain⟨y,hy,rfl⟩:=aG.mp hx;obtain⟨h1,h2,h3⟩:=zT.2 y hy;exact⟨h1,by rw[iH];exact h2,λx hx=>h3 x (List.mem_reverse.mp hx)⟩
   ·obtain⟨ss,rfl,hs⟩:=ZE he;rw[aB,aB]at le;exact⟨ss,rfl,by exact wz,hs⟩
  ·rintro Γ' ⟨U2,rfl,zU⟩;exact⟨k0,q S U2 z zU⟩
end
end K98
namespace K98
open PySem L2 Sh Pu Vg
variable[Tbl]
theorem QI:∀{ws:List Int}{pts:List (Int×Int)}{st:Int×Int}{M b:Nat},(∀w∈ws,Bd c w)->(∀p∈pts,Bd e p.1/\Bd f p.2)->Bd M st.1->Bd b st.2->c+e+b<=M->Bd (M+(f+1)*ws.length) ((ws.zip pts).foldl v9 st).1/\Bd (b+f*ws.length) ((ws.zip pts).foldl v9 st).2
 |[],_,st,M,b,_,_,h1,h2,_=>⟨h1.mono (by simp),h2.mono (by simp)⟩
 |_::_,[],st,M,b,_,_,h1,h2,_=>⟨h1.mono (bM _ _),h2.mono (bM _ _)⟩
 |w::ws,p::pts,st,M,b,hw,hp,h1,h2,h=>by
  obtain⟨p1,p2⟩:=hp p aR;have w1:=hw w aR;have z:=QI (ws:=ws) (pts:=pts) (st:=v9 st (w,p)) (M:=M+f+1) (b:=b+f) (λx hx=>hw x (aK _ hx)) (λx hx=>hp x (aK _ hx)) (((h1.mul p2).add (((w1.mul p1).mul h2).mono (by omega))).mono (aJ _)) (h2.mul p2) (by omega);have e1:(f+1)*(w::ws).length=(f+1)*ws.length+(f+1):=Nat.mul_succ ..;have e2:f*(w::ws).length=f*ws.length+f:=Nat.mul_succ ..;exact⟨z.1.mono (by omega),z.2.mono (by omega)⟩
def Pz(e n:Nat)(x:List (Int×Int)):Prop:=x.length=n/\∀p∈x,0<p.2/\Bd e p.1/\Bd e p.2
theorem Pz.b(h:Pz e n x)(n2:n<=2)(e9:e<=900):wW n x:=⟨h.1,n2,λp hp=>let ⟨a,b,c⟩:=h.2 p hp;⟨a,b.mono e9,c.mono e9⟩⟩
theorem Uk(n2:n<=2)(lT:T.length=n)(hT:∀r∈T,r.length=n/\∀y∈r,Bd 20 y)(h:Pz e n x):Pz (3*e+30) n (y9 T x):=⟨by unfold y9;rw[aB];exact lT,λp hp=>by
 obtain⟨r,hr,rfl⟩:=aG.mp hp;obtain⟨l,b⟩:=hT r hr;have pos:∀q∈x,0<q.2:=λq hq=>(h.2 q hq).1;refine⟨by rw[gC (by rw[l,h.1]) pos (by decide)];exact QE _,?_⟩;obtain⟨a1,a2⟩:=QI (M:=21+e) (b:=1) (st:=(0,1)) b (λq hq=>(h.2 q hq).2) wK (yw (by decide)) (by omega);have k:r.length=1\/r.length=2\/r.length=0:=by omega
 have c1:Bd (3*e+23) (z9 r x).1:=a1.mono (by rcases k with k|k|k <;> rw[k] <;> omega);have c2:Bd (2*e+1) (z9 r x).2:=a2.mono (by rcases k with k|k|k <;> rw[k] <;> omega);exact⟨jX ((c1.add ((Bd.mul (wK (e:=1)) c2).mono (by omega))).mono (by omega)),jY ((c2.mul (yw (n:=1) (by decide))).mono (by omega))⟩⟩
theorem zSz(n2:n<=2)(w2':w<=2)(mo:yf m n w)(me:vx 3 m)(h:Pz e n x)(e4:4<=e)(lu:us.length=w)(bu:∀u∈us,Bd 2 u):Pz (3*e+12) n (yF n m x (xg us)):=⟨by unfold yF;rw[aB,aM],λp hp=>by
 obtain⟨i,hi,rfl⟩:=aG.mp hp;have hi:=bj.mp hi;have k1:i<m.nexts.length:=by rw[mo.nexts.1];exact hi
 have k2:i<m.push.length:=by rw[mo.push.1];exact hi
 have l1:(m.nexts.getD i []).length=n:=mo.nexts.2 _ (ue k1);have l2:(m.push.getD i []).length=w:=mo.push.2 _ (ue k2)
 have hp1:∀q∈xg us,0<q.2/\Bd 2 q.1/\Bd 1 q.2:=λq hq=>by obtain⟨v,hv,rfl⟩:=aG.mp hq;exact⟨fH,bu v hv,yw (n:=1) (by decide)⟩
 have d1:0<m.div:=by have:=mo.div;exact‹_›
 refine⟨by rw[gC (by rw[aF,aF,l1,l2,aB,h.1,lu]) (λq hq=>(be.mp hq).elim (λz=>(h.2 q z).1) λz=>(hp1 q z).1) d1];exact QE _,?_⟩
 have ea:z9 (m.nexts.getD i []++m.push.getD i []) (x++xg us)=((m.push.getD i []).zip (xg us)).foldl v9 (z9 (m.nexts.getD i []) x):=by unfold z9;rw[l8 (by rw[l1,h.1]),e7]
 obtain⟨a1,a2⟩:=QI (M:=4+e) (b:=1) (st:=(0,1)) (me.nexts _ (ue k1)) (λq hq=>(h.2 q hq).2) wK (yw (by decide)) (by omega);have c1:Bd (3*e+6) (z9 (m.nexts.getD i []) x).1:=a1.mono (by rw[l1];rcases(by omega:n=0\/n=1\/n=2)with k|k|k <;> rw[k] <;> omega);have c2:Bd (2*e+1) (z9 (m.nexts.getD i []) x).2:=a2.mono (by rw[l1];rcases(by omega:n=0\/n=1\/n=2)with k|k|k <;> rw[k] <;> omega);obtain⟨g1,g2⟩:=QI (me.push _ (ue k2)) (λq hq=>(hp1 q hq).2) c1 c2 (by omega);rw[<- ea,l2]at g1 g2;have g1:=g1.mono (show _<=3*e+10 by omega);have g2:=g2.mono (show _<=2*e+3 by omega);exact⟨jX ((g1.add (((jr me.add i).mul g2).mono (by omega))).mono (dR _)),jY ((g2.mul me.div).mono (by omega))⟩⟩
noncomputable def ez:Nat->Nat
 |0=>4
 |k+1=>3*ez k+12
theorem ez_4:∀k,4<=ez k
 |0=>aJ _
 |k+1=>by show 4<=3*ez k+12;exact fG _ _
theorem zPy(h:k<=4):ez k<=804:=by rcases(by omega:k=0\/k=1\/k=2\/k=3\/k=4)with k|k|k|k|k <;> rw[k] <;> decide
theorem ez_3(h:k<=3):ez k<=264:=by rcases(by omega:k=0\/k=1\/k=2\/k=3)with k|k|k|k <;> rw[k] <;> decide
noncomputable def wX(n:Nat)(ms:List MD):List (Int×Int)->List v5->List (Int×Int)
 |x,[]=>x
 |x,s::ss=>wX n ms (yF n (wD ms s.1) x (xg s.2)) ss
def v6(n:Nat)(bs:List (Int×Int))(ms:List MD):List (Int×Int)->List v5->Prop
 |_,[]=>True
 |x,s::ss=>(s.1<ms.length/\jx n (wD ms s.1).rows x=true/\uw bs s.2)/\v6 n bs ms (yF n (wD ms s.1) x (xg s.2)) ss
section
variable{n:Nat}{bs:List (Int×Int)}{ms:List MD}
theorem zFR:∀{ss:List v5}{x:List (Int×Int)},wX n ms x (ss++[s])=yF n (wD ms s.1) (wX n ms x ss) (xg s.2)
 |[],_=>rfl
 |_::ss,_=>zFR (ss:=ss)
theorem zJQ:∀{ss:List v5}{x:List (Int×Int)},v6 n bs ms x ss->s.1<ms.length/\jx n (wD ms s.1).rows (wX n ms x ss)=true/\uw bs s.2->v6 n bs ms x (ss++[s])
 |[],_,_,h=>⟨h,trivial⟩
 |_::ss,_,v,h=>⟨v.1,zJQ (ss:=ss) v.2 h⟩
theorem TW.inp(T:TW n bs ms){w:List Int}(I:uw bs w):∀u∈w,Bd 2 u:=λu hu=>by
 obtain⟨i,hi,rfl⟩:=cz.mp hu;have hb:i<bs.length:=by rw[<- I.1];exact hi
 have hz:(w[i],bs[i])∈w.zip bs:=cz.mpr ⟨i,by rw[cu];omega,by rw[lO]⟩;have hh:bs[i].1<=w[i]/\w[i]<=bs[i].2:=I.2 _ hz;obtain⟨_,h1,h2⟩:=T.bb _ (cq hb);unfold Bd at h1 h2|-
 omega
theorem TW.beh(T:TW n bs ms){s:v5}(h:Pz (ez k) n x)(ks:s.1<ms.length)(I:uw bs s.2):Pz (ez (k+1)) n (yF n (wD ms s.1) x (xg s.2)):=by obtain⟨mo,me,_⟩:=T.md _ (ue (z:=(⟨[],[],[],[],[],1⟩:MD)) ks);exact zSz T.n2 T.b2 mo me h (ez_4 k) I.1 (T.inp I)
theorem TW.wk(T:TW n bs ms):∀{ss:List v5}{k:Nat}{x:List (Int×Int)},Pz (ez k) n x->v6 n bs ms x ss->k+ss.length<=4->jb n bs ms x ss/\∀y∈ux n ms x ss,wW n y
 |[],k,x,h,_,l=>⟨trivial,λy hy=>by rw[a6.mp hy];exact h.b T.n2 (by have:=zPy (k:=k) (by simpa using l);exact zA)⟩
 |s::ss,k,x,h,v,l=>by
  have l:k+1+ss.length<=4:=by have:(s::ss).length=ss.length+1:=rfl;omega
  have B:=h.b T.n2 (show ez k<=900 by have:=zPy (k:=k) (by omega);exact zA);obtain⟨a,b⟩:=TW.wk T (T.beh h v.1.1 v.1.2.2) v.2 l;exact⟨⟨B,v.1.1,v.1.2.1,v.1.2.2,a⟩,λy hy=>(a8.mp hy).elim (λz=>z▸B) (b y)⟩
theorem zKt(tb:TB n C B)(lp:x.length=n)(hp:∀p∈x,0<p.2)(hq:∀p∈y9 C x,0<p.2)(hr:∀r∈rm,r.length=n+1):jx n (rm.map (zY n B)) (y9 C x)=jx n rm x:=by
 unfold jx;rw[eE]
 induction rm with
 |nil=>rfl
 |cons r rm ih=>
  rw[dj,dj,ih λy hy=>hr y (aK _ hy)];congr 1;exact zOZ tb lp hp (hr r aR) hq
theorem zR3(h:k<ms.length):wD (ms.map (xf n w C B)) k=xf n w C B (wD ms k):=vE h
theorem TW.turn(T:TW n bs ms)(tb:TB n C B)(hC:y4 C):∀{ss:List v5}{k:Nat}{x:List (Int×Int)},Pz (ez k) n x->v6 n bs ms x ss->k+ss.length<=4->jb n bs (ms.map (xf n bs.length C B)) (y9 C x) ss/\ux n (ms.map (xf n bs.length C B)) (y9 C x) ss=(ux n ms x ss).map (y9 C)
 |[],_,_,_,_,_=>⟨trivial,rfl⟩
 |s::ss,k,x,h,v,l=>by
  have l:k+1+ss.length<=4:=by have:(s::ss).length=ss.length+1:=rfl;omega
  have hT:∀r∈C,r.length=n/\∀y∈r,Bd 20 y:=λr hr=>⟨tb.tr r hr,hC r hr⟩
  have Z:=Uk T.n2 tb.tl hT h;have e3:=ez_3 (k:=k) (by omega);obtain⟨ks,lx,I⟩:=v.1;obtain⟨mo,me,_⟩:=T.md _ (ue (z:=(⟨[],[],[],[],[],1⟩:MD)) ks);have pos:∀p∈x,0<p.2:=λp hp=>(h.2 p hp).1;have posT:∀p∈y9 C x,0<p.2:=λp hp=>(Z.2 p hp).1;have eb:=zQk tb h.1 pos mo (us:=xg s.2) (by rw[aB];exact I.1) λp hp=>by obtain⟨v,_,rfl⟩:=aG.mp hp;exact fH
  obtain⟨a,b⟩:=TW.turn T tb hC (T.beh h ks I) v.2 l;have em:=zR3 (n:=n) (C:=C) (B:=B) (w:=bs.length) ks;refine⟨⟨Z.b T.n2 (by omega),by rw[aB];exact ks,?_,I,?_⟩,?_⟩
  ·rw[em];show jx n ((wD ms s.1).rows.map (zY n B)) _=true;rw[zKt tb h.1 pos posT mo.rows];exact lx
  ·rw[em,<- eb];exact a
  ·show y9 C x::ux n _ (yF n (wD (ms.map (xf n bs.length C B)) s.1) (y9 C x) (xg s.2)) ss=y9 C x::(ux n ms _ ss).map (y9 C);rw[em,<- eb,b]
end
theorem vx.mono{e f:Nat}{m:MD}(h:vx e m)(k:e<=f:=by decide):vx f m:=⟨λr hr x hx=>(h.nexts r hr x hx).mono k,λx hx=>(h.steer x hx).mono k,λr hr x hx=>(h.push r hr x hx).mono k,λx hx=>(h.add x hx).mono k,h.div.mono k,λr hr x hx=>(h.rows r hr x hx).mono k,h.few⟩
def zSd(C CM:Addr):FL:=λds R=>∃n bs ms x cs,ds=[yu C CM n bs ms,zP x,L cs]/\TW n bs ms/\Pz 4 n x/\cs.length<=4/\∀ss:List v5,ss.length<=4->v6 n bs ms x ss->R (.lst (ss.map wu))
theorem TW.w(T:TW n bs ms):gD n bs ms:=⟨T.n2,T.b2,by have:=T.m2;exact zA,λm hm=>⟨(T.md m hm).1,(T.md m hm).2.1.mono⟩,T.cl,λb hb=>⟨(T.bb b hb).2.1.mono,(T.bb b hb).2.2.mono⟩⟩
theorem zOH:∀{es:List D}{bs:List (Int×Int)},es.length=bs.length->(∀i e,es[i]? =some e->∃v,e=zn (v,1)/\(bs.getD i (0,0)).1<=v/\v<=(bs.getD i (0,0)).2)->∃w,es=(xg w).map zn/\uw bs w
 |[],[],_,_=>⟨[],rfl,rfl,λ_ h=>nomatch h⟩
 |[],_::_,h,_=>nomatch h
 |_::_,[],h,_=>nomatch h
 |e::es,b::bs,h,k=>by
  obtain⟨w,e1,l,I⟩:=zOH (Nat.succ.inj h) λi e he=>k (i+1) e he;obtain⟨v,rfl,h1,h2⟩:=k 0 e rfl;exact⟨v::w,by rw[e1];rfl,congrArg (·+1) l,λq hq=>(a8.mp hq).elim (λz=>by rw[z];exact⟨h1,h2⟩) (I q)⟩
noncomputable abbrev je(A:Nat->Addr):List Ct:=⟨0,"_law_run",0,zR 124,zSd (A 1) (A 0),0⟩::jd A
section
variable{E:Ev xF xM xN}
theorem zQM:Gx E (je E.A) 0:=vk 7 [0,3,3,0,0,4,8,1,0,0,5,70,0,0,0,0,2,6,0,0,7,67,6,0,0,8,0,7,0,5,1,0,0,74,0,0,5,8,4,0,8,8,0,5,0,0,74,0,0,5,8,4,0,1,9,1,7,5,71,0,0,1,2,0,3,0,0,1,3,8,9,0,4,0,69,0,4,1,3,20,3,3] rfl λds R h=>by
 obtain⟨n,bs,ms,x,cs,rfl,T,P0,c4,q⟩:=h;have n2:=T.n2;have b2:=T.b2;have m1:=T.m1;have m2:=T.m2;have lm:(ms.map (xc (E.A 0))).length=ms.length:=aB ..;refine⟨k0,rfl,by decide+kernel,n,bs,ms,rfl,?_⟩;refine⟨λk Γ=>∃(ss:List v5)(s6 s7 s8 s9:Sl),Γ=[.sh (yu (E.A 1) (E.A 0) n bs ms),.sh (zP x),.sh (L cs),.ow (ss.map wu),.sh (zP (wX n ms x ss)),.sh (.lst (ms.map (xc (E.A 0)))),s6,s7,s8,s9]/\ss.length<=k/\v6 n bs ms x ss/\Pz (ez ss.length) n (wX n ms x ss),⟨[],.no,.no,.no,.no,rfl,aJ _,trivial,P0⟩,?_,?_⟩
 ·rintro k d Γ' hk ⟨ss,s6,s7,s8,s9,rfl,ls,V,P⟩;obtain⟨c,hc,rfl⟩:=QF (f:=D.int) hk;have kl:=(aN.mp hc).1;have PB:=P.b n2 (show ez ss.length<=900 by have:=zPy (k:=ss.length) (by omega);exact zA);refine⟨c,4,rfl,by decide,λxs lx _=>?_⟩;refine gE (by decide) (by omega) λx0 _=>⟨by rw[lm];exact uK,?_⟩
  rw[lm];have m0:=md x0 (show(0:Int)<(ms.length:Int)by exact xR);obtain⟨i,hi⟩:=b9 m0.1;rw[hi]at m0|-
  have il:i<ms.length:=by omega
  have LM:∀j,j<ms.length->(wD ms j).rows.length<=900/\∀r∈(wD ms j).rows,r.length=n+1/\∀y∈r,Bd 300 y:=λj hj=>by obtain⟨mo,me,_,r1⟩:=T.md _ (ue (z:=(⟨[],[],[],[],[],1⟩:MD)) hj);exact⟨by show(ms.getD j _).rows.length<=900;exact zA,λr hr=>⟨mo.rows r hr,λy hy=>(me.rows r hr y hy).mono⟩⟩
  refine⟨λΓ=>∃j:Nat,Γ=[.sh (yu (E.A 1) (E.A 0) n bs ms),.sh (zP x),.sh (L cs),.ow (ss.map wu),.sh (zP (wX n ms x ss)),.sh (.lst (ms.map (xc (E.A 0)))),.sh (.int c),.sh (L xs),.sh (.int (j:Int)),s9]/\j<ms.length,⟨_,yt ⟨[],[],[],[],[],1⟩ il,rfl,_,rfl,(wD ms i).rows,n,wX n ms x ss,rfl,(LM i il).1,(LM i il).2,PB,w2 (λc1=>⟨by rw[lm];exact uK,?_⟩) λc1=>⟨i,rfl,il⟩⟩,?_⟩
  ·rw[lm];have m3:=md ((i:Int)+1) (show(0:Int)<(ms.length:Int)by exact xR);obtain⟨j,hj⟩:=b9 m3.1;rw[hj]at m3|-
   exact⟨j,rfl,by omega⟩
  rintro Γ' ⟨j,rfl,jl⟩;refine⟨_,yt ⟨[],[],[],[],[],1⟩ jl,rfl,_,rfl,(wD ms j).rows,n,wX n ms x ss,rfl,(LM j jl).1,(LM j jl).2,PB,w2 (λc1=>?_) λc1=>⟨ss,_,_,_,_,rfl,by exact yO,V,P⟩⟩;refine⟨rfl,by decide+kernel,n,bs,ms,rfl,?_⟩;refine zo.enum (λi e=>∃v:Int,e=zn (v,1)/\(bs.getD i (0,0)).1<=v/\v<=(bs.getD i (0,0)).2) (by rw[aB];exact zA) (λi d hd=>?_) λes le he=>?_
  ·obtain⟨b,hb,rfl⟩:=QF hd;have ib:=(aN.mp hb).1;have eb:bs.getD i (0,0)=b:=by rw[aD,hb];rfl
   have b12:=(T.bb b (bH hb)).1;refine⟨k0,gE zb (by omega) λy _=>⟨by decide,?_⟩⟩;have my:=md y (show(0:Int)<2 by decide);refine zSG (by omega) (by show _<2;omega) λd hd=>⟨k0,i,_,rfl,?_⟩
   grind
  ·rw[aB]at le;obtain⟨w,rfl,I⟩:=zOH le he;have al:yc ((ss++[((j,w):v5)]).map wu) (-1)=some (wu (j,w)):=by rw[zIW (0,[]) (k:=ss.length) (by rw[aF];rfl),ja (aJ _),dE];rfl
   rw[aS]at al;refine⟨k0,k0,by rw[aB];omega,_,al,k0,n,bs,ms,wX n ms x ss,[(j,w)],rfl,T.w,by rw[PB.1];exact zA,by show 1<=20;decide,⟨PB,jl,c1,I,trivial⟩,_,rfl,?_⟩;have lj:(ss++[((j,w):v5)]).length=ss.length+1:=aF;refine⟨ss++[(j,w)],_,_,_,_,by rw[zFR,aS];rfl,by rw[lj];exact u0,zJQ V ⟨jl,c1,I⟩,?_⟩;rw[zFR,lj];exact T.beh P jl I
 ·rintro Γ' ⟨ss,s6,s7,s8,s9,rfl,ls,V,P⟩;rw[aB]at ls;exact q ss jy V
end
end K98
namespace K98
open PySem L2 Sh Pu Vg
variable[Tbl]
theorem zSQ{α β:Type}{f:α->β}{l:List α}{a:α}{b:β}(e:f a=b)(i:Nat):(l.map f).getD i b=f (l.getD i a):=by
 rw[aD,aV,aD];cases l[i]? with
 |none=>exact e.symm
 |some x=>rfl
theorem zOS{α:Type}{l:List α}{f g:α->Bool}(h:∀x∈l,f x=g x):l.all f=l.all g:=by grind
theorem zNd{α β γ:Type}{f:α->β}:∀(xs ys:List α)(as:List γ),(xs.map f).zip ((ys.map f).zip as)=(xs.zip (ys.zip as)).map λp=>(f p.1,f p.2.1,p.2.2)
 |[],_,_=>rfl
 |_::_,[],_=>rfl
 |_::_,_::_,[]=>rfl
 |x::xs,y::ys,a::as=>by
  show(f x,f y,a)::(xs.map f).zip ((ys.map f).zip as)=_;rw[zNd xs ys as];rfl
theorem zNe{α β γ:Type}{f:α->β}:∀(xs:List α)(as:List γ),(xs.map f).zip as=(xs.zip as).map λp=>(f p.1,p.2)
 |[],_=>rfl
 |_::_,[]=>rfl
 |x::xs,a::as=>by
  show(f x,a)::(xs.map f).zip as=_;rw[zNe xs as];rfl
theorem zKu(h:TB n T B)(tm:TMs n bs.length T B ms ms')(hs:∀r∈s,r.length=n+1)(hg:∀r∈g,r.length=n+1)(hr:∀rm∈rooms,∀r∈rm,r.length=n+1):jW n bs ms' (s.map (zY n B)) (g.map (zY n B)) t (rooms.map λrm=>rm.map (zY n B)) BK A1 A2 A3=jW n bs ms s g t rooms BK A1 A2 A3:=by
 cases BK with
 |int b=>
  show(if b<0\/(((rooms.map λrm=>rm.map (zY n B)).length:Nat):Int)<=b then false else _)=(if b<0\/(rooms.length:Int)<=b then false else _)
  rw[aB];by_cases c:b<0\/(rooms.length:Int)<=b
  ·rw[if_pos c,if_pos c]
  rw[if_neg c,if_neg c];have gd:∀i,(rooms.map λrm=>rm.map (zY n B)).getD i []=(rooms.getD i []).map (zY n B):=λi=>zSQ (f:=λrm:List (List Int)=>rm.map (zY n B)) (a:=[]) rfl i;have hi:∀i,i<rooms.length->∀r∈rooms.getD i [],r.length=n+1:=λi h=>hr _ (k7 h)
  have e1:jS (s.map (zY n B)) ((rooms.map λrm=>rm.map (zY n B)).getD 0 []) n A1=jS s (rooms.getD 0 []) n A1:=by rw[gd];exact zC3 (p:=0) h hs (hi 0 (by omega))
  have e2:Zp n bs ms' (rooms.map λrm=>rm.map (zY n B)) b.toNat A2=Zp n bs ms rooms b.toNat A2:=by
   cases A2 with
   |lst as=>
    show(decide _&&_)=(decide _&&_)
    rw[aB,gd,<- dq,show((rooms.drop 1).map (λrm=>rm.map (zY n B))++[(rooms.getD b.toNat []).map (zY n B)])=(rooms.drop 1++[rooms.getD b.toNat []]).map (λrm=>rm.map (zY n B))by rw[aS];rfl,zNd,eE];congr 1;refine zOS λp hp=>?_;have h1:=(bC hp).1;have h2:=(bC (bC hp).2).1;refine zIs h tm (hr _ h1) λr hrr=>?_;rcases be.mp h2 with h2|h2
    ·exact hr _ (cA h2) r hrr
    ·rw[a6.mp h2]at hrr;exact hi _ (by omega) r hrr
   |_=>rfl
  have e3:Zq n (rooms.map λrm=>rm.map (zY n B)) (min b t).toNat (g.map (zY n B)) A3=Zq n rooms (min b t).toNat g A3:=by
   cases A3 with
   |lst as=>
    show(decide _&&_)=(decide _&&_)
    rw[aB,<- dq,zNe,eE];congr 1;refine zOS λp hp=>?_;exact zC3 (p:=0) h (hr _ (cA (bC hp).1)) hg
   |_=>rfl
  rw[e1,e2,e3]
 |_=>rfl
theorem zId(lr:r.length=n+1)(n3:n<=3)(hc:∀x∈r.take n,Bd 5 x)(hr:∀x∈r,Bd 300 x)(hB:y4 B):∀x∈zY n B r,Bd 300 x:=λx hx=>by
 rcases be.mp hx with hx|hx
 ·obtain⟨j,_,rfl⟩:=aG.mp hx;exact(km hc hB).mono (by rw[aZ];omega)
 ·exact hr x (cA hx)
theorem zL2(n3:n<=3)(h:wr rm n)(hc:∀r∈rm,∀x∈r.take n,Bd 5 x)(hB:y4 B):wr (rm.map (zY n B)) n:=⟨λr hr=>by obtain⟨q,hq,rfl⟩:=aG.mp hr;exact⟨by rw[KA (by rw[(h.row q hq).1];exact dR _)];exact(h.row q hq).1,zId (h.row q hq).1 n3 (hc q hq) (h.row q hq).2 hB⟩,by rw[aB];exact h.few⟩
theorem zD0:∀{ds:List D},(∀d∈ds,cE d.py d.py=true)->c9 (wP ds) (wP ds)=true
 |[],_=>by simp[wP,c9]
 |d::ds,h=>by simp[wP,c9,h d aR,zD0 λx hx=>h x (aK _ hx)]
theorem QJ:∀n d,D.pl n d=true->cE d.py d.py=true
 |0,_,h=>by cases h
 |_+1,.int i,_=>by simp[D.py,cE]
 |_+1,.bool i,_=>by simp[D.py,cE]
 |_+1,.non,_=>by simp[D.py,cE]
 |_+1,.str i,_=>by simp[D.py,cE]
 |_+1,.scr _,h=>by cases h
 |_+1,.obj ..,h=>by cases h
 |n+1,.lst ds,h=>by
  simp only[D.py,cE];exact zD0 λd m=>QJ n d (aT.mp h d m)
 |n+1,.tup ds,h=>by
  simp only[D.py,cE];exact zD0 λd m=>QJ n d (aT.mp h d m)
theorem zSt{ns:List Int}{a b:Nat}(h:a<=b):∃xs,D.lst (zm (ns.map D.int) (some (a:Int)) (some (b:Int)))=L xs/\xs.length<=b-a:=⟨(ns.drop (min a ns.length)).take (min b ns.length-min a ns.length),by unfold zm L;rw[HT.sIx_nat,HT.sIx_nat,aB,dk,dq],by rw[aZ];omega⟩
theorem zSV(h:s.2.length<=100):Fw (k+3) (wG s):=.tup (by show 2<=900;decide) λd hd=>(a8.mp hd).elim (λz=>z▸ .int _) λhd=>(a6.mp hd)▸vL zA
theorem zON(h:Y1 S):Fw (k+4) (uH S):=.lst (by rw[aB];have:=h.1;exact zA) λd hd=>by obtain⟨s,hs,rfl⟩:=aG.mp hd;exact zSV (h.2 s hs).2.1
theorem zOM(h:Z2 S):Fw (k+5) (uI S):=.lst (by rw[aB];have:=h.1;exact zA) λd hd=>by obtain⟨s,hs,rfl⟩:=aG.mp hd;exact zON (h.2 s hs).y
theorem zSW(h:Z3 S):Fw (k+6) (ZD S):=.lst (by rw[aB];have:=h.1;exact zA) λd hd=>by obtain⟨s,hs,rfl⟩:=aG.mp hd;exact zOM (h.2 s hs)
theorem zS7(h:Y1 S):jT (uH S):=λas e x hx=>by cases e;obtain⟨s,hs,rfl⟩:=aG.mp hx;obtain⟨h1,_,h2⟩:=h.2 s hs;intro o ys e;cases e;exact⟨h1.mono,λy hy=>by obtain⟨z,hz,rfl⟩:=aG.mp hy;exact(h2 z hz).mono⟩
theorem zS6(h:Z2 S):jU (uI S):=λas e x hx=>by cases e;obtain⟨s,hs,rfl⟩:=aG.mp hx;exact zS7 (h.2 s hs).y
theorem Ul(h:Z3 S):zQa (ZD S):=λas e x hx=>by cases e;obtain⟨s,hs,rfl⟩:=aG.mp hx;exact zS6 (h.2 s hs)
noncomputable def ptV:D->List (Int×Int)
 | .lst ds=>ds.map ud
 |_=>[]
theorem zRQ(x):ptV (zP x)=x:=by show(x.map zn).map ud=x;rw[aQ];exact(a7 λp _=>rfl).trans (dH _)
theorem zJ8(xs:List (List (Int×Int))):(D.lst (xs.map zP)).pl 50=true:=aT.mpr λd hd=>by
 obtain⟨x,_,rfl⟩:=aG.mp hd
 exact aT.mpr λe he=>by obtain⟨p,_,rfl⟩:=aG.mp he;rfl
theorem qY.s(h:qY n rm)(n2:n<=2):wr rm n:=⟨λr hr=>⟨(h.2 r hr).1,λx hx=>((h.2 r hr).2 x hx).mono⟩,by have:=h.1;omega⟩
theorem TW.ths(T:TW n bs ms):Zo n bs ms:=⟨T.ok,λm hm=>(T.md m hm).2.1.ms (by decide),λb hb=>⟨(T.bb b hb).2.1.mono,(T.bb b hb).2.2.mono⟩⟩
def jf:FL:=λds R=>∃ns,ds=[.scr ns]/\R (.bool true)
section
variable{E:Ev xF xM xN}
noncomputable abbrev ZF:Stmt:=zR 125
end
section
variable{P:Program}{w:World}{K:aH}{mg:Str->Option Value}{base:Heap}
theorem yh:wH ["_law_script","_law_cell","_law_many","_law_thing_here","_law_there","_law_back","_law_other","_law_low","_law_high","_law_start","_law_rows","_law_rooms","_law_again","_law_starts","_law_stays","_law_parts","_law_steps_here","_law_turn","_law_paper","_law_new","_law_claim","_law_xs","_law_point","_law_run_here","_law_points"] ["_law_script"] (zX ZF):=.a
theorem zR0{E:Ev xF xM xN}(F:wO E.K "law" "law" ZF f fd)(H:Hs E k (je E.A))(ar:Fn E.P E.w E.K E.mg E.base "_law_spoilt" ["_law_paper_parts","_law_cell"] (k+1) (Jl (zSb))):zS E.P E.w E.K E.mg E.base yN (k+1+1) f fd ["_law_script"] (wB (jf)):=by
 have B:=zQD E;have aa:=Hs.fn H 9 rfl;have au:=Hs.fn H 6 rfl;have av:=Hs.fn H 5 rfl;have aw:=Hs.fn H 44 rfl;have ab:=Hs.fn H 4 rfl;have af:=Hs.fn H 3 rfl;have ay:=Hs.fn H 1 rfl;have ah:=Hs.mk H 56 rfl;have ae:=Hs.fn H 47 rfl;have aj:=Hs.mkD H 57 rfl;have ak:=Hs.fn H 49 rfl;have am:=Hs.fn H 67 rfl;have az:=Hs.fn H 8 rfl;have aA:=Hs.fn H 0 rfl;have ao:=Hs.fn H 10 rfl;have aq:=Hs.fn H 16 rfl
 refine okQ F yh λ_ _ _ _ _ _ hr=>⟨_,(wJ (vQ 1 yh.nd (xK aa hr rfl (zQ (zK 0) (zQ yM yW))))
  (qJ (vQ 2 yh.nd (XQ yM (vH (zK 1) yM)))
  (wJ (vQ 3 yh.nd (xK au hr rfl (zQ (xK aa hr rfl (zQ (zK 0) (zQ yM yW))) (zQ (zK 2) yW))))
  (qJ (K0 (xK av hr rfl (zQ (K7 (zK 0) (Xd yM) (Xd yM)) (zQ (zK 2) yW))) (Xn rfl (jM 4 yh.nd (jM 5 yh.nd Xm))))
  (wJ (vQ 6 yh.nd (xK aw hr rfl (zQ (zK 3) (zQ (zK 4) (zQ (zK 5) yW)))))
  (wJ (vQ 7 yh.nd (ZW yM (vH (uY (zK 1) yM) yM)))
  (qJ (vQ 8 yh.nd (vH (uY (zK 1) yM) yM))
  (wJ (vQ 9 yh.nd (xK ab hr rfl (zQ (zK 2) (zQ (zK 7) (zQ (zK 8) yW)))))
  (wJ (vQ 10 yh.nd (xK ab hr rfl (zQ (zK 2) (zQ (ZW (zK 7) (vH (uY (zK 1) yM) yM)) (zQ (XQ (zK 8) (vH (uY (zK 1) yM) yM)) yW)))))
  (wJ (zJy 11 yh.nd rfl (Or.inl rfl) (zQ (xK ab hr rfl (zQ (zK 2) (zQ (ZW (zK 7) (vH (uY (zK 1) yM) yM)) (zQ (XQ (zK 8) (vH (uY (zK 1) yM) yM)) yW)))) yW))
  (qJ (Ze (Kn hr.units (vH (uY (zK 1) yM) yM) yM) (qK (wU (QW (zRe f6 fX fY Ys (ji 11) (wN (xK ab hr rfl (zQ (zK 2) (zQ (ZW (zK 7) (vH (uY (zK 1) yM) yM)) (zQ (XQ (zK 8) (vH (uY (zK 1) yM) yM)) yW)))) ug))) zNn)) ZZ)
  (qJ (vQ 12 yh.nd (vH (uY (zK 1) yM) (zGo 11 rfl B.len_)))
  (wJ (Za 13 true yh.nd rfl rfl (own:=["_law_row"]) (caps:=[(9,"_law_start")]) (uo yh) rfl rfl vn (uB (K1 11 yM (λ_ _=>rfl))) (λ_ _ _ _=>(uC 0 (vR ["_law_row","_law_start"]))) (λ_ _ _ _=>(xK af hr rfl (zQ (zK 1) (zQ (zK 0) yW)))) rfl)
  (wJ (Kz 11 (Za 14 false yh.nd rfl rfl (own:=["_law_room"]) (caps:=[(10,"_law_rows")]) (uo yh) rfl rfl vn (uB (zK 11)) (λ_ _ _ _=>(uC 0 (vR ["_law_room","_law_rows"]))) (λ_ _ _ _=>(jo (own:=["_law_row"]) (caps:=[(0,"_law_room")]) bki rfl rfl vn (uB (zK 1)) (λ_ _ _ _=>(uC 0 (vR ["_law_row","_law_room"]))) (λ_ _ _ _=>(xK af hr rfl (zQ (zK 1) (zQ (zK 0) yW)))))) rfl))
  (zML (Ur (i:=15) yh.nd rfl (Or.inl rfl) (Qi (wN (zK 11) (wN (zK 12) (wN (ji 13) (wN (xK ay hr rfl (zQ (zK 3) (zQ (zK 11) (zQ (zK 12) yW)))) (wN (zK 14) ug))))))) (gR (zHw ar hr rfl (wN (ji 15) (wN (xK aa hr rfl (zQ (zK 0) (zQ yM yW))) ug))) (Xn rfl (jM 11 yh.nd (jM 12 yh.nd (jM 13 yh.nd (jM 16 yh.nd (jM 14 yh.nd Xm)))))))
  (qJ (vQ 17 yh.nd (vH (uY (zK 1) yM) yM))
  (wJ (vQ 18 yh.nd (Zf ah (E.cl 6 _ rfl) hr rfl (zQ (zK 11) (zQ (zK 12) (zQ (zK 13) (zQ (zK 16) (zQ (zK 14) yW)))))))
  (wJ (vQ 19 yh.nd (Zf ah (E.cl 6 _ rfl) hr rfl (zQ (jo (own:=["_law_room"]) (caps:=[(5,"_law_back")]) (uo yh) rfl rfl vn (uB (zK 11)) (λ_ _ _ _=>(uC 0 (vR ["_law_room","_law_back"]))) (λ_ _ _ _=>(jo (own:=["_law_row"]) (caps:=[(1,"_law_back")]) bki rfl rfl vn (uB (zK 0)) (λ_ _ _ _=>(uC 0 (vR ["_law_row","_law_back"]))) (λ_ _ _ _=>(xK ae hr rfl (zQ (zK 1) (zQ (zK 0) yW))))))) (zQ (zK 12) (zQ (zK 13) (zQ (zK 16) (zQ (zK 14) yW)))))))
  (wJ (vQ 20 yh.nd (Zf aj.fn (E.cl 3 _ rfl) hr rfl (zQ (jo (own:=["_law_row"]) (caps:=[(5,"_law_back")]) (uo yh) rfl rfl vn (uB (zK 9)) (λ_ _ _ _=>(uC 0 (vR ["_law_row","_law_back"]))) (λ_ _ _ _=>(xK ae hr rfl (zQ (zK 1) (zQ (zK 0) yW))))) (zQ (jo (own:=["_law_row"]) (caps:=[(5,"_law_back")]) (uo yh) rfl rfl vn (uB (zK 10)) (λ_ _ _ _=>(uC 0 (vR ["_law_row","_law_back"]))) (λ_ _ _ _=>(xK ae hr rfl (zQ (zK 1) (zQ (zK 0) yW))))) (zQ (zK 17) yW)))))
  (wJ (Ze (Ko hr.units (xK ak hr rfl (zQ (zK 6) (zQ (zK 20) (zQ (zK 19) yW)))) (xK ak hr rfl (zQ (zK 3) (zQ (Zf aj.fn (E.cl 3 _ rfl) hr rfl (zQ (zK 9) (zQ (zK 10) (zQ (zK 17) yW)))) (zQ (zK 18) yW))))) (qK (Zd Ke)) ZZ)
  (wJ (Ze (Ko hr.units (jo (own:=["_law_room"]) (caps:=[(6,"_law_other")]) (uo yh) rfl rfl vn (uB (zK 11)) (λ_ _ _ _=>(uC 0 (vR ["_law_room","_law_other"]))) (λ_ _ _ _=>(jI Ye JZ rfl B.len_ Yj (zQ (xK am hr rfl (zQ (zK 1) (zQ (zK 0) yW))) yW)))) (jo (own:=["_law_room"]) (caps:=[(3,"_law_thing_here")]) (uo yh) rfl rfl vn (uB (zK 11)) (λ_ _ _ _=>(uC 0 (vR ["_law_room","_law_thing_here"]))) (λ_ _ _ _=>(jI Ye JZ rfl B.len_ Yj (zQ (xK am hr rfl (zQ (zK 1) (zQ (zK 0) yW))) yW))))) (qK (Zd Ke)) ZZ)
  (wJ (vQ 21 yh.nd (xK az hr rfl (zQ (xK aa hr rfl (zQ (zK 0) (zQ yM yW))) (zQ yM yW))))
  (wJ (Za 22 false yh.nd rfl rfl (own:=["_law_k"]) (caps:=[(21,"_law_xs")]) (uo yh) rfl rfl vn (Ku rfl B.range_ (zQ (zK 2) yW)) (λ_ _ _ _=>(uC 0 (vR ["_law_k","_law_xs"]))) (λ_ _ _ _=>(Xb (zQ (ZW (vH (pxi (zK 1) (zK 0)) yM) yM) (zQ yM yW)))) rfl)
  (wJ (vQ 23 yh.nd (xK aA hr rfl (zQ (zK 3) (zQ (zK 22) (zQ (K7 (zK 0) (Xd yM) (Xd yM)) yW)))))
  (wJ (Za 24 false yh.nd rfl rfl (own:=["_law_one"]) (caps:=[(4,"_law_there")]) (uo yh) rfl rfl vn (uB (xK ao hr rfl (zQ (zK 3) (zQ (JY Qq zIV rfl B.list_ Yk (zQ (zK 22) yW)) (zQ (zK 23) yW))))) (λ_ _ _ _=>(uC 0 (vR ["_law_one","_law_there"]))) (λ_ _ _ _=>(xK aq hr rfl (zQ (zK 1) (zQ (zK 0) yW)))) rfl)
  (qK (Zd (XT hr.units (xK ao hr rfl (zQ (zK 6) (zQ (xK aq hr rfl (zQ (zK 4) (zQ (zK 22) yW))) (zQ (zK 23) yW)))) (zK 24))))))))))))))))))))))))))))),λds R h=>?_⟩
 obtain⟨ns,rfl,q⟩:=h;refine⟨ns,0,rfl,by decide,λc=>?_⟩;refine⟨λΓ=>∃n:Nat,Γ=[.sh (.scr ns),.sh (.int c),.sh (.int (n:Int)),.no,.no,.no,.no,.no,.no,.no,.no,.no,.no,.no,.no,.no,.no,.no,.no,.no,.no,.no,.no,.no,.no]/\1<=n/\n<=2,⟨by decide,?_⟩,?_⟩
 ·have mc:=md c (show(0:Int)<2 by decide);obtain⟨n,hn⟩:∃n:Nat,1+c.fmod 2=(n:Int):=⟨(1+c.fmod 2).toNat,by omega⟩
  exact⟨n,by rw[<- hn];rfl,by omega,by omega⟩
 rintro Γ' ⟨n,rfl,n1,n2⟩;refine⟨ns,1,rfl,by decide,λc1=>⟨c1,n,rfl,n1,n2,λbs ms T=>?_⟩⟩;obtain⟨cs,ec,lc⟩:=zSt (ns:=ns) (a:=2) (b:=6) (by decide);refine⟨λΓ=>∃C B,Γ=[.sh (.scr ns),.sh (.int c),.sh (.int (n:Int)),.sh (yu (E.A 1) (E.A 0) n bs ms),.sh (Tb C),.sh (Tb B),.no,.no,.no,.no,.no,.no,.no,.no,.no,.no,.no,.no,.no,.no,.no,.no,.no,.no,.no]/\TB n C B/\y4 C/\y4 B,⟨cs,n,by rw[<- ec];rfl,lc,n1,n2,λC B tb hC hB=>⟨C,B,rfl,tb,hC,hB⟩⟩,?_⟩;rintro Γ' ⟨C,B,rfl,tb,hC,hB⟩;refine⟨n,bs,ms,C,B,rfl,T.ok,tb,hC,hB,λm hm=>(T.md m hm).2.1.mono,?_⟩;refine⟨by decide,(Bd.lit (i:=2) (n:=20)).mono,by decide,?_⟩;refine⟨λΓ=>∃lo hi:Int,Γ=[.sh (.scr ns),.sh (.int c),.sh (.int (n:Int)),.sh (yu (E.A 1) (E.A 0) n bs ms),.sh (Tb C),.sh (Tb B),.sh (yu (E.A 1) (E.A 0) n bs (ms.map (xf n bs.length C B))),.sh (.int lo),.sh (.int hi),.no,.no,.no,.no,.no,.no,.no,.no,.no,.no,.no,.no,.no,.no,.no,.no]/\(-2<=lo/\lo<=2)/\-2<=hi/\hi<=2,⟨by decide,(Bd.lit (i:=6) (n:=20)).mono,by decide,_,_,rfl,?_,?_⟩,?_⟩
 ·have:=md (c.fdiv 2) (show(0:Int)<3 by decide);omega
 ·have:=md (c.fdiv 6) (show(0:Int)<3 by decide);omega
 rintro Γ' ⟨lo,hi,rfl,⟨l1,l2⟩,h1,h2⟩;have bd:∀x y:Int,-2<=x->x<=2->-5<=y->y<=5->Bd 5 (x+y)/\Bd 5 (x-y):=λx y h1 h2 h3 h4=>⟨by show(x+y).natAbs<2^5;omega,by show(x-y).natAbs<2^5;omega⟩
 have m5:∀x:Int,-5<=x.fmod 5/\x.fmod 5<=5:=λx=>by have:=md x (show(0:Int)<5 by decide);omega
 have m4:∀x:Int,-5<=x.fmod 4/\x.fmod 4<=5:=λx=>by have:=md x (show(0:Int)<4 by decide);omega
 have m3:∀x:Int,-5<=x.fmod 3/\x.fmod 3<=5:=λx=>by have:=md x (show(0:Int)<3 by decide);omega
 refine⟨n,lo,hi,rfl,n2,by have:=(bd lo 0 l1 l2 (by decide) (by decide)).1;rwa[fL]at this,by have:=(bd hi 0 h1 h2 (by decide) (by decide)).1;rwa[fL]at this,λst hst=>?_⟩;refine⟨by decide,(Bd.lit (i:=18) (n:=20)).mono,by decide,by decide,(Bd.lit (i:=90) (n:=20)).mono,by decide,n,_,_,rfl,n2,(bd lo _ l1 l2 (m5 _).1 (m5 _).2).2,(bd hi _ h1 h2 (m5 _).1 (m5 _).2).1,λrw_ hrw=>?_⟩;refine⟨by decide,(Bd.lit (i:=450) (n:=20)).mono,by decide,by decide,(Bd.lit (i:=1800) (n:=20)).mono,by decide,n,_,_,rfl,n2,(bd lo _ l1 l2 (m4 _).1 (m4 _).2).2,(bd hi _ h1 h2 (m4 _).1 (m4 _).2).1,λrm1 hr1=>⟨k0,?_⟩⟩;refine⟨λΓ=>∃rooms:List (List (List Int)),Γ=[.sh (.scr ns),.sh (.int c),.sh (.int (n:Int)),.sh (yu (E.A 1) (E.A 0) n bs ms),.sh (Tb C),.sh (Tb B),.sh (yu (E.A 1) (E.A 0) n bs (ms.map (xf n bs.length C B))),.sh (.int lo),.sh (.int hi),.sh (Rm st),.sh (Rm rw_),.ow (rooms.map Rm),.no,.no,.no,.no,.no,.no,.no,.no,.no,.no,.no,.no,.no]/\1<=rooms.length/\rooms.length<=2/\∀rm∈rooms,qY n rm,⟨by decide,(Bd.lit (i:=7200) (n:=20)).mono,by decide,w2 (λ_=>⟨by decide,(Bd.lit (i:=14400) (n:=20)).mono,by decide,by decide,(Bd.lit (i:=43200) (n:=20)).mono,by decide,n,_,_,rfl,n2,(bd lo _ l1 l2 (m3 _).1 (m3 _).2).2,(bd hi _ h1 h2 (m3 _).1 (m3 _).2).1,λrm2 hr2=>⟨by show 1<1000;decide,[rm1,rm2],rfl,by show 1<=2;decide,by show 2<=2;decide,λrm h=>(a8.mp h).elim (λz=>z▸hr1) λh=>(a6.mp h)▸hr2⟩⟩) λ_=>⟨[rm1],rfl,by show 1<=1;decide,by show 1<=2;decide,λrm h=>(a6.mp h)▸hr1⟩⟩,?_⟩;rintro Γ' ⟨rooms,rfl,r1,r2,hR⟩;have lR:(rooms.map Rm).length=rooms.length:=aB ..;refine⟨λΓ=>∃b:Int,Γ=[.sh (.scr ns),.sh (.int c),.sh (.int (n:Int)),.sh (yu (E.A 1) (E.A 0) n bs ms),.sh (Tb C),.sh (Tb B),.sh (yu (E.A 1) (E.A 0) n bs (ms.map (xf n bs.length C B))),.sh (.int lo),.sh (.int hi),.sh (Rm st),.sh (Rm rw_),.ow (rooms.map Rm),.sh (.int b),.no,.no,.no,.no,.no,.no,.no,.no,.no,.no,.no,.no]/\0<=b/\b<(rooms.length:Int),⟨by decide,(Bd.lit (i:=129600) (n:=20)).mono,by rw[lR];exact uK,_,rfl,?_⟩,?_⟩
 ·rw[lR];exact md _ xR
 rintro Γ' ⟨b,rfl,b0,bl⟩;have h0:=hR _ (k7 (b:=0) uJ);have l0:=h0.1;refine⟨_,yt (k:=0) [] uJ,zo.all (λe=>∃s,e=wG s/\Zx s) (by rw[aB];omega) (λd hd=>?_) λes le he=>?_⟩
 ·obtain⟨r,hr,rfl⟩:=aG.mp hd;exact⟨st,n,r,rfl,hst.w n2,n1,n2,(h0.2 r hr).1,λx hx=>((h0.2 r hr).2 x hx).mono,λs hs=>⟨s,rfl,hs⟩⟩
 obtain⟨S1,rfl,hS1⟩:=ZE he;rw[aB,aB]at le;have z1:Z1 S1:=⟨by omega,hS1⟩
 have lw:=hrw.1;refine zo.all (λe=>∃s,e=uH s/\Z1 s) (by rw[lR];exact zA) (λd hd=>?_) λes2 le2 he2=>?_
 ·obtain⟨rm,hrm,rfl⟩:=aG.mp hd;refine zo.all (λe=>∃s,e=wG s/\Zx s) (by rw[aB];omega) (λd hd=>?_) λes le he=>?_
  ·obtain⟨r,hr,rfl⟩:=aG.mp hd;exact⟨rm,n,r,rfl,(hR rm hrm).w n2,n1,n2,(hrw.2 r hr).1,λx hx=>((hrw.2 r hr).2 x hx).mono,λs hs=>⟨s,rfl,hs⟩⟩
  ·obtain⟨S,rfl,hS⟩:=ZE he;rw[aB,aB]at le;exact⟨S,rfl,by omega,hS⟩
 obtain⟨S2,rfl,hS2⟩:=ZE he2;rw[aB,lR]at le2;have z2:Z2 S2:=⟨by exact wz,hS2⟩
 refine⟨λΓ=>∃(A1:List wy)(A2:List (List (List wy)))(A3:List (List wy)),Γ=[.sh (.scr ns),.sh (.int c),.sh (.int (n:Int)),.sh (yu (E.A 1) (E.A 0) n bs ms),.sh (Tb C),.sh (Tb B),.sh (yu (E.A 1) (E.A 0) n bs (ms.map (xf n bs.length C B))),.sh (.int lo),.sh (.int hi),.sh (Rm st),.sh (Rm rw_),.sh (uu rooms),.sh (.int b),.sh (uH A1),.sh (uI A3),.no,.sh (ZD A2),.no,.no,.no,.no,.no,.no,.no,.no]/\Y1 A1/\Z3 A2/\Z2 A3,⟨_,rfl,by decide,by show 15<25;decide,n,bs,ms,rooms,b,rfl,T,r2,b0,bl,hR,λA2 z3=>⟨ns,6,rfl,by decide,λc6=>⟨c6,rfl,_,_,S1,_,S2,c6,rfl,z1,z2,λA1 A3 y1 y3=>⟨A1,A2,A3,rfl,y1,z3,y3⟩⟩⟩⟩,?_⟩;clear z1 z2 hS1 hS2 he he2;rintro Γ' ⟨A1,A2,A3,rfl,y1,z3,z2⟩;refine⟨λΓ=>∃t:Int,Γ=[.sh (.scr ns),.sh (.int c),.sh (.int (n:Int)),.sh (yu (E.A 1) (E.A 0) n bs ms),.sh (Tb C),.sh (Tb B),.sh (yu (E.A 1) (E.A 0) n bs (ms.map (xf n bs.length C B))),.sh (.int lo),.sh (.int hi),.sh (Rm st),.sh (Rm rw_),.sh (uu rooms),.sh (.int b),.sh (uH A1),.sh (uI A3),.no,.sh (ZD A2),.sh (.int t),.no,.no,.no,.no,.no,.no,.no]/\0<=t,⟨by decide,(Bd.lit (i:=259200) (n:=20)).mono,by decide,_,rfl,(md _ (by decide)).1⟩,?_⟩;rintro Γ' ⟨t,rfl,t0⟩;have n3:n<=3:=by exact yO
 have RSt:=hst.s n2;have RG:=hrw.s n2;have RR:Zr n rooms:=⟨λrm h=>(hR rm h).s n2,by exact zA⟩
 have FR:∀{k:Nat}{rr:List (List Int)},wr rr n->Fw (k+3) (Rm rr):=λh=>kh (by have:=h.few;exact zA) (λr hr=>by rw[(h.row r hr).1];exact y6)
 have FLs:∀{rs:List (List (List Int))},rs.length<=100->(∀r∈rs,wr r n)->Fw 6 (uu rs):=λh1 h2=>.lst (by rw[aB];exact zA) λd hd=>by obtain⟨r,hr,rfl⟩:=aG.mp hd;exact FR (h2 r hr)
 have tD:∀{rm:List (List Int)},qY n rm->wr (rm.map (zY n B)) n:=λh=>zL2 n3 (h.s n2) (λr hr x hx=>(h.2 r hr).2 x (bN hx)) hB
 have RR2:Zr n (rooms.map λrm=>rm.map (zY n B)):=⟨λr hr=>by obtain⟨rm,hrm,rfl⟩:=aG.mp hr;exact tD (hR rm hrm),by rw[aB];exact zA⟩
 have hBn:∀q∈B,n<=q.length/\∀x∈q,Bd 9000 x:=λq hq=>⟨by rw[tb.br q hq];exact aJ _,λx hx=>(hB q hq x hx).mono⟩
 have MT:∀m∈ms,yf (xf n bs.length C B m) n bs.length/\vx 260 (xf n bs.length C B m):=λm hm=>⟨zOd tb (T.md m hm).1,W6 tb (T.md m hm).1 hC hB (T.md m hm).2.1.mono⟩
 have TS2:Zo n bs (ms.map (xf n bs.length C B)):=by
  refine⟨⟨n1,n3,T.ok.bok,T.ok.b6,by rw[aB];exact T.m1,by rw[aB];exact T.ok.m40,λm' hm=>?_⟩,λm' hm=>?_,T.ths.bs⟩
  ·obtain⟨m,hm1,rfl⟩:=aG.mp hm;exact(MT m hm1).1
  ·obtain⟨m,hm1,rfl⟩:=aG.mp hm;exact(MT m hm1).2.ms (by decide)
 have f1:Fw 6 (uH A1):=zON (k:=2) y1;have f2:Fw 6 (ZD A2):=zSW (k:=0) z3;have f3:Fw 6 (uI A3):=zOM (k:=1) z2;have p1:=zS7 y1;have p2:=Ul z3;have p3:=zS6 z2;generalize uH A1=D1 at f1 p1|-
 generalize ZD A2=D2 at f2 p2|-
 generalize uI A3=D3 at f3 p3|-
 refine⟨_,_,_,_,_,rfl,FLs zA RR.rm,f1,f2,f3,?_⟩;refine xC Rm ju ky (λrm=>Rm (rm.map (zY n B))) zA (λrm hrm=>xC U zp jQ (λr=>U (zY n B r)) (by have:=(hR rm hrm).1;omega) (λr hr=>⟨B,r,n,rfl,((hR rm hrm).2 r hr).1,by exact zA,λx hx=>(((hR rm hrm).2 r hr).2 x hx).mono,hBn,rfl⟩) (Wv (zY n B) rm)) ?_;have er:D.lst (rooms.map λrm=>Rm (rm.map (zY n B)))=uu (rooms.map λrm=>rm.map (zY n B)):=by unfold uu;rw[aQ];rfl
 rw[er];refine⟨_,_,_,_,_,rfl,FLs RR2.few RR2.rm,f1,f2,f3,?_⟩;refine xC U zp jQ (λr=>U (zY n B r)) (by have:=hst.1;omega) (λr hr=>⟨B,r,n,rfl,(hst.2 r hr).1,by exact zA,λx hx=>((hst.2 r hr).2 x hx).mono,hBn,rfl⟩) ?_;refine xC U zp jQ (λr=>U (zY n B r)) (by omega) (λr hr=>⟨B,r,n,rfl,(hrw.2 r hr).1,by exact zA,λx hx=>((hrw.2 r hr).2 x hx).mono,hBn,rfl⟩) ?_;rw[Wv,Wv];refine⟨_,_,_,rfl,FR (tD hst),FR (tD hrw),?_⟩;refine⟨n,bs,_,st.map (zY n B),rw_.map (zY n B),t,rooms.map λrm=>rm.map (zY n B),.int b,D1,D2,D3,6,rfl,TS2,tD hst,tD hrw,t0,RR2,rfl,f1,f2,f3,p1,p2,p3,zFm T.cl,?_⟩;refine⟨_,_,_,rfl,FR RSt,FR RG,n,bs,ms,st,rw_,t,rooms,.int b,D1,D2,D3,6,rfl,T.ths,RSt,RG,t0,RR,rfl,f1,f2,f3,p1,p2,p3,T.cl,wF (by rw[zKu tb (zQm T.ok.mok) (λr hr=>(RSt.row r hr).1) (λr hr=>(RG.row r hr).1) (λrm hrm r hr=>((RR.rm rm hrm).row r hr).1)];cases jW n bs ms st rw_ t rooms (.int b) D1 D2 D3 <;> rfl) ?_⟩;have pls:(D.lst (rooms.map λrm=>D.int (((jA n bs rm).map U).length:Int))).pl 50=true:=aT.mpr λd hd=>by obtain⟨_,_,rfl⟩:=aG.mp hd;rfl
 have hs:∀rm∈rooms,(∀r∈rm,r.length=n+1)/\rm.length<=900:=λrm h=>⟨λr hr=>((hR rm h).2 r hr).1,by have:=(hR rm h).1;omega⟩
 have b2:=T.b2;refine xC Rm ju ky (λrm=>.int (((jA n bs rm).map U).length:Int)) zA (λrm hrm=>⟨n,bs,_,rm,rfl,n3,by exact zA,(hs rm hrm).1,(hs rm hrm).2,rfl⟩) ?_;refine xC Rm ju ky (λrm=>.int (((jA n bs rm).map U).length:Int)) zA (λrm hrm=>⟨n,bs,ms,rm,rfl,n3,by exact zA,(hs rm hrm).1,(hs rm hrm).2,rfl⟩) ?_;refine⟨pls,pls,wF (by rw[QJ 50 _ pls];rfl) ?_⟩;refine⟨ns,7,rfl,by decide,λc7=>⟨c7,2,rfl,by decide,λxs lx _=>?_⟩⟩;refine⟨by exact zb,by exact yj,?_⟩;rw[show((n:Nat):Int).toNat=n by exact rfl];refine zo.all (λe=>∃p:Int×Int,e=zn p/\p.2=1/\Bd 4 p.1) (by rw[ul];exact zA) (λd hd=>?_) λes le he=>?_
 ·obtain⟨i,hi⟩:=dZ.mp hd;obtain⟨iw,rfl⟩:=jm hi;refine gE zb (by omega) λy _=>⟨by decide,k0,(y.fmod 9-4,1),rfl,rfl,?_⟩
  have:=md y (show(0:Int)<9 by decide);show(y.fmod 9-4).natAbs<2^4;omega
 obtain⟨pts,rfl,hp⟩:=ZE he;rw[aB,ul]at le;have P0:Pz (ez 0) n pts:=⟨le,λp h=>by rw[(hp p h).1];exact⟨fH,(hp p h).2,yw (by decide)⟩⟩
 obtain⟨cs2,ec2,lc2⟩:=zSt (ns:=ns) (a:=8) (b:=12) (by decide);refine⟨n,bs,ms,pts,cs2,by rw[<- ec2];rfl,T,P0,lc2,λss l4 V=>?_⟩;obtain⟨W1,W2⟩:=T.wk P0 V gG;obtain⟨X1,X2⟩:=T.turn tb hC P0 V gG;have PB:=P0.b n2 (by decide);have hCn:∀r∈C,r.length=n/\∀y∈r,Bd 20 y:=λr hr=>⟨tb.tr r hr,hC r hr⟩
 have lC:=tb.tl
 have lp:∀(ms:List MD)(ss:List v5)(x:List (Int×Int)),(ux n ms x ss).length=ss.length+1:=λms ss=>by
  induction ss with
  |nil=>exactλ_=>rfl
  |cons s ss ih=>exactλx=>congrArg (·+1) (ih _)
 refine⟨n,bs,ms,pts,ss,rfl,T.w,by exact zg,by exact zA,W1,?_⟩;refine xC zP ptV zRQ (λy=>zP (y9 C y)) (by rw[lp];exact y6) (λy hy=>⟨n,C,y,rfl,by exact zg,hCn,W2 y hy,rfl⟩) ?_
 have TW2:gD n bs (ms.map (xf n bs.length C B)):=⟨n2,b2,by rw[aB];have:=T.m2;exact zA,λm' hm=>by obtain⟨m,hm1,rfl⟩:=aG.mp hm;exact⟨(MT m hm1).1,(MT m hm1).2.mono⟩,zFm T.cl,T.w.bb⟩
 refine⟨n,C,pts,rfl,by exact zg,hCn,PB,n,bs,_,y9 C pts,ss,rfl,TW2,by unfold y9;rw[aB];exact zg,by exact zA,X1,zJ8 _,?_,bR q ?_⟩
 ·have:=zJ8 ((ux n ms pts ss).map (y9 C));rw[aQ]at this;exact this
 ·rw[X2,aQ];exact(QJ 50 _ (by have:=zJ8 ((ux n ms pts ss).map (y9 C));rw[aQ]at this;exact this)).symm
end
end K98
namespace K98
open PySem L2 Sh Pu Vg
theorem zM9:∀ds R,¬zSk 0 ds R:=λ_ _ ⟨_,_,_,h,_⟩=>by cases h
noncomputable abbrev Gq(K:W.Frag)(x:Str)(st:Stmt)(c:Addr):Prop:=∃f fd,Gf K x st f fd/\fd.code=.ref c
theorem gq_mk{oc kV doc pm ct:Value}(a:W.nsIn K mainGlobals x=some (some (.ref f)))(l:K.lookup f=some ⟨oc,od,.func (W.fnOf x x (wI st) (yG st) (zX st) .none kV doc pm an (.ref c0) ct),osl⟩)(c:W.codeIn K (.ref c0) x=true)(k:W.keepIn K (.ref f)=true):Gq K x st c0:=⟨f,_,⟨a,Qr l c k⟩,rfl⟩
variable[iT:Tbl]
theorem main(hI:∀H,Tbl.I H↔yC Pt "least_place.<locals>.<lambda>" ⟨266,27,266,54⟩ H){E:Ev xF xM xN}(Y:Wh E.P E.w E.K E.mg E.base h)(F:wO E.K "law" "law" ZF f fd)(gp:Ge E.K "_law_spoilt" QH)(gq:Gq E.K "least_place" UL cL)(T:wV E.base E.mg cL Pt)(gc:CsA E.K E.A 0 xF)(S:StA E.K E.A 8 (je E.A)):zS E.P E.w E.K E.mg E.base yN 192 f fd ["_law_script"] (wB jf):=by
 have LP:∀n,1<=n->Ct.Ok E.P E.w E.K E.mg E.base E.A (n+2) ⟨0,"least_place",0,UL,ZA,0⟩:=λn hn=>by obtain⟨f,fd,g,ec⟩:=gq;exact g.fn Y (zEK (k:=n+1) hI ec T (by omega) g.F (zQD E)) (by intro _ _ _ _ _ _;first|exact L2.Zh λ_=>rfl|exact L2.qw λ_ _=>rfl|exact L2.qx λ_ _ _=>rfl|exact L2.kb λ_ _ _ _=>rfl|exact L2.WY λ_ _ _ _ _=>rfl|exact L2.WZ λ_ _ _ _ _ _=>rfl|exact L2.Wa λ_ _ _ _ _ _ _=>rfl)
 have H:Hs E 190 (je E.A):=Ch.run Y gc (.cons (.cons (.cons (.cons (.cons (.cons (.cons (.cons (.cons (.cons (.cons (.cons (.cons (.cons (.cons (.cons (.cons (.cons (.cons (.cons (.cons (.cons (.cons (.cons (.own (.cons (.cons (.cons (.cons (.cons (.cons (.cons (.cons (.cons (.cons (.cons (.cons (.cons (.cons (.cons (.cons (.cons (.cons (.cons (.cons (.cons (.cons (.cons (.cons (.cons (.cons (.cons (.cons (.cons (.cons (.cons (.cons (.cons (.cons (.cons (.cons (.cons (.cons (.cons (.cons (.cons (.cons (.cons (.cons (.cons (.cons (.cons (.cons (.cons (.cons (.cons (.cons (.cons (.cons (.cons (.cons (.cons (.cons (.cons (.cons (.again 6 (.cons (.cons (.cons .nil zJA) zGY) zJB) (Wf zM9).2 λj=>zNY (j:=j)) zS1) zNV) zNW) zJE) zNX) zLg) zNU) zEC) zLh) zLi) zJC) zDQ) zEZ) zFf) zEU) zC8) zGc) zI5) zQJ) zQQ) zEV) zGd) zQI) zGZ) zGb) zGX) zQL) zCm) zDR) zEQ) zHK) zER) zGW) zEB) (Wf λ_ _ h=>h).1) zLb) zLZ) zGU) zFc) zLf) zNR) zDP) zJD) zQK) zQH) zQG) zLY) zQP) zFd) zQO) zGa) zHG) zLk) zNT) zS3) zEY) zGT) zC7) zHJ) zLX) (λ_=>LP 140 (by decide))) zEX) zHI) zNS) zEW) zLj) zS2) zGV) zEP) zLa) zET) zFe) zEA) zES) zNQ) zHH) zI7) zLe) zLc) zI6) zQN) zI8) zI9) zLd) zQM) S;obtain⟨_,_,gp⟩:=gp;exact zR0 (k:=190) F H (gp.fn Y (zGu (k:=190) gp.F (zQD E)) (by intro _ _ _ _ _ _;first|exact L2.Zh λ_=>rfl|exact L2.qw λ_ _=>rfl|exact L2.qx λ_ _ _=>rfl|exact L2.kb λ_ _ _ _=>rfl|exact L2.WY λ_ _ _ _ _=>rfl|exact L2.WZ λ_ _ _ _ _ _=>rfl|exact L2.Wa λ_ _ _ _ _ _ _=>rfl))
theorem all_mk(hI:∀H,Tbl.I H↔yC Pt "least_place.<locals>.<lambda>" ⟨266,27,266,54⟩ H)(A){l:W.OpenLaw}(X:K.In h)(G:h.Ns mainGlobals mg)(hfa:mg "law"=some (.ref fa))
  (gc:CsA K A 0 xF) (gf:Zj K A 0 xM=true) (gs:xN.all (λp=>Vg.isN K p.1 p.2)=true) (gb:bls.all (noN K)=true) (gl:Ge K "law" ZF) (gp:Ge K "_law_spoilt" QH) (gq:Gq K "least_place" UL cL) (S:StA K A 8 (je A)):
  ∃fd,(∀s v,BindsTo s fd ⟨[v],[]⟩ [("_law_script",v)])/\∀base,K.In base->base.Ns mainGlobals mg->wV base mg cL Pt->zS l.prog w K mg base yN 192 fa fd ["_law_script"] (wB jf):=by
 obtain⟨_,_,gl⟩:=gl;have e:=hfa.symm.trans (W.mg_of X G gl.at_);cases e;obtain⟨_,_,kV,dc,pm,an,cd,ct,_,rfl,_⟩:=gl.F.ex;refine⟨W.fnOf "law" "law" (wI ZF) (yG ZF) (zX ZF) .none kV dc pm an cd ct,λs v=>.of_eq rfl,λbase _ _ T=>?_⟩;exact main hI (E:=evOf l.prog w K mg base h A X G gc (by decide) gf gs gb) ⟨X,G⟩ gl.F gp gq T gc S
noncomputable def zKi(o:Obj):Bool:=match o.cls with
 | .type t=>!(t=="list")
 |_=>true
theorem nolist{K:aH}(h:K.all (λp=>zKi p.2)=true)(a)(o)(e:K.lookup a=some o):o.cls≠.type "list":=λz=>by
 have m:∃b,(b,o)∈K:=by
  clear h
  induction K with
  |nil=>cases e
  |cons p K ih=>
   obtain⟨b,o'⟩:=p;rw[bV]at e;cases q:a==b with
   |true=>rw[q]at e;cases e;exact⟨b,aR⟩
   |false=>rw[q]at e;obtain⟨c,hc⟩:=ih e;exact⟨c,aK _ hc⟩
 obtain⟨b,hb⟩:=m;have:=aT.mp h _ hb;unfold zKi at this;rw[z]at this;exact absurd this (by decide)
theorem walk{l:l6}{XP:(Str->Option Value)->Heap->Prop}{K:Params->aH}(hI:∀H,Tbl.I H↔yC Pt "least_place.<locals>.<lambda>" ⟨266,27,266,54⟩ H)(hn:l.most=some 63)(hdf:d.params.defaults=[])
  (hY:∀(w:World)(h:Heap),YP w h->(K w.params).In h) (hrec:∃d2,(PyProof.Rows.recsOf q).find? (λe=>e.name==("least_place":Str))=some d2) (htab:∀w:World,mj (K w.params) "least_place"=some (cL,Pt)) (hKP:∀w:World,(K w.params).lookup Pt=none)
  (hL:∀(p:Params)(a:Addr)(o:Obj),(K p).lookup a=some o->o.cls≠.type "list")
  (F:∀(w:World)(mg:Str->Option Value)(fa:Addr)(h:Heap),(K w.params).In h->h.Ns mainGlobals mg->mg d.name=some (.ref fa)->
   ∃fd:FuncData,(∀(s:Shared)(u:Value),BindsTo s fd ⟨[u],[]⟩ [("_law_script",u)])/\∀base:Heap,(K w.params).In base->base.Ns mainGlobals mg->wV base mg cL Pt->zS l.prog w (K w.params) mg base yN 192 fa fd ["_law_script"] (wB jf)):
  ml q loose XP YP l.row.toRowW d [] (λf vs=>PySem.call f vs):=
 hrec.elim λ_ hrec=>L2.zLw (n:=63) (k:=192) (x:="_law_script") (x2:="least_place") (sp:=λ_=>wB jf) hn (by decide) hdf ⟨rfl,by decide,by decide⟩ hY hrec htab hKP F (λw H a ns _ hO hS=>⟨λ_=>False,[.scr ns],λd=>d=.bool true,⟨λ_ z=>z.elim,(hI H).mpr (.inl hO.1)⟩,.cons (.scr ((hS.elim id λ⟨o,_,_,h1,h2,_⟩=>absurd h2 (hL w.params a o h1)).imp (λe=>wb (λz=>z) e) λ⟨o,e⟩=>⟨o,wb (λz=>z) e⟩)) .nil,⟨ns,rfl,rfl⟩,λd v H2 e _ h=>by subst e;cases h;rfl⟩)
end K98
open PySem PySem.W PyProof.Rows
set_option maxRecDepth 100000 in
set_option maxHeartbeats 0 in
theorem PySem.Challenge.cw_steadyhand_k98_whole_papers_turned_holds : PySem.Challenge.rw_steadyhand_k98_whole_papers_turned.Holds := by
 w_on
 refine holds_law H98.ld λsd=>?_
 refine holds_open (q:=H98.vw) (loose:=H98.lo) (Xt:=H98.xt) (XP:=XL H98.vw []) (Yf:=(kHook H98.KK H98.ks H98.ke).obs) (Ya:=(kHook H98.KK H98.ks H98.ke).val) (YP:=(kHook H98.KK H98.ks H98.ke).says) H98.left
  (kHook H98.KK H98.ks H98.ke).of (kHook H98.KK H98.ks H98.ke).keeps
  (λs e=>xl_of s (cx.mp e).1) XL.keeps (by rfl) (by rfl) (by rfl)
  (λs e=>recFacts_of (cx.mp e).2) (by rfl) (by assumption) (by decide+kernel)
  ⟨rfl,rfl,rfl,rfl,rfl,by decide+kernel⟩ ?hw ?hc
 case hw=>w_witness2
 clear sd
 k_fill
 refine K98.walk (l:=PySem.Challenge.rw_steadyhand_k98_whole_papers_turned) (iT:=Pu.tbI 498 "least_place.<locals>.<lambda>" ⟨266,27,266,54⟩) (cL:=500) (Pt:=498) (λ_=>Iff.rfl) rfl rfl (λw h Y=>PySem.W.kIn_of Y) ?hrec ?htab ?hKP (λp a o=>K98.nolist (iT:=Pu.tbI 498 "least_place.<locals>.<lambda>" ⟨266,27,266,54⟩) (K:=H98.KK p) (by kernel_rfl) a o) ?F
 case hrec=>exact⟨_,rfl⟩
 case htab=>intro w;first|rfl|kernel_rfl
 case hKP=>intro w;rfl
 case F=>
  intro w mg fa h KX G hmg
  letI:Pu.Tbl:=Pu.tbI 498 "least_place.<locals>.<lambda>" ⟨266,27,266,54⟩
  refine' K98.all_mk (iT:=Pu.tbI 498 "least_place.<locals>.<lambda>" ⟨266,27,266,54⟩) (λ_=>Iff.rfl) H98.ca KX G hmg ?gc ?gf ?gs ?gb ?gl ?gp ?gq ?S
  case gf=>kernel_rfl
  case gs=>kernel_rfl
  case gb=>kernel_rfl
  case gq=>(refine' K98.gq_mk ?a ?l ?c ?k;(case a=>k_is);(case l=>k_is);(case c=>k_is);(case k=>k_is))
  case gl=>(refine' L2.zPe ?a ?l ?c ?k;(case a=>k_is);(case l=>k_is);(case c=>k_is);(case k=>k_is))
  case gp=>(refine' L2.zPe ?a ?l ?c ?k;(case a=>k_is);(case l=>k_is);(case c=>k_is);(case k=>k_is))
  case gc=>repeat(first|exact Vg.CsA.nil|(refine' Vg.CsA.cons ?s1 ?_;(case s1=>(refine' L2.Gc.mk ?a ?b ?c ?d ?e ?f ?g ?h ?i ?j ?k;(case a=>k_is);(case b=>k_is);(case c=>k_is);(case d=>k_is);(case e=>k_is);(case f=>k_is);(case g=>k_is);(case h=>k_is);(case i=>k_is);(case j=>k_is);(case k=>k_is)))))
  case S=>repeat(first|exact Vg.StA.nil|(refine' Vg.st0_ ?s1 ?s2 ?_;(case s1=>(refine' L2.zPe ?a ?l ?c ?k;(case a=>k_is);(case l=>k_is);(case c=>k_is);(case k=>k_is)));(case s2=>intro _ _ _ _ _ _;first|exact L2.Zh λ_=>rfl|exact L2.qw λ_ _=>rfl|exact L2.qx λ_ _ _=>rfl|exact L2.kb λ_ _ _ _=>rfl|exact L2.WY λ_ _ _ _ _=>rfl|exact L2.WZ λ_ _ _ _ _ _=>rfl|exact L2.Wa λ_ _ _ _ _ _ _=>rfl))|(refine' Vg.st2_ ?s1 ?s2 ?_;(case s1=>(refine' L2.zSP ?a ?i ?l ?c ?k;(case a=>k_is);(case i=>k_is);(case l=>k_is);(case c=>k_is);(case k=>k_is)));(case s2=>intro _ _ _ _ _ _;first|exact L2.Zh λ_=>rfl|exact L2.qw λ_ _=>rfl|exact L2.qx λ_ _ _=>rfl|exact L2.kb λ_ _ _ _=>rfl|exact L2.WY λ_ _ _ _ _=>rfl|exact L2.WZ λ_ _ _ _ _ _=>rfl|exact L2.Wa λ_ _ _ _ _ _ _=>rfl))|(refine' Vg.st3_ ?s1 ?s2 ?_;(case s1=>(refine' L2.zSP ?a ?i ?l ?c ?k;(case a=>k_is);(case i=>k_is);(case l=>k_is);(case c=>k_is);(case k=>k_is)));(case s2=>intro _ _ _ _ _ _;first|exact L2.Zh λ_=>rfl|exact L2.qw λ_ _=>rfl|exact L2.qx λ_ _ _=>rfl|exact L2.kb λ_ _ _ _=>rfl|exact L2.WY λ_ _ _ _ _=>rfl|exact L2.WZ λ_ _ _ _ _ _=>rfl|exact L2.Wa λ_ _ _ _ _ _ _=>rfl))|(refine' Vg.st1_ ?s1 ?s2 ?_;(case s1=>(refine' L2.Wb ?a ?l ?c ?k ?d;(case a=>k_is);(case l=>k_is);(case c=>k_is);(case k=>k_is);(case d=>k_is)));(case s2=>(intro t;refine⟨?_,?_⟩ <;> intro _ _ _ _ _ _ _ <;> first|exact L2.qw λ_ _=>⟨_,rfl,rfl⟩|exact L2.qx λ_ _ _=>⟨_,rfl,rfl⟩|exact L2.kb λ_ _ _ _=>⟨_,rfl,rfl⟩|exact Vg.ar1 λ_=>⟨_,rfl,rfl⟩|exact Vg.ar2 λ_ _=>⟨_,rfl,rfl⟩|exact Vg.ar3 λ_ _ _=>⟨_,rfl,rfl⟩)))|(refine' Vg.st4_ ?s1 ?s2 ?_;(case s1=>(refine' L2.Wc ?a ?z ?l ?c ?k ?d;(case a=>k_is);(case z=>k_is);(case l=>k_is);(case c=>k_is);(case k=>k_is);(case d=>k_is)));(case s2=>(intro t;refine⟨?_,?_⟩ <;> intro _ _ _ _ _ _ _ <;> first|exact L2.qw λ_ _=>⟨_,rfl,rfl⟩|exact L2.qx λ_ _ _=>⟨_,rfl,rfl⟩|exact L2.kb λ_ _ _ _=>⟨_,rfl,rfl⟩|exact Vg.ar1 λ_=>⟨_,rfl,rfl⟩|exact Vg.ar2 λ_ _=>⟨_,rfl,rfl⟩|exact Vg.ar3 λ_ _ _=>⟨_,rfl,rfl⟩))))
#print axioms PySem.Challenge.cw_steadyhand_k98_whole_papers_turned_holds
