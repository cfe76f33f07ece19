import PyProof.Rows.All
import Wide.All
import OpenK.AllK
import Wide.FinOn
import Lean
import PyProof.EqAt
import PyProof.EqKinds
import PyProof.TupleCall
import PyProof.ZipIter
import PyProof.Draws
import PyProof.StationsW
import PyProof.EnumStmt
import PyProof.EnumMake
import PyProof.CallType
import PyProof.Rows.CallKwBuiltin
import PyProof.EnumIter
import PyProof.Rows.SeqMore
import PyProof.P3In
import PySem.Challenge.RW_steadyhand_k77_rooms_grown_by_modes
open List renaming length_map→a_,getElem?_eq_getElem→b_,getD_eq_getElem?_getD→cz,length_append→cA,mem_cons_of_mem→cB,mem_cons_self→cD,replicate→cG,mem_map→cH,length_take→cI,take_of_length_le→cJ,getElem?_eq_some_iff→cK,size_toArray→cM,map_append→cP,mem_append_right→cQ,range→cR,length_range→cT,map_map→c_,mem_cons→da,getElem?_map→db,all_eq_true→de,mem_singleton→df,length_cons→dg,map_cons→di,take_append_of_le_length→dj,lookup_cons→dk,mem_of_getElem?→dm,length_set→dq,mem_append→dr,mem_range→dz,getElem?_append_right→dB,getElem?_set_ne→dF,of_mem_zip→dG,not_mem_nil→dL,zipWith→dQ,getElem_mem→dX,getElem?_range→dY,append_nil→d5,length_zip→d6,mem_of_mem_take→d7,length_drop→d8,getElem_of_mem→ef,getElem?_append_left→eh,getElem?_eq_none→ez,mem_filter→eF,filterMap_cons→eG,replicate_succ→eI,map_congr_left→eN,getElem?_set_self→eO,length_replicate→eS,append_assoc→eZ,getElem?_cons_succ→fb,drop_zero→fo,length_singleton→fB,flatten_cons→fD,mem_or_eq_of_mem_set→fE,lookup→fG,range'→fH,map_id→fI,getElem?_take_of_lt→fK,nodup_cons→fP,foldl_cons→fR,map_take→fW,filter_cons_of_pos→fX,filter_cons_of_neg→fY,length_eraseIdx_le→fZ,take_succ_eq_append_getElem→f6,zipWith_cons_cons→f9,getElem_set→ie,mem_append_left→ig,mem_iff_getElem→ii,length→im,take_succ_cons→ip,length_zipWith→iw,mem_filterMap→iA,map_replicate→iF,eq_of_mem_replicate→iQ,foldl_append→iR,sum_cons→iU,map_drop→iX,drop_of_length_le→i4,range_succ_eq_map→i5,forIn_cons→i7,getElem?_toArray→i8,length_filter_le→j',mem_iff_getElem?→k_,foldl→lj,map→lA,length_eraseIdx→lC,forIn_nil→lD,length_flatten→lM,zip_cons_cons→lV,filter_append→lW,length_range'→lX,any_eq_false→lZ,pairwise_map→mf,getElem?_set→mh,ext_getElem?→mi,map_nil→mn,zipIdx_cons→mF,take_length→mG,cons_append→mK,drop_length→mM,ext_getElem→mO,any_eq_true→mP,nil_append→mT,zipIdx_nil→mU,length_nil→mY
open PySem.W renaming Frag→b',kitOne→dl,kia_one→dW,emptyDict→dZ,findIn→d4,cellsFrom_some→d9,keepIn→eg,fnOf→eD,instObj→eE,hideAll_get→fF,hideAll→fN,kla_obj→fV,codeIn→hW,plainGet→ib,plainGet_of→ij,of_hideAll→ix,callWith_K→iB,lookIn→iG,tabObj→iK,methodObj→iM,hasDictIn→iN,excIn→iS,takerIn→i6,envX→j_,exmOne→lE,kla_fn→lF,CodeHd→lG,plainOver→l6,specialIn→l7,kitx_list→l8,kitx_dict→l',isFn→mm,handedIn→mD,makesIn→mQ,takesIn→mS,OpenLaw→mW,mroIn→nc,tabIn→ni,WalkO→nj
open PySem.Heap renaming get?_push_of_some→cE,lt_size→cS,get?_push_size→cW,get?_update_other→dE,size_push→eX,get?_update_self→fA,MadeExcOf→m_
open Nat renaming le_refl→cF,lt_of_lt_of_le→cU,lt_irrefl→dy,ne_of_lt→dA,lt_succ_self→dC,le_trans→dM,le_add_right→eB,not_lt_zero→e8,zero_add→fC,ne_of_gt→fJ,lt_succ_of_lt→g_,sub_zero→hZ,sub_self→h7,zero_le→ik,two_pow_pos→io,le_of_lt→iz,add_mul_mod_self_left→iI,mul_le_mul_left→lJ,gcd→lK,lt_of_le_of_lt→lQ,le_of_succ_le→l_,lt_trichotomy→mj,pow_succ→mq,succ_pos→mt,add_zero→mw,mod_eq_of_lt→mH,succ_lt_succ→mI,zero_lt_succ→mJ,min_eq_right→mL,min_eq_left→mX
open Rat renaming intCast_mul→cO,mul_lt_mul_of_pos_right→dn,mul_nonneg→dH,mul_le_mul_of_nonneg_right→dJ,le_of_lt→dN,div_def→eJ,intCast_sub→eK,lt_irrefl→eV,mul_assoc→eW,mul_one→e_,inv_mul_cancel→fu,mul_inv_cancel→fy,intCast_add→fU,mul_le_mul_of_nonneg_left→ic,le_refl→iq,mul_pos→ir,zero_mul→my
open PySem.F renaming plainAttrs_list→cV,slot_list_append→cX,type_list_append→cY,plain_min_loop→dU,args_tuple_add_2→fL,entry_tuple_add→fQ,slot_tuple_add→f7,entry_min_loop→f8,slot_list_pop→lg,type_list_pop→lh
open Classical renaming byContradiction→cZ,choose_spec→h9,axiomOfChoice→iV
open Bool renaming false_ne_true→dh,and_eq_true_iff→eC,and_eq_true→eQ,false_eq_true→ft,eq_iff_iff→fz,false_bne→iL,beq_eq_decide_eq→i_,eq_false_iff→ml
open PySem.Str renaming ofString→dD
open PySem.PyData renaming eqv→dP,eqvAll→eU,canLay0→fq,canLayAll0→hJ,depth→h_,strOk→iC,depthAll→i9
open Int renaming ne_of_gt→dR,mul_pos→eY,gcd→e7,zero_sub→e9,eq_ofNat_of_zero_le→ff,mul_le_mul_of_nonneg_left→fg,toNat_natCast→f_,lt_trichotomy→gV,one_pos→hV,mul_comm→hX,mul_le_mul_of_nonneg_right→ia,le_of_lt→iE,mul_neg_of_neg_of_pos→iH,gcd_dvd_right→iO,mul_fdiv_cancel_left→iP,mul_fdiv_mul_of_pos→iW,gcd_dvd_left→iY,mul_nonneg→lH,fdiv_mul_cancel→lI,natAbs_eq_zero→lR,mul_zero→mr,zero_add→mz,pow_succ→mB,le_refl→mV,natCast_pow→mZ,mul_assoc→ng,dvd_trans→nh
open Array renaming length_toList→d_,getElem?_eq_some_iff→eP,append_assoc→lO,empty_append→lY,toList→nk
open Option renaming isSome_iff_exists→eA,map→fM,map_some→fT,filter_eq_some_iff→iJ,map_eq_some_iff→iZ,getD_none→mE
open PySem.MeetsSeq renaming list_pop_at→m9
set_option Elab.async false
set_option linter.all false
set_option maxRecDepth 100000
set_option maxHeartbeats 0
namespace TT
open PySem PySem.W
def runT (tb:String->Option Builtin) (p:Program) (w:World) (k:Nat) (an:Option Value):Nat->SharedT->Thread->Option SharedT
 | 0,_,_=>none
 | j + 1,x,t=>match through t with
  | true=>some x
  | false=>match stepOk k an t with
   | false=>none
   | true=>match stepT (denote tb) p w x t with
    | none=>none
    | some y=>runT tb p w k an j y.1 y.2
theorem K5 {tb:String->Option Builtin} {p:Program} {w:World} {k:Nat} {an:Option Value}:∀ (j:Nat) (x y:SharedT) (t:Thread),runT tb p w k an j x t=some y->topRun tb p w k an j x.abs t=some y.abs
 | 0,_,_,_,e=>by cases e
 | j + 1,x,y,t,e=>by
  unfold runT at e
  unfold topRun
  cases e1:through t with
  | true=>
   rw [e1] at e
   cases e
   rfl
  | false=>
   rw [e1] at e
   cases e2:stepOk k an t with
   | false=>rw [e2] at e; cases e
   | true=>
    rw [e2] at e
    cases e3:stepT (denote tb) p w x t with
    | none=>rw [e3] at e; cases e
    | some z=>
     rw [e3] at e
     rw [stepT_spec e3]
     exact K5 j z.1 y z.2 e
theorem left_is {p q:Program} {lo:List Str} {xt:Shared->Bool} {α:Type} {Yf:Shared->α} {Ya:World->α} {N k n0:Nat} {an:Option Value} {tr:Params->BT} (op:∀ w:World,(fencedOpening treeTable p w N).map (λs=>(s.heap,s.gens,s.drawn,s.toks))=some (boot_heap w.params,Array.mk [],boot_drawn,boot_toks))
  (et:∀ P:Params,absHeap (tr P) n0 (boot_heap P).life=boot_heap P) (z1:∀ P:Params,(boot_heap P).isNs mainGlobals=true) (z2:∀ P:Params,(boot_heap P).objs.size=k) (z3:∀ P:Params,(boot_heap P).nsMap mainGlobals "__annotations__" = an)
  (h:∀ (w:World) (os:OsState),(runT treeTable p w k an N ⟨tr w.params,n0,(boot_heap w.params).life,Array.mk [],boot_drawn,boot_toks,os⟩ (topStub p)).map (λs=>((staticsOk (importedModules p.main.body) (boot_heap w.params) s.abs.heap && namesBound p s.abs.heap && gensDone s.abs && laidKept (boot_heap w.params) s.abs.heap),openSeen q lo (importedModules p.main.body) xt true s.abs,Yf s.abs))=some (true,openGood q lo,Ya w)) :
  LeftO p q lo xt Yf Ya N:=λw=>by
 obtain ⟨⟨hp,gs,d,tk,os⟩,e,e'⟩:=iZ.mp (op w)
 injection e' with a1 e'
 injection e' with a2 e'
 injection e' with a3 a4
 subst a1 a2 a3 a4
 obtain ⟨y,ey,eo⟩:=iZ.mp (h w os)
 injection eo with l1 eo
 injection eo with l2 l3
 have r:=K5 _ _ _ _ ey
 have r':topRun treeTable p w k an N ⟨boot_heap w.params,Array.mk [],boot_drawn,boot_toks,os⟩ (topStub p)=some y.abs:=by
  rw [<- r]
  unfold SharedT.abs
  rw [et]
 have f:topFrom treeTable p w N ⟨boot_heap w.params,Array.mk [],boot_drawn,boot_toks,os⟩=some y.abs:=by
  unfold topFrom
  show (match (boot_heap w.params).isNs mainGlobals && true with | true=>_ | false=>_)=_
  rw [z1,z2,z3,r']
  show (match (_ && _ && _ && _) with | true=>_ | false=>_)=_
  rw [l1]
 unfold openEnds
 rw [e]
 show (topFrom treeTable p w N _).map _=_
 rw [f]
 exact congrArg some (Prod.ext l2 l3)
end TT
namespace H77
open PySem PySem.W
set_option maxRecDepth 100000
def hT (i:Nat):Stmt:=PySem.Challenge.pw_steadyhand_k77_rooms_grown_by_modes.main.body.getD i (.Pass ⟨0,0,0,0⟩)
def hI (i j:Nat):Stmt:=match hT i with
 | .ClassDef _ _ _ b _ _ _ _ _ _ _=>b.getD j (.Pass ⟨0,0,0,0⟩)
 | s=>s
def hA:Stmt->Arguments
 | .FunctionDef _ a _ _ _ _ _ _ _ _=>a
 | _=>⟨[],[],none,[],[],none,[]⟩
def hB:Stmt->List Stmt
 | .FunctionDef _ _ b _ _ _ _ _ _ _=>b
 | _=>[]
def hC:Stmt->Scope
 | .FunctionDef _ _ _ _ _ _ c _ _ _=>c
 | _=>{ kind:=.function,names:=[],isGenerator:=false,isCoroutine:=false }
abbrev hS (s:String) (n:Nat):Value:=.str (dD s) n
abbrev hE (P:Params) (s:String) (n:Nat) (v:Value):DictEntry:=⟨PyData.keyHash P (dD s),hS s n,v⟩
abbrev hU (x:Array Value):Obj:={ cls:=.type "tuple",data:=.seq x }
abbrev hD (s:String) (a:Nat) (s2:String) (b c:Nat) (i j f:Int) (r1 r2:Nat) (u v t r:Value) (y z:Int) (d:Nat):Obj:={ cls:=.type "code",data:=.fields #[hS s a,hS s2 b,hS "/claim/cut.py" c,.int i 0,.int j 0,.int 0 0,.int 0 0,.int f 0,.ref r1,.bool true,.int 181 0,.ref r2,u,v,t,r,.int y 0,.int z 0,hS "/claim/cut.py" d] }
abbrev hF (n q:String) (s:Stmt) (d k:Value) (m:String) (j c:Nat):Obj:={ cls:=.type "function",data:=.func { name:=n,qualname:=q,params:=hA s,body:=.stmts (hB s),scope:=hC s,globals:=3,closure:=[],defaults:=d,kwdefaults:=k,pyModule:=hS m j,code:=.ref c } }
noncomputable def KK:Params->Frag:=λP=>
 (nat_lit 2,{ cls:=.none,data:=.dict #[] })::(nat_lit 3,{ cls:=.type "dict",data:=.dict #[hE P "__name__" 165 (hS "law_steadyhand_k77_rooms_grown_by_modes" 782),hE P "__doc__" 166 (.none),hE P "__package__" 167 (.none),hE P "__loader__" 168 (.builtin "__main__.__loader__#opaque"),hE P "__spec__" 169 (.none),hE P "__annotations__" 170 (.ref 6),hE P "__builtins__" 171 (.ref 4),hE P "__file__" 173 (hS "/claim/cut.py" 172),hE P "__cached__" 174 (.none),hE P "_wall" 193 (.ref 21),hE P "SteadyError" 213 (.ref 31),hE P "NoNumber" 229 (.ref 44),hE P "BadThing" 245 (.ref 56),hE P "TooMany" 261 (.ref 68),hE P "NotClosed" 277 (.ref 80),hE P "is_whole" 286 (.ref 89),hE P "common_divisor" 297 (.ref 96),hE P "fraction" 307 (.ref 104),hE P "minus" 315 (.ref 111),hE P "times" 323 (.ref 118),hE P "under" 331 (.ref 125),hE P "ceiling_of" 338 (.ref 132),hE P "is_numbers" 346 (.ref 137),hE P "is_table" 352 (.ref 142),hE P "copied" 359 (.ref 148),hE P "unit" 366 (.ref 154),hE P "paired" 372 (.ref 159),hE P "added_up" 378 (.ref 164),hE P "is_row" 386 (.ref 169),hE P "is_room" 392 (.ref 174),hE P "single" 402 (.ref 181),hE P "raw_sum" 414 (.ref 188),hE P "along" 423 (.ref 195),hE P "holds" 432 (.ref 202),hE P "solved" 440 (.ref 207),hE P "first_with" 449 (.ref 214),hE P "put_ahead" 459 (.ref 221),hE P "cleared" 465 (.ref 226),hE P "most" 473 (.ref 231),hE P "climbed" 479 (.ref 236),hE P "axes" 485 (.ref 241),hE P "first_corner" 491 (.ref 246),hE P "corner_point" 497 (.ref 251),hE P "weights_of" 503 (.ref 256),hE P "way_off" 509 (.ref 261),hE P "least_place" 515 (.ref 266),hE P "exchanged" 524 (.ref 273),hE P "first_broken" 534 (.ref 280),hE P "first_met" 549 (.ref 287),hE P "over_one_bottom" 555 (.ref 292),hE P "spread" 561 (.ref 297),hE P "reach" 574 (.ref 304),hE P "worst_pushes" 580 (.ref 309),hE P "without_pushes" 588 (.ref 316),hE P "MOST_NUMBERS" 592 (.int 3 591),hE P "MOST_PUSHES" 594 (.int 6 593),hE P "MOST_MODES" 596 (.int 40 595),hE P "Mode" 635 (.ref 333),hE P "Thing" 695 (.ref 380),hE P "is_sound" 701 (.ref 389),hE P "is_push" 708 (.ref 396),hE P "is_mode" 717 (.ref 403),hE P "is_unsteered" 723 (.ref 408),hE P "ask_closed" 730 (.ref 415),hE P "first_room" 743 (.ref 422),hE P "grown_once" 754 (.ref 429),hE P "grown_bound" 768 (.ref 436),hE P "grown" 781 (.ref 443),hE P "_law_cell_at" 791 (.ref 450),hE P "_law_stream" 803 (.ref 457),hE P "_law_number" 811 (.ref 464),hE P "_law_mode" 817 (.ref 469),hE P "_law_thing" 833 (.ref 476),hE P "_law_made" 839 (.ref 481),hE P "_law_box" 852 (.ref 488),hE P "_law_rows" 858 (.ref 493),hE P "_law_top" 869 (.ref 500),hE P "_law_start" 875 (.ref 505),hE P "_law_shape" 881 (.ref 510),hE P "_law_first" 892 (.ref 517),hE P "_law_bound" 898 (.ref 522),hE P "_law_once" 904 (.ref 527),hE P "_law_refused" 923 (.ref 534),hE P "law" 940 (.ref 541)] 84 })::(nat_lit 15,hU #[])::(nat_lit 17,hU #[hS "k" 190])::(nat_lit 18,hU #[])::(nat_lit 20,hD "_wall" 187 "_wall" 188 189 1 1 3 15 16 .none (.ref 17) (.ref 18) (.ref 19) 191 1 192)::(nat_lit 21,hF "_wall" "_wall" (hT 0) .none .none "__main__" 164 20)::(nat_lit 22,hU #[.type "ValueError"])::(nat_lit 29,hU #[])::(nat_lit 30,{ cls:=.type "dict",data:=.dict #[hE P "__module__" 203 (hS "steadyhand.errors" 194),hE P "__firstlineno__" 207 (.int 5 206),hE P "__static_attributes__" 208 (.ref 29),hE P "__weakref__" 210 (.ref 32),hE P "__doc__" 211 (.none)] 3 })::(nat_lit 31,{ cls:=.type "type",data:=.cls { name:="SteadyError",bases:=[.type "ValueError"],mro:=[.ref 31,.type "ValueError",.type "Exception",.type "BaseException",.type "object"],ns:=30,qualname:="SteadyError",subclasses:=[.ref 44,.ref 56,.ref 68,.ref 80] },slots:=#[some (.ref 22),none,some (hS "SteadyError" 196),some (hS "SteadyError" 204),some (.builtin "ValueError.__new__"),some (.bool true)] })::(nat_lit 32,{ cls:=.type "getset_descriptor",data:=.fields #[hS "__weakref__" 209,.ref 31,.builtin "ExceptionGroup.__weakref__",.none] })::(nat_lit 35,hU #[.ref 31])::(nat_lit 42,hU #[])::(nat_lit 43,{ cls:=.type "dict",data:=.dict #[hE P "__module__" 221 (hS "steadyhand.errors" 194),hE P "__firstlineno__" 225 (.int 7 224),hE P "__static_attributes__" 226 (.ref 42),hE P "__doc__" 227 (.none)] 2 })::(nat_lit 44,{ cls:=.type "type",data:=.cls { name:="NoNumber",bases:=[.ref 31],mro:=[.ref 44,.ref 31,.type "ValueError",.type "Exception",.type "BaseException",.type "object"],ns:=43,qualname:="NoNumber" },slots:=#[some (.ref 35),none,some (hS "NoNumber" 214),some (hS "NoNumber" 222),some (.builtin "ValueError.__new__"),some (.bool true)] })::(nat_lit 47,hU #[.ref 31])::(nat_lit 54,hU #[])::(nat_lit 55,{ cls:=.type "dict",data:=.dict #[hE P "__module__" 237 (hS "steadyhand.errors" 194),hE P "__firstlineno__" 241 (.int 9 240),hE P "__static_attributes__" 242 (.ref 54),hE P "__doc__" 243 (.none)] 2 })::(nat_lit 56,{ cls:=.type "type",data:=.cls { name:="BadThing",bases:=[.ref 31],mro:=[.ref 56,.ref 31,.type "ValueError",.type "Exception",.type "BaseException",.type "object"],ns:=55,qualname:="BadThing" },slots:=#[some (.ref 47),none,some (hS "BadThing" 230),some (hS "BadThing" 238),some (.builtin "ValueError.__new__"),some (.bool true)] })::(nat_lit 59,hU #[.ref 31])::(nat_lit 66,hU #[])::(nat_lit 67,{ cls:=.type "dict",data:=.dict #[hE P "__module__" 253 (hS "steadyhand.errors" 194),hE P "__firstlineno__" 257 (.int 11 256),hE P "__static_attributes__" 258 (.ref 66),hE P "__doc__" 259 (.none)] 2 })::(nat_lit 68,{ cls:=.type "type",data:=.cls { name:="TooMany",bases:=[.ref 31],mro:=[.ref 68,.ref 31,.type "ValueError",.type "Exception",.type "BaseException",.type "object"],ns:=67,qualname:="TooMany" },slots:=#[some (.ref 59),none,some (hS "TooMany" 246),some (hS "TooMany" 254),some (.builtin "ValueError.__new__"),some (.bool true)] })::(nat_lit 71,hU #[.ref 31])::(nat_lit 78,hU #[])::(nat_lit 79,{ cls:=.type "dict",data:=.dict #[hE P "__module__" 269 (hS "steadyhand.errors" 194),hE P "__firstlineno__" 273 (.int 13 272),hE P "__static_attributes__" 274 (.ref 78),hE P "__doc__" 275 (.none)] 2 })::(nat_lit 80,{ cls:=.type "type",data:=.cls { name:="NotClosed",bases:=[.ref 31],mro:=[.ref 80,.ref 31,.type "ValueError",.type "Exception",.type "BaseException",.type "object"],ns:=79,qualname:="NotClosed" },slots:=#[some (.ref 71),none,some (hS "NotClosed" 262),some (hS "NotClosed" 270),some (.builtin "ValueError.__new__"),some (.bool true)] })::(nat_lit 83,hU #[])::(nat_lit 85,hU #[hS "thing" 283])::(nat_lit 86,hU #[])::(nat_lit 88,hD "is_whole" 280 "is_whole" 281 282 16 1 3 83 84 .none (.ref 85) (.ref 86) (.ref 87) 284 16 285)::(nat_lit 89,hF "is_whole" "is_whole" (hT 8) .none .none "steadyhand.fractions" 278 88)::(nat_lit 90,hU #[])::(nat_lit 92,hU #[hS "numbers" 290,hS "common" 291,hS "number" 292,hS "rest" 293,hS "left" 294])::(nat_lit 93,hU #[])::(nat_lit 95,hD "common_divisor" 287 "common_divisor" 288 289 18 1 3 90 91 .none (.ref 92) (.ref 93) (.ref 94) 295 18 296)::(nat_lit 96,hF "common_divisor" "common_divisor" (hT 9) .none .none "steadyhand.fractions" 278 95)::(nat_lit 97,hU #[.int 1 298])::(nat_lit 98,hU #[])::(nat_lit 100,hU #[hS "top" 302,hS "bottom" 303,hS "common" 304])::(nat_lit 101,hU #[])::(nat_lit 103,hD "fraction" 299 "fraction" 300 301 27 2 3 98 99 .none (.ref 100) (.ref 101) (.ref 102) 305 27 306)::(nat_lit 104,hF "fraction" "fraction" (hT 10) (.ref 97) .none "steadyhand.fractions" 278 103)::(nat_lit 105,hU #[])::(nat_lit 107,hU #[hS "one" 311,hS "other" 312])::(nat_lit 108,hU #[])::(nat_lit 110,hD "minus" 308 "minus" 309 310 36 2 3 105 106 .none (.ref 107) (.ref 108) (.ref 109) 313 36 314)::(nat_lit 111,hF "minus" "minus" (hT 11) .none .none "steadyhand.fractions" 278 110)::(nat_lit 112,hU #[])::(nat_lit 114,hU #[hS "one" 319,hS "other" 320])::(nat_lit 115,hU #[])::(nat_lit 117,hD "times" 316 "times" 317 318 38 2 3 112 113 .none (.ref 114) (.ref 115) (.ref 116) 321 38 322)::(nat_lit 118,hF "times" "times" (hT 12) .none .none "steadyhand.fractions" 278 117)::(nat_lit 119,hU #[])::(nat_lit 121,hU #[hS "one" 327,hS "other" 328])::(nat_lit 122,hU #[])::(nat_lit 124,hD "under" 324 "under" 325 326 40 2 3 119 120 .none (.ref 121) (.ref 122) (.ref 123) 329 40 330)::(nat_lit 125,hF "under" "under" (hT 13) .none .none "steadyhand.fractions" 278 124)::(nat_lit 126,hU #[])::(nat_lit 128,hU #[hS "value" 335])::(nat_lit 129,hU #[])::(nat_lit 131,hD "ceiling_of" 332 "ceiling_of" 333 334 42 1 3 126 127 .none (.ref 128) (.ref 129) (.ref 130) 336 42 337)::(nat_lit 132,hF "ceiling_of" "ceiling_of" (hT 14) .none .none "steadyhand.fractions" 278 131)::(nat_lit 133,hU #[])::(nat_lit 136,hD "is_numbers" 341 "is_numbers" 342 343 45 2 3 133 134 .none .none .none (.ref 135) 344 45 345)::(nat_lit 137,hF "is_numbers" "is_numbers" (hT 16) .none .none "steadyhand.tables" 339 136)::(nat_lit 138,hU #[])::(nat_lit 141,hD "is_table" 347 "is_table" 348 349 47 3 3 138 139 .none .none .none (.ref 140) 350 47 351)::(nat_lit 142,hF "is_table" "is_table" (hT 17) .none .none "steadyhand.tables" 339 141)::(nat_lit 143,hU #[.int 5 353])::(nat_lit 144,hU #[])::(nat_lit 147,hD "copied" 354 "copied" 355 356 49 2 3 144 145 .none .none .none (.ref 146) 357 49 358)::(nat_lit 148,hF "copied" "copied" (hT 18) (.ref 143) .none "steadyhand.tables" 339 147)::(nat_lit 149,hU #[.int 1 360])::(nat_lit 150,hU #[])::(nat_lit 153,hD "unit" 361 "unit" 362 363 57 3 3 150 151 .none .none .none (.ref 152) 364 57 365)::(nat_lit 154,hF "unit" "unit" (hT 19) (.ref 149) .none "steadyhand.tables" 339 153)::(nat_lit 155,hU #[])::(nat_lit 158,hD "paired" 367 "paired" 368 369 59 2 3 155 156 .none .none .none (.ref 157) 370 59 371)::(nat_lit 159,hF "paired" "paired" (hT 20) .none .none "steadyhand.tables" 339 158)::(nat_lit 160,hU #[])::(nat_lit 163,hD "added_up" 373 "added_up" 374 375 61 3 3 160 161 .none .none .none (.ref 162) 376 61 377)::(nat_lit 164,hF "added_up" "added_up" (hT 21) .none .none "steadyhand.tables" 339 163)::(nat_lit 165,hU #[])::(nat_lit 168,hD "is_row" 381 "is_row" 382 383 64 2 3 165 166 .none .none .none (.ref 167) 384 64 385)::(nat_lit 169,hF "is_row" "is_row" (hT 23) .none .none "steadyhand.rows" 379 168)::(nat_lit 170,hU #[])::(nat_lit 173,hD "is_room" 387 "is_room" 388 389 66 2 3 170 171 .none .none .none (.ref 172) 390 66 391)::(nat_lit 174,hF "is_room" "is_room" (hT 24) .none .none "steadyhand.rows" 379 173)::(nat_lit 175,hU #[])::(nat_lit 177,hU #[hS "place" 396,hS "many" 397,hS "number" 398,hS "bound" 399])::(nat_lit 178,hU #[])::(nat_lit 180,hD "single" 393 "single" 394 395 68 4 3 175 176 .none (.ref 177) (.ref 178) (.ref 179) 400 68 401)::(nat_lit 181,hF "single" "single" (hT 25) .none .none "steadyhand.rows" 379 180)::(nat_lit 182,hU #[])::(nat_lit 184,hU #[hS "numbers" 406,hS "point" 407,hS "top" 408,hS "bottom" 409,hS "number" 410,hS "part" 411])::(nat_lit 185,hU #[])::(nat_lit 187,hD "raw_sum" 403 "raw_sum" 404 405 70 2 3 182 183 .none (.ref 184) (.ref 185) (.ref 186) 412 70 413)::(nat_lit 188,hF "raw_sum" "raw_sum" (hT 26) .none .none "steadyhand.rows" 379 187)::(nat_lit 189,hU #[])::(nat_lit 191,hU #[hS "row" 418,hS "point" 419,hS "total" 420])::(nat_lit 192,hU #[])::(nat_lit 194,hD "along" 415 "along" 416 417 77 2 3 189 190 .none (.ref 191) (.ref 192) (.ref 193) 421 77 422)::(nat_lit 195,hF "along" "along" (hT 27) .none .none "steadyhand.rows" 379 194)::(nat_lit 196,hU #[])::(nat_lit 198,hU #[hS "row" 427,hS "point" 428,hS "total" 429])::(nat_lit 199,hU #[])::(nat_lit 201,hD "holds" 424 "holds" 425 426 80 2 3 196 197 .none (.ref 198) (.ref 199) (.ref 200) 430 80 431)::(nat_lit 202,hF "holds" "holds" (hT 28) .none .none "steadyhand.rows" 379 201)::(nat_lit 203,hU #[])::(nat_lit 206,hD "solved" 435 "solved" 436 437 84 1 3 203 204 .none .none .none (.ref 205) 438 84 439)::(nat_lit 207,hF "solved" "solved" (hT 30) .none .none "steadyhand.solving" 433 206)::(nat_lit 208,hU #[])::(nat_lit 210,hU #[hS "rows" 444,hS "place" 445,hS "number" 446])::(nat_lit 211,hU #[])::(nat_lit 213,hD "first_with" 441 "first_with" 442 443 96 2 3 208 209 .none (.ref 210) (.ref 211) (.ref 212) 447 96 448)::(nat_lit 214,hF "first_with" "first_with" (hT 31) .none .none "steadyhand.solving" 433 213)::(nat_lit 215,hU #[])::(nat_lit 217,hU #[hS "rows" 453,hS "place" 454,hS "found" 455,hS "told" 456])::(nat_lit 218,hU #[])::(nat_lit 220,hD "put_ahead" 450 "put_ahead" 451 452 101 3 3 215 216 .none (.ref 217) (.ref 218) (.ref 219) 457 101 458)::(nat_lit 221,hF "put_ahead" "put_ahead" (hT 32) .none .none "steadyhand.solving" 433 220)::(nat_lit 222,hU #[])::(nat_lit 225,hD "cleared" 460 "cleared" 461 462 106 4 3 222 223 .none .none .none (.ref 224) 463 106 464)::(nat_lit 226,hF "cleared" "cleared" (hT 33) .none .none "steadyhand.solving" 433 225)::(nat_lit 227,hU #[])::(nat_lit 230,hD "most" 468 "most" 469 470 109 2 3 227 228 .none .none .none (.ref 229) 471 109 472)::(nat_lit 231,hF "most" "most" (hT 35) .none .none "steadyhand.most" 466 230)::(nat_lit 232,hU #[])::(nat_lit 235,hD "climbed" 474 "climbed" 475 476 123 4 3 232 233 .none .none .none (.ref 234) 477 123 478)::(nat_lit 236,hF "climbed" "climbed" (hT 36) .none .none "steadyhand.most" 466 235)::(nat_lit 237,hU #[])::(nat_lit 240,hD "axes" 480 "axes" 481 482 135 1 3 237 238 .none .none .none (.ref 239) 483 135 484)::(nat_lit 241,hF "axes" "axes" (hT 37) .none .none "steadyhand.most" 466 240)::(nat_lit 242,hU #[])::(nat_lit 245,hD "first_corner" 486 "first_corner" 487 488 137 2 3 242 243 .none .none .none (.ref 244) 489 137 490)::(nat_lit 246,hF "first_corner" "first_corner" (hT 38) .none .none "steadyhand.most" 466 245)::(nat_lit 247,hU #[])::(nat_lit 250,hD "corner_point" 492 "corner_point" 493 494 147 2 3 247 248 .none .none .none (.ref 249) 495 147 496)::(nat_lit 251,hF "corner_point" "corner_point" (hT 39) .none .none "steadyhand.most" 466 250)::(nat_lit 252,hU #[])::(nat_lit 255,hD "weights_of" 498 "weights_of" 499 500 149 3 3 252 253 .none .none .none (.ref 254) 501 149 502)::(nat_lit 256,hF "weights_of" "weights_of" (hT 40) .none .none "steadyhand.most" 466 255)::(nat_lit 257,hU #[])::(nat_lit 260,hD "way_off" 504 "way_off" 505 506 151 4 3 257 258 .none .none .none (.ref 259) 507 151 508)::(nat_lit 261,hF "way_off" "way_off" (hT 41) .none .none "steadyhand.most" 466 260)::(nat_lit 262,hU #[])::(nat_lit 265,hD "least_place" 510 "least_place" 511 512 154 2 3 262 263 .none .none .none (.ref 264) 513 154 514)::(nat_lit 266,hF "least_place" "least_place" (hT 42) .none .none "steadyhand.most" 466 265)::(nat_lit 267,hU #[])::(nat_lit 269,hU #[hS "corner" 519,hS "place" 520,hS "number" 521])::(nat_lit 270,hU #[])::(nat_lit 272,hD "exchanged" 516 "exchanged" 517 518 157 3 3 267 268 .none (.ref 269) (.ref 270) (.ref 271) 522 157 523)::(nat_lit 273,hF "exchanged" "exchanged" (hT 43) .none .none "steadyhand.most" 466 272)::(nat_lit 274,hU #[])::(nat_lit 276,hU #[hS "room" 528,hS "point" 529,hS "number" 530,hS "row" 531])::(nat_lit 277,hU #[])::(nat_lit 279,hD "first_broken" 525 "first_broken" 526 527 159 2 3 274 275 .none (.ref 276) (.ref 277) (.ref 278) 532 159 533)::(nat_lit 280,hF "first_broken" "first_broken" (hT 44) .none .none "steadyhand.most" 466 279)::(nat_lit 281,hU #[])::(nat_lit 283,hU #[hS "room" 538,hS "point" 539,hS "way" 540,hS "met" 541,hS "least" 542,hS "number" 543,hS "row" 544,hS "speed" 545,hS "spare" 546])::(nat_lit 284,hU #[])::(nat_lit 286,hD "first_met" 535 "first_met" 536 537 164 3 3 281 282 .none (.ref 283) (.ref 284) (.ref 285) 547 164 548)::(nat_lit 287,hF "first_met" "first_met" (hT 45) .none .none "steadyhand.most" 466 286)::(nat_lit 288,hU #[])::(nat_lit 291,hD "over_one_bottom" 550 "over_one_bottom" 551 552 175 1 3 288 289 .none .none .none (.ref 290) 553 175 554)::(nat_lit 292,hF "over_one_bottom" "over_one_bottom" (hT 46) .none .none "steadyhand.most" 466 291)::(nat_lit 293,hU #[])::(nat_lit 296,hD "spread" 556 "spread" 557 558 180 3 3 293 294 .none .none .none (.ref 295) 559 180 560)::(nat_lit 297,hF "spread" "spread" (hT 47) .none .none "steadyhand.most" 466 296)::(nat_lit 298,hU #[])::(nat_lit 300,hU #[hS "thing" 567,hS "mode" 568,hS "row" 569,hS "numbers" 570,hS "ahead" 571])::(nat_lit 301,hU #[])::(nat_lit 303,hD "reach" 564 "reach" 565 566 188 3 3 298 299 .none (.ref 300) (.ref 301) (.ref 302) 572 188 573)::(nat_lit 304,hF "reach" "reach" (hT 49) .none .none "steadyhand.reach" 562 303)::(nat_lit 305,hU #[])::(nat_lit 308,hD "worst_pushes" 575 "worst_pushes" 576 577 192 2 3 305 306 .none .none .none (.ref 307) 578 192 579)::(nat_lit 309,hF "worst_pushes" "worst_pushes" (hT 50) .none .none "steadyhand.reach" 562 308)::(nat_lit 310,hU #[])::(nat_lit 312,hU #[hS "thing" 584,hS "row" 585])::(nat_lit 313,hU #[])::(nat_lit 315,hD "without_pushes" 581 "without_pushes" 582 583 194 2 3 310 311 .none (.ref 312) (.ref 313) (.ref 314) 586 194 587)::(nat_lit 316,hF "without_pushes" "without_pushes" (hT 51) .none .none "steadyhand.reach" 562 315)::(nat_lit 324,hU #[])::(nat_lit 326,hU #[hS "self" 612,hS "rows" 613,hS "nexts" 614,hS "steer" 615,hS "push" 616,hS "add" 617,hS "divisor" 618])::(nat_lit 327,hU #[])::(nat_lit 329,hD "__init__" 609 "Mode.__init__" 610 611 202 7 3 324 325 .none (.ref 326) (.ref 327) (.ref 328) 619 202 620)::(nat_lit 330,hF "__init__" "Mode.__init__" (hI 56 0) .none .none "steadyhand.things" 589 329)::(nat_lit 331,hU #[hS "add" 622,hS "divisor" 623,hS "nexts" 624,hS "push" 625,hS "rows" 626,hS "steer" 627])::(nat_lit 332,{ cls:=.type "dict",data:=.dict #[hE P "__module__" 604 (hS "steadyhand.things" 589),hE P "__firstlineno__" 608 (.int 200 607),hE P "__init__" 621 (.ref 330),hE P "__static_attributes__" 628 (.ref 331),hE P "__dict__" 630 (.ref 334),hE P "__weakref__" 632 (.ref 335),hE P "__doc__" 633 (.none)] 4 })::(nat_lit 333,{ cls:=.type "type",data:=.cls { name:="Mode",bases:=[.type "object"],mro:=[.ref 333,.type "object"],ns:=332,qualname:="Mode" },slots:=#[none,none,some (hS "Mode" 597),some (hS "Mode" 605),some (.builtin "object.__new__"),some (.bool true)] })::(nat_lit 334,{ cls:=.type "getset_descriptor",data:=.fields #[hS "__dict__" 629,.ref 333,.builtin "function.__dict__",.builtin "function.__dict__#set"] })::(nat_lit 335,{ cls:=.type "getset_descriptor",data:=.fields #[hS "__weakref__" 631,.ref 333,.builtin "ExceptionGroup.__weakref__",.none] })::(nat_lit 345,hU #[])::(nat_lit 347,hU #[hS "self" 651,hS "many" 652,hS "pushes" 653,hS "modes" 654])::(nat_lit 348,hU #[])::(nat_lit 350,hD "__init__" 648 "Thing.__init__" 649 650 211 4 3 345 346 .none (.ref 347) (.ref 348) (.ref 349) 655 211 656)::(nat_lit 351,hF "__init__" "Thing.__init__" (hI 57 0) .none .none "steadyhand.things" 589 350)::(nat_lit 352,hU #[])::(nat_lit 354,hU #[hS "self" 661])::(nat_lit 355,hU #[])::(nat_lit 357,hD "pushes" 658 "Thing.pushes" 659 660 220 1 3 352 353 .none (.ref 354) (.ref 355) (.ref 356) 662 220 663)::(nat_lit 358,hF "pushes" "Thing.pushes" (hI 57 1) .none .none "steadyhand.things" 589 357)::(nat_lit 359,hU #[])::(nat_lit 361,hU #[hS "self" 668])::(nat_lit 362,hU #[])::(nat_lit 364,hD "modes" 665 "Thing.modes" 666 667 223 1 3 359 360 .none (.ref 361) (.ref 362) (.ref 363) 669 223 670)::(nat_lit 365,hF "modes" "Thing.modes" (hI 57 2) .none .none "steadyhand.things" 589 364)::(nat_lit 366,hU #[])::(nat_lit 369,hD "is_closed" 672 "Thing.is_closed" 673 674 226 1 3 366 367 .none .none .none (.ref 368) 675 226 676)::(nat_lit 370,hF "is_closed" "Thing.is_closed" (hI 57 3) .none .none "steadyhand.things" 589 369)::(nat_lit 371,hU #[])::(nat_lit 373,hU #[hS "self" 681])::(nat_lit 374,hU #[])::(nat_lit 376,hD "is_plain" 678 "Thing.is_plain" 679 680 229 1 3 371 372 .none (.ref 373) (.ref 374) (.ref 375) 682 229 683)::(nat_lit 377,hF "is_plain" "Thing.is_plain" (hI 57 4) .none .none "steadyhand.things" 589 376)::(nat_lit 378,hU #[hS "kept_modes" 685,hS "kept_pushes" 686,hS "many" 687])::(nat_lit 379,{ cls:=.type "dict",data:=.dict #[hE P "__module__" 643 (hS "steadyhand.things" 589),hE P "__firstlineno__" 647 (.int 209 646),hE P "__init__" 657 (.ref 351),hE P "pushes" 664 (.ref 358),hE P "modes" 671 (.ref 365),hE P "is_closed" 677 (.ref 370),hE P "is_plain" 684 (.ref 377),hE P "__static_attributes__" 688 (.ref 378),hE P "__dict__" 690 (.ref 381),hE P "__weakref__" 692 (.ref 382),hE P "__doc__" 693 (.none)] 4 })::(nat_lit 380,{ cls:=.type "type",data:=.cls { name:="Thing",bases:=[.type "object"],mro:=[.ref 380,.type "object"],ns:=379,qualname:="Thing" },slots:=#[none,none,some (hS "Thing" 636),some (hS "Thing" 644),some (.builtin "object.__new__"),some (.bool true)] })::(nat_lit 381,{ cls:=.type "getset_descriptor",data:=.fields #[hS "__dict__" 689,.ref 380,.builtin "function.__dict__",.builtin "function.__dict__#set"] })::(nat_lit 382,{ cls:=.type "getset_descriptor",data:=.fields #[hS "__weakref__" 691,.ref 380,.builtin "ExceptionGroup.__weakref__",.none] })::(nat_lit 385,hU #[])::(nat_lit 388,hD "is_sound" 696 "is_sound" 697 698 231 3 3 385 386 .none .none .none (.ref 387) 699 231 700)::(nat_lit 389,hF "is_sound" "is_sound" (hT 58) .none .none "steadyhand.things" 589 388)::(nat_lit 390,hU #[])::(nat_lit 392,hU #[hS "value" 705])::(nat_lit 393,hU #[])::(nat_lit 395,hD "is_push" 702 "is_push" 703 704 239 1 3 390 391 .none (.ref 392) (.ref 393) (.ref 394) 706 239 707)::(nat_lit 396,hF "is_push" "is_push" (hT 59) .none .none "steadyhand.things" 589 395)::(nat_lit 397,hU #[])::(nat_lit 399,hU #[hS "value" 712,hS "many" 713,hS "wide" 714])::(nat_lit 400,hU #[])::(nat_lit 402,hD "is_mode" 709 "is_mode" 710 711 243 3 3 397 398 .none (.ref 399) (.ref 400) (.ref 401) 715 243 716)::(nat_lit 403,hF "is_mode" "is_mode" (hT 60) .none .none "steadyhand.things" 589 402)::(nat_lit 404,hU #[])::(nat_lit 407,hD "is_unsteered" 718 "is_unsteered" 719 720 251 1 3 404 405 .none .none .none (.ref 406) 721 251 722)::(nat_lit 408,hF "is_unsteered" "is_unsteered" (hT 61) .none .none "steadyhand.things" 589 407)::(nat_lit 409,hU #[])::(nat_lit 411,hU #[hS "thing" 727])::(nat_lit 412,hU #[])::(nat_lit 414,hD "ask_closed" 724 "ask_closed" 725 726 253 1 3 409 410 .none (.ref 411) (.ref 412) (.ref 413) 728 253 729)::(nat_lit 415,hF "ask_closed" "ask_closed" (hT 62) .none .none "steadyhand.things" 589 414)::(nat_lit 416,hU #[])::(nat_lit 418,hU #[hS "start" 736,hS "shape" 737,hS "told" 738,hS "numbers" 739,hS "found" 740])::(nat_lit 419,hU #[])::(nat_lit 421,hD "first_room" 733 "first_room" 734 735 257 2 3 416 417 .none (.ref 418) (.ref 419) (.ref 420) 741 257 742)::(nat_lit 422,hF "first_room" "first_room" (hT 64) .none .none "steadyhand.growing" 731 421)::(nat_lit 423,hU #[])::(nat_lit 425,hU #[hS "thing" 747,hS "room" 748,hS "told" 749,hS "row" 750,hS "bound" 751])::(nat_lit 426,hU #[])::(nat_lit 428,hD "grown_once" 744 "grown_once" 745 746 265 2 3 423 424 .none (.ref 425) (.ref 426) (.ref 427) 752 265 753)::(nat_lit 429,hF "grown_once" "grown_once" (hT 65) .none .none "steadyhand.growing" 731 428)::(nat_lit 430,hU #[])::(nat_lit 432,hU #[hS "thing" 758,hS "room" 759,hS "row" 760,hS "bound" 761,hS "mode" 762,hS "ahead" 763,hS "found" 764,hS "least" 765])::(nat_lit 433,hU #[])::(nat_lit 435,hD "grown_bound" 755 "grown_bound" 756 757 274 3 3 430 431 .none (.ref 432) (.ref 433) (.ref 434) 766 274 767)::(nat_lit 436,hF "grown_bound" "grown_bound" (hT 66) .none .none "steadyhand.growing" 731 435)::(nat_lit 437,hU #[])::(nat_lit 439,hU #[hS "thing" 772,hS "start" 773,hS "shape" 774,hS "tries" 775,hS "room" 776,hS "turn" 777,hS "larger" 778])::(nat_lit 440,hU #[])::(nat_lit 442,hD "grown" 769 "grown" 770 771 285 4 3 437 438 .none (.ref 439) (.ref 440) (.ref 441) 779 285 780)::(nat_lit 443,hF "grown" "grown" (hT 67) .none .none "steadyhand.growing" 731 442)::(nat_lit 444,hU #[])::(nat_lit 446,hU #[hS "_law_script" 787,hS "_law_k" 788])::(nat_lit 447,hU #[])::(nat_lit 449,hD "_law_cell_at" 784 "_law_cell_at" 785 786 297 2 3 444 445 .none (.ref 446) (.ref 447) (.ref 448) 789 297 790)::(nat_lit 450,hF "_law_cell_at" "_law_cell_at" (hT 69) .none .none "law_steadyhand_k77_rooms_grown_by_modes" 782 449)::(nat_lit 451,hU #[])::(nat_lit 453,hU #[hS "_law_cell" 795,hS "_law_many" 796,hS "_law_found" 797,hS "_law_rest" 798,hS "_law_k" 799,hS "_law_number_here" 800])::(nat_lit 454,hU #[])::(nat_lit 456,hD "_law_stream" 792 "_law_stream" 793 794 301 2 3 451 452 .none (.ref 453) (.ref 454) (.ref 455) 801 301 802)::(nat_lit 457,hF "_law_stream" "_law_stream" (hT 70) .none .none "law_steadyhand_k77_rooms_grown_by_modes" 782 456)::(nat_lit 458,hU #[])::(nat_lit 460,hU #[hS "_law_x" 807,hS "_law_far" 808])::(nat_lit 461,hU #[])::(nat_lit 463,hD "_law_number" 804 "_law_number" 805 806 314 2 3 458 459 .none (.ref 460) (.ref 461) (.ref 462) 809 314 810)::(nat_lit 464,hF "_law_number" "_law_number" (hT 71) .none .none "law_steadyhand_k77_rooms_grown_by_modes" 782 463)::(nat_lit 465,hU #[])::(nat_lit 468,hD "_law_mode" 812 "_law_mode" 813 814 316 5 3 465 466 .none .none .none (.ref 467) 815 316 816)::(nat_lit 469,hF "_law_mode" "_law_mode" (hT 72) .none .none "law_steadyhand_k77_rooms_grown_by_modes" 782 468)::(nat_lit 470,hU #[])::(nat_lit 472,hU #[hS "_law_script" 821,hS "_law_first_here" 822,hS "_law_second" 823,hS "_law_unit" 824,hS "_law_many" 825,hS "_law_pushes" 826,hS "_law_k" 827,hS "_law_x" 828,hS "_law_modes" 829,hS "_law_cell" 830])::(nat_lit 473,hU #[])::(nat_lit 475,hD "_law_thing" 818 "_law_thing" 819 820 330 1 3 470 471 .none (.ref 472) (.ref 473) (.ref 474) 831 330 832)::(nat_lit 476,hF "_law_thing" "_law_thing" (hT 73) .none .none "law_steadyhand_k77_rooms_grown_by_modes" 782 475)::(nat_lit 477,hU #[])::(nat_lit 480,hD "_law_made" 834 "_law_made" 835 836 344 1 3 477 478 .none .none .none (.ref 479) 837 344 838)::(nat_lit 481,hF "_law_made" "_law_made" (hT 74) .none .none "law_steadyhand_k77_rooms_grown_by_modes" 782 480)::(nat_lit 482,hU #[])::(nat_lit 484,hU #[hS "_law_cell" 843,hS "_law_many" 844,hS "_law_unit" 845,hS "_law_xs" 846,hS "_law_box_here" 847,hS "_law_i" 848,hS "_law_low" 849])::(nat_lit 485,hU #[])::(nat_lit 487,hD "_law_box" 840 "_law_box" 841 842 351 3 3 482 483 .none (.ref 484) (.ref 485) (.ref 486) 850 351 851)::(nat_lit 488,hF "_law_box" "_law_box" (hT 75) .none .none "law_steadyhand_k77_rooms_grown_by_modes" 782 487)::(nat_lit 489,hU #[])::(nat_lit 492,hD "_law_rows" 853 "_law_rows" 854 855 358 1 3 489 490 .none .none .none (.ref 491) 856 358 857)::(nat_lit 493,hF "_law_rows" "_law_rows" (hT 76) .none .none "law_steadyhand_k77_rooms_grown_by_modes" 782 492)::(nat_lit 494,hU #[])::(nat_lit 496,hU #[hS "_law_numbers" 862,hS "_law_box_here" 863,hS "_law_found" 864,hS "_law_number_here" 865,hS "_law_bounds" 866])::(nat_lit 497,hU #[])::(nat_lit 499,hD "_law_top" 859 "_law_top" 860 861 365 2 3 494 495 .none (.ref 496) (.ref 497) (.ref 498) 867 365 868)::(nat_lit 500,hF "_law_top" "_law_top" (hT 77) .none .none "law_steadyhand_k77_rooms_grown_by_modes" 782 499)::(nat_lit 501,hU #[])::(nat_lit 504,hD "_law_start" 870 "_law_start" 871 872 370 2 3 501 502 .none .none .none (.ref 503) 873 370 874)::(nat_lit 505,hF "_law_start" "_law_start" (hT 78) .none .none "law_steadyhand_k77_rooms_grown_by_modes" 782 504)::(nat_lit 506,hU #[])::(nat_lit 509,hD "_law_shape" 876 "_law_shape" 877 878 379 2 3 506 507 .none .none .none (.ref 508) 879 379 880)::(nat_lit 510,hF "_law_shape" "_law_shape" (hT 79) .none .none "law_steadyhand_k77_rooms_grown_by_modes" 782 509)::(nat_lit 511,hU #[])::(nat_lit 513,hU #[hS "_law_start_here" 885,hS "_law_shape_here" 886,hS "_law_room" 887,hS "_law_numbers" 888,hS "_law_told" 889])::(nat_lit 514,hU #[])::(nat_lit 516,hD "_law_first" 882 "_law_first" 883 884 392 2 3 511 512 .none (.ref 513) (.ref 514) (.ref 515) 890 392 891)::(nat_lit 517,hF "_law_first" "_law_first" (hT 80) .none .none "law_steadyhand_k77_rooms_grown_by_modes" 782 516)::(nat_lit 518,hU #[])::(nat_lit 521,hD "_law_bound" 893 "_law_bound" 894 895 400 4 3 518 519 .none .none .none (.ref 520) 896 400 897)::(nat_lit 522,hF "_law_bound" "_law_bound" (hT 81) .none .none "law_steadyhand_k77_rooms_grown_by_modes" 782 521)::(nat_lit 523,hU #[])::(nat_lit 526,hD "_law_once" 899 "_law_once" 900 901 410 2 3 523 524 .none .none .none (.ref 525) 902 410 903)::(nat_lit 527,hF "_law_once" "_law_once" (hT 82) .none .none "law_steadyhand_k77_rooms_grown_by_modes" 782 526)::(nat_lit 528,hU #[])::(nat_lit 530,hU #[hS "_law_spec" 908,hS "_law_start_here" 909,hS "_law_shape_here" 910,hS "_law_room" 911,hS "_law_rows_here" 912,hS "_law_nexts" 913,hS "_law_steer" 914,hS "_law_push" 915,hS "_law_add" 916,hS "_law_divisor" 917,hS "_law_modes" 918,hS "_law_free" 919,hS "_law_found" 920])::(nat_lit 531,hU #[])::(nat_lit 533,hD "_law_refused" 905 "_law_refused" 906 907 418 4 3 528 529 .none (.ref 530) (.ref 531) (.ref 532) 921 418 922)::(nat_lit 534,hF "_law_refused" "_law_refused" (hT 83) .none .none "law_steadyhand_k77_rooms_grown_by_modes" 782 533)::(nat_lit 535,hU #[])::(nat_lit 537,hU #[hS "_law_script" 927,hS "_law_spec" 928,hS "_law_thing_here" 929,hS "_law_box_here" 930,hS "_law_start_here" 931,hS "_law_shape_here" 932,hS "_law_room" 933,hS "_law_tries" 934,hS "_law_due" 935,hS "_law_turn" 936,hS "_law_after" 937])::(nat_lit 538,hU #[])::(nat_lit 540,hD "law" 924 "law" 925 926 432 1 3 535 536 .none (.ref 537) (.ref 538) (.ref 539) 938 432 939)::(nat_lit 541,hF "law" "law" (hT 84) .none .none "law_steadyhand_k77_rooms_grown_by_modes" 782 540) :: []
noncomputable def ks:List Addr:=[2,3,15,17,18,20,21,22,29,30,31,32,35,42,43,44,47,54,55,56,59,66,67,68,71,78,79,80,83,85,86,88,89,90,92,93,95,96,97,98,100,101,103,104,105,107,108,110,111,112,114,115,117,118,119,121,122,124,125,126,128,129,131,132,133,136,137,138,141,142,143,144,147,148,149,150,153,154,155,158,159,160,163,164,165,168,169,170,173,174,175,177,178,180,181,182,184,185,187,188,189,191,192,194,195,196,198,199,201,202,203,206,207,208,210,211,213,214,215,217,218,220,221,222,225,226,227,230,231,232,235,236,237,240,241,242,245,246,247,250,251,252,255,256,257,260,261,262,265,266,267,269,270,272,273,274,276,277,279,280,281,283,284,286,287,288,291,292,293,296,297,298,300,301,303,304,305,308,309,310,312,313,315,316,324,326,327,329,330,331,332,333,334,335,345,347,348,350,351,352,354,355,357,358,359,361,362,364,365,366,369,370,371,373,374,376,377,378,379,380,381,382,385,388,389,390,392,393,395,396,397,399,400,402,403,404,407,408,409,411,412,414,415,416,418,419,421,422,423,425,426,428,429,430,432,433,435,436,437,439,440,442,443,444,446,447,449,450,451,453,454,456,457,458,460,461,463,464,465,468,469,470,472,473,475,476,477,480,481,482,484,485,487,488,489,492,493,494,496,497,499,500,501,504,505,506,509,510,511,513,514,516,517,518,521,522,523,526,527,528,530,531,533,534,535,537,538,540,541]
theorem ke:∀ P:Params,ks=(KK P).map (·.1):=λ_=>by
 kernel_rfl
noncomputable def vw:Program:={ PySem.Challenge.pw_steadyhand_k77_rooms_grown_by_modes with main:={ PySem.Challenge.pw_steadyhand_k77_rooms_grown_by_modes.main with body:=[hT 0,hT 2,hT 3,hT 4,hT 5,hT 6,hT 8,hT 9,hT 11,hT 12,hT 13,hT 14,hT 16,hT 17,hT 20,hT 21,hT 23,hT 24,hT 25,hT 26,hT 27,hT 28,hT 30,hT 31,hT 32,hT 33,hT 35,hT 36,hT 37,hT 38,hT 39,hT 40,hT 41,hT 42,hT 43,hT 44,hT 45,hT 46,hT 47,hT 49,hT 50,hT 51,hT 53,hT 54,hT 55,hT 56,hT 57,hT 58,hT 59,hT 60,hT 61,hT 62,hT 64,hT 65,hT 66,hT 67,hT 69,hT 70,hT 71,hT 72,hT 73,hT 74,hT 75,hT 76,hT 77,hT 78,hT 79,hT 80,hT 81,hT 82,hT 83,hT 84] } }
noncomputable def lo:List Str:=[dD "fraction",dD "copied",dD "unit"]
abbrev rr:RowW:=(OpenLaw.row PySem.Challenge.rw_steadyhand_k77_rooms_grown_by_modes).toRowW
noncomputable abbrev xt:Shared->Bool:=λs=>xlAt vw [] s && recOk rr.records s
noncomputable def bt:Params->BT:=λP=>(.node (boot_o_0 P) (.node (boot_o_1 P) (.node (boot_o_3 P) (.node (boot_o_7 P) .nil .nil) .nil) (.node (boot_o_5 P) (.node (boot_o_9 P) .nil .nil) .nil)) (.node (boot_o_2 P) (.node (boot_o_4 P) (.node (boot_o_8 P) .nil .nil) .nil) (.node (boot_o_6 P) (.node (boot_o_10 P) .nil .nil) .nil)))
noncomputable def lhs (T:Params->BT) (h:Params->Heap) (d:Drawn) (k:Nat) (w:World) (os:OsState):=(TT.runT treeTable PySem.Challenge.pw_steadyhand_k77_rooms_grown_by_modes w 11 (some (.ref 6)) 7434 ⟨T w.params,11,(h w.params).life,Array.mk [],d,k,os⟩ (topStub PySem.Challenge.pw_steadyhand_k77_rooms_grown_by_modes)).map (λs=>((staticsOk (importedModules PySem.Challenge.pw_steadyhand_k77_rooms_grown_by_modes.main.body) (h w.params) s.abs.heap && namesBound PySem.Challenge.pw_steadyhand_k77_rooms_grown_by_modes s.abs.heap && gensDone s.abs && laidKept (h w.params) s.abs.heap),openSeen vw lo (importedModules PySem.Challenge.pw_steadyhand_k77_rooms_grown_by_modes.main.body) xt true s.abs))
noncomputable def lhs2 (T:Params->BT) (h:Params->Heap) (d:Drawn) (k:Nat) (w:World) (os:OsState):=(TT.runT treeTable PySem.Challenge.pw_steadyhand_k77_rooms_grown_by_modes w 11 (some (.ref 6)) 7434 ⟨T w.params,11,(h w.params).life,Array.mk [],d,k,os⟩ (topStub PySem.Challenge.pw_steadyhand_k77_rooms_grown_by_modes)).map (λs=>ks.map s.abs.heap.get?)
noncomputable def rhs (_:Params->Frag) (w:World) (_:OsState):=some (true,openGood vw lo)
noncomputable def rhs2 (F:Params->Frag) (w:World) (_:OsState):=some ((F w.params).map λp=>some p.2)
lay_quick lhs rhs
lay_quick lhs2 rhs2
theorem same (w:World) (os:OsState):PySem.W.Fast.tw14941032861052966416 bt boot_heap boot_drawn boot_toks w os=PySem.W.Fast.tw17813017182248199675 KK w os:=by
 kernel_rfl
theorem kj (w:World) (os:OsState):PySem.W.Fast.tw6758423035525485976 bt boot_heap boot_drawn boot_toks w os=PySem.W.Fast.tw9820632226088788965 KK w os:=by
 kernel_rfl
theorem two {α β γ δ:Type} {o:Option α} {f:α->β × γ} {g:α->δ} {b:β} {c:γ} {d:δ} (h1:o.map f=some (b,c)) (h2:o.map g=some d):o.map (λs=>((f s).1,(f s).2,g s))=some (b,c,d):=by
 cases o with
 | none=>cases h1
 | some a=>
  injection h1 with h1
  injection h2 with h2
  show some ((f a).1,(f a).2,g a)=_
  rw [h1,h2]
theorem left:LeftO rr.prog vw lo xt (kHook KK ks ke).obs (kHook KK ks ke).val 7434:=
 TT.left_is (boot_open (by kernel_rfl) (by decide) (λ_=>by kernel_rfl)) (λ_=>by kernel_rfl) (λ_=>by kernel_rfl) (λ_=>by kernel_rfl) (λ_=>by kernel_rfl)
  λw os=>two ((congrArg (λf=>f bt boot_heap boot_drawn boot_toks w os) PySem.W.Fast.te14941032861052966416).trans ((same w os).trans (congrFun (congrFun (congrFun PySem.W.Fast.te17813017182248199675 KK) w) os).symm)) ((congrArg (λf=>f bt boot_heap boot_drawn boot_toks w os) PySem.W.Fast.te6758423035525485976).trans ((kj w os).trans (congrFun (congrFun (congrFun PySem.W.Fast.te9820632226088788965 KK) w) os).symm))
end H77
namespace L2
open PySem PySem.Spec PyProof.Rows
abbrev wQ:=Sum Int Str
def K6:wQ->Value->Bool
 | .inl k,v=>Value.isInt k v
 | .inr x,v=>Value.isStrOf x v
def UG (w:World):wQ->Int
 | .inl k=>hashInt k
 | .inr x=>hashStr w x
theorem jP:∀ {k:wQ} {v:Value},K6 k v=true->(∃ i t,k=Sum.inl i/\v=Value.int i t)\/(∃ x t,k=Sum.inr x/\v=Value.str x t)
 | .inl i,v,h=>by
  obtain ⟨t,e⟩:=Value.isInt_shape (k:=i) (v:=v) h
  exact .inl ⟨i,t,rfl,e⟩
 | .inr x,v,h=>by
  obtain ⟨t,e⟩:=Value.isStrOf_shape (x:=x) (v:=v) h
  exact .inr ⟨x,t,rfl,e⟩
theorem zRd (a b:Int):decide ((Sum.inl a:wQ)=Sum.inl b)=(a == b):=by
 by_cases e:a=b
 ·subst e; simp
 ·have h:¬ (Sum.inl a:wQ)=Sum.inl b:=λq=>e (Sum.inl.inj q)
  rw [decide_eq_false h]
  exact (beq_eq_false_iff_ne.mpr e).symm
theorem zRa (a b:Str):decide ((Sum.inr a:wQ)=Sum.inr b)=decide (a=b):=by
 by_cases e:a=b
 ·subst e; simp
 ·have h:¬ (Sum.inr a:wQ)=Sum.inr b:=λq=>e (Sum.inr.inj q)
  rw [decide_eq_false h,decide_eq_false e]
theorem zRc (a:Int) (b:Str):decide ((Sum.inl a:wQ)=Sum.inr b)=false:=decide_eq_false (λq=>nomatch q)
theorem zRb (a:Str) (b:Int):decide ((Sum.inr a:wQ)=Sum.inl b)=false:=decide_eq_false (λq=>nomatch q)
def K7 (prog:Program) (w:World):PySem.KeyKind prog w wQ where
 is:=K6
 hash:=UG w
 inj:=λv a b ha hb=>by
  rcases jP ha with ⟨i,t,rfl,rfl⟩ | ⟨x,t,rfl,rfl⟩
  ·rcases jP hb with ⟨j,u,rfl,e⟩ | ⟨y,u,rfl,e⟩
   ·injection e with e1 _; rw [e1]
   ·exact nomatch e
  ·rcases jP hb with ⟨j,u,rfl,e⟩ | ⟨y,u,rfl,e⟩
   ·exact nomatch e
   ·injection e with e1 _; rw [e1]
 byValue:=λk v h=>by
  rcases jP h with ⟨i,t,rfl,rfl⟩ | ⟨x,t,rfl,rfl⟩ <;> rfl
 pyHash:=λhv h=>by
  rcases jP hv with ⟨i,t,rfl,rfl⟩ | ⟨x,t,rfl,rfl⟩
  ·exact wpAny_pyHash_int h
  ·exact wpAny_pyHash_str h
 eqBool:=λhu hv h=>by
  rcases jP hu with ⟨i,t,rfl,rfl⟩ | ⟨x,t,rfl,rfl⟩
  ·rcases jP hv with ⟨j,u,rfl,rfl⟩ | ⟨y,u,rfl,rfl⟩
   ·rw [zRd] at h; exact wpAny_eqBool_int h
   ·rw [zRc] at h; exact SeqAt.EqAt.int_str i t y u _ _ _ _ h
  ·rcases jP hv with ⟨j,u,rfl,rfl⟩ | ⟨y,u,rfl,rfl⟩
   ·rw [zRb] at h; exact SeqAt.EqAt.str_int x t j u _ _ _ _ h
   ·rw [zRa] at h; exact wpAny_eqBool_str h
 «strs»:=λk x t v h=>by
  rcases jP h with ⟨i,u,rfl,e⟩ | ⟨y,u,rfl,e⟩
  ·exact nomatch e
  ·injection e with e1 _
   subst e1
   cases v <;> rfl
end L2
namespace L2
open PySem PySem.Spec PyProof.Rows
inductive V where
 | non | bl (b:Bool) | int (i:Int) | str (x:Str) | byt (b:Array UInt8) | flt (b:UInt64) | ref (a:Addr) | ty (n:String)
 deriving DecidableEq
def zT:V->Value->Prop
 | .non,u=>u=Value.none
 | .bl b,u=>u=Value.bool b
 | .int i,u=>∃ t,u=Value.int i t
 | .str x,u=>∃ t,u=Value.str x t
 | .byt b,u=>∃ t,u=Value.bytes b t
 | .flt b,u=>∃ t,u=Value.float b t
 | .ref a,u=>u=Value.ref a
 | .ty n,u=>u=Value.type n
abbrev zK:List V->List Value->Prop:=Paired zT
theorem zK.length {xs:List V} {us:List Value} (r:zK xs us):xs.length=us.length:=Paired.length r
theorem zK.get:∀ {xs:List V} {us:List Value} {i:Nat} {x:V},zK xs us->xs[i]? = some x->∃ u,us[i]? = some u/\zT x u
 | _,_,_,_,.nil,e=>by simp at e
 | _,_,0,_,.cons r _,e=>by simp at e; subst e; exact ⟨_,rfl,r⟩
 | _,_,i + 1,x,.cons _ t,e=>by
  obtain ⟨u,h1,h2⟩:=zK.get (i:=i) (x:=x) t (by simpa using e)
  exact ⟨u,by simpa using h1,h2⟩
theorem zK.set {x:V} {u:Value} (r:zT x u):∀ {xs:List V} {us:List Value} (i:Nat),zK xs us->zK (xs.set i x) (us.set i u)
 | _,_,_,.nil=>.nil
 | _,_,0,.cons _ t=>.cons r t
 | _,_,i + 1,.cons q t=>.cons q (zK.set r i t)
theorem zK.append:∀ {xs ys:List V} {us ws:List Value},zK xs us->zK ys ws->zK (xs++ys) (us++ws)
 | _,_,_,_,.nil,s=>s
 | _,_,_,_,.cons r t,s=>.cons r (zK.append t s)
theorem zK.take:∀ {xs:List V} {us:List Value} (n:Nat),zK xs us->zK (xs.take n) (us.take n)
 | _,_,0,_=>.nil
 | _,_,_ + 1,.nil=>.nil
 | _,_,n + 1,.cons r t=>.cons r (zK.take n t)
theorem zK.drop:∀ {xs:List V} {us:List Value} (n:Nat),zK xs us->zK (xs.drop n) (us.drop n)
 | _,_,0,r=>r
 | _,_,_ + 1,.nil=>.nil
 | _,_,n + 1,.cons _ t=>zK.drop n t
def wC:Option V->Option Value->Prop
 | some v,some u=>zT v u
 | none,none=>True
 | _,_=>False
def KV {κ:Type}:List (κ × V)->List (κ × Value)->Prop:=Paired λ(p:κ × V) (q:κ × Value)=>p.1=q.1/\zT p.2 q.2
def kV:wQ->V
 | .inl i=>.int i
 | .inr x=>.str x
inductive HO where
 | lst (xs:List V)
 | tup (xs:List V)
 | dK (kvs:List (wQ × V)) | dT (kvs:List (List wQ × V))
 | set (S:Int->Bool) (n:Nat)
 | ins (C dx:Addr) (fs:List (Str × V))
 | own (x:Addr)
 | xd (fs:List (Str × V))
 | met (f x:Addr)
 | rng (lo hi:Int)
 | frz (o:Obj) (u:HO)
 | tbl (ps:Array Value)
 | ext (φ:Heap->Prop)
abbrev Hp:=Addr->Option HO
def za (H:Hp) (a:Addr) (o:HO):Hp:=λb=>if b=a then some o else H b
theorem xh {H:Hp} {a:Addr} {o:HO}:za H a o a=some o:=by unfold za; rw [if_pos rfl]
theorem zu {H:Hp} {a b:Addr} {o:HO} (h:b≠a):za H a o b=H b:=by unfold za; rw [if_neg h]
theorem wD {H:Hp} {a b:Addr} {o:HO} (h:H a=some o) (h':H b=none):a≠b:=by
 intro e; subst e; rw [h] at h'; cases h'
section
variable (P:Program) (w:World)
def xn (H:Hp) (h:Heap) (a:Addr):HO->Prop
 | .lst xs=>xs.length<=sizeLine/\∃ (its:List Value) (n:Nat),zK xs its/\h.get? a=some { cls:=.type "list",data:=.seq its.toArray n }
 | .tup xs=>xs.length<=sizeLine/\∃ its:List Value,zK xs its/\IsTup h a its.toArray
 | .dK kvs=>kvs.length<=sizeLine/\(a == sysModules)=false/\∃ vs,KV kvs vs/\h.DictOf (K7 P w) a vs
 | .dT kvs=>kvs.length<=sizeLine/\(a == sysModules)=false/\∃ xs:List (List wQ × Addr × Value),
   Paired (λ(p:List wQ × V) (q:List wQ × Addr × Value)=>p.1=q.1/\H q.2.1=some (.tup (p.1.map kV))/\zT p.2 q.2.2) kvs xs∧
   ∃ o es ep,h.get? a=some o/\o.ExactDict/\o.data=.dict es ep/\es.toList=xs.map (entryOfKey (tupleKind (K7 P w)))/\(xs.map (·.1)).Nodup
 | .set S n=>h.SetOf (intKind P w) a S n
 | .ins C dx fs=>H dx=some (.own a)/\fs.length<=1000/\dx≠a/\h.get? a=some (eE C dx)∧
   ∃ mA,h.Ns1 dx mA/\(∀ f,wC (fs.lookup f) (mA f))/\PySem.Within mA (fs.map (·.1))
 | .own _=>∃ o,h.get? a=some o
 | .xd fs=>∃ mA,h.Ns1 a mA/\∀ f,wC (fs.lookup f) (mA f)
 | .rng lo hi=>∃ t u v,h.get? a=some { cls:=.type "range",data:=.fields #[.int lo t,.int hi u,.int 1 v] }
 | .frz o u=>h.get? a=some o/\xn H h a u
 | .tbl ps=>h.get? a=some { cls:=.none,data:=.fields ps }
 | .met f x=>h.get? a=some (iM (.ref f) (.ref x))
 | .ext φ=>φ h/\(∃ o,h.get? a=some o)/\∀ h1 h2:Heap,φ h1->(∀ o,h1.get? a=some o->h2.get? a=some o)->φ h2
def xG (H:Hp) (h:Heap):Prop:=∀ a o,H a=some o->xn P w H h a o
end
section
variable {P:Program} {w:World} {H H':Hp} {h h':Heap} {a:Addr} {o:HO}
theorem xn.lt (x:xn P w H h a o):a < h.objs.size:=by
 cases o with
 | lst xs=>obtain ⟨_,_,_,_,e⟩:=x; exact cS e
 | tup xs=>obtain ⟨_,_,_,p⟩:=x; exact p.lt
 | dK kvs=>obtain ⟨_,_,_,_,o,_,_,e,_⟩:=x; exact cS e
 | dT kvs=>obtain ⟨_,_,_,_,o,_,_,e,_⟩:=x; exact cS e
 | set S n=>obtain ⟨o,_,_,_,e,_⟩:=x; exact cS e
 | ins C dx fs=>obtain ⟨_,_,_,e,_⟩:=x; exact cS e
 | own y=>obtain ⟨_,e⟩:=x; exact cS e
 | xd fs=>obtain ⟨_,⟨_,_,_,e,_⟩,_⟩:=x; exact cS e
 | rng lo hi=>obtain ⟨_,_,_,e⟩:=x; exact cS e
 | frz ob u=>obtain ⟨e,_⟩:=x; exact cS e
 | tbl ps=>exact cS (show h.get? a=some _ from x)
 | met f y=>exact cS (show h.get? a=some _ from x)
 | ext φ=>obtain ⟨_,⟨_,e⟩,_⟩:=x; exact cS e
theorem Paired.mapP {α β:Type} {F G:α->β->Prop}:∀ {l₁:List α} {l₂:List β},Paired F l₁ l₂->(∀ a b,F a b->G a b)->Paired G l₁ l₂
 | _,_,.nil,_=>.nil
 | _,_,.cons r t,f=>.cons (f _ _ r) (Paired.mapP t f)
theorem xn.stay (x:xn P w H h a o) (k:∀ b u,(b=a\/H b=some (.own a))->h.get? b=some u->h'.get? b=some u)
  (ho:∀ b,H b=some (.own a)->H' b=some (.own a)) (ht:∀ b xs,H b=some (.tup xs)->H' b=some (.tup xs)):xn P w H' h' a o:=by
 induction o with
 | lst xs=>obtain ⟨z,its,n,r,e⟩:=x; exact ⟨z,its,n,r,k _ _ (.inl rfl) e⟩
 | tup xs=>obtain ⟨z,its,r,ob,e,c⟩:=x; exact ⟨z,its,r,ob,k _ _ (.inl rfl) e,c⟩
 | dK kvs=>obtain ⟨z,y,vs,r,ob,es,ep,e,c⟩:=x; exact ⟨z,y,vs,r,ob,es,ep,k _ _ (.inl rfl) e,c⟩
 | dT kvs=>
  obtain ⟨z,y,xs,r,ob,es,ep,e,c⟩:=x
  exact ⟨z,y,xs,Paired.mapP r λp q z=>⟨z.1,ht _ _ z.2.1,z.2.2⟩,ob,es,ep,k _ _ (.inl rfl) e,c⟩
 | set S n=>obtain ⟨ob,es,ep,t,e,c⟩:=x; exact ⟨ob,es,ep,t,k _ _ (.inl rfl) e,c⟩
 | ins C dx fs=>
  obtain ⟨d,z,ne,e,mA,⟨od,es,ep,e2,c⟩,r⟩:=x
  exact ⟨ho _ d,z,ne,k _ _ (.inl rfl) e,mA,⟨od,es,ep,k _ _ (.inr d) e2,c⟩,r⟩
 | own y=>obtain ⟨ob,e⟩:=x; exact ⟨ob,k _ _ (.inl rfl) e⟩
 | xd fs=>obtain ⟨mA,⟨od,es,ep,e,c⟩,r⟩:=x; exact ⟨mA,⟨od,es,ep,k _ _ (.inl rfl) e,c⟩,r⟩
 | rng lo hi=>obtain ⟨t,u,v,e⟩:=x; exact ⟨t,u,v,k _ _ (.inl rfl) e⟩
 | frz ob u ih=>obtain ⟨e,q⟩:=x; exact ⟨k _ _ (.inl rfl) e,ih q⟩
 | tbl ps=>
  have e:h.get? a=some { cls:=.none,data:=.fields ps }:=x
  show h'.get? a=some { cls:=.none,data:=.fields ps }
  exact k a _ (.inl rfl) e
 | met f y=>
  have e:h.get? a=some (iM (.ref f) (.ref y)):=x
  show h'.get? a=some (iM (.ref f) (.ref y))
  exact k a _ (.inl rfl) e
 | ext φ=>obtain ⟨p,⟨o,e⟩,st⟩:=x; exact ⟨st _ _ p λo q=>k _ _ (.inl rfl) q,⟨o,k _ _ (.inl rfl) e⟩,st⟩
theorem xG.lt (x:xG P w H h) (e:H a=some o):a < h.objs.size:=(x a o e).lt
theorem xG.fresh (x:xG P w H h) (e:h.objs.size<=a):H a=none:=by
 cases q:H a with
 | none=>rfl
 | some u=>exact absurd (cU (x.lt q) e) (dy _)
theorem xG.kept (x:xG P w H h) (k:∀ b u,h.get? b=some u->h'.get? b=some u):xG P w H h':=λa o e=>
 (x a o e).stay (λb u _ q=>k b u q) (λ_ q=>q) λ_ _ q=>q
theorem xG.laid (x:xG P w H h) (k:∀ b u,h.get? b=some u->h'.get? b=some u) (hp:h.objs.size<=a) (new:xn P w (za H a o) h' a o):xG P w (za H a o) h':=λb u e=>by
 have hn:=x.fresh hp
 by_cases hb:b=a
 ·subst hb; rw [xh] at e; cases e; exact new
 ·rw [zu hb] at e
  exact (x b u e).stay (λc v _ q=>k c v q) (λc q=>by rw [zu (wD q hn)]; exact q) λc xs q=>by rw [zu (wD q hn)]; exact q
end
def Rd (H:Hp) (a:Addr) (u:HO):Prop:=H a=some u\/∃ o,H a=some (.frz o u)
theorem Rd.ok {P:Program} {w:World} {H:Hp} {h:Heap} {a:Addr} {u:HO} (r:Rd H a u) (x:xG P w H h):xn P w H h a u:=by
 rcases r with r | ⟨o,r⟩
 ·exact x a u r
 ·obtain ⟨_,q⟩:=x a _ r
  exact q
def Xo:Option HO->Prop
 | some (.lst _)=>True
 | some (.dK _)=>True
 | some (.dT _)=>True
 | some (.set _ _)=>True
 | some (.ins _ _ _)=>True
 | some (.ext _)=>True
 | _=>False
section
variable {P:Program} {w:World} {H:Hp} {h h':Heap} {x e:Addr} {o':HO}
theorem xG.write (ok:xG P w H h) (mu:Xo (H x)) (he:e=x\/H e=some (.own x)) (k:∀ b u,b≠e->h.get? b=some u->h'.get? b=some u) (heo:∃ u,h'.get? e=some u)
  (new:xn P w (za H x o') h' x o'):xG P w (za H x o') h':=λb u q=>by
 have nown:∀ c y,H c=some (.own y)->c≠x:=λc y r z=>by subst z; rw [r] at mu; exact mu
 have ntup:∀ c xs,H c=some (.tup xs)->c≠x:=λc xs r z=>by subst z; rw [r] at mu; exact mu
 by_cases hb:b=x
 ·subst hb; rw [xh] at q; cases q; exact new
 ·rw [zu hb] at q
  by_cases hbe:b=e
  ·have q':H b=some (.own x):=by
    rcases he with z | z
    ·exact absurd (hbe.trans z) hb
    ·rw [hbe]; exact z
   rw [q] at q'; cases q'
   obtain ⟨v,hv⟩:=heo
   exact ⟨v,by rw [hbe]; exact hv⟩
  ·refine (ok b u q).stay (λc v hc r=>k c v ?_ r) (λc r=>by rw [zu (nown c b r)]; exact r) λc xs r=>by rw [zu (ntup c xs r)]; exact r
   rcases hc with rfl | hc
   ·exact hbe
   ·rintro rfl
    rcases he with z | z
    ·exact nown c b hc z
    ·rw [hc] at z; cases z; exact hb rfl
end
structure Un (fs ex:List Addr) (H H':Hp) (h h':Heap):Prop where
 keep:∀ b o,h.get? b=some o->H b=none->b∉fs->b∉ex->h'.get? b=some o
 slot:∀ b o,h.get? b=some o->H b=none->b∈fs->b∉ex->∃ sl,h'.get? b=some { o with slots:=sl }
 free:∀ b o,h.get? b=some o->H b=none->b∉ex->H' b=none
 there:∀ b o,h.get? b=some o->b∉ex->∃ o',h'.get? b=some o'
 tups:∀ b xs,H b=some (.tup xs)->H' b=some (.tup xs)
 frzs:∀ b o u,H b=some (.frz o u)->H' b=some (.frz o u)
 tbls:∀ b ps,H b=some (.tbl ps)->∃ more,H' b=some (.tbl (ps++more))
section
variable {fs fs' ex ex':List Addr} {H H1 H2:Hp} {h h1 h2 h':Heap} {a x e:Addr} {o:HO}
theorem Un.any (u:Un fs ex H H1 h h1) {b:Addr} {ob:Obj} (q:h.get? b=some ob) (n:H b=none) (hx:b∉ex):∃ sl,h1.get? b=some { ob with slots:=sl }:=by
 by_cases hb:b∈fs
 ·exact u.slot b ob q n hb hx
 ·exact ⟨ob.slots,u.keep b ob q n hb hx⟩
theorem Un.trans (a:Un fs ex H H1 h h1) (b:Un fs ex H1 H2 h1 h2):Un fs ex H H2 h h2 where
 keep:=λc ob q n hc hx=>b.keep c ob (a.keep c ob q n hc hx) (a.free c ob q n hx) hc hx
 slot:=λc ob q n hc hx=>by
  obtain ⟨sl,e1⟩:=a.slot c ob q n hc hx
  obtain ⟨sl',e2⟩:=b.slot c _ e1 (a.free c ob q n hx) hc hx
  exact ⟨sl',e2⟩
 free:=λc ob q n hx=>by
  obtain ⟨o',e1⟩:=a.there c ob q hx
  exact b.free c o' e1 (a.free c ob q n hx) hx
 there:=λc ob q hx=>by
  obtain ⟨o',e1⟩:=a.there c ob q hx
  exact b.there c o' e1 hx
 tups:=λc xs q=>b.tups c xs (a.tups c xs q)
 frzs:=λc ob xs q=>b.frzs c ob xs (a.frzs c ob xs q)
 tbls:=λc ps q=>by
  obtain ⟨m1,e1⟩:=a.tbls c ps q
  obtain ⟨m2,e2⟩:=b.tbls c _ e1
  exact ⟨m1++m2,by rw [e2,lO]⟩
theorem Un.kept (k:∀ b u,h.get? b=some u->h'.get? b=some u):Un fs ex H H h h':=
 ⟨λb ob q _ _ _=>k b ob q,λb ob q _ _ _=>⟨ob.slots,k b ob q⟩,λ_ _ _ n _=>n,λb ob q _=>⟨ob,k b ob q⟩,λ_ _ q=>q,λ_ _ _ q=>q,λ_ ps q=>⟨#[],by rw [q]; simp⟩⟩
theorem Un.refl:Un fs ex H H h h:=Un.kept λ_ _ q=>q
theorem Un.laid (k:∀ b u,h.get? b=some u->h'.get? b=some u) (hp:h.objs.size<=a) (hn:H a=none):Un fs ex H (za H a o) h h' where
 keep:=λb u q _ _ _=>k b u q
 slot:=λb u q _ _ _=>⟨u.slots,k b u q⟩
 free:=λb u q n _=>by rw [zu (dA (cU (cS q) hp))]; exact n
 there:=λb u q _=>⟨u,k b u q⟩
 tups:=λb xs q=>by rw [zu (wD q hn)]; exact q
 frzs:=λb u xs q=>by rw [zu (wD q hn)]; exact q
 tbls:=λb ps q=>⟨#[],by rw [zu (wD q hn),q]; simp⟩
theorem Un.write (mu:Xo (H x)) (he:e=x\/H e=some (.own x)) (k:∀ b u,b≠e->h.get? b=some u->h'.get? b=some u) (heo:∃ u,h'.get? e=some u):Un fs ex H (za H x o) h h':=by
 have hx:∀ b,H b=none->b≠x:=λb n z=>by subst z; rw [n] at mu; exact mu
 have hb:∀ b,H b=none->b≠e:=λb n z=>by
  subst z
  rcases he with r | r
  ·exact hx b n r
  ·rw [n] at r; cases r
 have hm:∀ b u,H b=some u->¬ Xo (some u)->b≠x:=λb u q nm z=>by subst z; rw [q] at mu; exact nm mu
 refine ⟨λb u q n _ _=>k b u (hb b n) q,λb u q n _ _=>⟨u.slots,k b u (hb b n) q⟩,λb u q n _=>by rw [zu (hx b n)]; exact n,λb u q _=>?_,
  λb xs q=>by rw [zu (hm b _ q λz=>z)]; exact q,λb u xs q=>by rw [zu (hm b _ q λz=>z)]; exact q,λb ps q=>⟨#[],by rw [zu (hm b _ q λz=>z),q]; simp⟩⟩
 by_cases hbe:b=e
 ·subst hbe; exact heo
 ·exact ⟨u,k b u hbe q⟩
theorem Un.mono (u:Un fs ex H H1 h h1) (hs:∀ b∈fs,b∈fs') (hx:∀ b∈ex,b∈ex'):Un fs' ex' H H1 h h1:=
 ⟨λb ob q n hb he=>u.keep b ob q n (λz=>hb (hs b z)) λz=>he (hx b z),λ_ _ q n _ he=>u.any q n λz=>he (hx _ z),λb ob q n he=>u.free b ob q n λz=>he (hx b z),λb ob q he=>u.there b ob q λz=>he (hx b z),u.tups,u.frzs,u.tbls⟩
end
def jE (h:Heap) (H:Hp):List Addr:=(cR h.objs.size).filter λa=>(H a).isSome
def wE (h:Heap) (H:Hp):Heap:=fN h (jE h H)
theorem zLa (h:Heap) (H:Hp):(wE h H).objs.size=h.objs.size:=PySem.W.hideAll_size _ _
theorem zNS {h:Heap} {H:Hp} {b:Addr} {o:Obj} (e:h.get? b=some o) (n:H b=none):(wE h H).get? b=some o:=
 fF _ e λhm=>by
  have q:(H b).isSome=true:=(eF.mp hm).2
  rw [n] at q; simp at q
theorem zPN {h:Heap} {H:Hp} {b:Addr} {o:Obj} (e:(wE h H).get? b=some o):h.get? b=some o/\H b=none:=by
 have e':h.get? b=some o:=ix (jE h H) e
 refine ⟨e',?_⟩
 cases q:H b with
 | none=>rfl
 | some x=>
  have hm:b∈jE h H:=eF.mpr ⟨dz.mpr (cS e'),by simp [q]⟩
  have z:(wE h H).get? b=none:=PySem.W.hideAll_none (jE h H) hm
  rw [z] at e; cases e
def zP1 (g h:Heap) (L:Addr):List (Addr × Obj):=(cR h.objs.size).filterMap λa=>if a=L\/(g.get? a).isSome=true then none else (h.get? a).map λo=>(a,o)
def yJ (g h:Heap) (L d:Addr):List (Addr × Obj):=(zP1 g h L).filter λp=>decide (p.1≠d)
end L2
namespace L2
open PySem PySem.Spec PyProof.Rows
structure Mod (K:b') (mg:Str->Option Value) (base:Heap):Prop where
 kin:K.In base
 glob:base.Ns mainGlobals mg
 blt:∃ mb,base.Ns builtinsNs mb/\∀ x:Str,x≠"__name__"->mb x=bootBuiltins x
 nolimit:base.NoLimit
structure Cx where
 prog:Program
 w:World
 K:b'
 mg:Str->Option Value
 base:Heap
 A:Around
 N:List Str
 s₀:Shared
 H₀:Hp
 env:Env
 outer:List Env
 stack:List Env
 ex:List Addr
 fn:Str->Bool
 calm:Bool
 pn:List (Addr × Obj)
 xe:Value->Shared->Prop
def xK (l:List Env):List Addr:=l.filterMap (·.frame)
abbrev Cx.fs (X:Cx):List Addr:=xK X.outer
def j4 (sc:Scope) (x:Str):Prop:=sc.names.lookup x=some .local\/sc.names.lookup x=some .cell\/sc.names.lookup x=some .free
def ve (sc:Scope) (x:Str):Prop:=sc.names.lookup x=some .local\/sc.names.lookup x=some .cell
def UH (env:Env) (h:Heap) (m:Str->Option Value) (x:Str) (u:Value):Prop:=
 (env.kindOf x=some .local/\m x=some u)\/((env.kindOf x=some .cell\/env.kindOf x=some .free)/\∃ c,env.cells.lookup x=some c/\h.IsCell c (some u))
structure Cx.Ok (X:Cx):Prop where
 mod:Mod X.K X.mg X.base
 kind:X.env.scope.kind=.function
 glob:X.env.globals=mainGlobals
 blt:X.env.builtins=builtinsNs
 above:X.s₀.heap.objs.size<=X.env.locals
 inj:∀ x y c,X.env.cells.lookup x=some c->X.env.cells.lookup y=some c->x=y
 has:∀ x,(X.env.kindOf x=some .cell\/X.env.kindOf x=some .free)->∃ c,X.env.cells.lookup x=some c
 cab:∀ x c,X.fn x=true->X.env.cells.lookup x=some c->X.s₀.heap.objs.size<=c
 hd:X.calm=true->X.A.handled=none
 frames:X.A.frames=some X.stack
 stk:X.stack=X.outer\/(X.stack=X.env :: X.outer/\X.env.frame=some X.env.locals)
 exf:∀ b∈X.ex,b≠X.env.locals/\∀ x c,X.env.cells.lookup x=some c->c≠b
 bs:∀ b o,X.base.get? b=some o->X.s₀.heap.get? b=some o/\X.H₀ b=none
 bsz:X.base.objs.size<=X.s₀.heap.objs.size
 noex:∀ b o,X.base.get? b=some o->b∉X.ex
 exfs:∀ b∈X.ex,b∉X.fs
 funs:X.s₀.heap.FunFrames X.base X.outer
 frf:∀ b∈X.fs,X.H₀ b=none
structure zE (X:Cx) (pins:List (Addr × Obj)) (σ:List (Option V)) (H:Hp) (s:Shared):Prop where
 ok:X.Ok
 os:s.os=X.s₀.os
 bare:AllBare s.gens
 base:Un X.fs X.ex X.H₀ H X.s₀.heap s.heap
 loc:∃ m,s.heap.Ns X.env.locals m/\∀ (i:Nat) (x:Str) (v:V),X.N[i]? = some x->σ[i]? = some (some v)->j4 X.env.scope x->∃ u,zT v u/\UH X.env s.heap m x u
 cell:∀ x c,X.env.cells.lookup x=some c->∃ v,s.heap.IsCell c v
 free:H X.env.locals=none
 freeC:∀ x c,X.env.cells.lookup x=some c->H c=none
 pin:∀ p∈X.pn++pins,s.heap.get? p.1=some p.2/\H p.1=none/\p.1≠X.env.locals/\p.1∉X.fs/\∀ v,p.2.data≠.cell v
 hok:xG X.prog X.w H s.heap
 len:σ.length=X.N.length
section
variable {X:Cx} {pins:List (Addr × Obj)} {σ:List (Option V)} {H H':Hp} {s:Shared} {h':Heap}
theorem Cx.Ok.nofr (ok:X.Ok) {b:Addr} {o:Obj} (e:X.base.get? b=some o):b∉X.fs:=λhb=>by
 have:=(ok.funs.mem hb).1
 rw [e] at this; cases this
theorem zE.bs (I:zE X pins σ H s):∀ b o,X.base.get? b=some o->s.heap.get? b=some o/\H b=none:=λb o e=>
 ⟨I.base.keep b o (I.ok.bs b o e).1 (I.ok.bs b o e).2 (I.ok.nofr e) (I.ok.noex b o e),I.base.free b o (I.ok.bs b o e).1 (I.ok.bs b o e).2 (I.ok.noex b o e)⟩
theorem zE.bk (I:zE X pins σ H s):∀ b o,X.base.get? b=some o->s.heap.get? b=some o:=λb o e=>(I.bs b o e).1
theorem zE.mod (I:zE X pins σ H s):Mod X.K X.mg X.base:=I.ok.mod
theorem zE.kIn (I:zE X pins σ H s):X.K.In s.heap:=I.ok.mod.kin.keeps I.bk
theorem zE.lt (I:zE X pins σ H s):X.env.locals < s.heap.objs.size:=let ⟨_,hn,_⟩:=I.loc; hn.lt
theorem zE.sz (I:zE X pins σ H s):X.s₀.heap.objs.size<=s.heap.objs.size:=dM I.ok.above (iz I.lt)
theorem zE.nofs (I:zE X pins σ H s) {a:Addr} (h:s.heap.objs.size<=a):a∉X.fs:=λhb=>by
 obtain ⟨_,o,ho,_⟩:=I.ok.funs.mem hb
 exact absurd (cU (cS ho) (dM I.sz h)) (dy _)
theorem zE.cne (I:zE X pins σ H s):∀ x c,X.env.cells.lookup x=some c->c≠X.env.locals:=λx c e z=>by
 obtain ⟨v,o,ho,hd⟩:=I.cell x c e
 obtain ⟨m,⟨o',es,ep,ho',hd',_⟩,_⟩:=I.loc
 rw [z,ho'] at ho; cases ho; rw [hd'] at hd; cases hd
theorem zE.funs (I:zE X pins σ H s):s.heap.FunFrames X.base X.outer:=by
 have all:∀ (l:List Env),(∀ b∈xK l,b∈X.fs)->X.s₀.heap.FunFrames X.base l->s.heap.FunFrames X.base l:=by
  intro l
  induction l with
  | nil=>intro _ _; trivial
  | cons env r ih=>
   intro hs hl
   obtain ⟨hk,⟨L,o,hf,hn,ho,hd⟩,hr⟩:=hl
   have hL:L∈X.fs:=hs L (by unfold xK; rw [eG,hf]; exact cD)
   obtain ⟨sl,e⟩:=I.base.slot L o ho (I.ok.frf L hL) hL λz=>I.ok.exfs L z hL
   exact ⟨hk,⟨L,_,hf,hn,e,hd⟩,ih (λb hb=>hs b (by unfold xK; rw [eG,hf]; exact cB _ hb)) hr⟩
 exact all X.outer (λ_ hb=>hb) I.ok.funs
theorem zE.stack (I:zE X pins σ H s):s.heap.FunFrames X.base X.stack:=by
 rcases I.ok.stk with e | ⟨e,hf⟩
 ·rw [e]; exact I.funs
 ·rw [e]
  obtain ⟨m,hn,_⟩:=I.loc
  refine .cons (by rw [I.ok.kind]; decide) hf hn ?_ I.funs
  exact Heap.get?_none_of_le (dM I.ok.bsz I.ok.above)
theorem zE.stkSub (I:zE X pins σ H s):∀ b∈xK X.stack,b∈X.env.locals :: X.fs:=λb hb=>by
 rcases I.ok.stk with e | ⟨e,hf⟩
 ·rw [e] at hb; exact cB _ hb
 ·rw [e] at hb
  unfold xK at hb
  rw [eG,hf] at hb
  exact hb
theorem zE.stkFree (I:zE X pins σ H s):∀ b∈xK X.stack,H b=none:=λb hb=>by
 rcases da.mp (I.stkSub b hb) with e | hb
 ·rw [e]; exact I.free
 ·obtain ⟨_,o,ho,_⟩:=I.ok.funs.mem hb
  exact I.base.free b o ho (I.ok.frf b hb) λz=>I.ok.exfs b z hb
theorem zE.step {g':Array GenState} {t':Nat} {d':Drawn} {ch:List Addr} (I:zE X pins σ H s)
  (hch:∀ b∈ch,(b∈X.ex\/X.s₀.heap.objs.size<=b)/\b≠X.env.locals/\(∀ x c,X.env.cells.lookup x=some c->c≠b)/\∀ p∈X.pn++pins,p.1≠b)
  (keep:∀ b o,b≠X.env.locals->b∉X.fs->b∉ch->s.heap.get? b=some o->H b=none->h'.get? b=some o)
  (slot:∀ b o,b≠X.env.locals->b∈X.fs->b∉ch->s.heap.get? b=some o->H b=none->∃ sl,h'.get? b=some { o with slots:=sl }) (free:∀ b o,b∉ch->s.heap.get? b=some o->H b=none->H' b=none)
  (there:∀ b o,b∉ch->s.heap.get? b=some o->∃ o',h'.get? b=some o')
  (tups:∀ b xs,H b=some (.tup xs)->H' b=some (.tup xs)) (frzs:∀ b o u,H b=some (.frz o u)->H' b=some (.frz o u)) (tbls:∀ b ps,H b=some (.tbl ps)->∃ more,H' b=some (.tbl (ps++more)))
  (ns:∀ m,s.heap.Ns X.env.locals m->h'.Ns X.env.locals m) (hok:xG X.prog X.w H' h') (hg:AllBare g') :
  zE X pins σ H' { s with heap:=h',gens:=g',drawn:=d',toks:=t' }:=by
 have neL:∀ b o,X.s₀.heap.get? b=some o->b≠X.env.locals:=λb o e=>dA (cU (cS e) I.ok.above)
 have neC:∀ b o,X.s₀.heap.get? b=some o->b∉X.ex->b∉ch:=λb o e hx hb=>by
  rcases (hch b hb).1 with z | z
  ·exact hx z
  ·exact absurd (cU (cS e) z) (dy _)
 have cellK:∀ x c,X.env.cells.lookup x=some c->∀ v,s.heap.IsCell c v->h'.IsCell c v:=λx c e v ⟨o,ho,hd⟩=>by
  have nch:c∉ch:=λz=>(hch c z).2.2.1 x c e rfl
  by_cases hc:c∈X.fs
  ·obtain ⟨sl,q⟩:=slot c o (I.cne x c e) hc nch ho (I.freeC x c e)
   exact ⟨_,q,hd⟩
  ·exact ⟨o,keep c o (I.cne x c e) hc nch ho (I.freeC x c e),hd⟩
 refine ⟨I.ok,I.os,hg,⟨λb o e n hb hx=>?_,λb o e n hb hx=>?_,λb o e n hx=>?_,λb o e hx=>?_,λb xs e=>tups b xs (I.base.tups b xs e),λb o xs e=>frzs b o xs (I.base.frzs b o xs e),λb ps e=>?_⟩,?_,λx c e=>?_,?_,λx c e=>?_,λp hp=>?_,hok,I.len⟩
 ·exact keep b o (neL b o e) hb (neC b o e hx) (I.base.keep b o e n hb hx) (I.base.free b o e n hx)
 ·obtain ⟨sl,e1⟩:=I.base.slot b o e n hb hx
  obtain ⟨sl',e2⟩:=slot b _ (neL b o e) hb (neC b o e hx) e1 (I.base.free b o e n hx)
  exact ⟨sl',e2⟩
 ·obtain ⟨o',e1⟩:=I.base.there b o e hx
  exact free b o' (neC b o e hx) e1 (I.base.free b o e n hx)
 ·obtain ⟨o',e1⟩:=I.base.there b o e hx
  exact there b o' (neC b o e hx) e1
 ·obtain ⟨m1,e1⟩:=I.base.tbls b ps e
  obtain ⟨m2,e2⟩:=tbls b _ e1
  exact ⟨m1++m2,by rw [e2,lO]⟩
 ·obtain ⟨m,hn,hl⟩:=I.loc
  refine ⟨m,ns m hn,λi x v e1 e2 e3=>?_⟩
  obtain ⟨u,r,l⟩:=hl i x v e1 e2 e3
  refine ⟨u,r,?_⟩
  rcases l with l | ⟨k,c,e,z⟩
  ·exact .inl l
  ·exact .inr ⟨k,c,e,cellK x c e _ z⟩
 ·obtain ⟨v,z⟩:=I.cell x c e
  exact ⟨v,cellK x c e v z⟩
 ·obtain ⟨m,⟨o,_,_,ho,_⟩,_⟩:=I.loc
  exact free _ o (λz=>(hch _ z).2.1 rfl) ho I.free
 ·obtain ⟨v,o,ho,hd⟩:=I.cell x c e
  exact free c o (λz=>(hch c z).2.2.1 x c e rfl) ho (I.freeC x c e)
 ·obtain ⟨e,n,ne,nf,d⟩:=I.pin p hp
  have nch:p.1∉ch:=λz=>(hch p.1 z).2.2.2 p hp rfl
  exact ⟨keep p.1 p.2 ne nf nch e n,free p.1 p.2 nch e n,ne,nf,d⟩
theorem zE.un {t':Nat} (I:zE X pins σ H s) (u:Un X.fs [] H H' s.heap h') (hok:xG X.prog X.w H' h'):zE X pins σ H' { s with heap:=h',toks:=t' }:=by
 obtain ⟨m,⟨o,es,ep,ho,r⟩,_⟩:=id I.loc
 obtain ⟨sl,hL⟩:=u.any ho I.free (by simp)
 exact I.step (g':=s.gens) (d':=s.drawn) (ch:=[]) (λ_ z=>nomatch z) (λb o _ hb _ e n=>u.keep b o e n hb (by simp)) (λb o _ hb _ e n=>u.slot b o e n hb (by simp)) (λb o _ e n=>u.free b o e n (by simp)) (λb o _ e=>u.there b o e (by simp)) u.tups u.frzs u.tbls (λm' hm=>by
  obtain ⟨o',es',ep',ho',r'⟩:=hm
  rw [ho] at ho'; cases ho'
  exact ⟨_,es',ep',hL,r'⟩) hok I.bare
theorem zE.call {g':Array GenState} {t':Nat} {d':Drawn} {ch:List Addr} (I:zE X pins σ H s) (u:Un (xK X.stack) ch H H' s.heap h') (hok:xG X.prog X.w H' h') (hg:AllBare g')
  (hch:∀ b∈ch,(b∈X.ex\/X.s₀.heap.objs.size<=b)/\b≠X.env.locals/\(∀ x c,X.env.cells.lookup x=some c->c≠b)/\∀ p∈X.pn++pins,p.1≠b) :
  zE X pins σ H' { s with heap:=h',gens:=g',drawn:=d',toks:=t' }:=by
 obtain ⟨m,⟨o,es,ep,ho,r⟩,_⟩:=id I.loc
 obtain ⟨sl,hL⟩:=u.any ho I.free λz=>(hch _ z).2.1 rfl
 exact I.step (ch:=ch) hch (λb o hL hb hc e n=>u.keep b o e n (λz=>(da.mp (I.stkSub b z)).elim hL hb) hc) (λb o _ _ hc e n=>u.any e n hc) (λb o hc e n=>u.free b o e n hc) (λb o hc e=>u.there b o e hc) u.tups u.frzs u.tbls (λm' hm=>by
  obtain ⟨o',es',ep',ho',r'⟩:=hm
  rw [ho] at ho'; cases ho'
  exact ⟨_,es',ep',hL,r'⟩) hok hg
theorem zE.turned {t':Nat} {it:Addr} (I:zE X pins σ H s) (k:∀ b o,b≠it->s.heap.get? b=some o->h'.get? b=some o) (hn:H it=none) (hL:it≠X.env.locals)
  (h1:it∈X.ex\/X.s₀.heap.objs.size<=it) (h2:∀ x c,X.env.cells.lookup x=some c->c≠it) (h3:∀ p∈X.pn++pins,p.1≠it):zE X pins σ H { s with heap:=h',toks:=t' }:=by
 have nit:∀ b u,H b=some u->b≠it:=λb u e z=>by rw [z,hn] at e; cases e
 refine I.step (g':=s.gens) (d':=s.drawn) (ch:=[it]) (λb hb=>?_) (λb o _ _ hc e _=>k b o (λz=>hc (by simp [z])) e) (λb o _ _ hc e _=>⟨o.slots,k b o (λz=>hc (by simp [z])) e⟩) (λ_ _ _ _ n=>n)
  (λb o hc e=>⟨o,k b o (λz=>hc (by simp [z])) e⟩) (λ_ _ e=>e) (λ_ _ _ e=>e) (λb ps e=>⟨#[],by rw [e]; simp⟩) (λm hm=>?_) (λb u e=>?_) I.bare
 ·have e:b=it:=by simpa using hb
  subst e
  exact ⟨h1,hL,h2,h3⟩
 ·obtain ⟨o,es,ep,ho,r⟩:=hm
  exact ⟨o,es,ep,k _ o (Ne.symm hL) ho,r⟩
 ·refine (I.hok b u e).stay (λc v hc q=>k c v ?_ q) (λ_ q=>q) λ_ _ q=>q
  rcases hc with z | z
  ·rw [z]; exact nit b u e
  ·exact nit c _ z
theorem zE.tok (I:zE X pins σ H s) (t:Nat):zE X pins σ H { s with toks:=t }:=I.un (h':=s.heap) (t':=t) Un.refl I.hok
theorem zE.kept {t':Nat} (I:zE X pins σ H s) (k:∀ b u,s.heap.get? b=some u->h'.get? b=some u):zE X pins σ H { s with heap:=h',toks:=t' }:=I.un (Un.kept k) (I.hok.kept k)
theorem zE.laid {a:Addr} {o:HO} {t':Nat} (I:zE X pins σ H s) (k:∀ b u,s.heap.get? b=some u->h'.get? b=some u) (hp:s.heap.objs.size<=a) (new:xn X.prog X.w (za H a o) h' a o) :
  zE X pins σ (za H a o) { s with heap:=h',toks:=t' }:=I.un (Un.laid k hp (I.hok.fresh hp)) (I.hok.laid k hp new)
theorem zE.write {x e:Addr} {o:HO} {t':Nat} (I:zE X pins σ H s) (mu:Xo (H x)) (he:e=x\/H e=some (.own x)) (k:∀ b u,b≠e->s.heap.get? b=some u->h'.get? b=some u) (heo:∃ u,h'.get? e=some u)
  (new:xn X.prog X.w (za H x o) h' x o):zE X pins σ (za H x o) { s with heap:=h',toks:=t' }:=I.un (Un.write mu he k heo) (I.hok.write mu he k heo new)
theorem zE.pins_of {pins':List (Addr × Obj)} (I:zE X pins σ H s) (h:∀ p∈pins',s.heap.get? p.1=some p.2/\H p.1=none/\p.1≠X.env.locals/\p.1∉X.fs/\∀ v,p.2.data≠.cell v):zE X pins' σ H s:=
 ⟨I.ok,I.os,I.bare,I.base,I.loc,I.cell,I.free,I.freeC,λp hp=>(dr.mp hp).elim (λz=>I.pin p (ig _ z)) (h p),I.hok,I.len⟩
theorem K8 {N:List Str} (hN:N.Nodup) {i j:Nat} {x:Str} (a:N[i]? = some x) (b:N[j]? = some x):i=j:=by
 obtain ⟨h1,e1⟩:=cK.mp a
 obtain ⟨h2,e2⟩:=cK.mp b
 exact (List.getElem_inj hN).mp (e1.trans e2.symm)
theorem K9 {M:Model} {A:Around} {E:Value->Shared->Prop} {i:Nat} {x:Str} {v:V} {u:Value} {Q:Unit->Shared->Prop} (I:zE X pins σ H s) (hN:X.N.Nodup) (hi:X.N[i]? = some x) (hx:ve X.env.scope x) (r:zT v u)
  (h:∀ s',zE X pins (σ.set i (some v)) H s'->(∃ a,Heap.SameBut a s.heap s'.heap/\(a=X.env.locals\/X.env.cells.lookup x=some a))->Q () s') (hf:X.fn x=true\/X.env.scope.names.lookup x=some .local:=by first | exact .inl rfl | exact .inr rfl | assumption):wpAny M A (storeName X.env x u) Q E s:=by
 obtain ⟨m,hn,hl⟩:=id I.loc
 have hcls:(X.env.scope.kind == .class || (X.env.scope.kind == .module && X.env.locals != X.env.globals))=false:=by rw [I.ok.kind]; rfl
 have hiσ:i < σ.length:=by rw [I.len]; exact (cK.mp hi).1
 have cne:=I.cne
 have tracked:∀ {a:Addr} {h':Heap},(∃ o,s.heap.get? a=some o/\H a=none)->Heap.SameBut a s.heap h'->xG X.prog X.w H h':=λ{a h'} ha hs b ob e=>by
  obtain ⟨_,_,hfree⟩:=ha
  refine (I.hok b ob e).stay (λc w' hc q=>(hs.2 c ?_).trans q) (λ_ q=>q) λ_ _ q=>q
  rintro rfl
  rcases hc with rfl | hc
  ·rw [hfree] at e; cases e
  ·rw [hfree] at hc; cases hc
 rcases hx with hk | hk
 ·refine wpAny_storeName_local hk hn (λh' hn' hs=>?_) hcls
  obtain ⟨oL,_,_,hoL,_⟩:=id hn
  refine h _ ⟨I.ok,I.os,I.bare,⟨λb o e n hb hx=>?_,λb o e n hb hx=>?_,I.base.free,λb o e hx=>?_,I.base.tups,I.base.frzs,I.base.tbls⟩,⟨_,hn',λj y v' e1 e2 e3=>?_⟩,λy c e=>?_,I.free,I.freeC,λp hp=>?_,tracked ⟨oL,hoL,I.free⟩ hs,by simpa using I.len⟩ ⟨_,hs,.inl rfl⟩
  ·exact (hs.2 b (dA (cU (cS e) I.ok.above))).trans (I.base.keep b o e n hb hx)
  ·obtain ⟨sl,e1⟩:=I.base.slot b o e n hb hx
   exact ⟨sl,(hs.2 b (dA (cU (cS e) I.ok.above))).trans e1⟩
  ·obtain ⟨o',e1⟩:=I.base.there b o e hx
   exact ⟨o',(hs.2 b (dA (cU (cS e) I.ok.above))).trans e1⟩
  ·by_cases hj:j=i
   ·subst hj
    rw [hi] at e1; cases e1
    rw [eO hiσ] at e2
    cases e2
    exact ⟨u,r,.inl ⟨hk,by simp⟩⟩
   ·rw [dF (Ne.symm hj)] at e2
    obtain ⟨u',r',q⟩:=hl j y v' e1 e2 e3
    refine ⟨u',r',?_⟩
    rcases q with ⟨k,e⟩ | ⟨k,c,e,z⟩
    ·refine .inl ⟨k,?_⟩
     have:y≠x:=λe=>hj (K8 hN e1 (e ▸ hi))
     simp [this,e]
    ·exact .inr ⟨k,c,e,z.sameBut hs (cne y c e)⟩
  ·obtain ⟨w',z⟩:=I.cell y c e
   exact ⟨w',z.sameBut hs (cne y c e)⟩
  ·obtain ⟨e,n,ne,nf,d⟩:=I.pin p hp
   exact ⟨(hs.2 p.1 ne).trans e,n,ne,nf,d⟩
 ·have hfn:X.fn x=true:=by
   rcases hf with z | z
   ·exact z
   ·rw [z] at hk; cases hk
  obtain ⟨c,hc⟩:=I.ok.has x (.inl hk)
  obtain ⟨w',z⟩:=I.cell x c hc
  refine wpAny_storeName_cell I.ok.kind hk hc z (λh' hc' hs=>?_)
  obtain ⟨oc,hoc,hocd⟩:=id z
  refine h { s with heap:=h' } ⟨I.ok,I.os,I.bare,⟨λb o e n hb hx=>?_,λb o e n hb hx=>?_,I.base.free,λb o e hx=>?_,I.base.tups,I.base.frzs,I.base.tbls⟩,⟨m,hn.sameBut hs (Ne.symm (cne x c hc)),λj y v' e1 e2 e3=>?_⟩,λy c' e=>?_,I.free,I.freeC,λp hp=>?_,tracked ⟨oc,hoc,I.freeC x c hc⟩ hs,by simpa using I.len⟩ ⟨c,hs,.inr hc⟩
  ·exact (hs.2 b (dA (cU (cS e) (I.ok.cab x c hfn hc)))).trans (I.base.keep b o e n hb hx)
  ·obtain ⟨sl,e1⟩:=I.base.slot b o e n hb hx
   exact ⟨sl,(hs.2 b (dA (cU (cS e) (I.ok.cab x c hfn hc)))).trans e1⟩
  ·obtain ⟨o',e1⟩:=I.base.there b o e hx
   exact ⟨o',(hs.2 b (dA (cU (cS e) (I.ok.cab x c hfn hc)))).trans e1⟩
  ·by_cases hj:j=i
   ·subst hj
    rw [hi] at e1; cases e1
    rw [eO hiσ] at e2
    cases e2
    exact ⟨u,r,.inr ⟨.inl hk,c,hc,hc'⟩⟩
   ·rw [dF (Ne.symm hj)] at e2
    obtain ⟨u',r',q⟩:=hl j y v' e1 e2 e3
    refine ⟨u',r',?_⟩
    rcases q with q | ⟨k,c',e,z'⟩
    ·exact .inl q
    ·refine .inr ⟨k,c',e,z'.sameBut hs ?_⟩
     rintro rfl
     exact hj (K8 hN e1 (I.ok.inj _ _ _ e hc ▸ hi))
  ·by_cases hcc:c'=c
   ·subst hcc; exact ⟨_,hc'⟩
   ·obtain ⟨w2,z2⟩:=I.cell y c' e
    exact ⟨w2,z2.sameBut hs hcc⟩
  ·obtain ⟨e,n,ne,nf,d⟩:=I.pin p hp
   refine ⟨(hs.2 p.1 ?_).trans e,n,ne,nf,d⟩
   intro q
   rw [q,hoc] at e
   have q':oc=p.2:=Option.some.inj e
   exact d w' (by rw [<- q']; exact hocd)
theorem zIm {M:Model} {A:Around} {E:Value->Shared->Prop} {i:Nat} {x:Str} {v:V} {u:Value} {Q:Unit->Shared->Prop} (I:zE X pins σ H s) (hN:X.N.Nodup) (hi:X.N[i]? = some x) (hx:ve X.env.scope x) (r:zT v u)
  (h:∀ s',zE X pins (σ.set i (some v)) H s'->Q () s') (hf:X.fn x=true\/X.env.scope.names.lookup x=some .local:=by first | exact .inl rfl | exact .inr rfl | assumption):wpAny M A (storeName X.env x u) Q E s:=
 K9 I hN hi hx r (λs' I' _=>h s' I') hf
theorem zE.call' {s':Shared} {ch:List Addr} (I:zE X pins σ H s) (ho:s'.os=s.os) (u:Un (xK X.stack) ch H H' s.heap s'.heap) (hok:xG X.prog X.w H' s'.heap) (hg:AllBare s'.gens)
  (hch:∀ b∈ch,(b∈X.ex\/X.s₀.heap.objs.size<=b)/\b≠X.env.locals/\(∀ x c,X.env.cells.lookup x=some c->c≠b)/\∀ p∈X.pn++pins,p.1≠b):zE X pins σ H' s':=by
 obtain ⟨h',g',d',t',o'⟩:=s'
 have e:o'=s.os:=ho
 subst e
 exact I.call (g':=g') (t':=t') (d':=d') u hok hg hch
end
abbrev XK:=Value->Option Addr->Hp->Prop
abbrev St:=List (Option V)
abbrev VK:=V->Hp->Prop
abbrev TE:=St->Hp->VK->Prop
abbrev TT:=St->Hp->(Bool->Hp->Prop)->Prop
abbrev TA:=St->Hp->(List V->Hp->Prop)->Prop
structure yw where
 nx:St->Hp->Prop
 rt:VK
 bk:St->Hp->Prop:=λ_ _=>False
 ct:St->Hp->Prop:=λ_ _=>False
abbrev TS:=yw->St->Hp->Prop
def EP (X:Cx) (pins:List (Addr × Obj)) (σ:St) (Q:VK) (u:Value) (s':Shared):Prop:=∃ v H',zE X pins σ H' s'/\zT v u/\Q v H'
def TP (X:Cx) (pins:List (Addr × Obj)) (σ:St) (Q:Bool->Hp->Prop) (b:Bool) (s':Shared):Prop:=∃ H',zE X pins σ H' s'/\Q b H'
def AP (X:Cx) (pins:List (Addr × Obj)) (σ:St) (Q:List V->Hp->Prop) (us:List Value) (s':Shared):Prop:=∃ vs H',zE X pins σ H' s'/\zK vs us/\Q vs H'
def SP (X:Cx) (pins:List (Addr × Obj)) (D:yw) (f:Flow) (s':Shared):Prop:=
 match f with
 | .next=>∃ σ' H',zE X pins σ' H' s'/\D.nx σ' H'
 | .brk=>∃ σ' H',zE X pins σ' H' s'/\D.bk σ' H'
 | .cont=>∃ σ' H',zE X pins σ' H' s'/\D.ct σ' H'
 | .ret u=>∃ v σ' H',zE X pins σ' H' s'/\zT v u/\D.rt v H'
def PE (X:Cx) (e:Expr) (t:TE):Prop:=
 ∀ (pins:List (Addr × Obj)) (s:Shared) (σ:St) (H:Hp) (Q:VK),zE X pins σ H s->t σ H Q->wpAny (model X.prog X.w) X.A (eval e X.env) (EP X pins σ Q) X.xe s
def PT (X:Cx) (e:Expr) (t:TT):Prop:=
 ∀ (pins:List (Addr × Obj)) (s:Shared) (σ:St) (H:Hp) (Q:Bool->Hp->Prop),zE X pins σ H s->t σ H Q->wpAny (model X.prog X.w) X.A (isTrue e X.env (eval e X.env)) (TP X pins σ Q) X.xe s
def PW (X:Cx) (e:Expr) (t:TT):Prop:=
 ∀ (whole:Sem Value) (pins:List (Addr × Obj)) (s:Shared) (σ:St) (H:Hp) (Q:Bool->Hp->Prop),zE X pins σ H s->t σ H Q->wpAny (model X.prog X.w) X.A (isTrue e X.env whole) (TP X pins σ Q) X.xe s
theorem PW.pt {X:Cx} {e:Expr} {t:TT} (h:PW X e t):PT X e t:=h _
def PA (X:Cx) (es:List Expr) (t:TA):Prop:=
 ∀ (pos:Pos) (pins:List (Addr × Obj)) (s:Shared) (σ:St) (H:Hp) (Q:List V->Hp->Prop),zE X pins σ H s->t σ H Q->wpAny (model X.prog X.w) X.A (spliced (backTo pos (starEach es X.env))) (AP X pins σ Q) X.xe s
def PS (X:Cx) (st:Stmt) (t:TS):Prop:=
 ∀ (pins:List (Addr × Obj)) (s:Shared) (σ:St) (H:Hp) (D:yw),zE X pins σ H s->t D σ H->wpAny (model X.prog X.w) X.A (exec st X.env) (SP X pins D) X.xe s
def yk (X:Cx) (st:List Stmt) (t:TS):Prop:=
 ∀ (pins:List (Addr × Obj)) (s:Shared) (σ:St) (H:Hp) (D:yw),zE X pins σ H s->t D σ H->wpAny (model X.prog X.w) X.A (execs st X.env) (SP X pins D) X.xe s
theorem zj {α:Type} {t:Sem α} {Q Q':α->Shared->Prop} {M:Model} {A:Around} {E:Value->Shared->Prop} {s:Shared} (h:wpAny M A t Q E s) (hQ:∀ a s,Q a s->Q' a s):wpAny M A t Q' E s:=wpAny_mono h hQ λ_ _ x=>x
end L2
namespace L2
open PySem PySem.Spec PyProof.Rows
section
variable {X:Cx}
def jQ (i:Nat):TE:=λσ H Q=>∃ v,σ[i]? = some (some v)/\Q v H
def tC (v:V):TE:=λ_ H Q=>Q v H
theorem UI {i:Nat} {x:Str} {pos:Pos} (hN:X.N[i]? = some x) (hv:j4 X.env.scope x) (hd:(x == ("__debug__" : Str))=false:=by decide) (hcd:(x == ("__classdict__" : Str))=false:=by decide):PE X (.Name x pos) (jQ i):=by
 intro pins s σ H Q I h
 obtain ⟨v,e,h⟩:=h
 obtain ⟨m,hn,hl⟩:=I.loc
 obtain ⟨u,r,l⟩:=hl i x v hN e hv
 have fin:EP X pins σ Q u s:=⟨v,H,I,r,h⟩
 rcases l with ⟨hk,hm⟩ | ⟨hk,c,hc,hcell⟩
 ·exact wpAny_Name (wpAny_loadName_local I.ok.kind hk hn hm fin) hd
 ·rcases hk with hk | hk
  ·exact wpAny_Name (wpAny_loadName_cell I.ok.kind hk hc hcell fin) hd
  ·exact wpAny_Name (wpAny_loadName_free I.ok.kind hk hc hcell fin hcd) hd
theorem zQ1 {i j pos}:PE X (.Constant (.int i) j pos) (tC (.int i)):=λ_ _ _ H _ I h=>wpAny_Constant_int ⟨.int i,H,I.tok _,⟨_,rfl⟩,h⟩
theorem km {b j pos}:PE X (.Constant (.bool b) j pos) (tC (.bl b)):=λ_ _ _ H _ I h=>Constant_bool ⟨.bl b,H,I,rfl,h⟩
theorem zN3 {j pos}:PE X (.Constant .none j pos) (tC .non):=λ_ _ _ H _ I h=>Constant_none ⟨.non,H,I,rfl,h⟩
theorem zQx {x j pos}:PE X (.Constant (.str x) j pos) (tC (.str x)):=λ_ _ _ H _ I h=>Calls.Constant_str ⟨.str x,H,I.tok _,⟨_,rfl⟩,h⟩
def Gl (X:Cx) (x:Str):Prop:=X.env.kindOf x=some .globalImplicit
theorem gp {E:Value->Shared->Prop} {pins:List (Addr × Obj)} {s:Shared} {σ:St} {H:Hp} {x:Str} {u:Value} {pos:Pos} {Q:Value->Shared->Prop} (I:zE X pins σ H s) (hg:Gl X x) (hm:X.mg x=some u) (h:Q u s)
  (hd:(x == ("__debug__" : Str))=false:=by decide):wpAny (model X.prog X.w) X.A (eval (.Name x pos) X.env) Q E s:=
 Calls.Name_function_global I.ok.kind hg (Calls.loadGlobal_global (by rw [I.ok.glob]; exact I.mod.glob.keeps I.bk) hm h) hd
theorem j5 {E:Value->Shared->Prop} {pins:List (Addr × Obj)} {s:Shared} {σ:St} {H:Hp} {x:Str} {u:Value} {pos:Pos} {Q:Value->Shared->Prop} (I:zE X pins σ H s) (hg:Gl X x) (hm:X.mg x=none) (hv:bootBuiltins x=some u) (h:Q u s)
  (hn:x≠"__name__":=by decide) (hd:(x == ("__debug__" : Str))=false:=by decide):wpAny (model X.prog X.w) X.A (eval (.Name x pos) X.env) Q E s:=by
 obtain ⟨mb,h1,h2⟩:=I.mod.blt
 exact Calls.Name_function_global I.ok.kind hg (Calls.loadGlobal_builtin (by rw [I.ok.glob]; exact I.mod.glob.keeps I.bk) hm (by rw [I.ok.blt]; exact h1.keeps I.bk) ((h2 x hn).trans hv) h) hd
theorem zKw {x:Str} {v:V} {u:Value} {pos:Pos} (hg:Gl X x) (hm:X.mg x=some u) (r:zT v u) (hd:(x == ("__debug__" : Str))=false:=by decide):PE X (.Name x pos) (tC v):=
 λ_ _ _ H _ I h=>gp I hg hm ⟨v,H,I,r,h⟩ hd
theorem uY {x:Str} {v:V} {u:Value} {pos:Pos} (hg:Gl X x) (hm:X.mg x=none) (hv:bootBuiltins x=some u) (r:zT v u) (hn:x≠"__name__":=by decide) (hd:(x == ("__debug__" : Str))=false:=by decide):PE X (.Name x pos) (tC v):=
 λ_ _ _ H _ I h=>j5 I hg hm hv ⟨v,H,I,r,h⟩ hn hd
variable {a b:Expr} {ta tb:TE} {pos:Pos}
def tB (t:TE):TT:=λσ H Q=>t σ H λx H1=>∃ c,x=.bl c/\Q c H1
theorem zQn {e:Expr} {t:TE} (h:PE X e t) (he:∀ whole,isTrue e X.env whole=(do let v <- whole; standAt e.pos; holding [v] (truthy v)):=by intro _; rfl):PT X e (tB t):=by
 intro pins s σ H Q I hw
 refine isTrue_plain (zj (h pins s σ H _ I hw) λv s1 ⟨x,H1,I1,r1,q1⟩=>?_) (he _)
 obtain ⟨d,rfl,q⟩:=q1
 cases r1
 exact wpAny_truthy_bool ⟨H1,I1,q⟩
variable {tA tB':TT} {yJ:List Expr}
def UJ (t u:TT):TT:=λσ H Q=>t σ H λc H1=>if c=true then u σ H1 Q else Q false H1
def tOr (t u:TT):TT:=λσ H Q=>t σ H λc H1=>if c=true then Q true H1 else u σ H1 Q
def UK (t:TT):TT:=λσ H Q=>t σ H λc H1=>Q (!c) H1
theorem zOm (ha:PT X a tA):PW X (.BoolOp .And [a] pos) tA:=by
 intro wh pins s σ H Q I h
 refine isTrue_and (zj (ha pins s σ H Q I h) λc s1 e=>?_)
 cases c with
 | true=>exact isTrue_and_nil e
 | false=>exact e
theorem zQc (ha:PT X a tA):PW X (.BoolOp .Or [a] pos) tA:=by
 intro wh pins s σ H Q I h
 refine isTrue_or (zj (ha pins s σ H Q I h) λc s1 e=>?_)
 cases c with
 | false=>exact isTrue_or_nil e
 | true=>exact e
theorem zQd (ha:PT X a tA) (hb:PW X (.BoolOp .And (b :: yJ) pos) tB'):PW X (.BoolOp .And (a :: b :: yJ) pos) (UJ tA tB'):=by
 intro wh pins s σ H Q I h
 refine isTrue_and (zj (ha pins s σ H _ I h) λc s1 ⟨H1,I1,q1⟩=>?_)
 cases c with
 | true=>exact hb wh pins s1 σ H1 Q I1 q1
 | false=>exact ⟨H1,I1,q1⟩
theorem ko (ha:PT X a tA) (hb:PW X (.BoolOp .Or (b :: yJ) pos) tB'):PW X (.BoolOp .Or (a :: b :: yJ) pos) (tOr tA tB'):=by
 intro wh pins s σ H Q I h
 refine isTrue_or (zj (ha pins s σ H _ I h) λc s1 ⟨H1,I1,q1⟩=>?_)
 cases c with
 | true=>exact ⟨H1,I1,q1⟩
 | false=>exact hb wh pins s1 σ H1 Q I1 q1
theorem zQo (ha:PT X a tA):PT X (.UnaryOp .Not a pos) (UK tA):=by
 intro pins s σ H Q I h
 exact isTrue_not (ha pins s σ H (λc H1=>Q (!c) H1) I h)
def kq (ta tb:TE):TE:=λσ H Q=>ta σ H λx H1=>∃ c,x=.bl c/\if c=true then tb σ H1 Q else Q (.bl false) H1
def UL (ta tb:TE):TE:=λσ H Q=>ta σ H λx H1=>∃ c,x=.bl c/\if c=true then Q (.bl true) H1 else tb σ H1 Q
def kr (ta:TE):TE:=λσ H Q=>ta σ H λx H1=>∃ c,x=.bl c/\Q (.bl (!c)) H1
theorem zQz {op} {t:TE} (h:PE X a t):PE X (.BoolOp op [a] pos) t:=λpins s σ H Q I hw=>BoolOp_one (h pins s σ H Q I hw)
theorem zQ4 (ha:PE X a ta) (hb:PE X (.BoolOp .And (b :: yJ) pos) tb):PE X (.BoolOp .And (a :: b :: yJ) pos) (kq ta tb):=by
 intro pins s σ H Q I h
 refine BoolOp_and (zj (ha pins s σ H _ I h) λv s1 ⟨x,H1,I1,r1,q1⟩=>?_)
 obtain ⟨c,rfl,q1⟩:=q1
 cases r1
 refine wpAny_truthy_bool ?_
 cases c with
 | true=>exact hb pins s1 σ H1 Q I1 q1
 | false=>exact ⟨.bl false,H1,I1,rfl,q1⟩
theorem ku (ha:PE X a ta) (hb:PE X (.BoolOp .Or (b :: yJ) pos) tb):PE X (.BoolOp .Or (a :: b :: yJ) pos) (UL ta tb):=by
 intro pins s σ H Q I h
 refine BoolOp_or (zj (ha pins s σ H _ I h) λv s1 ⟨x,H1,I1,r1,q1⟩=>?_)
 obtain ⟨c,rfl,q1⟩:=q1
 cases r1
 refine wpAny_truthy_bool ?_
 cases c with
 | false=>exact hb pins s1 σ H1 Q I1 q1
 | true=>exact ⟨.bl true,H1,I1,rfl,q1⟩
theorem zQ0 (ha:PE X a ta):PE X (.UnaryOp .Not a pos) (kr ta):=by
 intro pins s σ H Q I h
 refine UnaryOp_ (zj (ha pins s σ H _ I h) λv s1 ⟨x,H1,I1,r1,q1⟩=>?_)
 obtain ⟨c,rfl,q1⟩:=q1
 cases r1
 exact not_of (wpAny_truthy_bool ⟨.bl (!c),H1,I1,rfl,q1⟩)
def tIf (t:TT) (ta tb:TE):TE:=λσ H Q=>t σ H λc H1=>if c=true then ta σ H1 Q else tb σ H1 Q
theorem zMu {c:Expr} (hc:PT X c tA) (ha:PE X a ta) (hb:PE X b tb):PE X (.IfExp c a b pos) (tIf tA ta tb):=by
 intro pins s σ H Q I h
 refine wpAny_IfExp (zj (hc pins s σ H _ I h) λd s1 ⟨H1,I1,q1⟩=>?_)
 cases d with
 | true=>exact ha pins s1 σ H1 Q I1 q1
 | false=>exact hb pins s1 σ H1 Q I1 q1
end
end L2
namespace L2
open PySem PySem.Spec PyProof.Rows
def zl (K:b') (H:Hp) (a:Addr) (xs:List V):Prop:=
 Rd H a (.lst xs)∨
  ∃ (o:Obj) (its:Array Value) (n:Nat),K.lookup a=some o/\o.cls=.type "list"/\o.dict=none/\o.data=.seq its n/\its.size<=sizeLine/\zK xs its.toList
def ym (K:b') (H:Hp) (a:Addr) (xs:List V):Prop:=
 Rd H a (.tup xs)∨
  ∃ (o:Obj) (its:Array Value) (n:Nat),K.lookup a=some o/\o.cls=.type "tuple"/\o.data=.seq its n/\its.size<=sizeLine/\zK xs its.toList
def UM:Value->Option V
 | .none=>some .non
 | .bool b=>some (.bl b)
 | .int i _=>some (.int i)
 | .str x _=>some (.str x)
 | .bytes b _=>some (.byt b)
 | .float b _=>some (.flt b)
 | .ref a=>some (.ref a)
 | .type n=>some (.ty n)
 | _=>none
theorem zT.abs {x:V} {u:Value} (r:zT x u):UM u=some x:=by
 cases x with
 | non=>cases r; rfl
 | bl _=>cases r; rfl
 | int _=>obtain ⟨t,rfl⟩:=r; rfl
 | str _=>obtain ⟨t,rfl⟩:=r; rfl
 | byt _=>obtain ⟨t,rfl⟩:=r; rfl
 | flt _=>obtain ⟨t,rfl⟩:=r; rfl
 | ref _=>cases r; rfl
 | ty _=>cases r; rfl
theorem zT.inj {x y:V} {u:Value} (r:zT x u) (q:zT y u):x=y:=Option.some.inj (r.abs.symm.trans q.abs)
theorem zK.inj:∀ {xs ys:List V} {us:List Value},zK xs us->zK ys us->xs=ys
 | _,_,_,.nil,.nil=>rfl
 | _,_,_,.cons r t,.cons r' t'=>by rw [r.inj r',zK.inj t t']
section
variable {X:Cx} {pins:List (Addr × Obj)} {σ:St} {H:Hp} {s:Shared} {a:Addr} {xs ys:List V}
theorem zl.of {K:b'} (h:H a=some (.lst xs)):zl K H a xs:=.inl (.inl h)
theorem ym.of {K:b'} (h:H a=some (.tup xs)):ym K H a xs:=.inl (.inl h)
theorem zE.list (I:zE X pins σ H s) (h:zl X.K H a xs):∃ its:List Value,zK xs its/\PlainL s.heap a its.toArray/\xs.length<=sizeLine:=by
 rcases h with h | ⟨o,its,n,hk,hc,hd,hs,hz,r⟩
 ·obtain ⟨z,its,n,r,e⟩:=h.ok I.hok
  exact ⟨its,r,⟨_,n,e,rfl,rfl,rfl⟩,z⟩
 ·refine ⟨its.toList,r,⟨o,n,I.kIn a o hk,hc,hd,by simpa using hs⟩,?_⟩
  have e:=r.length
  simp only [d_] at e
  omega
theorem zE.tuple (I:zE X pins σ H s) (h:ym X.K H a xs):∃ its:List Value,zK xs its/\IsTup s.heap a its.toArray/\xs.length<=sizeLine:=by
 rcases h with h | ⟨o,its,n,hk,hc,hs,hz,r⟩
 ·obtain ⟨z,its,r,p⟩:=h.ok I.hok
  exact ⟨its,r,p,z⟩
 ·refine ⟨its.toList,r,⟨o,I.kIn a o hk,hc,n,by simpa using hs⟩,?_⟩
  have e:=r.length
  simp only [d_] at e
  omega
theorem zE.list_inj (I:zE X pins σ H s) (h:zl X.K H a xs) (h':zl X.K H a ys):xs=ys:=by
 obtain ⟨its,r,⟨o,n,e,_,_,d⟩,_⟩:=I.list h
 obtain ⟨its',r',⟨o',n',e',_,_,d'⟩,_⟩:=I.list h'
 rw [e] at e'; cases e'
 rw [d] at d'
 injection d' with d1 _
 have:its=its':=by simpa using congrArg nk d1
 subst this
 exact r.inj r'
theorem zE.tuple_inj (I:zE X pins σ H s) (h:ym X.K H a xs) (h':ym X.K H a ys):xs=ys:=by
 obtain ⟨its,r,⟨o,e,_,n,d⟩,_⟩:=I.tuple h
 obtain ⟨its',r',⟨o',e',_,n',d'⟩,_⟩:=I.tuple h'
 rw [e] at e'; cases e'
 rw [d] at d'
 injection d' with d1 _
 have:its=its':=by simpa using congrArg nk d1
 subst this
 exact r.inj r'
end
abbrev Cx.wish (X:Cx) (E:Value->Shared->Prop):Cx:={ X with xe:=E }
abbrev Cx.nox (X:Cx):Cx:=X.wish λ_ _=>False
theorem Cx.Ok.wish {X:Cx} (ok:X.Ok) (E:Value->Shared->Prop):(X.wish E).Ok:=
 ⟨ok.mod,ok.kind,ok.glob,ok.blt,ok.above,ok.inj,ok.has,ok.cab,ok.hd,ok.frames,ok.stk,ok.exf,ok.bs,ok.bsz,ok.noex,ok.exfs,ok.funs,ok.frf⟩
theorem Cx.Ok.unwish {X:Cx} {E:Value->Shared->Prop} (ok:(X.wish E).Ok):X.Ok:=
 ⟨ok.mod,ok.kind,ok.glob,ok.blt,ok.above,ok.inj,ok.has,ok.cab,ok.hd,ok.frames,ok.stk,ok.exf,ok.bs,ok.bsz,ok.noex,ok.exfs,ok.funs,ok.frf⟩
section
variable {X:Cx} {pins:List (Addr × Obj)} {σ:St} {H:Hp} {s:Shared} {E:Value->Shared->Prop}
theorem zE.wish (I:zE X pins σ H s) (E:Value->Shared->Prop):zE (X.wish E) pins σ H s:=⟨I.ok.wish E,I.os,I.bare,I.base,I.loc,I.cell,I.free,I.freeC,I.pin,I.hok,I.len⟩
theorem zE.unwish (I:zE (X.wish E) pins σ H s):zE X pins σ H s:=⟨I.ok.unwish,I.os,I.bare,I.base,I.loc,I.cell,I.free,I.freeC,I.pin,I.hok,I.len⟩
theorem SP.unwish {D:yw} {f:Flow} {s':Shared} (h:SP (X.wish E) pins D f s'):SP X pins D f s':=by
 cases f with
 | next=>obtain ⟨σ',H',I,q⟩:=h; exact ⟨σ',H',I.unwish,q⟩
 | brk=>obtain ⟨σ',H',I,q⟩:=h; exact ⟨σ',H',I.unwish,q⟩
 | cont=>obtain ⟨σ',H',I,q⟩:=h; exact ⟨σ',H',I.unwish,q⟩
 | ret u=>obtain ⟨v,σ',H',I,r,q⟩:=h; exact ⟨v,σ',H',I.unwish,r,q⟩
theorem yk.nox {st:List Stmt} {t:TS} (h:yk X.nox st t):yk X st t:=λpins s σ H D I hw=>
 wpAny_mono (h pins s σ H D (I.wish _) hw) (λ_ _ q=>q.unwish) λ_ _ z=>False.elim z
end
section
variable {X:Cx} {st:Stmt} {yJ:List Stmt} {t u:TS} {e:Expr} {te:TE} {pos:Pos}
def UN:TS:=λD σ H=>D.nx σ H
def jR (t u:TS):TS:=λD σ H=>t { D with nx:=u D } σ H
theorem Xp:yk X [] UN:=λ_ _ σ H _ I h=>wpAny_execs_nil ⟨σ,H,I,h⟩
theorem qc (h1:PS X st t) (h2:yk X yJ u):yk X (st :: yJ) (jR t u):=by
 intro pins s σ H D I h
 refine wpAny_execs_cons (zj (h1 pins s σ H { D with nx:=u D } I h) λf s1 q=>?_)
 cases f with
 | next=>
  obtain ⟨σ',H',I',q⟩:=q
  exact h2 pins s1 σ' H' D I' q
 | ret v=>exact q
 | brk=>exact q
 | cont=>exact q
theorem zKk (h1:PS X st t):yk X [st] t:=by
 intro pins s σ H D I h
 refine wpAny_execs_cons (zj (h1 pins s σ H D I h) λf s1 q=>?_)
 cases f with
 | next=>exact wpAny_execs_nil q
 | ret v=>exact q
 | brk=>exact q
 | cont=>exact q
theorem zE.quiet {pins:List (Addr × Obj)} {σ:St} {H:Hp} {s:Shared} (I:zE X pins σ H s):interactive X.env=false:=by simp [interactive,I.ok.kind]
def Xq (te:TE):TS:=λD σ H=>te σ H λ_ H1=>D.nx σ H1
theorem xi (he:PE X e te) (hs:swapsWith e none pos.line X.env=pure false:=by rfl):PS X (.Expr e pos) (Xq te):=by
 intro pins s σ H D I h
 exact wpAny_Expr_any (zj (he pins s σ H _ I h) λv s1 ⟨x,H1,I1,r1,q1⟩=>⟨σ,H1,I1,q1⟩) I.quiet hs
def UO (te:TE):TS:=λD σ H=>te σ H D.rt
theorem zN2 (he:PE X e te):PS X (.Return (some e) pos) (UO te):=by
 intro pins s σ H D I h
 exact wpAny_Return_some (zj (he pins s σ H _ I h) λv s1 ⟨x,H1,I1,r1,q1⟩=>⟨x,σ,H1,I1,r1,q1⟩)
def kz (c:TT) (t u:TS):TS:=λD σ H=>c σ H λb H1=>if b=true then t D σ H1 else u D σ H1
theorem zQp {c:Expr} {a b:List Stmt} {tc:TT} (hc:PT X c tc) (ha:yk X a t) (hb:yk X b u):PS X (.If c a b pos) (kz tc t u):=by
 intro pins s σ H D I h
 refine wpAny_If (zj (hc pins s σ H _ I h) λd s1 ⟨H1,I1,q1⟩=>?_)
 cases d with
 | true=>exact ha pins s1 σ H1 D I1 q1
 | false=>exact hb pins s1 σ H1 D I1 q1
def zQL:TS:=λ_ _ _=>False
theorem zMn:PS X st zQL:=λ_ _ _ _ _ _ h=>h.elim
end
abbrev TG:=V->St->Hp->(St->Hp->Prop)->Prop
abbrev jS:=List V->St->Hp->(St->Hp->Prop)->Prop
def PG (X:Cx) (target:Expr) (t:TG):Prop:=
 ∀ (pins:List (Addr × Obj)) (s:Shared) (σ:St) (H:Hp) (v:V) (u:Value) (Q:St->Hp->Prop),zE X pins σ H s->zT v u->t v σ H Q->
  wpAny (model X.prog X.w) X.A (assign target X.env u) (λ_ s'=>∃ σ' H',zE X pins σ' H' s'/\Q σ' H') X.xe s
def gq (X:Cx) (ts:List Expr) (t:jS):Prop:=
 ∀ (pins:List (Addr × Obj)) (s:Shared) (σ:St) (H:Hp) (vs:List V) (us:List Value) (Q:St->Hp->Prop),zE X pins σ H s->zK vs us->t vs σ H Q->
  wpAny (model X.prog X.w) X.A (assignInOrder ((assignEach ts X.env).map (·.2)) us) (λ_ s'=>∃ σ' H',zE X pins σ' H' s'/\Q σ' H') X.xe s
abbrev qd:=V->V->V->Hp->(Hp->Prop)->Prop
def qe (X:Cx) (t:qd):Prop:=
 ∀ (pins:List (Addr × Obj)) (s:Shared) (σ:St) (H:Hp) (o i v:V) (ov iv u:Value) (Q:Hp->Prop),zE X pins σ H s->zT o ov->zT i iv->zT v u->t o i v H Q->
  wpAny (model X.prog X.w) X.A (setItem ov iv u) (λ_ s'=>∃ H',zE X pins σ H' s'/\Q H') X.xe s
section
variable {X:Cx} {pos:Pos}
def Xr (i:Nat):TG:=λv σ H Q=>Q (σ.set i (some v)) H
theorem zKs {i:Nat} {x:Str} (hN:X.N.Nodup) (hi:X.N[i]? = some x) (hx:ve X.env.scope x) (hf:X.fn x=true\/X.env.scope.names.lookup x=some .local:=by first | exact .inl rfl | exact .inr rfl | assumption):PG X (.Name x pos) (Xr i):=by
 intro pins s σ H v u Q I r h
 exact wpAny_assign_Name (zIm I hN hi hx r (λs' I'=>⟨_,H,I',h⟩) hf)
def UP:jS:=λvs σ H Q=>vs=[]/\Q σ H
def k7 (t:TG) (u:jS):jS:=λvs σ H Q=>∃ v r,vs=v :: r/\t v σ H λσ' H'=>u r σ' H' Q
theorem zOy:gq X [] UP:=by
 intro pins s σ H vs us Q I r h
 obtain ⟨e,h⟩:=h
 subst e
 cases r
 exact assignInOrder_nil ⟨σ,H,I,h⟩
theorem zMq {e:Expr} {es:List Expr} {t:TG} {u:jS} (h1:PG X e t) (h2:gq X es u)
  (hs:(assignEach (e :: es) X.env).map (·.2)=assign e X.env :: (assignEach es X.env).map (·.2):=by rfl):gq X (e :: es) (k7 t u):=by
 intro pins s σ H vs us Q I r h
 obtain ⟨v,vr,e1,h⟩:=h
 subst e1
 cases r with
 | cons r rr=>
  rw [hs]
  refine assignInOrder_cons (zj (h1 pins s σ H _ _ _ I r h) λ_ s1 ⟨σ1,H1,I1,q1⟩=>?_)
  exact h2 pins s1 σ1 H1 _ _ Q I1 rr q1
def UQ (K:b') (n:Nat) (t:jS):TG:=λv σ H Q=>∃ a xs,v=.ref a/\ym K H a xs/\xs.length=n/\t xs σ H Q
theorem zQu {es:List Expr} {k:Nat} {t:jS} {n:Nat} (hc:X.calm=true) (h:gq X es t)
  (hn:(assignEach es X.env).length=n:=by rfl) (hst:(assignEach es X.env).findIdx? (·.1)=none:=by rfl):PG X (.Tuple es k pos) (UQ X.K n t):=by
 intro pins s σ H v u Q I r hw
 obtain ⟨a,xs,e1,hq,hl,hw⟩:=hw
 subst e1
 cases r
 obtain ⟨its,rv,ht,hz⟩:=I.tuple hq
 refine assign_Tuple_tuple (I.ok.hd hc) ht (by simp [hn,<- hl,rv.length]) hst λh' hx=>?_
 have I1:zE X pins σ H { s with heap:=h' }:=I.kept (t':=s.toks) λb o e=>hx b o (dA (cS e)) e
 exact h pins _ σ H xs _ Q I1 (by simpa using rv) hw
def k8 (to ti:TE) (t:qd):TG:=λv σ H Q=>to σ H λo H1=>ti σ H1 λi H2=>t o i v H2 λH3=>Q σ H3
theorem UR {o i:Expr} {to ti:TE} {t:qd} (ho:PE X o to) (hi:PE X i ti) (hs:qe X t)
  (ha:∀ v,assign (.Subscript o i pos) X.env v=(do
   let ov <- holding [v] (eval o X.env)
   let iv <- holding [v,ov] (eval i X.env)
   standAt pos
   holding [v,ov,iv] (setItem ov iv v)
   release [v,ov,iv] []):=by intro _; rfl):PG X (.Subscript o i pos) (k8 to ti t):=by
 intro pins s σ H v u Q I r h
 rw [ha]
 refine wpAny_bind (wpAny_holding (zj (ho pins s σ H _ I h) λov s1 ⟨x,H1,I1,r1,q1⟩=>?_))
 refine wpAny_bind (wpAny_holding (zj (hi pins s1 σ H1 _ I1 q1) λiv s2 ⟨y,H2,I2,r2,q2⟩=>?_))
 refine wpAny_bind (wpAny_standAt (wpAny_bind (wpAny_holding (zj (hs pins s2 σ H2 x y v ov iv u _ I2 r1 r2 r q2) λ_ s3 ⟨H3,I3,q3⟩=>?_))))
 exact wpAny_release ⟨σ,H3,I3,q3⟩
def uZ (te:TE) (g:TG):TS:=λD σ H=>te σ H λx H1=>g x σ H1 D.nx
theorem Xs {tg e:Expr} {te:TE} {g:TG} (he:PE X e te) (hg:PG X tg g) (hs:swapsWithSole [tg] e pos.line X.env=pure false:=by rfl) (hw:swappedStores [tg] e X.env=pure none:=by rfl)
  (h1:(assignEach [tg] X.env).map (·.2)=[assign tg X.env]:=by rfl):PS X (.Assign [tg] e pos) (uZ te g):=by
 intro pins s σ H D I h
 refine wpAny_Assign_stores (zj (he pins s σ H _ I h) λv s1 ⟨x,H1,I1,r1,q1⟩=>?_) hs hw
 rw [h1]
 exact zj (hg pins s1 σ H1 x v _ I1 r1 q1) λ_ s2 q=>q
theorem k9 {i:Nat} {x:Str} {e:Expr} {te:TE} {pos':Pos} (hN:X.N.Nodup) (hi:X.N[i]? = some x) (hx:ve X.env.scope x) (he:PE X e te) (hs:swapsWith e (some (.Name x pos')) pos.line X.env=pure false:=by rfl) (hf:X.fn x=true\/X.env.scope.names.lookup x=some .local:=by first | exact .inl rfl | exact .inr rfl | assumption) :
  PS X (.Assign [.Name x pos'] e pos) (uZ te (Xr i)):=by
 intro pins s σ H D I h
 refine wpAny_Assign_Name (zj (he pins s σ H _ I h) λv s1 ⟨y,H1,I1,r1,q1⟩=>?_) hs
 exact zIm I1 hN hi hx r1 (λs2 I2=>⟨_,H1,I2,q1⟩) hf
end
section
variable {X:Cx} {pos:Pos}
def zQI (c:TT) (tb:TS):TS:=λD σ H=>∃ W:Nat->St->Hp->Prop,(∃ m,W m σ H)/\∀ m σ H,W m σ H->
 c σ H λb H1=>if b=true then ∃ N:St->Hp->Prop,(∀ σ' H',N σ' H'->∃ m',m' < m/\W m' σ' H')/\tb { D with nx:=N,ct:=N,bk:=D.nx } σ H1 else D.nx σ H1
theorem zMl {c:Expr} {body:List Stmt} {tc:TT} {tb:TS} (hp:PassesOwn (model X.prog X.w) X.A X.env X.xe) (hc:PT X c tc) (hb:yk X body tb):PS X (.While c body [] pos) (zQI tc tb):=by
 intro pins s σ H D I h
 obtain ⟨W,⟨m0,w0⟩,yz⟩:=h
 refine wpAny_While (codeAny_whileLoop (λn s'=>∃ σ' H',zE X pins σ' H' s'/\W n σ' H') ?_ m0 ⟨σ,H,I,w0⟩)
 rintro n s1 ⟨σ1,H1,I1,w1⟩
 refine wpAny_passesOwn hp (zj (hc pins s1 σ1 H1 _ I1 (yz n σ1 H1 w1)) λb s2 ⟨H2,I2,q2⟩=>?_)
 cases b with
 | true=>
  obtain ⟨N,hN,q2⟩:=q2
  rw [if_pos rfl]
  refine wpAny_passesOwn hp (zj (hb pins s2 σ1 H2 _ I2 q2) λf s3 q3=>?_)
  cases f with
  | next=>
   obtain ⟨σ3,H3,I3,n3⟩:=q3
   obtain ⟨m',hm,w3⟩:=hN σ3 H3 n3
   exact ⟨m',hm,σ3,H3,I3,w3⟩
  | cont=>
   obtain ⟨σ3,H3,I3,n3⟩:=q3
   obtain ⟨m',hm,w3⟩:=hN σ3 H3 n3
   exact ⟨m',hm,σ3,H3,I3,w3⟩
  | brk=>exact q3
  | ret v=>exact q3
 | false=>
  rw [if_neg dh]
  exact wpAny_execs_nil ⟨σ1,H2,I2,q2⟩
end
structure It where
 go:Nat->Hp->Prop
 yld:Nat->Hp->V->Hp->Prop
 stop:Nat->Hp->Prop
def yQ (X:Cx) (pins:List (Addr × Obj)) (H:Hp) (b:Addr):Prop:=
 H b=none/\b≠X.env.locals/\b∉X.fs/\(b∈X.ex\/X.s₀.heap.objs.size<=b)/\(∀ x c,X.env.cells.lookup x=some c->c≠b)/\∀ p∈X.pn++pins,p.1≠b
theorem zE.fpOk {X:Cx} {pins:List (Addr × Obj)} {σ:St} {H H':Hp} {s:Shared} {b:Addr} (I:zE X pins σ H s) (hb:s.heap.objs.size<=b) (hn:H' b=none):yQ X pins H' b:=by
 refine ⟨hn,fJ (cU I.lt hb),I.nofs hb,.inr (dM I.sz hb),λx c e z=>?_,λp hp z=>?_⟩
 ·obtain ⟨v,q⟩:=I.cell x c e
  exact absurd (cU q.lt (by rw [z]; exact hb)) (dy _)
 ·exact absurd (cU (cS (I.pin p hp).1) (by rw [z]; exact hb)) (dy _)
structure vL (P:Program) (w:World) (K:b') (tg:Expr) (J:It) (fp:List Addr) (it:Addr) (tn:Nat->Heap->Prop):Prop where
 mem:it∈fp
 obj:∀ i h,tn i h->∀ b∈fp,∃ o,h.get? b=some o/\∀ v,o.data≠.cell v
 keep:∀ i h h',tn i h->(∀ b∈fp,∀ o,h.get? b=some o->h'.get? b=some o)->tn i h'
 item:∀ (X:Cx),X.prog=P->X.w=w->X.K=K->X.calm=true->∀ (i:Nat) (pins:List (Addr × Obj)) (s:Shared) (σ:St) (H:Hp) (E:Value->Shared->Prop),zE X pins σ H s->(∀ b∈fp,yQ X pins H b)->tn i s.heap->J.go i H->
  wpAny (model P w) X.A (pyNext (.ref it)) (λr s1=>∃ u,r=some u∧
   wpAny (model P w) X.A (letOwnedTupleGo tg (.ref it) u) (λ_ s2=>∃ x H',zE X pins σ H' s2/\zT x u/\J.yld i H x H'/\tn (i + 1) s2.heap/\∀ b∈fp,H' b=none) E s1) E s
 done:∀ (X:Cx),X.prog=P->X.w=w->X.K=K->X.calm=true->∀ (i:Nat) (pins:List (Addr × Obj)) (s:Shared) (σ:St) (H:Hp) (E:Value->Shared->Prop),zE X pins σ H s->(∀ b∈fp,yQ X pins H b)->tn i s.heap->J.stop i H->
  wpAny (model P w) X.A (pyNext (.ref it)) (λr s1=>r=none/\zE X pins σ H s1) E s
 self:∀ (A:Around) (i:Nat) (s:Shared) (Q:Value->Shared->Prop) (E:Value->Shared->Prop),tn i s.heap->Q (.ref it) s->wpAny (model P w) A (pyIter (.ref it)) Q E s
abbrev TI:=St->Hp->(It->Hp->Prop)->Prop
def PIE (X:Cx) (pins:List (Addr × Obj)) (σ:St) (tg:Expr) (R:It->Hp->Prop) (itv:Value) (s2:Shared):Prop:=
 ∃ (it:Addr) (fp:List Addr) (tn:Nat->Heap->Prop) (J:It) (H':Hp),itv=.ref it/\zE X pins σ H' s2/\vL X.prog X.w X.K tg J fp it tn/\tn 0 s2.heap/\(∀ b∈fp,yQ X pins H' b)/\R J H'
def PI (X:Cx) (tg iter:Expr) (wi:TI):Prop:=
 ∀ (pins:List (Addr × Obj)) (s:Shared) (σ:St) (H:Hp) (R:It->Hp->Prop),zE X pins σ H s->wi σ H R->
  wpAny (model X.prog X.w) X.A (eval iter X.env) (λv s1=>wpAny (model X.prog X.w) X.A (pyIter v) (PIE X pins σ tg R) X.xe s1) X.xe s
theorem US {M:Model} {A:Around} {E:Value->Shared->Prop} {s:Shared} {tg:Expr} {it:Addr} {u:Value} {o:Obj} {n:String} {vs:Array Value} {Q:Unit->Shared->Prop} (ho:s.heap.get? it=some o) (hc:o.cls=.type n) (hd:o.data=.fields vs)
  (hn:["enumerate","zip","dict_itemiterator","dict_reverseitemiterator","odict_iterator","itertools.zip_longest","itertools.pairwise"].contains n=false) (hQ:Q () s):wpAny M A (letOwnedTupleGo tg (.ref it) u) Q E s:=by
 unfold letOwnedTupleGo
 cases tg <;> first
  | exact wpAny_pure hQ
  | (cases u <;> first
    | exact wpAny_pure hQ
    | (refine wpAny_bind (wpAny_load ho ?_)
       rw [hc,hd]
       show wpAny M A (if (["enumerate","zip","dict_itemiterator","dict_reverseitemiterator","odict_iterator","itertools.zip_longest","itertools.pairwise"].contains n && vs[0]? == some (rawInt _))=true then _ else _) Q E s
       rw [if_neg (by intro h; rw [hn,Bool.false_and] at h; cases h)]
       exact wpAny_pure hQ))
def UT (K:b') (a:Addr):It:=
 ⟨λi H=>∃ xs x,zl K H a xs/\xs[i]? = some x,λi H x H'=>H'=H/\∀ xs,zl K H a xs->xs[i]? = some x,λi H=>∃ xs,zl K H a xs/\xs.length<=i⟩
def UU (K:b') (a:Addr):It:=
 ⟨λi H=>∃ xs x,ym K H a xs/\xs[i]? = some x,λi H x H'=>H'=H/\∀ xs,ym K H a xs->xs[i]? = some x,λi H=>∃ xs,ym K H a xs/\xs.length<=i⟩
def ZA (lo:Int) (n:Nat):It:=⟨λi _=>i < n,λi H x H'=>H'=H/\x=.int (lo + i),λi _=>n<=i⟩
theorem zKM {P:Program} {w:World} {K:b'} {tg:Expr} (a it:Addr):vL P w K tg (UT K a) [it] it (λi h=>h.IsListIter it a i) where
 mem:=by simp
 obj:=λi h st b hb=>by
  have e:b=it:=by simpa using hb
  subst e
  obtain ⟨o,e,c,d⟩:=st
  exact ⟨o,e,λv z=>by rw [d] at z; cases z⟩
 keep:=λi h h' st k=>st.at λo e=>k it (by simp) o e
 item:=by
  intro X hP hw hK hc i pins s σ H E I hf st hg
  subst hP hw hK
  obtain ⟨xs,x,hq,hx⟩:=hg
  obtain ⟨its,rv,p,hz⟩:=I.list hq
  obtain ⟨u,hu,ru⟩:=rv.get hx
  obtain ⟨f0,f1,f2,f3,f4,f5⟩:=hf it (by simp)
  refine wpAny_pyNext_list_item st p.isList (x:=u) (by simpa using hu) λh' st' sb=>?_
  have I1:zE X pins σ H { s with heap:=h' }:=I.turned (t':=s.toks) (λb o hb e=>(sb.2 b hb).trans e) f0 f1 f3 f4 f5
  obtain ⟨o,e,c,d⟩:=id st'
  exact ⟨u,rfl,US (s:={ s with heap:=h' }) e c d (by decide) ⟨x,H,I1,ru,⟨rfl,λys hy=>by rw [I.list_inj hy hq]; exact hx⟩,st',λb hb=>(hf b hb).1⟩⟩
 done:=by
  intro X hP hw hK hc i pins s σ H E I hf st hg
  subst hP hw hK
  obtain ⟨xs,hq,hx⟩:=hg
  obtain ⟨its,rv,p,hz⟩:=I.list hq
  obtain ⟨f0,f1,f2,f3,f4,f5⟩:=hf it (by simp)
  have hl:=rv.length
  exact wpAny_pyNext_list_end (I.ok.hd hc) st p.isList (by simp; omega) λh' eb=>⟨rfl,I.turned (t':=s.toks) (λb o hb e=>eb b o hb e) f0 f1 f3 f4 f5⟩
 self:=λ_ _ _ _ _ st h=>wpAny_pyIter_listiter st h
theorem zJd {P:Program} {w:World} {K:b'} {tg:Expr} (a it:Addr):vL P w K tg (UU K a) [it] it (λi h=>h.IsTupleIter it a i) where
 mem:=by simp
 obj:=λi h st b hb=>by
  have e:b=it:=by simpa using hb
  subst e
  obtain ⟨o,e,c,d⟩:=st
  exact ⟨o,e,λv z=>by rw [d] at z; cases z⟩
 keep:=λi h h' st k=>st.at λo e=>k it (by simp) o e
 item:=by
  intro X hP hw hK hc i pins s σ H E I hf st hg
  subst hP hw hK
  obtain ⟨xs,x,hq,hx⟩:=hg
  obtain ⟨its,rv,p,hz⟩:=I.tuple hq
  obtain ⟨u,hu,ru⟩:=rv.get hx
  obtain ⟨f0,f1,f2,f3,f4,f5⟩:=hf it (by simp)
  refine wpAny_pyNext_tuple_item st (show s.heap.IsTuple a its.toArray from p) (x:=u) (by simpa using hu) λh' st' sb=>?_
  have I1:zE X pins σ H { s with heap:=h' }:=I.turned (t':=s.toks) (λb o hb e=>(sb.2 b hb).trans e) f0 f1 f3 f4 f5
  obtain ⟨o,e,c,d⟩:=id st'
  exact ⟨u,rfl,US (s:={ s with heap:=h' }) e c d (by decide) ⟨x,H,I1,ru,⟨rfl,λys hy=>by rw [I.tuple_inj hy hq]; exact hx⟩,st',λb hb=>(hf b hb).1⟩⟩
 done:=by
  intro X hP hw hK hc i pins s σ H E I hf st hg
  subst hP hw hK
  obtain ⟨xs,hq,hx⟩:=hg
  obtain ⟨its,rv,p,hz⟩:=I.tuple hq
  obtain ⟨f0,f1,f2,f3,f4,f5⟩:=hf it (by simp)
  have hl:=rv.length
  exact wpAny_pyNext_tuple_end (I.ok.hd hc) st (show s.heap.IsTuple a its.toArray from p) (by simp; omega) λh' eb=>⟨rfl,I.turned (t':=s.toks) (λb o hb e=>eb b o hb e) f0 f1 f3 f4 f5⟩
 self:=λ_ _ _ _ _ st h=>wpAny_pyIter_tupleiter st h
theorem zJe {P:Program} {w:World} {K:b'} {tg:Expr} (it:Addr) (lo:Int) (n:Nat):vL P w K tg (ZA lo n) [it] it (λi h=>IsRangeIter h it (lo + (i:Nat) * 1) ((n:Int) - (i:Nat)) 1) where
 mem:=by simp
 obj:=λi h st b hb=>by
  have e:b=it:=by simpa using hb
  subst e
  exact ⟨_,st,λv z=>by
   have z':Data.fields _=Data.cell v:=z
   cases z'⟩
 keep:=λi h h' st k=>k it (by simp) _ st
 item:=by
  intro X hP hw hK hc i pins s σ H E I hf st hg
  subst hP hw hK
  obtain ⟨f0,f1,f2,f3,f4,f5⟩:=hf it (by simp)
  have W:=Walks.range (prog:=X.prog) (w:=X.w) (I.ok.hd hc) it lo 1 n
  refine W.item i s _ _ hg st λv h' tk hv st' kk=>?_
  obtain ⟨t,rfl⟩:=hv
  have I1:zE X pins σ H { s with heap:=h',toks:=tk }:=I.turned (λb o hb e=>kk b o (by simpa using hb) e) f0 f1 f3 f4 f5
  refine ⟨_,rfl,US (s:={ s with heap:=h',toks:=tk }) (n:="range_iterator") st' rfl rfl (by decide) ⟨.int (lo + i),H,I1,⟨t,?_⟩,⟨rfl,rfl⟩,st',λb hb=>(hf b hb).1⟩⟩
  rw [Int.mul_one]
 done:=by
  intro X hP hw hK hc i pins s σ H E I hf st hg
  subst hP hw hK
  obtain ⟨f0,f1,f2,f3,f4,f5⟩:=hf it (by simp)
  exact wpAny_pyNext_range_end (I.ok.hd hc) st (by have:n<=i:=hg; omega) λh' eb=>⟨rfl,I.turned (t':=s.toks) (λb o hb e=>eb b o hb e) f0 f1 f3 f4 f5⟩
 self:=λ_ _ _ _ _ st h=>wpAny_pyIter_rangeiter st h
end L2
namespace L2
open PySem PySem.Spec PyProof.Rows
section
variable {X:Cx} {tg:Expr}
theorem zIs {pins:List (Addr × Obj)} {σ:St} {H:Hp} {s:Shared} {R:It->Hp->Prop} {E:Value->Shared->Prop} {lo hi:Int} {t u v:Tok} {tk:Nat} (I:zE X pins σ H s) (h1 : -(2 ^ 62)<=lo) (h2:lo < 2 ^ 62) (h3 : -(2 ^ 62)<=hi) (h4:hi < 2 ^ 62)
  (q:R (ZA lo (hi - lo).toNat) H):wpAny (model X.prog X.w) X.A (pyIter (.ref s.heap.objs.size)) (PIE X pins σ tg R) E { s with heap:=s.heap.push { cls:=.type "range",data:=.fields #[.int lo t,.int hi u,.int 1 v] },toks:=tk }:=by
 refine wpAny_pyIter_range (IsRange.new ..) (small_one h1 h2 h3 h4) ?_
 have I1:zE X pins σ H { s with heap:=s.heap.push { cls:=.type "range",data:=.fields #[.int lo t,.int hi u,.int 1 v] },toks:=tk }:=I.kept λb o e=>cE _ e
 refine ⟨(s.heap.push { cls:=.type "range",data:=.fields #[.int lo t,.int hi u,.int 1 v] }).objs.size,[(s.heap.push { cls:=.type "range",data:=.fields #[.int lo t,.int hi u,.int 1 v] }).objs.size],_,_,H,rfl,
  I1.kept (t':=tk) λb o e=>cE _ e,zJe _ lo (hi - lo).toNat,?_,λb hb=>?_,q⟩
 ·have e1:lo + ((0:Nat):Int) * 1=lo:=by simp
  have e2:(((hi - lo).toNat:Nat):Int) - ((0:Nat):Int)=Builtin.Range.rangeSize lo hi 1:=by rw [rangeSize_one]; split <;> omega
  show IsRangeIter _ _ (lo + ((0:Nat):Int) * 1) ((((hi - lo).toNat:Nat):Int) - ((0:Nat):Int)) 1
  rw [e1,e2]
  exact cW _ rfl
 ·have e:b=(s.heap.push { cls:=.type "range",data:=.fields #[.int lo t,.int hi u,.int 1 v] }).objs.size:=by simpa using hb
  subst e
  exact I1.fpOk (cF _) (I1.hok.fresh (cF _))
def ZB (ta:TA):TI:=λσ H R=>ta σ H λvs H1=>∃ j:Int,vs=[.int j]/\-(2 ^ 62)<=j/\j < 2 ^ 62/\R (ZA 0 j.toNat) H1
def ZC (ta:TA):TI:=λσ H R=>ta σ H λvs H1=>∃ i j:Int,vs=[.int i,.int j]/\(-(2 ^ 62)<=i/\i < 2 ^ 62/\-(2 ^ 62)<=j/\j < 2 ^ 62)/\R (ZA i (j - i).toNat) H1
theorem zKq {a:Expr} {ta:TA} {p pos:Pos} (hg:Gl X "range") (hm:X.mg "range" = none) (ha:PA X [a] ta) (hs:starEach [a] X.env=[(false,eval a X.env)]:=by rfl):PI X tg (.Call (.Name "range" p) [a] [] pos) (ZB ta):=by
 intro pins s σ H R I h
 refine Call_ (j5 I hg hm boot_range (PyProof.Rows.callWith_type1 (zj (ha pos pins s σ H _ I h) λus s1 ⟨vs,H1,I1,r1,q1⟩=>?_) hs rfl))
 obtain ⟨j,e,q1,q2,q⟩:=q1
 subst e
 cases r1 with
 | cons r rr=>
  cases rr
  obtain ⟨t,rfl⟩:=r
  exact call_range_1 (zIs I1 (by omega) (by omega) q1 q2 (by simpa using q))
theorem zKp {a b:Expr} {ta:TA} {p pos:Pos} (hg:Gl X "range") (hm:X.mg "range" = none) (ha:PA X [a,b] ta) (hs:starEach [a,b] X.env=[(false,eval a X.env),(false,eval b X.env)]:=by rfl) (hs2:starEach [b] X.env=[(false,eval b X.env)]:=by rfl) :
  PI X tg (.Call (.Name "range" p) [a,b] [] pos) (ZC ta):=by
 intro pins s σ H R I h
 refine Call_ (j5 I hg hm boot_range (PyProof.Rows.callWith_type1 (zj (ha pos pins s σ H _ I h) λus s1 ⟨vs,H1,I1,r1,q1⟩=>?_) (by rw [hs,hs2]) (by rw [hs2]; rfl)))
 obtain ⟨i,j,e,⟨q1,q2,q3,q4⟩,q⟩:=q1
 subst e
 cases r1 with
 | cons r rr=>
  cases rr with
  | cons r' rr=>
   cases rr
   obtain ⟨t,rfl⟩:=r
   obtain ⟨t',rfl⟩:=r'
   exact call_range_2 (zIs I1 q1 q2 q3 q4 q)
def UV (wi:TI) (g:TG) (tb:TS):TS:=λD σ H=>wi σ H λJ H1=>∃ W:Nat->Nat->St->Hp->Prop,(∃ m,W 0 m σ H1)/\∀ i m σ H,W i m σ H->
 (J.stop i H/\D.nx σ H)\/(J.go i H/\∃ N:St->Hp->Prop,(∀ σ' H',N σ' H'->∃ m',m' < m/\W (i + 1) m' σ' H')/\∀ x H',J.yld i H x H'->g x σ H' λσ2 H2=>tb { D with nx:=N,ct:=N,bk:=D.nx } σ2 H2)
def ZD (fp:List Addr) (h:Heap):List (Addr × Obj):=fp.filterMap λb=>(h.get? b).map λo=>(b,o)
theorem gr {fp:List Addr} {h:Heap} {b:Addr} {o:Obj} (hb:b∈fp) (e:h.get? b=some o):(b,o)∈ZD fp h:=iA.mpr ⟨b,hb,by rw [e]; rfl⟩
theorem zLH {fp:List Addr} {h:Heap} {p:Addr × Obj} (hp:p∈ZD fp h):p.1∈fp/\h.get? p.1=some p.2:=by
 obtain ⟨b,hb,e⟩:=iA.mp hp
 cases q:h.get? b with
 | none=>rw [q] at e; cases e
 | some o=>
  rw [q] at e
  have e':(b,o)=p:=Option.some.inj e
  subst e'
  exact ⟨hb,q⟩
theorem zE.pinned {pins:List (Addr × Obj)} {σ:St} {H:Hp} {s:Shared} {fp:List Addr} (I:zE X pins σ H s) (hf:∀ b∈fp,yQ X pins H b) (ho:∀ b∈fp,∃ o,s.heap.get? b=some o/\∀ v,o.data≠.cell v):zE X (pins++ZD fp s.heap) σ H s:=
 I.pins_of λp hp=>(dr.mp hp).elim (λz=>I.pin p (cQ _ z)) λz=>by
  obtain ⟨hb,e⟩:=zLH z
  obtain ⟨f0,f1,f2,_⟩:=hf p.1 hb
  obtain ⟨o,e',d⟩:=ho p.1 hb
  rw [e] at e'; cases e'
  exact ⟨e,f0,f1,f2,d⟩
theorem zE.unpinned {pins pl:List (Addr × Obj)} {σ:St} {H:Hp} {s:Shared} (I:zE X (pins++pl) σ H s):zE X pins σ H s:=I.pins_of λp hp=>I.pin p (cQ _ (ig _ hp))
theorem zQq {iter:Expr} {body:List Stmt} {wi:TI} {g:TG} {tb:TS} {pos:Pos} (hp:PassesOwn (model X.prog X.w) X.A X.env X.xe) (hc:X.calm=true) (hi:PI X tg iter wi) (hg:PG X tg g) (hb:yk X body tb)
  (hs:∀ x,foldedSetIterable iter X.env x=pure x:=by intro _; rfl):PS X (.For tg iter body [] pos) (UV wi g tb):=by
 intro pins s σ H D I h
 refine wpAny_For (zj (hi pins s σ H _ I h) λv s1 h1=>zj h1 λitv s2 h2=>?_) hs
 obtain ⟨it,fp,tn,J,H2,e,I2,T,st2,f2,W,⟨m0,w0⟩,yz⟩:=h2
 subst e
 have stat:∀ {H':Hp},(∀ b∈fp,H' b=none)->∀ b∈fp,yQ X pins H' b:=λhn b hb=>⟨hn b hb,(f2 b hb).2⟩
 refine codeAny_forLoop_any (λn s'=>∃ i σ' H',zE X pins σ' H' s'/\tn i s'.heap/\(∀ b∈fp,H' b=none)/\W i n σ' H') ?_ m0 ⟨0,σ,H2,I2,st2,λb hb=>(f2 b hb).1,w0⟩
 rintro n s3 ⟨i,σ3,H3,I3,st3,fr3,w3⟩
 rcases yz i n σ3 H3 w3 with ⟨stop,qn⟩ | ⟨go,N,hN,step⟩
 ·refine wpAny_passesOwn hp (zj (T.done X rfl rfl rfl hc i pins s3 σ3 H3 X.xe I3 (stat fr3) st3 stop) λr s4 ⟨hr,I4⟩=>?_)
  subst hr
  exact wpAny_execs_nil ⟨σ3,H3,I4,qn⟩
 ·refine wpAny_passesOwn hp (zj (T.item X rfl rfl rfl hc i pins s3 σ3 H3 X.xe I3 (stat fr3) st3 go) λr s4 ⟨u,hr,h4⟩=>?_)
  subst hr
  refine wpAny_passesOwn hp (zj h4 λ_ s5 ⟨x,H5,I5,r5,y5,st5,fr5⟩=>?_)
  have I5':=I5.pinned (stat fr5) (T.obj _ _ st5)
  refine wpAny_passesOwn hp (zj (hg _ s5 σ3 H5 x u _ I5' r5 (step x H5 y5)) λ_ s6 ⟨σ6,H6,I6,q6⟩=>?_)
  refine wpAny_passesOwn hp (zj (hb _ s6 σ6 H6 _ I6 q6) λf s7 q7=>?_)
  have again:∀ {σ7:St} {H7:Hp},zE X (pins++ZD fp s5.heap) σ7 H7 s7->N σ7 H7->∃ m,m < n/\∃ i σ' H',zE X pins σ' H' s7/\tn i s7.heap/\(∀ b∈fp,H' b=none)/\W i m σ' H':=λ{σ7 H7} I7 n7=>by
   obtain ⟨m',hm,w7⟩:=hN σ7 H7 n7
   refine ⟨m',hm,i + 1,σ7,H7,I7.unpinned,T.keep _ _ _ st5 λb hb o e=>(I7.pin (b,o) (cQ _ (cQ _ (gr hb e)))).1,λb hb=>?_,w7⟩
   obtain ⟨o,e,d⟩:=T.obj _ _ st5 b hb
   exact (I7.pin (b,o) (cQ _ (cQ _ (gr hb e)))).2.1
  cases f with
  | next=>obtain ⟨σ7,H7,I7,n7⟩:=q7; exact again I7 n7
  | cont=>obtain ⟨σ7,H7,I7,n7⟩:=q7; exact again I7 n7
  | brk=>obtain ⟨σ7,H7,I7,q7⟩:=q7; exact ⟨σ7,H7,I7.unpinned,q7⟩
  | ret v=>obtain ⟨x7,σ7,H7,I7,r7,q7⟩:=q7; exact ⟨x7,σ7,H7,I7.unpinned,r7,q7⟩
end
end L2
namespace L2
open PySem PySem.Spec PyProof.Rows
abbrev R2:=V->V->Hp->VK->Prop
def y8 (X:Cx) (f:Value->Value->Sem Value) (r:R2):Prop:=
 ∀ (pins:List (Addr × Obj)) (s:Shared) (σ:St) (H:Hp) (x y:V) (v u:Value) (Q:VK),zE X pins σ H s->zT x v->zT y u->r x y H Q->
  wpAny (model X.prog X.w) X.A (f v u) (EP X pins σ Q) X.xe s
def UW (X:Cx) (f:Value->Sem Value) (r:V->Hp->VK->Prop):Prop:=
 ∀ (pins:List (Addr × Obj)) (s:Shared) (σ:St) (H:Hp) (x:V) (v:Value) (Q:VK),zE X pins σ H s->zT x v->r x H Q->
  wpAny (model X.prog X.w) X.A (f v) (EP X pins σ Q) X.xe s
def wu (X:Cx) (f:Value) (r:List V->Hp->VK->Prop):Prop:=
 ∀ (pins:List (Addr × Obj)) (s:Shared) (σ:St) (H:Hp) (xs:List V) (us:List Value) (Q:VK),zE X pins σ H s->zK xs us->r xs H Q->
  wpAny (model X.prog X.w) X.A (call f us) (EP X pins σ Q) X.xe s
def qf (r:R2) (ta tb:TE):TE:=λσ H Q=>ta σ H λx H1=>tb σ H1 λy H2=>r x y H2 Q
def tUn (r:V->Hp->VK->Prop) (ta:TE):TE:=λσ H Q=>ta σ H λx H1=>r x H1 Q
def rI (C:Int->Int->Prop) (g:Int->Int->V):R2:=λx y H Q=>∃ i j,x=.int i/\y=.int j/\C i j/\Q (g i j) H
def uK (g:Int->Int->V):R2:=λx y H Q=>∃ i j,x=.int i/\y=.int j/\Q (g i j) H
def rU (g:Int->V):V->Hp->VK->Prop:=λx H Q=>∃ i,x=.int i/\Q (g i) H
section
variable {X:Cx} {a b c:Expr} {ta tb tc:TE} {pos:Pos}
theorem qg (ha:PE X a ta) (hb:PE X b tb) {pins:List (Addr × Obj)} {s:Shared} {σ:St} {H:Hp} {R:V->V->Hp->Prop} (I:zE X pins σ H s)
  (h:ta σ H λx H1=>tb σ H1 λy H2=>R x y H2) {Q:Value->Shared->Prop} {f:Value->Value->Sem Value}
  (hf:∀ v u s2 x y H2,zE X pins σ H2 s2->zT x v->zT y u->R x y H2->wpAny (model X.prog X.w) X.A (f v u) Q X.xe s2) :
  wpAny (model X.prog X.w) X.A (eval a X.env) (λv s₁=>wpAny (model X.prog X.w) X.A (eval b X.env) (λu s₂=>wpAny (model X.prog X.w) X.A (f v u) Q X.xe s₂) X.xe s₁) X.xe s:=by
 refine zj (ha pins s σ H _ I h) λv s1 ⟨x,H1,I1,r1,q1⟩=>?_
 refine zj (hb pins s1 σ H1 _ I1 q1) λu s2 ⟨y,H2,I2,r2,q2⟩=>?_
 exact hf v u s2 x y H2 I2 r1 r2 q2
theorem zQy {op:Operator} {r:R2} (ho:y8 X (binaryOp op) r) (ha:PE X a ta) (hb:PE X b tb):PE X (.BinOp a op b pos) (qf r ta tb):=by
 intro pins s σ H Q I h
 exact wpAny_BinOp (qg ha hb I h λv u s2 x y H2 I2 rx ry q=>ho pins s2 σ H2 x y v u Q I2 rx ry q)
theorem ZE {op:UnaryOp} {r:V->Hp->VK->Prop} (ho:UW X (unaryOp op) r) (ha:PE X a ta):PE X (.UnaryOp op a pos) (tUn r ta):=by
 intro pins s σ H Q I h
 exact UnaryOp_ (zj (ha pins s σ H _ I h) λv s1 ⟨x,H1,I1,r1,q1⟩=>ho pins s1 σ H1 x v Q I1 r1 q1)
theorem Xu {f:Value->Value->Sem Value} {C:Int->Int->Prop} {g:Int->Int->Int}
  (rule:∀ (i j:Int) (t u:Tok) (s:Shared) (Q:Value->Shared->Prop) (E:Value->Shared->Prop),C i j->Q (.int (g i j) s.toks) { s with toks:=s.toks + 1 }->wpAny (model X.prog X.w) X.A (f (.int i t) (.int j u)) Q E s) :
  y8 X f (rI C λi j=>.int (g i j)):=by
 intro pins s σ H x y v u Q I rx ry h
 obtain ⟨i,j,rfl,rfl,hc,q⟩:=h
 obtain ⟨t,rfl⟩:=rx
 obtain ⟨t',rfl⟩:=ry
 exact rule i j t t' s _ _ hc ⟨.int (g i j),H,I.tok _,⟨_,rfl⟩,q⟩
theorem ZF {f:Value->Value->Sem Value} {g:Int->Int->Int}
  (rule:∀ (i j:Int) (t u:Tok) (s:Shared) (Q:Value->Shared->Prop) (E:Value->Shared->Prop),Q (.int (g i j) s.toks) { s with toks:=s.toks + 1 }->wpAny (model X.prog X.w) X.A (f (.int i t) (.int j u)) Q E s) :
  y8 X f (uK λi j=>.int (g i j)):=by
 intro pins s σ H x y v u Q I rx ry h
 obtain ⟨i,j,rfl,rfl,q⟩:=h
 obtain ⟨t,rfl⟩:=rx
 obtain ⟨t',rfl⟩:=ry
 exact rule i j t t' s _ _ ⟨.int (g i j),H,I.tok _,⟨_,rfl⟩,q⟩
theorem jT {f:Value->Value->Sem Value} {g:Int->Int->Bool}
  (rule:∀ (i j:Int) (t u:Tok) (s:Shared) (Q:Value->Shared->Prop) (E:Value->Shared->Prop),Q (.bool (g i j)) s->wpAny (model X.prog X.w) X.A (f (.int i t) (.int j u)) Q E s) :
  y8 X f (uK λi j=>.bl (g i j)):=by
 intro pins s σ H x y v u Q I rx ry h
 obtain ⟨i,j,rfl,rfl,q⟩:=h
 obtain ⟨t,rfl⟩:=rx
 obtain ⟨t',rfl⟩:=ry
 exact rule i j t t' s _ _ ⟨.bl (g i j),H,I,rfl,q⟩
def qh (i j:Int):Prop:=0<=j/\j<=1000000/\i.natAbs < 2 ^ 64
theorem zRL:y8 X (binaryOp .Add) (uK λi j=>.int (i + j)):=ZF λ_ _ _ _ _ _ _ q=>add_int q
theorem zRB:y8 X (binaryOp .Sub) (uK λi j=>.int (i - j)):=ZF λ_ _ _ _ _ _ _ q=>sub_int q
theorem zO6:y8 X (binaryOp .Mod) (rI (λ_ j=>j≠0) λi j=>.int (i.fmod j)):=Xu λ_ _ _ _ _ _ _ hc q=>mod_int' hc q
theorem zRD:y8 X (binaryOp .Pow) (rI qh λi j=>.int (i ^ j.toNat)):=Xu λ_ _ _ _ _ _ _ hc q=>pow_int_small hc.1 hc.2.1 hc.2.2 q
theorem unI {f:Value->Sem Value} {g:Int->Int}
  (rule:∀ (i:Int) (t:Tok) (s:Shared) (Q:Value->Shared->Prop) (E:Value->Shared->Prop),Q (.int (g i) s.toks) { s with toks:=s.toks + 1 }->wpAny (model X.prog X.w) X.A (f (.int i t)) Q E s) :
  UW X f (rU λi=>.int (g i)):=by
 intro pins s σ H x v Q I rx h
 obtain ⟨i,rfl,q⟩:=h
 obtain ⟨t,rfl⟩:=rx
 exact rule i t s _ _ ⟨.int (g i),H,I.tok _,⟨_,rfl⟩,q⟩
theorem zQD:UW X (unaryOp .USub) (rU λi=>.int (-i)):=unI λ_ _ _ _ _ q=>neg_int q
end
def ZG:V->V->Bool
 | .non,.non=>true | .non,.int _=>true | .int _,.non=>true | .non,.bl _=>true | .bl _,.non=>true | .non,.str _=>true | .str _,.non=>true
 | .int _,.int _=>true | .bl _,.bl _=>true | .str _,.str _=>true | .byt _,.byt _=>true
 | .int _,.str _=>true | .str _,.int _=>true | .bl _,.str _=>true | .str _,.bl _=>true
 | _,_=>false
def rEq:R2:=λx y H Q=>ZG x y=true/\Q (.bl (decide (x=y))) H
def rNe:R2:=λx y H Q=>ZG x y=true/\Q (.bl (!decide (x=y))) H
theorem Xv {i j:Int}:decide (V.int i=V.int j)=(i == j):=by
 rw [fz]
 simp
theorem Xw {i j:Bool}:decide (V.bl i=V.bl j)=(i == j):=by
 rw [fz]
 simp
theorem Xx {i j:Str}:decide (V.str i=V.str j)=(i == j):=by
 rw [fz]
 simp
theorem zLy {i j:Array UInt8}:decide (V.byt i=V.byt j)=(i.toList == j.toList):=by
 rw [fz]
 cases i
 cases j
 simp
section
variable {X:Cx} {a b c:Expr} {ta tb tc:TE} {pos:Pos}
theorem xH {pins:List (Addr × Obj)} {σ:St} {H:Hp} {s:Shared} {Q:VK} {k k':Bool} (I:zE X pins σ H s) (q:Q (.bl k) H) (e:k=k'):EP X pins σ Q (.bool k') s:=by
 subst e
 exact ⟨.bl k,H,I,rfl,q⟩
theorem zRK:y8 X (compareOp .Eq) rEq:=by
 intro pins s σ H x y v u Q I rx ry h
 obtain ⟨hs,q⟩:=h
 cases x with
 | non=>
  cases rx
  cases y with
  | non=>cases ry; exact PySem.EqNone.eq_none_none (xH I q (by simp))
  | bl j=>cases ry; exact PySem.EqNone.eq_none_bool (xH I q (by simp))
  | int j=>obtain ⟨t',rfl⟩:=ry; exact PySem.EqNone.eq_none_int (xH I q (by simp))
  | str j=>obtain ⟨t',rfl⟩:=ry; exact PySem.EqNone.eq_none_str (xH I q (by simp))
  | _=>exact absurd (show false=true from hs) dh
 | bl i=>
  cases rx
  cases y with
  | non=>cases ry; exact PySem.EqNone.eq_bool_none (xH I q (by simp))
  | bl j=>cases ry; exact eq_bool (xH I q Xw)
  | str j=>obtain ⟨t',rfl⟩:=ry; exact PySem.EqMixed.eq_bool_str (xH I q (by simp))
  | _=>exact absurd (show false=true from hs) dh
 | int i=>
  obtain ⟨t,rfl⟩:=rx
  cases y with
  | non=>cases ry; exact PySem.EqNone.eq_int_none (xH I q (by simp))
  | int j=>obtain ⟨t',rfl⟩:=ry; exact eq_int (xH I q Xv)
  | str j=>obtain ⟨t',rfl⟩:=ry; exact PySem.EqMixed.eq_int_str (xH I q (by simp))
  | _=>exact absurd (show false=true from hs) dh
 | str i=>
  obtain ⟨t,rfl⟩:=rx
  cases y with
  | non=>cases ry; exact PySem.EqNone.eq_str_none (xH I q (by simp))
  | bl j=>cases ry; exact PySem.EqMixed.eq_str_bool (xH I q (by simp))
  | int j=>obtain ⟨t',rfl⟩:=ry; exact PySem.EqMixed.eq_str_int (xH I q (by simp))
  | str j=>obtain ⟨t',rfl⟩:=ry; exact eq_str (xH I q Xx)
  | _=>exact absurd (show false=true from hs) dh
 | byt i=>
  obtain ⟨t,rfl⟩:=rx
  cases y with
  | byt j=>obtain ⟨t',rfl⟩:=ry; exact PySem.W.eq_bytes (xH I q zLy)
  | _=>exact absurd (show false=true from hs) dh
 | _=>cases y <;> exact absurd (show false=true from hs) dh
theorem zRE:y8 X (compareOp .NotEq) rNe:=by
 intro pins s σ H x y v u Q I rx ry h
 obtain ⟨hs,q⟩:=h
 cases x with
 | non=>
  cases rx
  cases y with
  | non=>cases ry; exact PySem.EqNone.ne_none_none (xH I q (by simp))
  | bl j=>cases ry; exact PySem.EqNone.ne_none_bool (xH I q (by simp))
  | int j=>obtain ⟨t',rfl⟩:=ry; exact PySem.EqNone.ne_none_int (xH I q (by simp))
  | str j=>obtain ⟨t',rfl⟩:=ry; exact PySem.EqNone.ne_none_str (xH I q (by simp))
  | _=>exact absurd (show false=true from hs) dh
 | bl i=>
  cases rx
  cases y with
  | non=>cases ry; exact PySem.EqNone.ne_bool_none (xH I q (by simp))
  | bl j=>cases ry; exact ne_bool (xH I q (congrArg not Xw))
  | str j=>obtain ⟨t',rfl⟩:=ry; exact PySem.EqMixed.ne_bool_str (xH I q (by simp))
  | _=>exact absurd (show false=true from hs) dh
 | int i=>
  obtain ⟨t,rfl⟩:=rx
  cases y with
  | non=>cases ry; exact PySem.EqNone.ne_int_none (xH I q (by simp))
  | int j=>obtain ⟨t',rfl⟩:=ry; exact ne_int (xH I q (congrArg not Xv))
  | str j=>obtain ⟨t',rfl⟩:=ry; exact PySem.EqMixed.ne_int_str (xH I q (by simp))
  | _=>exact absurd (show false=true from hs) dh
 | str i=>
  obtain ⟨t,rfl⟩:=rx
  cases y with
  | non=>cases ry; exact PySem.EqNone.ne_str_none (xH I q (by simp))
  | bl j=>cases ry; exact PySem.EqMixed.ne_str_bool (xH I q (by simp))
  | int j=>obtain ⟨t',rfl⟩:=ry; exact PySem.EqMixed.ne_str_int (xH I q (by simp))
  | str j=>obtain ⟨t',rfl⟩:=ry; exact ne_str (xH I q (congrArg not Xx))
  | _=>exact absurd (show false=true from hs) dh
 | byt i=>
  obtain ⟨t,rfl⟩:=rx
  cases y with
  | byt j=>obtain ⟨t',rfl⟩:=ry; exact PySem.W.ne_bytes (xH I q (congrArg not zLy))
  | _=>exact absurd (show false=true from hs) dh
 | _=>cases y <;> exact absurd (show false=true from hs) dh
theorem zRF:y8 X (compareOp .Lt) (uK λi j=>.bl (decide (i < j))):=jT λ_ _ _ _ _ _ _ q=>lt_int q
theorem ZH:y8 X (compareOp .LtE) (uK λi j=>.bl (decide (i<=j))):=jT λ_ _ _ _ _ _ _ q=>le_int q
theorem zRI:y8 X (compareOp .Gt) (uK λi j=>.bl (decide (j < i))):=jT λ_ _ _ _ _ _ _ q=>gt_int q
theorem zRJ:y8 X (compareOp .GtE) (uK λi j=>.bl (decide (j<=i))):=jT λ_ _ _ _ _ _ _ q=>ge_int q
theorem zRG:y8 X (compareOp .Is) (λx y H Q=>y=.non/\Q (.bl (decide (x=.non))) H):=by
 intro pins s σ H x y v u Q I rx ry h
 obtain ⟨rfl,q⟩:=h
 cases ry
 refine is_none_gen (xH I q ?_)
 cases x <;> first
  | (cases rx; rfl)
  | (obtain ⟨t,rfl⟩:=rx; rfl)
theorem zO4:y8 X (compareOp .IsNot) (λx y H Q=>y=.non/\Q (.bl (!decide (x=.non))) H):=by
 intro pins s σ H x y v u Q I rx ry h
 obtain ⟨rfl,q⟩:=h
 cases ry
 refine isnot_none_gen (xH I q ?_)
 cases x <;> first
  | (cases rx; rfl)
  | (obtain ⟨t,rfl⟩:=rx; rfl)
def isObj:HO->Bool
 | .lst _=>true
 | .ins _ _ _=>true
 | _=>false
theorem y8.or {f:Value->Value->Sem Value} {r r':R2} (h:y8 X f r) (h':y8 X f r'):y8 X f (λx y H Q=>r x y H Q\/r' x y H Q):=by
 intro pins s σ H x y v u Q I rx ry q
 rcases q with q | q
 ·exact h pins s σ H x y v u Q I rx ry q
 ·exact h' pins s σ H x y v u Q I rx ry q
theorem vE (b:Expr) {op:CmpOp} (h:op≠.In:=by decide) (h2:op≠.NotIn:=by decide):behindInMarks op b=false:=by
 have e1:(op == CmpOp.In)=false:=by cases op <;> first | rfl | exact absurd rfl h
 have e2:(op == CmpOp.NotIn)=false:=by cases op <;> first | rfl | exact absurd rfl h2
 cases b <;> simp [behindInMarks,e1,e2]
theorem zO1 {op:CmpOp} {r:R2} (ho:y8 X (compareOp op) r) (ha:PE X a ta) (hb:PE X b tb) (hm:behindInMarks op b=false):PE X (.Compare a [op] [b] pos) (qf r ta tb):=by
 intro pins s σ H Q I h
 exact wpAny_Compare1 (qg ha hb I h λv u s2 x y H2 I2 rx ry q=>ho pins s2 σ H2 x y v u Q I2 rx ry q) hm
def zQK (t:TE):TT:=λσ H Q=>t σ H λx H'=>∃ k,x=.bl k/\Q k H'
theorem zOs {op:CmpOp} {r:R2} (ho:y8 X (compareOp op) r) (ha:PE X a ta) (hb:PE X b tb) (hm:behindInMarks op b=false):PT X (.Compare a [op] [b] pos) (zQK (qf r ta tb)):=by
 intro pins s σ H Q I h
 refine wpAny_isTrue_Compare1 (zj (ha pins s σ H _ I h) λv s1 ⟨x,H1,I1,r1,q1⟩=>zj (hb pins s1 σ H1 _ I1 q1) λu s2 ⟨y,H2,I2,r2,q2⟩=>
  zj (ho pins s2 σ H2 x y v u _ I2 r1 r2 q2) λc s3 ⟨z,H3,I3,r3,k,e,q3⟩=>?_) hm
 subst e
 cases r3
 exact wpAny_truthy_bool ⟨H3,I3,q3⟩
theorem ZI:(sizeLine:Nat) < 2 ^ 63:=by rw [sizeLine_eq]; decide
theorem uL {x:V} {us:List Value} (r:zK [x] us):∃ u,us=[u]/\zT x u:=by
 cases r with
 | cons r1 r2=>cases r2; exact ⟨_,rfl,r1⟩
theorem ZJ {x y:V} {us:List Value} (r:zK [x,y] us):∃ u w',us=[u,w']/\zT x u/\zT y w':=by
 cases r with
 | cons r1 r2=>
  cases r2 with
  | cons r3 r4=>cases r4; exact ⟨_,_,rfl,r1,r3⟩
theorem zNh:wu X (.builtin "abs") (λxs H Q=>∃ i,xs=[.int i]/\Q (.int (if i < 0 then -i else i)) H):=by
 intro pins s σ H xs us Q I r h
 obtain ⟨i,rfl,q⟩:=h
 obtain ⟨u,rfl,t,rfl⟩:=uL r
 exact call_abs_int λu tk=>⟨.int (if i < 0 then -i else i),H,I.tok _,⟨_,rfl⟩,q⟩
theorem zHl (hc:X.calm=true):wu X (.builtin "max") (λxs H Q=>∃ i j,xs=[.int i,.int j]/\Q (.int (if j > i then j else i)) H):=by
 intro pins s σ H xs us Q I r h
 obtain ⟨i,j,rfl,q⟩:=h
 obtain ⟨u,w',rfl,⟨t,rfl⟩,⟨t',rfl⟩⟩:=ZJ r
 refine max_two_ints (I.ok.hd hc) λh' tk k=>⟨_,H,I.kept k,?_,q⟩
 by_cases hj:j > i
 ·rw [if_pos hj,if_pos hj]; exact ⟨_,rfl⟩
 ·rw [if_neg hj,if_neg hj]; exact ⟨_,rfl⟩
theorem UX:wu X (.type "int") (λxs H Q=>(∃ i,xs=[.int i]/\Q (.int i) H)\/∃ k,xs=[.bl k]/\Q (.int (if k then 1 else 0)) H):=by
 intro pins s σ H xs us Q I r h
 rcases h with ⟨i,rfl,q⟩ | ⟨k,rfl,q⟩
 ·obtain ⟨u,rfl,t,rfl⟩:=uL r
  exact call_int_int ⟨.int i,H,I,⟨_,rfl⟩,q⟩
 ·obtain ⟨u,rfl,r1⟩:=uL r
  cases r1
  exact call_int_bool ⟨.int (if k then 1 else 0),H,I.tok _,⟨_,rfl⟩,q⟩
end
end L2
namespace L2
open PySem PySem.Spec PyProof.Rows
structure vM (h:Heap) (x dx C:Addr) (mA:Str->Option Value):Prop where
 obj:h.get? x=some (eE C dx)
 ns:h.Ns1 dx mA
 ne:dx≠x
theorem zLU {h:Heap} {dx:Addr} {mA:Str->Option Value} (n:h.Ns1 dx mA):∃ od,h.get? dx=some od/\∀ name,iG name od=some (mA name):=by
 obtain ⟨o,es,ep,ho,hd,hk,_,hm⟩:=n
 refine ⟨o,ho,λname=>?_⟩
 have e:=hm name
 unfold nsFind findBy at e
 rw [<- Array.find?_toList] at e
 unfold iG
 rw [hd]
 dsimp only
 split
 ·rename_i y q
  rw [q] at e
  exact congrArg some e
 ·rename_i q
  rw [q] at e
  have a:es.toList.any (·.refKey)=false:=by
   rw [lZ]
   intro y hy
   obtain ⟨z,t,hkey⟩:=hk y (Array.mem_toList_iff.mp hy)
   simp [DictEntry.refKey,hkey]
  have a':¬ es.toList.any (·.refKey)=true:=by rw [a]; exact dh
  rw [if_neg a']
  exact congrArg some e
theorem vM.look {h:Heap} {x dx C:Addr} {mA:Str->Option Value} (I:vM h x dx C mA):∃ od,PySem.W.InstAt h x (eE C dx) C (some od)/\∀ name,iG name od=some (mA name):=
 let ⟨od,ho,hl⟩:=zLU I.ns
 ⟨od,⟨I.obj,rfl,rfl,ho⟩,hl⟩
section
variable {prog:Program} {w:World} {A:Around} {E:Value->Shared->Prop} {s:Shared} {K:b'} {x dx C f:Addr} {mA:Str->Option Value} {name:Str} {v:Value}
theorem gt {expr:Bool} {Q:Value->Shared->Prop} (X:K.In s.heap) (I:vM s.heap x dx C mA) (hg:ib K C name=true) (hh:iN K C=true)
  (ha:d4 K (.ref C) name=some none) (hv:mA name=some v) (hv':mD v=true) (h:Q v { s with toks:=s.toks + 1 }) :
  wpAny (model prog w) A (getAttr (.ref x) name expr) Q E s:=by
 obtain ⟨od,J,hl⟩:=I.look
 exact PySem.W.get_value X J (ij hg).1 (PySem.W.findObj_own hh ha rfl (by rw [hl,hv])) hv' h
theorem zNT {pl:Sem Bool} {Q:Value × List Value->Shared->Prop} (X:K.In s.heap) (I:vM s.heap x dx C mA) (hg:ib K C name=true)
  (hf:d4 K (.ref C) name=some (some (.ref f))) (ht:mm K (.ref f)=true) (hv:mA name=none) (h:Q (.ref f,[.ref x]) s) :
  wpAny (model prog w) A (getMethod (.ref x) name pl) Q E s:=by
 obtain ⟨od,J,hl⟩:=I.look
 exact PySem.W.method_fn X J (ij hg).1 (ij hg).2 hf (beq_iff_eq.mp ht) (by show (iG name od).map (·.isSome)=some false; rw [hl,hv]; rfl) h
theorem zOh {ns:List Str} {Q:Unit->Shared->Prop} (X:K.In s.heap) (I:vM s.heap x dx C mA)
  (hs:d4 K (.ref C) "__setattr__" = some (some (.builtin "object.__setattr__"))) (hp:l6 K C=true) (ht:i6 K C name=some none) (hh:iN K C=true)
  (hw:PySem.Within mA ns) (hsz:ns.length<=sizeLine)
  (h:∀ h',vM h' x dx C (λy=>if y=name then some v else mA y)->Heap.SameBut dx s.heap h'->Q () { s with heap:=h',toks:=s.toks + 2 }) :
  wpAny (model prog w) A (setAttr (.ref x) name v) Q E s:=by
 obtain ⟨od,J,hl⟩:=I.look
 refine PySem.W.set_plain X J hs (PySem.W.osa_open (s:={ s with toks:=s.toks + 1 }) (r:=none) X J hp ht λb=>?_)
 obtain ⟨cd,hc,hd'⟩:=PySem.W.any_some hh
 have hx:s.heap.get? x=some ⟨.ref C,some dx,.plain,#[]⟩:=I.obj
 refine wpAny_bind (wpAny_pure (wpAny_bind (wpAny_bind (wpAny_loadPart hx (wpAny_bind (PySem.W.Looks.here (s:={ s with toks:=s.toks + 1 }) (PySem.W.looks_clsIn X hc) ?_))))))
 rw [hd']
 refine wpAny_pure (a:=some dx) (wpAny_bind (wpAny_pure (wpAny_bind ?_)))
 refine wpAny_nsSet1 (s:={ s with toks:=s.toks + 1 }) I.ns λh' hn2 hs2=>?_
 obtain ⟨oD,esD,epD,hoD,hdD,hcD⟩:=hn2.count (PySem.Within.cons name v hw)
 refine wpAny_bind (wpAny_lookBehind hoD (by rw [hdD]; exact pastItsLine_dict (dM hcD (by rw [dg]; omega))) ?_)
 exact wpAny_pure (h _ ⟨(hs2.2 _ (Ne.symm I.ne)).trans I.obj,hn2,I.ne⟩ hs2)
theorem zNH {R:Result->Shared->Prop} {vs:List Value} {kw:List (Str × Value)} (X:K.In s.heap) (hm:mQ K C=true)
  (hi:d4 K (.ref C) "__init__" = some (some (.ref f))) (hf:PySem.W.typeIn K (.ref f)=some (.type "function"))
  (h:codeAny (model prog w) (A.under (.builtin "type.__call__" ⟨.ref C :: vs,kw⟩)) (.call (.ref f) ⟨.ref (s.heap.objs.size + 1) :: vs,kw⟩) (PySem.W.InitBack (s.heap.objs.size + 1) R)
   { s with heap:=(s.heap.push dZ).push (eE C s.heap.objs.size) }) :
  codeAny (model prog w) A (.call (.ref C) ⟨vs,kw⟩) R s:=by
 obtain ⟨hh,g,d,t,os⟩:=s
 exact PySem.W.make_core (PySem.W.makes_of X hm) (PySem.W.looks_findIn X hi) (λself=>PySem.W.bind_fn X self hf) (.inl rfl) h
end
def yx (f:Str) (v:V):List (Str × V)->List (Str × V)
 | []=>[(f,v)]
 | (g,x) :: r=>if g=f then (g,v) :: r else (g,x) :: yx f v r
theorem zFS (f g:Str) (v:V):∀ fs:List (Str × V),(yx f v fs).lookup g=if g=f then some v else fs.lookup g
 | []=>by
  show fG g [(f,v)]=_
  by_cases h:g=f
  ·have hb:(g == f)=true:=beq_iff_eq.mpr h
   simp only [fG,hb,if_pos h]
  ·have hb:(g == f)=false:=beq_eq_false_iff_ne.mpr h
   simp only [fG,hb,if_neg h]
 | (k,x) :: r=>by
  have ih:=zFS f g v r
  rw [show yx f v ((k,x) :: r)=(if k=f then (k,v) :: r else (k,x) :: yx f v r) from rfl]
  by_cases hk:k=f
  ·rw [if_pos hk]
   by_cases h:g=k
   ·have hb:(g == k)=true:=beq_iff_eq.mpr h
    simp only [fG,hb,if_pos (h.trans hk)]
   ·have hb:(g == k)=false:=beq_eq_false_iff_ne.mpr h
    simp only [fG,hb,if_neg (λe:g=f=>h (e.trans hk.symm))]
  ·rw [if_neg hk]
   by_cases h:g=k
   ·have hb:(g == k)=true:=beq_iff_eq.mpr h
    simp only [fG,hb,if_neg (λe:g=f=>hk (h.symm.trans e))]
   ·have hb:(g == k)=false:=beq_eq_false_iff_ne.mpr h
    simp only [fG,hb]
    exact ih
theorem UY (f:Str) (v:V):∀ fs:List (Str × V),f∈(yx f v fs).map (·.1)/\∀ g,g∈fs.map (·.1)->g∈(yx f v fs).map (·.1)
 | []=>⟨by simp [yx],λg h=>by simp at h⟩
 | (k,x) :: r=>by
  obtain ⟨i1,i2⟩:=UY f v r
  rw [show yx f v ((k,x) :: r)=(if k=f then (k,v) :: r else (k,x) :: yx f v r) from rfl]
  by_cases hk:k=f
  ·rw [if_pos hk]
   subst hk
   exact ⟨by simp,λg h=>by simpa using h⟩
  ·rw [if_neg hk]
   refine ⟨?_,λg h=>?_⟩
   ·rw [di]
    exact cB _ i1
   ·rw [di] at h |-
    rcases da.mp h with e | e
    ·exact da.mpr (.inl e)
    ·exact cB _ (i2 g e)
theorem zFU (f:Str) (v:V):∀ fs:List (Str × V),(yx f v fs).length<=fs.length + 1
 | []=>by simp [yx]
 | (k,x) :: r=>by
  have ih:=zFU f v r
  rw [show yx f v ((k,x) :: r)=(if k=f then (k,v) :: r else (k,x) :: yx f v r) from rfl]
  by_cases hk:k=f
  ·rw [if_pos hk,dg,dg]; omega
  ·rw [if_neg hk,dg,dg]; omega
theorem wC.some_of {v:V} {o:Option Value} (r:wC (some v) o):∃ u,o=some u/\zT v u:=by
 cases o with
 | none=>exact (show False from r).elim
 | some u=>exact ⟨u,rfl,r⟩
theorem wC.none_of {o:Option Value} (r:wC none o):o=none:=by
 cases o with
 | none=>rfl
 | some u=>exact (show False from r).elim
theorem zLb {v:V} {u:Value} (r:zT v u):mD u=true:=by
 cases v with
 | non=>cases (show u=Value.none from r); rfl
 | bl b=>cases (show u=Value.bool b from r); rfl
 | int i=>obtain ⟨t,e⟩:=(show ∃ t,u=Value.int i t from r); cases e; rfl
 | str x=>obtain ⟨t,e⟩:=(show ∃ t,u=Value.str x t from r); cases e; rfl
 | byt b=>obtain ⟨t,e⟩:=(show ∃ t,u=Value.bytes b t from r); cases e; rfl
 | flt b=>obtain ⟨t,e⟩:=(show ∃ t,u=Value.float b t from r); cases e; rfl
 | ref a=>cases (show u=Value.ref a from r); rfl
 | ty n=>cases (show u=Value.type n from r); rfl
section
variable {P:Program} {w:World} {H H':Hp} {h h':Heap} {a C dx:Addr} {fs fs':List (Str × V)}
theorem Xy (hok:xG P w H h) (e:H a=some (.ins C dx fs)):∃ mA,vM h a dx C mA/\(∀ f,wC (fs.lookup f) (mA f))/\PySem.Within mA (fs.map (·.1))/\fs.length<=1000/\H dx=some (.own a):=by
 obtain ⟨d,z,ne,ob,mA,n,r,q⟩:=(show xn P w H h a (.ins C dx fs) from hok a _ e)
 exact ⟨mA,⟨ob,n,ne⟩,r,q,z,d⟩
end
structure ua (K:b') (C:Addr):Prop where
 pg:ib K C Str.empty=true
 hd:iN K C=true
 po:l6 K C=true
 sa:d4 K (.ref C) "__setattr__" = some (some (.builtin "object.__setattr__"))
theorem ua.get {K:b'} {C:Addr} (c:ua K C) (f:Str):ib K C f=true:=c.pg
def vF (K:b') (C:Addr) (f:Str):Prop:=d4 K (.ref C) f=some none
theorem vF.taker {K:b'} {C:Addr} {f:Str} (n:vF K C f):i6 K C f=some none:=by
 unfold i6
 rw [show d4 K (.ref C) f=some none from n]
 rfl
structure qi (K:b') (C:Addr) (m:Str) (f:Addr):Prop where
 at_:d4 K (.ref C) m=some (some (.ref f))
 fn:mm K (.ref f)=true
 kp:eg K (.ref f)=true
section
variable {X:Cx} {pins:List (Addr × Obj)} {σ:St} {H:Hp} {s:Shared} {a C dx:Addr} {fs:List (Str × V)} {f:Str} {v:V} {A:Around} {E:Value->Shared->Prop}
theorem zJ5 {b:Bool} {Q:Value->Shared->Prop} (I:zE X pins σ H s) (e:H a=some (.ins C dx fs)) (c:ua X.K C) (n:vF X.K C f) (l:fs.lookup f=some v)
  (h:∀ u s',zE X pins σ H s'->zT v u->Q u s'):wpAny (model X.prog X.w) A (getAttr (.ref a) f b) Q E s:=by
 obtain ⟨mA,O,r,_,_,_⟩:=Xy I.hok e
 obtain ⟨u,hu,ru⟩:=wC.some_of (v:=v) (o:=mA f) (by rw [<- l]; exact r f)
 exact gt I.kIn O (c.get f) c.hd n hu (zLb ru) (h u _ (I.tok _) ru)
theorem zJ4 {m:Str} {g:Addr} {pl:Sem Bool} {Q:Value × List Value->Shared->Prop} (I:zE X pins σ H s) (e:H a=some (.ins C dx fs)) (c:ua X.K C) (k:qi X.K C m g) (l:fs.lookup m=none)
  (h:Q (.ref g,[.ref a]) s):wpAny (model X.prog X.w) A (getMethod (.ref a) m pl) Q E s:=by
 obtain ⟨mA,O,r,_,_,_⟩:=Xy I.hok e
 have hn:mA m=none:=wC.none_of (by rw [<- l]; exact r m)
 exact zNT I.kIn O (c.get m) k.at_ k.fn hn h
theorem zJf {y:V} {u:Value} {Q:Unit->Shared->Prop} (I:zE X pins σ H s) (e:H a=some (.ins C dx fs)) (c:ua X.K C) (n:vF X.K C f) (hl:fs.length < 1000) (ry:zT y u)
  (h:∀ s',zE X pins σ (za H a (.ins C dx (yx f y fs))) s'->Q () s'):wpAny (model X.prog X.w) A (setAttr (.ref a) f u) Q E s:=by
 obtain ⟨mA,O,r,wi,_,ho⟩:=Xy I.hok e
 have hz:(fs.map (·.1)).length<=sizeLine:=by rw [a_,sizeLine_eq]; omega
 refine zOh I.kIn O c.sa c.po n.taker c.hd wi hz λh' O' sb=>h _ ?_
 have hd:∃ o,h'.get? dx=some o:=let ⟨o,_,_,e',_⟩:=O'.ns; ⟨o,e'⟩
 refine I.write (x:=a) (e:=dx) (by rw [e]; exact True.intro) (.inr ho) (λb q hb z=>(sb.2 b hb).trans z) hd ?_
 refine ⟨by rw [zu O.ne]; exact ho,?_,O.ne,O'.obj,_,O'.ns,λg=>?_,λg hg=>?_⟩
 ·have:=zFU f y fs; omega
 ·show wC ((yx f y fs).lookup g) (if g=f then some u else mA g)
  rw [zFS]
  by_cases q:g=f
  ·rw [if_pos q,if_pos q]; exact ry
  ·rw [if_neg q,if_neg q]; exact r g
 ·by_cases q:g=f
  ·rw [q]; exact (UY f y fs).1
  ·refine (UY f y fs).2 g (wi g λz=>hg ?_)
   show (if g=f then some u else mA g)=none
   rw [if_neg q]; exact z
theorem zE.made (I:zE X pins σ H s):zE X pins σ (za (za H s.heap.objs.size (.own (s.heap.objs.size + 1))) (s.heap.objs.size + 1) (.ins C s.heap.objs.size []))
  { s with heap:=(s.heap.push dZ).push (eE C s.heap.objs.size) }:=by
 have e1:(s.heap.push dZ).get? s.heap.objs.size=some dZ:=cW s.heap rfl
 have e2:((s.heap.push dZ).push (eE C s.heap.objs.size)).get? (s.heap.objs.size + 1)=some (eE C s.heap.objs.size):=by
  have:=cW (s.heap.push dZ) (o:=eE C s.heap.objs.size) rfl
  rwa [eX] at this
 have e3:(s.heap.push dZ).Ns s.heap.objs.size (λ_=>none):=⟨dZ,#[],_,e1,rfl,(λe he=>absurd he (by simp)),λ_=>rfl⟩
 have I1:=I.laid (a:=s.heap.objs.size) (o:=.own (s.heap.objs.size + 1)) (h':=s.heap.push dZ) (t':=s.toks) (λb u q=>cE _ q) (cF _) ⟨_,e1⟩
 refine I1.laid (a:=s.heap.objs.size + 1) (o:=.ins C s.heap.objs.size []) (t':=s.toks) (λb u q=>cE _ q) (Nat.le_of_eq (eX _ _)) ?_
 have ne:s.heap.objs.size≠s.heap.objs.size + 1:=dA (dC _)
 refine ⟨by rw [zu ne,xh],ik _,ne,e2,λ_=>none,(Heap.Ns1.of_empty e3).at λo q=>cE _ q,λ_=>True.intro,λy hy=>absurd rfl hy⟩
theorem zPy {prog:Program} {w:World} {env:Env} {e:Expr} {f:Str} {pos:Pos} {s:Shared} {Q:Value->Shared->Prop} (hb:attributeBase e f env (eval e env)=eval e env)
  (h:wpAny (model prog w) A (eval e env) (λo s₁=>wpAny (model prog w) A (getAttr o f true) Q E s₁) E s):wpAny (model prog w) A (eval (.Attribute e f pos) env) Q E s:=
 Attribute_any_ h (by rw [arm_eval_Attribute,hb])
end
def UZ (K:b') (ta:TE) (f:Str):TE:=λσ H Q=>ta σ H λx H1=>∃ a C dx fs v,x=.ref a/\H1 a=some (.ins C dx fs)/\ua K C/\vF K C f/\fs.lookup f=some v/\Q v H1
def ZK (K:b') (ta tv:TE) (f:Str):TS:=λD σ H=>tv σ H λy H1=>ta σ H1 λx H2=>∃ a C dx fs,x=.ref a/\H2 a=some (.ins C dx fs)/\ua K C/\vF K C f/\fs.length < 1000∧
 D.nx σ (za H2 a (.ins C dx (yx f y fs)))
section
variable {X:Cx} {o e value:Expr} {f:Str} {pos pos' tpos:Pos} {ta tv:TE}
theorem zQ2 (he:PE X e ta) (hb:attributeBase e f X.env (eval e X.env)=eval e X.env):PE X (.Attribute e f pos) (UZ X.K ta f):=by
 intro pins s σ H Q I h
 refine zPy hb (zj (he pins s σ H _ I h) λu s1 ⟨x,H1,I1,rx,a,C,dx,fs,v,ex,ea,c,n,l,q⟩=>?_)
 subst ex
 obtain rfl:u=Value.ref a:=rx
 exact zJ5 I1 ea c n l λu' s2 I2 ru=>⟨v,H1,I2,ru,q⟩
theorem jU (ha:PE X o ta) (hv:PE X value tv) (hs:swapsWith value (some (.Attribute o f pos')) pos.line X.env=pure false):PS X (.Assign [.Attribute o f pos'] value pos) (ZK X.K ta tv f):=by
 intro pins s σ H D I h
 refine plainObj_wpAny_Assign_Attribute (zj (hv pins s σ H _ I h) λu s1 ⟨y,H1,I1,ry,q⟩=>zj (ha pins s1 σ H1 _ I1 q) λov s2 ⟨x,H2,I2,rx,a,C,dx,fs,ex,ea,c,n,l,q2⟩=>?_) hs
 subst ex
 obtain rfl:ov=Value.ref a:=rx
 exact zJf I2 ea c n l ry λs3 I3=>⟨σ,_,I3,q2⟩
end
section
variable {X:Cx} {pins:List (Addr × Obj)} {σ:St} {H:Hp} {s:Shared} {A:Around} {E:Value->Shared->Prop} {Q:Value->Shared->Prop} {c:Value} {b:Bool}
inductive ya (K:b') (H:Hp):V->Value->Prop where
 | non:ya K H .non (.type "NoneType")
 | bl (x:Bool):ya K H (.bl x) (.type "bool")
 | int (i:Int):ya K H (.int i) (.type "int")
 | str (x:Str):ya K H (.str x) (.type "str")
 | flt (x:UInt64):ya K H (.flt x) (.type "float")
 | lst {a:Addr} {xs:List V} (e:H a=some (.lst xs)):ya K H (.ref a) (.type "list")
 | frz {a:Addr} {o:Obj} {xs:List V} (e:H a=some (.frz o (.lst xs))):ya K H (.ref a) (.type "list")
 | tup {a:Addr} {xs:List V} (e:H a=some (.tup xs)):ya K H (.ref a) (.type "tuple")
 | dK {a:Addr} {kvs:List (wQ × V)} (e:H a=some (.dK kvs)):ya K H (.ref a) (.type "dict")
 | dT {a:Addr} {kvs:List (List wQ × V)} (e:H a=some (.dT kvs)):ya K H (.ref a) (.type "dict")
 | ins {a C dx:Addr} {fs:List (Str × V)} (e:H a=some (.ins C dx fs)) (cl:ua K C) (ha:d4 K (.ref C) "__class__" = some (some (.builtin "object.__class__")))
   (hn:l7 K (.builtin "object.__class__") "__get__" = some (some (.builtin "getset_descriptor.__get__"))) (htk:mS K (.builtin "object.__class__")=some true)
   (hm:nc K C (.type "object")=some true):ya K H (.ref a) (.ref C)
theorem zHb {x:V} {u t:Value} (I:zE X pins σ H s) (rx:zT x u) (ty:ya X.K H x t) (e:dl X.K t c=some b) (h:∀ tk,Q (.bool b) { s with toks:=tk }) :
  wpAny (model X.prog X.w) A (call (.builtin "isinstance") [u,c]) Q E s:=by
 cases ty with
 | non=>cases (show u=Value.none from rx); exact dW PySem.W.kitx_none I.kIn True.intro e (λz=>nomatch z) h
 | bl y=>cases (show u=Value.bool y from rx); exact dW PySem.W.kitx_bool I.kIn True.intro e (λz=>nomatch z) h
 | int i=>obtain ⟨t,q⟩:=(show ∃ t,u=Value.int i t from rx); cases q; exact dW PySem.W.kitx_int I.kIn True.intro e (λz=>nomatch z) h
 | str y=>obtain ⟨t,q⟩:=(show ∃ t,u=Value.str y t from rx); cases q; exact dW PySem.W.kitx_str I.kIn True.intro e (λz=>nomatch z) h
 | flt y=>obtain ⟨t,q⟩:=(show ∃ t,u=Value.float y t from rx); cases q; exact dW PySem.W.kitx_float I.kIn True.intro e (λz=>nomatch z) h
 | @lst a xs ea=>
  cases (show u=Value.ref a from rx)
  obtain ⟨_,_,n,_,h1⟩:=(show xn X.prog X.w H s.heap a (.lst xs) from I.hok a _ ea)
  exact dW l8 I.kIn ⟨_,h1,rfl⟩ e (λz=>nomatch z) h
 | @frz a ob xs ea=>
  cases (show u=Value.ref a from rx)
  obtain ⟨_,_,_,n,_,h1⟩:=(show xn X.prog X.w H s.heap a (.frz ob (.lst xs)) from I.hok a _ ea)
  exact dW l8 I.kIn ⟨_,h1,rfl⟩ e (λz=>nomatch z) h
 | @tup a xs ea=>
  cases (show u=Value.ref a from rx)
  obtain ⟨_,_,_,p⟩:=(show xn X.prog X.w H s.heap a (.tup xs) from I.hok a _ ea)
  obtain ⟨o,h1,h2,_⟩:=p
  exact dW PySem.W.kitx_tuple I.kIn ⟨o,h1,h2⟩ e (λz=>nomatch z) h
 | @dK a kvs ea=>
  cases (show u=Value.ref a from rx)
  obtain ⟨_,_,vs,_,p⟩:=(show xn X.prog X.w H s.heap a (.dK kvs) from I.hok a _ ea)
  obtain ⟨o,es,ep,h1,h2,_⟩:=p
  exact dW l' I.kIn ⟨o,h1,h2.1⟩ e (λz=>nomatch z) h
 | @dT a kvs ea=>
  cases (show u=Value.ref a from rx)
  obtain ⟨_,_,xs,_,o,es,ep,h1,h2,_⟩:=(show xn X.prog X.w H s.heap a (.dT kvs) from I.hok a _ ea)
  exact dW l' I.kIn ⟨o,h1,h2.1⟩ e (λz=>nomatch z) h
 | @ins a C dx fs ea cl ha hn htk hm=>
  cases (show u=Value.ref a from rx)
  obtain ⟨mA,O,_⟩:=Xy I.hok ea
  obtain ⟨od,J,_⟩:=O.look
  exact dW (PySem.W.kitx_own (cl.get _) cl.hd ha hn htk hm) I.kIn J e (λz=>nomatch z) h
end
end L2
namespace L2
open PySem PySem.Spec PyProof.Rows
structure zU (k:Nat) (A:Around):Prop where
 hd:A.handled=none
 dp:A.depth + 3 * k + 5 < recursionLimit
 un:A.units + 16 * k + 200 < cLine
theorem zU.mono {j k:Nat} {A:Around} (r:zU k A) (h:j<=k):zU j A:=⟨r.hd,by have:=r.dp; omega,by have:=r.un; omega⟩
theorem zU.deeper {k:Nat} {A:Around} (r:zU (k + 1) A) (env:Env):zU k (A.deeper env):=
 ⟨r.hd,by have:=r.dp; show A.depth + 1 + 3 * k + 5 < _; omega,by have:=r.un; show A.units + 3 + 16 * k + 200 < _; omega⟩
theorem zU.in1 {k:Nat} {A:Around} (r:zU (k + 1) A):zU k A.in1:=
 ⟨r.hd,by have:=r.dp; show A.depth + 3 * k + 5 < _; omega,by have:=r.un; show A.units + 1 + 16 * k + 200 < _; omega⟩
theorem zJ2 {A:Around} {C:Addr} {us:List Value} {kw:List (Str × Value)}:(A.under (.builtin "type.__call__" ⟨.ref C :: us,kw⟩)).depth=A.depth + 1:=by
 first | rfl | simp [Around.under,Code.weight,Code.isCreation,Code.isGuard,Code.isCaller,Code.frames,Code.isFrame,guardIds]
theorem zJ1 {A:Around} {C:Addr} {us:List Value} {kw:List (Str × Value)}:(A.under (.builtin "type.__call__" ⟨.ref C :: us,kw⟩)).units=A.units + 1:=by
 first | rfl | simp [Around.under,Code.cUnits,Code.frames,Code.isFrame]
theorem zU.make {k:Nat} {A:Around} (r:zU (k + 1) A) (C:Addr) (us:List Value) (kw:List (Str × Value)):zU k (A.under (.builtin "type.__call__" ⟨.ref C :: us,kw⟩)):=
 ⟨r.hd,by have:=r.dp; rw [zJ2]; omega,by have:=r.un; rw [zJ1]; omega⟩
theorem zU.depth {k:Nat} {A:Around} (r:zU k A):A.depth < recursionLimit:=by have:=r.dp; omega
theorem zU.units {k:Nat} {A:Around} (r:zU k A):A.units + 64 < cLine:=by have:=r.un; omega
def vN:TA:=λ_ H Q=>Q [] H
def qj (ta:TE) (tr:TA):TA:=λσ H Q=>ta σ H λx H1=>tr σ H1 λxs H2=>Q (x :: xs) H2
section
variable {X:Cx} {e:Expr} {es:List Expr} {te:TE} {t:TA} {pos:Pos}
theorem yu:PA X [] vN:=λ_ _ _ _ H Q I h=>Calls.spliced_nil ⟨[],H,I,.nil,h⟩
theorem yF (ha:PE X e te) (hr:PA X es t) (hs:starEach (e :: es) X.env=(false,eval e X.env) :: starEach es X.env:=by rfl):PA X (e :: es) (qj te t):=by
 intro pos pins s σ H Q I h
 rw [hs]
 show wpAny _ _ (spliced ((false,eval e X.env) :: backTo pos (starEach es X.env))) _ _ s
 refine Calls.spliced_cons (zj (ha pins s σ H _ I h) λu s1 ⟨x,H1,I1,r1,q1⟩=>?_)
 exact zj (hr pos pins s1 σ H1 _ I1 q1) λus s2 ⟨xs,H2,I2,r2,q2⟩=>⟨x :: xs,H2,I2,.cons r1 r2,q2⟩
def Ua (t:TA):TE:=λσ H Q=>t σ H λxs H1=>xs.length<=sizeLine/\∀ p,H1 p=none->Q (.ref p) (za H1 p (.tup xs))
def Ub (t:TA):TE:=λσ H Q=>t σ H λxs H1=>xs.length<=sizeLine/\∀ p,H1 p=none->Q (.ref p) (za H1 p (.lst xs))
theorem zQw {x1} (h:PA X es t):PE X (.Tuple es x1 pos) (Ua t):=by
 intro pins s σ H Q I hq
 refine wpAny_Tuple_spliced (zj (h pos pins s σ H _ I hq) λus s1 ⟨xs,H1,I1,r,z,q⟩=>⟨by rw [<- r.length]; exact z,?_⟩)
 have hf:H1 s1.heap.objs.size=none:=I1.hok.fresh (cF _)
 refine ⟨.ref s1.heap.objs.size,za H1 s1.heap.objs.size (.tup xs),I1.laid (t':=s1.toks) (λb u e=>cE _ e) (cF _) ?_,rfl,q _ hf⟩
 exact ⟨z,us,r,⟨_,cW _ rfl,rfl,_,rfl⟩⟩
theorem zN4 (h:PA X es t):PE X (.List es pos) (Ub t):=by
 intro pins s σ H Q I hq
 refine wpAny_List_spliced (zj (h pos pins s σ H _ I hq) λus s1 ⟨xs,H1,I1,r,z,q⟩=>⟨by rw [<- r.length]; exact z,?_⟩)
 have hf:H1 s1.heap.objs.size=none:=I1.hok.fresh (cF _)
 refine ⟨.ref s1.heap.objs.size,za H1 s1.heap.objs.size (.lst xs),I1.laid (t':=s1.toks) (λb u e=>cE _ e) (cF _) ?_,rfl,q _ hf⟩
 exact ⟨z,us,0,r,cW _ rfl⟩
end
abbrev Sp:=List V->Hp->VK->XK->Prop
abbrev vg:=List Env->Hp->Shared->XK->Value->Shared->Prop
structure xo (P:Program) (w:World) (K:b') (mg:Str->Option Value) (base:Heap) (A:Around) (outer:List Env) (s:Shared) (H:Hp):Prop where
 frames:A.frames=some outer
 mod:Mod K mg base
 bs:∀ b o,base.get? b=some o->s.heap.get? b=some o/\H b=none
 bsz:base.objs.size<=s.heap.objs.size
 funs:s.heap.FunFrames base outer
 frf:∀ b∈xK outer,H b=none
 hok:xG P w H s.heap
 bare:AllBare s.gens
def CE (outer:List Env) (P:Program) (w:World) (H:Hp) (s:Shared) (Q:VK) (u:Value) (s':Shared):Prop:=
 ∃ v H',s'.os=s.os/\AllBare s'.gens/\Un (xK outer) [] H H' s.heap s'.heap/\xG P w H' s'.heap/\zT v u/\Q v H'
def CR (CX:vg) (outer:List Env) (P:Program) (w:World) (H:Hp) (s:Shared) (Q:VK) (E:XK) (r:Result) (s':Shared):Prop:=
 match r with
 | .ok (.ret u)=>CE outer P w H s Q u s'
 | .ok _=>False
 | .error e=>CX outer H s E e s'
structure zF (P:Program) (w:World) (K:b') (mg:Str->Option Value) (base:Heap) (CX:vg) (k:Nat) (f:Addr) (fd:FuncData) (ps:List Str) (sp:Sp):Prop where
 len:∀ vs H Q E,sp vs H Q E->vs.length=ps.length
 run:∀ (A:Around) (outer:List Env) (s:Shared) (H:Hp) (args:Args) (us:List Value) (vs:List V) (Q:VK) (E:XK),zU k A->xo P w K mg base A outer s H->BindsTo s fd args (ps.zip us)->zK vs us->sp vs H Q E->
  codeAny (model P w) A (.call (.ref f) args) (CR CX outer P w H s Q E) s
theorem zF.mono {P:Program} {w:World} {K:b'} {mg:Str->Option Value} {base:Heap} {CX:vg} {j k:Nat} {f:Addr} {fd:FuncData} {ps:List Str} {sp:Sp} (F:zF P w K mg base CX j f fd ps sp) (h:j<=k) :
  zF P w K mg base CX k f fd ps sp:=⟨F.len,λA outer s H args us vs Q E hr=>F.run A outer s H args us vs Q E (hr.mono h)⟩
theorem xo.make {P:Program} {w:World} {K:b'} {mg:Str->Option Value} {base:Heap} {A:Around} {outer:List Env} {s:Shared} {H:Hp} (e:xo P w K mg base A outer s H) (C:Addr) (us:List Value) (kw:List (Str × Value)) :
  xo P w K mg base (A.under (.builtin "type.__call__" ⟨.ref C :: us,kw⟩)) outer s H:=⟨by first | exact e.frames | (simpa [Around.under,Code.envs,Code.isFrame,pushEnvs] using e.frames),e.mod,e.bs,e.bsz,e.funs,e.frf,e.hok,e.bare⟩
theorem xo.in1 {P:Program} {w:World} {K:b'} {mg:Str->Option Value} {base:Heap} {A:Around} {outer:List Env} {s:Shared} {H:Hp} (e:xo P w K mg base A outer s H) :
  xo P w K mg base A.in1 outer s H:=⟨e.frames,e.mod,e.bs,e.bsz,e.funs,e.frf,e.hok,e.bare⟩
section
variable {X:Cx} {pins:List (Addr × Obj)} {σ:St} {H:Hp} {s s':Shared}
theorem zE.env0 (I:zE X pins σ H s):xo X.prog X.w X.K X.mg X.base X.A X.stack s H:=
 ⟨I.ok.frames,I.ok.mod,I.bs,dM I.ok.bsz I.sz,I.stack,I.stkFree,I.hok,I.bare⟩
theorem zE.after {Q:VK} {u:Value} (I:zE X pins σ H s) (h:CE X.stack X.prog X.w H s Q u s'):EP X pins σ Q u s':=by
 obtain ⟨v,H',os,bare,un,hok,r,q⟩:=h
 obtain ⟨hh,g,d,t,os'⟩:=s'
 obtain rfl:os'=s.os:=os
 exact ⟨v,H',I.call (h':=hh) (g':=g) (d':=d) (t':=t) (ch:=[]) un hok bare (λb z=>absurd z (by simp)),r,q⟩
end
def qk (sp:Sp) (dvs:List V) (E:XK) (t:TA):TE:=λσ H Q=>t σ H λvs H1=>sp (vs++dvs) H1 Q E
def zQM (C:Addr) (m:Str) (sp:Sp) (dvs:List V) (E:XK) (ta:TE) (t:TA):TE:=λσ H Q=>ta σ H λx H1=>∃ a dx fs,x=.ref a/\H1 a=some (.ins C dx fs)/\fs.lookup m=none∧
 t σ H1 λvs H2=>sp (x :: (vs++dvs)) H2 Q E
def Xz (C:Addr) (sp:Sp) (dvs:List V) (E:XK) (t:TA):TE:=λσ H Q=>t σ H λvs H1=>∀ x dx,H1 x=none->H1 dx=none->dx≠x->
 sp (.ref x :: (vs++dvs)) (za (za H1 dx (.own x)) x (.ins C dx [])) (λv H2=>v=.non/\Q (.ref x) H2) E
def vG (K:b') (fd:FuncData) (ps:List Str) (ds:List Value):Prop:=
 ∀ (s:Shared) (us:List Value),K.In s.heap->(us++ds).length=ps.length->BindsTo s fd ⟨us,[]⟩ (ps.zip (us++ds))
theorem vG.all {K:b'} {fd:FuncData} {ps:List Str} (h:∀ us:List Value,us.length=ps.length->bindArgs fd ⟨us,[]⟩=pure (ps.zip us)):vG K fd ps []:=λs us _ hl=>by
 rw [d5] at hl |-
 exact .of_eq (h us hl)
def ql (CX:vg) (X:Cx) (E:XK):Prop:=∀ (pins:List (Addr × Obj)) (σ:St) (H:Hp) (s:Shared) (e:Value) (s':Shared),zE X pins σ H s->CX X.stack H s E e s'->X.xe e s'
section
variable {X:Cx} {CX:vg} {k:Nat} {f C:Addr} {fd:FuncData} {ps:List Str} {sp:Sp} {dvs:List V} {ds:List Value} {E:XK} {x m:Str} {p pos apos:Pos} {e o:Expr} {es:List Expr} {ta:TE} {t:TA}
theorem zNz {pins:List (Addr × Obj)} {σ:St} {H:Hp} {s:Shared} {Q:VK} {us:List Value} {vs:List V} (F:zF X.prog X.w X.K X.mg X.base CX k f fd ps sp) (hr:zU k X.A) (hb:vG X.K fd ps ds) (hd:zK dvs ds) (hx:ql CX X E)
  (I:zE X pins σ H s) (r:zK vs us) (h:sp (vs++dvs) H Q E):wpAny (model X.prog X.w) X.A (call (.ref f) us) (EP X pins σ Q) X.xe s:=by
 have r2:zK (vs++dvs) (us++ds):=r.append hd
 have hl:(us++ds).length=ps.length:=by rw [<- r2.length]; exact F.len _ _ _ _ h
 refine wpAny_call (codeAny_mono (F.run X.A X.stack s H ⟨us,[]⟩ (us++ds) (vs++dvs) Q E hr I.env0 (hb s us I.kIn hl) r2 h) λr s' hq=>?_)
 cases r with
 | error e=>exact hx pins σ H s e s' I hq
 | ok fl=>
  cases fl with
  | ret u=>exact I.after hq
  | next=>exact False.elim hq
  | brk=>exact False.elim hq
  | cont=>exact False.elim hq
theorem Uc (F:zF X.prog X.w X.K X.mg X.base CX k f fd ps sp) (hr:zU k X.A) (hg:Gl X x) (hm:X.mg x=some (.ref f)) (hk:eg X.K (.ref f)=true) (hb:vG X.K fd ps ds) (hd:zK dvs ds) (hx:ql CX X E)
  (ha:PA X (e :: es) t) (hdb:(x == ("__debug__" : Str))=false:=by decide) (he:starEach (e :: es) X.env=(false,eval e X.env) :: starEach es X.env:=by rfl) (hpl:(backTo pos (starEach es X.env)).any (·.1)=false:=by rfl) :
  PE X (.Call (.Name x p) (e :: es) [] pos) (qk sp dvs E t):=by
 intro pins s σ H Q I h
 refine wpAny_Call_Name_kw (gp I hg hm ?_ hdb)
 refine iB (h₀:=X.base) I.ok.mod.kin hk (zj (ha pos pins s σ H _ I h) λus s1 ⟨vs,H1,I1,r,q⟩=>⟨I1.kIn,?_⟩) he hpl
 exact zNz F hr hb hd hx I1 r q
theorem zMs {pl:Sem Bool} (he:PE X o ta) (c:ua X.K C) (hm:qi X.K C m f) (F:zF X.prog X.w X.K X.mg X.base CX k f fd ps sp) (hr:zU k X.A) (hb:vG X.K fd ps ds) (hd:zK dvs ds) (hx:ql CX X E)
  (ht:eval (.Call (.Attribute o m apos) [] [] pos) X.env=(do
   let ov <- eval o X.env
   standAt apos.atName
   let (f,first) <- holding [ov] (getMethod ov m pl)
   callWith pos f first (backTo pos (starEach [] X.env)) (backToKw pos (keywordEach [] X.env))):=by rfl) :
  PE X (.Call (.Attribute o m apos) [] [] pos) (zQM C m sp dvs E ta vN):=by
 intro pins s σ H Q I h
 refine PySem.W.methodCall_KW (pl:=pl) (zj (he pins s σ H _ I h) λu s1 ⟨x,H1,I1,rx,a,dx,fs,ex,ea,l,q⟩=>?_) ht
 subst ex
 obtain rfl:u=Value.ref a:=rx
 refine zJ4 I1 ea c hm l ?_
 exact PySem.W.callWith_K0 (first:=[.ref a]) I1.kIn hm.kp (zNz (us:=[.ref a]) (vs:=[.ref a]) F hr hb hd hx I1 (.cons rfl .nil) q)
structure Mk (K:b') (C f:Addr):Prop where
 makes:mQ K C=true
 init:d4 K (.ref C) "__init__" = some (some (.ref f))
 fn:mm K (.ref f)=true
 kp:eg K (.ref C)=true
theorem zMe {pins:List (Addr × Obj)} {σ:St} {H:Hp} {s:Shared} {Q:VK} {us:List Value} {vs:List V} (M:Mk X.K C f) (F:zF X.prog X.w X.K X.mg X.base CX k f fd ps sp) (hr:zU (k + 1) X.A) (hb:vG X.K fd ps ds) (hd:zK dvs ds)
  (hx:ql CX X E) (I:zE X pins σ H s) (r:zK vs us)
  (h:∀ x dx,H x=none->H dx=none->dx≠x->sp (.ref x :: (vs++dvs)) (za (za H dx (.own x)) x (.ins C dx [])) (λv H2=>v=.non/\Q (.ref x) H2) E) :
  wpAny (model X.prog X.w) X.A (call (.ref C) us) (EP X pins σ Q) X.xe s:=by
 have hq:=h (s.heap.objs.size + 1) s.heap.objs.size (I.hok.fresh (Nat.le_succ _)) (I.hok.fresh (cF _)) (dA (dC _))
 have I2:=zE.made (C:=C) I
 have r2:zK (V.ref (s.heap.objs.size + 1) :: (vs++dvs)) (Value.ref (s.heap.objs.size + 1) :: (us++ds)):=.cons rfl (r.append hd)
 have hl:(Value.ref (s.heap.objs.size + 1) :: us++ds).length=ps.length:=by
  have e:=r2.length
  rw [F.len _ _ _ _ hq] at e
  exact e.symm
 refine wpAny_call (zNH (f:=f) I.kIn M.makes M.init (beq_iff_eq.mp M.fn) (codeAny_mono (F.run _ X.stack _ _ ⟨Value.ref (s.heap.objs.size + 1) :: us,[]⟩ (Value.ref (s.heap.objs.size + 1) :: (us++ds)) _ _ E (hr.make C us [])
  (I2.env0.make C us []) (hb _ (Value.ref (s.heap.objs.size + 1) :: us) I2.kIn hl) r2 hq) λr s' hq'=>?_))
 cases r with
 | error e=>exact hx pins σ _ _ e s' I2 hq'
 | ok fl=>
  cases fl with
  | ret u=>
   obtain ⟨v,H',I3,rv,ev,q3⟩:=I2.after hq'
   subst ev
   exact ⟨rv,⟨V.ref (s.heap.objs.size + 1),H',I3,rfl,q3⟩⟩
  | next=>exact False.elim hq'
  | brk=>exact False.elim hq'
  | cont=>exact False.elim hq'
theorem zOz (M:Mk X.K C f) (F:zF X.prog X.w X.K X.mg X.base CX k f fd ps sp) (hr:zU (k + 1) X.A) (hg:Gl X x) (hm:X.mg x=some (.ref C)) (hb:vG X.K fd ps ds) (hd:zK dvs ds) (hx:ql CX X E)
  (ha:PA X (e :: es) t) (hdb:(x == ("__debug__" : Str))=false:=by decide) (he:starEach (e :: es) X.env=(false,eval e X.env) :: starEach es X.env:=by rfl) (hpl:(backTo pos (starEach es X.env)).any (·.1)=false:=by rfl) :
  PE X (.Call (.Name x p) (e :: es) [] pos) (Xz C sp dvs E t):=by
 intro pins s σ H Q I h
 refine wpAny_Call_Name_kw (gp I hg hm ?_ hdb)
 refine iB (h₀:=X.base) I.ok.mod.kin M.kp (zj (ha pos pins s σ H _ I h) λus s1 ⟨vs,H1,I1,r,q⟩=>⟨I1.kIn,?_⟩) he hpl
 exact zMe M F hr hb hd hx I1 r q
end
structure ze (N P:List Str) (sc:Scope):Prop where
 kind:sc.kind=.function
 co:sc.isCoroutine=false
 gen:sc.isGenerator=false
 nd:N.Nodup
 pre:N.take P.length=P
 par:∀ x∈P,sc.names.lookup x=some .local\/sc.names.lookup x=some .cell
 nofree:∀ y∈sc.names,y.2≠.free
theorem ze.a {N P:List Str} {s:Scope} (a:s.kind=.function:=by rfl) (b:s.isCoroutine=false:=by rfl) (c:s.isGenerator=false:=by rfl) (d:N.Nodup:=by decide +kernel) (e:N.take P.length=P:=by rfl) (f:∀ x∈P,s.names.lookup x=some .local\/s.names.lookup x=some .cell:=by decide +kernel) (g:∀ y∈s.names,y.2≠.free:=by decide +kernel):ze N P s:=⟨a,b,c,d,e,f,g⟩
theorem zHo {kindOf:Str->Option NameKind} {x:Str}:∀ {binds:List (Str × Value)} {m:Str->Option Value},(∀ v,(x,v)∉binds)->bindL kindOf binds m x=m x
 | [],_,_=>rfl
 | (n,v) :: r,m,h=>by
  unfold bindL
  rw [zHo λw hw=>h w (cB _ hw)]
  split
  ·have:x≠n:=by rintro rfl; exact h v cD
   simp [this]
  ·rfl
theorem zHq {kindOf:Str->Option NameKind} {x:Str}:∀ {binds:List (Str × Value)} {m:Str->Option Value},(∀ v,(x,v)∉binds)->bindC kindOf binds m x=m x
 | [],_,_=>rfl
 | (n,v) :: r,m,h=>by
  unfold bindC
  rw [zHq λw hw=>h w (cB _ hw)]
  split
  ·rfl
  ·have:x≠n:=by rintro rfl; exact h v cD
   simp [this]
theorem zHp {kindOf:Str->Option NameKind} {x:Str} {v:Value}:∀ {P:List Str} {vs:List Value} {i:Nat} {m:Str->Option Value},P.Nodup->P[i]? = some x->vs[i]? = some v->kindOf x=some .local->
  bindL kindOf (P.zip vs) m x=some v
 | [],_,_,_,_,h,_,_=>by simp at h
 | _ :: _,[],_,_,_,_,h,_=>by simp at h
 | p :: P,w :: vs,0,m,nd,h1,h2,hk=>by
  simp at h1 h2; subst h1; subst h2
  show bindL kindOf ((p,w) :: P.zip vs) m p=_
  unfold bindL
  rw [zHo λv hv=>(fP.mp nd).1 (dG hv).1,if_pos hk]
  simp
 | p :: P,w :: vs,i + 1,m,nd,h1,h2,hk=>by
  show bindL kindOf ((p,w) :: P.zip vs) m x=_
  unfold bindL
  exact zHp (i:=i) (fP.mp nd).2 (by simpa using h1) (by simpa using h2) hk
theorem zHr {kindOf:Str->Option NameKind} {x:Str} {v:Value}:∀ {P:List Str} {vs:List Value} {i:Nat} {m:Str->Option Value},P.Nodup->P[i]? = some x->vs[i]? = some v->kindOf x≠some .local->
  bindC kindOf (P.zip vs) m x=some v
 | [],_,_,_,_,h,_,_=>by simp at h
 | _ :: _,[],_,_,_,_,h,_=>by simp at h
 | p :: P,w :: vs,0,m,nd,h1,h2,hk=>by
  simp at h1 h2; subst h1; subst h2
  show bindC kindOf ((p,w) :: P.zip vs) m p=_
  unfold bindC
  rw [zHq λv hv=>(fP.mp nd).1 (dG hv).1,if_neg hk]
  simp
 | p :: P,w :: vs,i + 1,m,nd,h1,h2,hk=>by
  show bindC kindOf ((p,w) :: P.zip vs) m x=_
  unfold bindC
  exact zHr (i:=i) (fP.mp nd).2 (by simpa using h1) (by simpa using h2) hk
def yC (N:List Str) (vs:List V):St:=vs.map some++cG (N.length - vs.length) none
def zc (CX:vg) (P:Program) (w:World) (K:b') (mg:Str->Option Value) (base:Heap) (N:List Str) (qual:Str) (scope:Scope) (f:Addr) (cd:Value) (A:Around) (outer:List Env) (s:Shared) (H:Hp) (E:XK):Cx where
 prog:=P
 w:=w
 K:=K
 mg:=mg
 base:=base
 A:=A.deeper (envOfC qual scope s.heap.objs.size f cd)
 N:=N
 s₀:=s
 H₀:=H
 env:=envOfC qual scope s.heap.objs.size f cd
 outer:=outer
 stack:=envOfC qual scope s.heap.objs.size f cd :: outer
 ex:=[]
 calm:=true
 fn:=λ_=>true
 pn:=[]
 xe:=λe s'=>wpAny (model P w) (A.deeper (envOfC qual scope s.heap.objs.size f cd)) (leaving (envOfC qual scope s.heap.objs.size f cd) e) (λ_ s''=>CX outer H s E e s'') (λe' s''=>CX outer H s E e' s'') s'
theorem zJS {sc:Scope} {n:Nat} {x:Str} (h:sc.names.lookup x=some .cell):∃ c,(cellsFrom n sc.names []).lookup x=some c:=by
 have q:=d9 sc.names n [] (.inl h)
 exact eA.mp q
theorem zLY {CX:vg} {P:Program} {w:World} {K:b'} {mg:Str->Option Value} {base:Heap} {N ps:List Str} {qual:Str} {scope:Scope} {f:Addr} {cd:Value} {A:Around} {outer:List Env} {s s1:Shared} {H:Hp} {E:XK} {us:List Value} {vs:List V}
  (S:ze N ps scope) (hd:A.handled=none) (e0:xo P w K mg base A outer s H) (hl:vs.length=ps.length) (r:zK vs us)
  (x:InCallC s s.heap.objs.size (bindL (envOfC qual scope s.heap.objs.size f cd).kindOf (ps.zip us) λ_=>none) (cellsFrom (s.heap.objs.size + 1) scope.names []) (bindC (envOfC qual scope s.heap.objs.size f cd).kindOf (ps.zip us) λ_=>none) s1) :
  zE (zc CX P w K mg base N qual scope f cd A outer s H E) [] (yC N vs) H s1:=by
 have hpl:ps.length<=N.length:=by have:=congrArg im S.pre; rw [cI] at this; omega
 obtain ⟨h1,tk,rfl,hk⟩:=x.done
 have noA:∀ b:Addr,b∉(zc CX P w K mg base N qual scope f cd A outer s H E).ex:=λb z=>absurd (show b∈([]:List Addr) from z) (by simp)
 refine ⟨⟨e0.mod,S.kind,rfl,rfl,cF _,λy z c h1 h2=>?_,λy hy=>?_,λy c _ h=>?_,λ_=>hd,Around.frames_deeper e0.frames,.inr ⟨rfl,rfl⟩,λb z=>absurd z (noA b),e0.bs,e0.bsz,λb _ _=>noA b,λb z=>absurd z (noA b),e0.funs,e0.frf⟩,
  rfl,e0.bare,Un.kept hk,⟨_,x.toInCall.ns,λi y v h1 h2 h3=>?_⟩,λy c h=>⟨_,x.cell y c h⟩,e0.hok.fresh (cF _),λy c h=>?_,λp hp=>absurd (show p∈([]:List (Addr × Obj)) from hp) (by simp),e0.hok.kept hk,?_⟩
 ·exact name_of_addr x.apart (PySem.mem_of_lookup h1) (PySem.mem_of_lookup h2)
 ·have hy:scope.names.lookup y=some .cell\/scope.names.lookup y=some .free:=hy
  rcases hy with hy | hy
  ·exact zJS hy
  ·exact absurd rfl (S.nofree _ (PySem.mem_of_lookup hy))
 ·exact iz (x.above y c (PySem.mem_of_lookup h))
 ·have hi:i < vs.length:=by
   unfold yC at h2
   by_cases hi:i < vs.length
   ·exact hi
   ·rw [dB (by simpa using hi)] at h2
    rw [List.getElem?_replicate] at h2
    split at h2 <;> cases h2
  have ha:vs[i]? = some v:=by
   unfold yC at h2
   rw [eh (by simpa using hi),db] at h2
   cases e:vs[i]? with
   | none=>rw [e] at h2; cases h2
   | some a=>rw [e] at h2; cases h2; rfl
  obtain ⟨u,hu,rv⟩:=r.get ha
  have hp:ps[i]? = some y:=by
   rw [<- S.pre,fK (by omega)]; exact h1
  have ndP:ps.Nodup:=by rw [<- S.pre]; exact S.nd.sublist (List.take_sublist _ _)
  refine ⟨u,rv,?_⟩
  rcases S.par y (dm hp) with k | k
  ·exact .inl ⟨k,zHp ndP hp hu k⟩
  ·obtain ⟨c,e⟩:=zJS (n:=s.heap.objs.size + 1) k
   refine .inr ⟨.inl k,c,e,?_⟩
   have q:=x.cell y c e
   rw [zHr ndP hp hu (by show scope.names.lookup y≠_; rw [k]; decide)] at q
   exact q
 ·exact e0.hok.fresh (iz (x.above y c (PySem.mem_of_lookup h)))
 ·unfold yC
  show _=N.length
  rw [cA,a_,eS]
  omega
theorem X0 {CX:vg} {P:Program} {w:World} {K:b'} {mg:Str->Option Value} {base:Heap} {k:Nat} {f:Addr} {name qual:Str} {params:Arguments} {body:List Stmt} {scope:Scope} {dV kV doc pm cdv ct oc:Value} {an od:Option Addr}
  {osl:Array (Option Value)} {N ps:List Str} {sp:Sp} (lk:K.lookup f=some ⟨oc,od,.func (eD name qual params body scope dV kV doc pm an cdv ct),osl⟩) (hcd:hW K cdv qual=true) (S:ze N ps scope)
  (len:∀ vs H Q E,sp vs H Q E->vs.length=ps.length)
  (hbody:∀ (A:Around) (outer:List Env) (s:Shared) (H:Hp) (vs:List V) (Q:VK) (E:XK),zU k (A.deeper (envOfC qual scope s.heap.objs.size f cdv))->sp vs H Q E->
   ∃ t,yk (zc CX P w K mg base N qual scope f cdv A outer s H E) body t/\t { nx:=λ_ H'=>Q .non H',rt:=Q } (yC N vs) H) :
  zF P w K mg base CX (k + 1) f (eD name qual params body scope dV kV doc pm an cdv ct) ps sp:=by
 refine ⟨len,λA outer s H args us vs Q E hr e0 hb r hsp=>?_⟩
 have hl:=len _ _ _ _ hsp
 have KX:K.In s.heap:=e0.mod.kin.keeps λb o e=>(e0.bs b o e).1
 have lim:s.heap.NoLimit:=e0.mod.nolimit.keeps λb o e=>(e0.bs b o e).1
 have hkind:∀ y∈ps.zip us,scope.names.lookup y.1=some .local\/(scope.names.lookup y.1=some .cell/\((cellsFrom (s.heap.objs.size + 1) scope.names []).lookup y.1).isSome=true):=λ⟨n,v⟩ hy=>by
  rcases S.par n (dG hy).1 with q | q
  ·exact .inl q
  ·exact .inr ⟨q,d9 _ _ _ (.inl q)⟩
 refine codeAny_call_function hr.depth (KX _ _ lk) rfl S.co S.gen rfl (PySem.W.codeRec_of KX hcd) (hb _ _ _ _ ?_)
 refine wpAny_newFunctionEnv_cells S.kind hkind λenv he s1 x=>?_
 subst he
 refine ⟨lim.keeps x.toInCall.keep,codeAny_func ?_⟩
 obtain ⟨t,ht,hq⟩:=hbody A outer s H vs Q E (hr.deeper _) hsp
 have I:zE (zc CX P w K mg base N qual scope f cdv A outer s H E) [] (yC N vs) H s1:=zLY S hr.hd e0 hl r x
 refine wpAny_mono (ht [] s1 (yC N vs) H _ I hq) (λfl s' hs=>?_) λe s' hs=>hs
 have fin:∀ {σ':St} {H':Hp} {v:V} {u:Value},zE (zc CX P w K mg base N qual scope f cdv A outer s H E) [] σ' H' s'->zT v u->Q v H'->CE outer P w H s Q u s':=
  λ{σ' H' v u} J rv q=>⟨v,H',J.os,J.bare,J.base,J.hok,rv,q⟩
 cases fl with
 | ret u=>
  obtain ⟨v,σ',H',J,rv,q⟩:=hs
  exact fin J rv q
 | next=>
  obtain ⟨σ',H',J,q⟩:=hs
  exact fin (v:=V.non) (u:=Value.none) J rfl q
 | brk=>
  obtain ⟨_,_,_,q⟩:=hs
  exact False.elim q
 | cont=>
  obtain ⟨_,_,_,q⟩:=hs
  exact False.elim q
end L2
namespace L2
open PySem PySem.Spec PyProof.Rows
section
variable {X:Cx} {x:Str} {p pos:Pos} {e:Expr} {es:List Expr} {t:TA} {id T:String} {r:List V->Hp->VK->Prop}
def ZM (r:List V->Hp->VK->Prop) (t:TA):TE:=λσ H Q=>t σ H λvs H1=>r vs H1 Q
theorem vh (hc:wu X (.builtin id) r) (hg:Gl X x) (hm:X.mg x=none) (hv:bootBuiltins x=some (.builtin id)) (ha:PA X (e :: es) t) (hn:x≠"__name__":=by decide) (hdb:(x == ("__debug__" : Str))=false:=by decide)
  (he:starEach (e :: es) X.env=(false,eval e X.env) :: starEach es X.env:=by rfl) (hpl:(backTo pos (starEach es X.env)).any (·.1)=false:=by rfl):PE X (.Call (.Name x p) (e :: es) [] pos) (ZM r t):=by
 intro pins s σ H Q I h
 refine wpAny_Call_Name_kw (j5 I hg hm hv ?_ hn hdb)
 exact PyProof.Rows.callWith_builtin1 (zj (ha pos pins s σ H _ I h) λus s1 ⟨vs,H1,I1,r1,q1⟩=>hc pins s1 σ H1 vs us Q I1 r1 q1) he hpl
theorem X1 (hc:wu X (.type T) r) (hg:Gl X x) (hm:X.mg x=none) (hv:bootBuiltins x=some (.type T)) (ha:PA X (e :: es) t) (hn:x≠"__name__":=by decide) (hdb:(x == ("__debug__" : Str))=false:=by decide)
  (he:starEach (e :: es) X.env=(false,eval e X.env) :: starEach es X.env:=by rfl) (hpl:(backTo pos (starEach es X.env)).any (·.1)=false:=by rfl):PE X (.Call (.Name x p) (e :: es) [] pos) (ZM r t):=by
 intro pins s σ H Q I h
 refine wpAny_Call_Name_kw (j5 I hg hm hv ?_ hn hdb)
 exact PyProof.Rows.callWith_type1 (zj (ha pos pins s σ H _ I h) λus s1 ⟨vs,H1,I1,r1,q1⟩=>hc pins s1 σ H1 vs us Q I1 r1 q1) he hpl
end
end L2
namespace HT
open PySem PyProof.Rows
section
variable {prog:Program} {w:World} {A:Around} {E:Value->Shared->Prop} {s:Shared}
theorem cat_tup {t b:Addr} {vs ws:List Value} {Q:Value->Shared->Prop} (ht:IsTup s.heap t vs.toArray) (hb:IsTup s.heap b ws.toArray) (hv:vs≠[])
  (h1:ws=[]->Q (.ref t) s) (h2:ws≠[]->Q (.ref s.heap.objs.size) { s with heap:=s.heap.push { cls:=.type "tuple",data:=.seq (vs++ws).toArray } })
  (hsz:vs.length + ws.length<=sizeLine):wpAny (model prog w) A (binaryOp .Add (.ref t) (.ref b)) Q E s:=by
 obtain ⟨⟨cls,dd,data,sl⟩,ho,hc,n,hd⟩:=id ht
 obtain ⟨⟨cls2,dd2,data2,sl2⟩,ho2,hc2,n2,hd2⟩:=id hb
 simp only at hc hd hc2 hd2
 subst hc hd hc2 hd2
 have e:vs.toArray++ws.toArray=(vs++ws).toArray:=by simp
 by_cases hw:ws=[]
 ·exact concat_meets ⟨_,ho,rfl⟩ ⟨_,ho2,rfl⟩ noFill_tuple_add seq_tuple_add f7 fQ (fL _ _)
   (tuple_addW1 t b vs.toArray ws.toArray n n2 dd dd2 sl sl2 (by simpa using hv) (by simp [hw])) ⟨ho,ho2,h1 hw⟩
 ·refine concat_meets ⟨_,ho,rfl⟩ ⟨_,ho2,rfl⟩ noFill_tuple_add seq_tuple_add f7 fQ (fL _ _)
   (tuple_addW2 t b vs.toArray ws.toArray n n2 dd dd2 sl sl2 (by simpa using hv) (by simpa using hw) (by rw [cM,cM]; exact hsz)) ⟨ho,ho2,?_⟩
  rw [e]
  exact h2 hw
def sIx (n d:Nat):Option Int->Nat
 | none=>d
 | some v=>if v < 0 then (v + (n:Int)).toNat else min v.toNat n
theorem sIx_none (n d:Nat):sIx n d none=d:=rfl
theorem sIx_nat (n d k:Nat):sIx n d (some (k:Int))=min k n:=by
 show (if (k:Int) < 0 then ((k:Int) + (n:Int)).toNat else min (k:Int).toNat n)=min k n
 rw [if_neg (by omega),f_]
theorem zQV (n d:Nat) (hd:d<=n) (o:Option Int):sIx n d o<=n:=by
 cases o with
 | none=>exact hd
 | some v=>
  show (if v < 0 then (v + (n:Int)).toNat else min v.toNat n)<=n
  by_cases hv:v < 0
  ·rw [if_pos hv]; omega
  ·rw [if_neg hv]; exact Nat.min_le_right _ _
theorem zL2 (v:Int) (n d:Nat):(if v < 0 then max (v + (n:Int)) 0 else min v (n:Int))=((sIx n d (some v):Nat):Int):=by
 show (if v < 0 then max (v + (n:Int)) 0 else min v (n:Int))=(((if v < 0 then (v + (n:Int)).toNat else min v.toNat n):Nat):Int)
 by_cases hv:v < 0
 ·simp only [if_pos hv]; omega
 ·simp only [if_neg hv]; omega
theorem zKC (lo hi:Option Int) (n:Nat):Builtin.Slice.sliceAdjust lo hi 1 (n:Int)=(((sIx n 0 lo:Nat):Int),((sIx n n hi:Nat):Int)):=by
 have h1:¬ ((1:Int) < 0):=by omega
 unfold Builtin.Slice.sliceAdjust
 simp only [h1,if_false]
 refine Prod.ext ?_ ?_
 ·cases lo with
  | none=>rfl
  | some v=>exact zL2 v n 0
 ·cases hi with
  | none=>rfl
  | some v=>exact zL2 v n n
theorem zJn (i j:Nat):Builtin.Slice.slicePlaces (i:Int) (j:Int) 1=j - i:=by
 unfold Builtin.Slice.slicePlaces
 have h1:(1:Int) > 0:=by omega
 simp only [h1,if_true,Int.ediv_one]
 split <;> omega
theorem zFv {v:Value} {o:Option Int} {Q:Option Int->Shared->Prop} (p:IsPart v o) (h:Q o s):wpAny (model prog w) A (Builtin.Slice.slicePartIndex v) Q E s:=by
 cases p with
 | none=>exact slicePart_none h
 | int i t=>exact slicePart_int h
theorem zCv {sl:Addr} {vl vu:Value} {lo hi:Option Int} {n:Nat} {Q:Int × Int × Nat->Shared->Prop} (hs:s.heap.IsSliceOf sl vl vu .none) (pl:IsPart vl lo) (pu:IsPart vu hi)
  (h:Q (((sIx n 0 lo:Nat):Int),1,sIx n n hi - sIx n 0 lo) s):wpAny (model prog w) A (Builtin.Slice.sliceApplied (.ref sl) (pure (n:Int))) Q E s:=by
 obtain ⟨os,hos,hcs,hds⟩:=id hs
 unfold Builtin.Slice.sliceApplied Builtin.Slice.sliceFields
 refine wpAny_bind (wpAny_bind (wpAny_field hos hds (x:=vl) rfl (wpAny_bind (wpAny_field hos hds (x:=vu) rfl (wpAny_bind (wpAny_field hos hds (x:=.none) rfl (wpAny_pure ?_)))))))
 refine wpAny_bind (slicePart_none ?_)
 show wpAny _ _ (if ((1:Int) == 0)=true then _ else _) _ _ s
 rw [if_neg (by decide)]
 refine wpAny_bind (zFv pl (wpAny_bind (zFv pu (wpAny_bind (wpAny_pure ?_)))))
 show wpAny _ _ (match Builtin.Slice.sliceAdjust lo hi 1 (n:Int) with | (lo,hi)=>pure (lo,(1:Int),Builtin.Slice.slicePlaces lo hi 1)) _ _ s
 rw [zKC lo hi n]
 show wpAny _ _ (pure (((sIx n 0 lo:Nat):Int),(1:Int),Builtin.Slice.slicePlaces ((sIx n 0 lo:Nat):Int) ((sIx n n hi:Nat):Int) 1)) _ _ s
 rw [zJn]
 exact wpAny_pure h
theorem zMp (xs:Array Value) (i k:Nat):((cR k).filterMap λ(m:Nat)=>xs[((i:Int) + (m:Int) * 1).toNat]?).toArray=((xs.toList.drop i).take k).toArray:=by
 have e:(λ(m:Nat)=>xs[((i:Int) + (m:Int) * 1).toNat]?)=λm=>xs[i + m]?:=by
  funext m
  have:((i:Int) + (m:Int) * 1).toNat=i + m:=by omega
  rw [this]
 rw [e]
 have:=pick_run xs i k
 rw [List.filterMap_map] at this
 have e2:((λx=>xs[x]?) ∘ λx=>i + x)=λm=>xs[i + m]?:=rfl
 rw [e2] at this
 rw [this]
theorem getItem_tuple_cut {t sl:Addr} {items:Array Value} {vl vu:Value} {lo hi:Option Int} {Q:Value->Shared->Prop} (ht:IsTup s.heap t items) (hs:s.heap.IsSliceOf sl vl vu .none) (pl:IsPart vl lo) (pu:IsPart vu hi)
  (hw:¬ (sIx items.size 0 lo=0/\sIx items.size items.size hi=items.size))
  (h:Q (.ref s.heap.objs.size) { s with heap:=s.heap.push { cls:=.type "tuple",data:=.seq ((items.toList.drop (sIx items.size 0 lo)).take (sIx items.size items.size hi - sIx items.size 0 lo)).toArray } })
  (hsz:items.size<=sizeLine):wpAny (model prog w) A (getItem (.ref t) (.ref sl)) Q E s:=by
 have htake:sizeOk (.seq ((items.toList.drop (sIx items.size 0 lo)).take (sIx items.size items.size hi - sIx items.size 0 lo)).toArray):=by
  show ((items.toList.drop (sIx items.size 0 lo)).take (sIx items.size items.size hi - sIx items.size 0 lo)).toArray.size<=sizeLine
  rw [cM,cI,d8,d_]
  omega
 have hj:sIx items.size items.size hi<=items.size:=zQV _ _ (cF _) hi
 obtain ⟨os,hos,hcs,hds⟩:=id hs
 have hTs:s.TypeIs (.ref sl) "slice":=⟨os,hos,hcs⟩
 unfold getItem
 try with_reducible refine wpAny_holding ?_
 first | refine wpAny_bind (wpAny_pure ?_) | skip
 refine wpAny_bind (wpAny_sequenceKey ht.typeIs (by decide) ?_)
 refine wpAny_bind (wpAny_callSpecial?_slot (name:=dD "__getitem__") ht.typeIs PyProof.Rows.slot_tuple_getitem
  (wpAny_call_entry PyProof.Rows.slot_tuple_getitem ht.typeIs entry_tuple_getitem ?_ (args_tuple_getitem _ _)))
 show wpAny _ _ (Builtin.Tuple.tupleItemsOf (.ref t) >>= _) _ _ s
 refine wpAny_bind (tupleItemsOf_ ht ?_)
 refine wpAny_bind (wpAny_typeOf hTs ?_)
 rw [if_pos (by decide)]
 refine wpAny_bind (zCv hs pl pu ?_)
 have hno:¬ ((((sIx items.size 0 lo:Nat):Int) == 0 && (1:Int) == 1 && (sIx items.size items.size hi - sIx items.size 0 lo) == items.size)=true):=by
  intro q
  rw [eQ,eQ] at q
  have q1:((sIx items.size 0 lo:Nat):Int)=0:=eq_of_beq q.1.1
  have q2:sIx items.size items.size hi - sIx items.size 0 lo=items.size:=eq_of_beq q.2
  exact hw ⟨by omega,by omega⟩
 show wpAny _ _ (if (((sIx items.size 0 lo:Nat):Int) == 0 && (1:Int) == 1 && (sIx items.size items.size hi - sIx items.size 0 lo) == items.size)=true then _ else _) _ _ s
 rw [if_neg hno,zMp]
 first
  | exact wpAny_bind (m:=Builtin.Tuple.tupleExact _) (wpAny_newObj_type (wpAny_pure ⟨_,rfl,wpAny_pure h⟩) htake)
  | exact wpAny_bind (m:=Builtin.Tuple.tupleExact _) (wpAny_newObj_type (wpAny_bind (wpAny_pure (wpAny_pure ⟨_,rfl,wpAny_pure h⟩))) htake)
  | exact wpAny_bind (wpAny_bind (m:=Builtin.Tuple.tupleExact _) (wpAny_newObj_type (wpAny_pure (wpAny_pure ⟨_,rfl,wpAny_pure h⟩)) htake))
  | exact wpAny_bind (wpAny_bind (m:=Builtin.Tuple.tupleExact _) (wpAny_newObj_type (wpAny_pure ⟨_,rfl,wpAny_pure h⟩) htake))
end
end HT
namespace L2
open PySem PySem.Spec PyProof.Rows
abbrev TO:=St->Hp->(Option Int->Hp->Prop)->Prop
def PO (X:Cx) (e:Option Expr) (t:TO):Prop:=
 ∀ (pins:List (Addr × Obj)) (s:Shared) (σ:St) (H:Hp) (Q:Option Int->Hp->Prop),zE X pins σ H s->t σ H Q->
  wpAny (model X.prog X.w) X.A (evalPart e X.env) (λu s'=>∃ o H',zE X pins σ H' s'/\IsPart u o/\Q o H') X.xe s
def zOa:TO:=λ_ H Q=>Q none H
def ZN (t:TE):TO:=λσ H Q=>t σ H λx H1=>∃ i,x=.int i/\Q (some i) H1
section
variable {X:Cx} {e:Expr} {te:TE} {lo hi:Option Expr} {tl th:TO} {pos p2:Pos}
theorem zOv:PO X none zOa:=by
 intro pins s σ H Q I h
 rw [evalPart_none]
 exact wpAny_pure ⟨none,H,I,.none,h⟩
theorem zOu (h:PE X e te):PO X (some e) (ZN te):=by
 intro pins s σ H Q I hw
 rw [evalPart_some]
 refine zj (h pins s σ H _ I hw) λu s1 ⟨x,H1,I1,r1,q1⟩=>?_
 obtain ⟨i,rfl,q⟩:=q1
 obtain ⟨t,rfl⟩:=r1
 exact ⟨some i,H1,I1,.int i t,q⟩
def qm (X:Cx) (r:V->Option Int->Option Int->Hp->VK->Prop):Prop:=
 ∀ (pins:List (Addr × Obj)) (s:Shared) (σ:St) (H:Hp) (x:V) (v vl vu:Value) (lo hi:Option Int) (sl:Addr) (Q:VK),zE X pins σ H s->zT x v->s.heap.IsSliceOf sl vl vu .none->IsPart vl lo->IsPart vu hi->r x lo hi H Q->
  ∃ T id,typeLookup (.type T) "__getitem__" = pure (some (.builtin id))/\s.TypeIs v T/\wpAny (model X.prog X.w) X.A (getItem v (.ref sl)) (EP X pins σ Q) X.xe s
def tSl (r:V->Option Int->Option Int->Hp->VK->Prop) (te:TE) (tl th:TO):TE:=λσ H Q=>te σ H λx H1=>tl σ H1 λl H2=>th σ H2 λu H3=>r x l u H3 Q
theorem zMr {r:V->Option Int->Option Int->Hp->VK->Prop} (hr:qm X r) (he:PE X e te) (hl:PO X lo tl) (hu:PO X hi th):PE X (.Subscript e (.Slice lo hi none p2) pos) (tSl r te tl th):=by
 intro pins s σ H Q I h
 refine Subscript_ (zj (he pins s σ H _ I h) λv s1 ⟨x,H1,I1,r1,q1⟩=>?_)
 refine wpAny_Slice (zj (hl pins s1 σ H1 _ I1 q1) λvl s2 ⟨l,H2,I2,pl,q2⟩=>zj (hu pins s2 σ H2 _ I2 q2) λvu s3 ⟨u,H3,I3,pu,q3⟩=>?_)
 rw [evalPart_none]
 refine wpAny_pure ?_
 have I4:zE X pins σ H3 { s3 with heap:=s3.heap.push { cls:=.type "slice",data:=.fields #[vl,vu,.none] } }:=I3.kept (t':=s3.toks) λb ob q=>cE _ q
 obtain ⟨T,id,hT,ht,hg⟩:=hr pins { s3 with heap:=s3.heap.push { cls:=.type "slice",data:=.fields #[vl,vu,.none] } } σ H3 x v vl vu l u s3.heap.objs.size Q I4 r1 (Heap.IsSliceOf.new ..) pl pu q3
 show wpAny (model X.prog X.w) X.A (subscriptTail e (.Slice lo hi none p2) v (.ref s3.heap.objs.size)) (EP X pins σ Q) X.xe { s3 with heap:=s3.heap.push { cls:=.type "slice",data:=.fields #[vl,vu,.none] } }
 exact tail_any (ops:=[.ref s3.heap.objs.size,v]) ht hT hg (by with_unfolding_all rfl)
def wv (xs:List V) (lo hi:Option Int):List V:=(xs.drop (HT.sIx xs.length 0 lo)).take (HT.sIx xs.length xs.length hi - HT.sIx xs.length 0 lo)
theorem zFb (xs:List V) (lo hi:Option Int):(wv xs lo hi).length<=xs.length:=by
 unfold wv
 rw [cI,d8]
 omega
def Ud (K:b'):V->Option Int->Option Int->Hp->VK->Prop:=λx lo hi H Q=>∃ a xs,x=.ref a/\ym K H a xs∧
 ¬ (HT.sIx xs.length 0 lo=0/\HT.sIx xs.length xs.length hi=xs.length)/\∀ p,H p=none->Q (.ref p) (za H p (.tup (wv xs lo hi)))
theorem zQU:qm X (Ud X.K):=by
 intro pins s σ H x v vl vu lo hi sl Q I rx hs pl pu h
 obtain ⟨a,xs,rfl,hx,hw,q⟩:=h
 cases rx
 obtain ⟨its,r,ht,hz⟩:=I.tuple hx
 have hlen:its.toArray.size=xs.length:=by rw [cM]; exact r.length.symm
 refine ⟨"tuple",_,PyProof.Rows.slot_tuple_getitem.lookup,ht.typeIs,?_⟩
 refine HT.getItem_tuple_cut ht hs pl pu (by rw [hlen]; exact hw) ?_ (by rw [hlen]; exact hz)
 rw [hlen]
 refine ⟨.ref s.heap.objs.size,_,I.laid (t':=s.toks) (o:=.tup (wv xs lo hi)) (λb ob q=>cE _ q) (cF _) ?_,rfl,q _ (I.hok.fresh (cF _))⟩
 exact ⟨dM (zFb xs lo hi) hz,_,(r.drop (HT.sIx xs.length 0 lo)).take (HT.sIx xs.length xs.length hi - HT.sIx xs.length 0 lo),IsTup.new _ _⟩
def ZO (K:b'):R2:=λx y H Q=>∃ a b xs ys,x=.ref a/\y=.ref b/\ym K H a xs/\ym K H b ys/\xs≠[]/\xs.length + ys.length<=sizeLine∧
 (ys=[]->Q (.ref a) H)/\(ys≠[]->∀ p,H p=none->Q (.ref p) (za H p (.tup (xs++ys))))
theorem zK.nil_iff {xs:List V} {us:List Value} (r:zK xs us):us=[] ↔ xs=[]:=by
 cases r with
 | nil=>simp
 | cons _ _=>simp
theorem zO8:y8 X (binaryOp .Add) (ZO X.K):=by
 intro pins s σ H x y v u Q I rx ry h
 obtain ⟨a,b,xs,ys,rfl,rfl,ha,hb,hx,hz,q1,q2⟩:=h
 cases rx
 cases ry
 obtain ⟨its,r1,p1,_⟩:=I.tuple ha
 obtain ⟨its2,r2,p2,_⟩:=I.tuple hb
 refine HT.cat_tup p1 p2 (λz=>hx (r1.nil_iff.mp z)) (λz=>⟨.ref a,H,I,rfl,q1 (r2.nil_iff.mp z)⟩) (λz=>?_) (by rw [<- r1.length,<- r2.length]; exact hz)
 refine ⟨.ref s.heap.objs.size,_,I.laid (t':=s.toks) (o:=.tup (xs++ys)) (λb ob q=>cE _ q) (cF _) ?_,rfl,q2 (λw=>z (r2.nil_iff.mpr w)) _ (I.hok.fresh (cF _))⟩
 exact ⟨by rw [cA]; exact hz,_,r1.append r2,IsTup.new _ _⟩
end
end L2
namespace L2
open PySem PySem.Spec PyProof.Rows
def xj (n:Nat) (i:Int):Option Nat:=if 0<=i then (if i < n then some i.toNat else none) else if -(n:Int)<=i then some (i + n).toNat else none
def y3 {α:Type} (xs:List α) (i:Int):Option α:=(xj xs.length i).bind λj=>xs[j]?
theorem X2 {n:Nat} {i:Int} {j:Nat} (h:xj n i=some j):seqIndex? i n=some j/\j < n/\-(n:Int)<=i/\i < n:=by
 unfold xj at h
 by_cases h0:0<=i
 ·rw [if_pos h0] at h
  by_cases h1:i < n
  ·rw [if_pos h1] at h
   have e:i.toNat=j:=Option.some.inj h
   exact ⟨by rw [seqIndex_of h0 h1,e],by omega,by omega,h1⟩
  ·rw [if_neg h1] at h; cases h
 ·rw [if_neg h0] at h
  by_cases h1 : -(n:Int)<=i
  ·rw [if_pos h1] at h
   have e:(i + n).toNat=j:=Option.some.inj h
   exact ⟨by rw [seqIndex_neg (by omega) h1,e],by omega,h1,by omega⟩
  ·rw [if_neg h1] at h; cases h
theorem zMD {α:Type} {xs:List α} {i:Int} {v:α} (h:y3 xs i=some v):∃ j,seqIndex? i xs.length=some j/\xs[j]? = some v/\j < xs.length/\-(xs.length:Int)<=i/\i < xs.length:=by
 unfold y3 at h
 cases e:xj xs.length i with
 | none=>rw [e] at h; cases h
 | some j=>
  rw [e] at h
  obtain ⟨h1,h2,h3,h4⟩:=X2 e
  exact ⟨j,h1,h,h2,h3,h4⟩
theorem zP0 {α:Type} {xs:List α} {j:Nat} {v:α} (h:xs[j]? = some v):y3 xs (j:Int)=some v:=by
 have hj:j < xs.length:=(cK.mp h).1
 have e:xj xs.length (j:Int)=some j:=by
  unfold xj
  rw [if_pos (by omega),if_pos (by omega)]; simp
 unfold y3; rw [e]; exact h
def X3 (b:Expr):Prop:=∀ o i,subscripted b false o i=operate [o,i] (getItem o i)
def X4 (X:Cx) (r:R2):Prop:=
 ∀ (value slice:Expr) (pins:List (Addr × Obj)) (s:Shared) (σ:St) (H:Hp) (x y:V) (v u:Value) (Q:VK),zE X pins σ H s->zT x v->zT y u->r x y H Q->
  subscripted slice false v u=operate [v,u] (getItem v u)->wpAny (model X.prog X.w) X.A (subscriptTail value slice v u) (EP X pins σ Q) X.xe s
def MtR (X:Cx) (id:String) (r:V->List V->Hp->VK->Prop):Prop:=
 ∀ (pins:List (Addr × Obj)) (s:Shared) (σ:St) (H:Hp) (x:V) (xs:List V) (v:Value) (us:List Value) (Q:VK),zE X pins σ H s->zT x v->zK xs us->r x xs H Q->
  wpAny (model X.prog X.w) X.A (call (.builtin id) (v :: us)) (EP X pins σ Q) X.xe s
section
variable {X:Cx} {a b:Expr} {ta tb:TE} {pos:Pos}
theorem Ue {r:R2} (hr:X4 X r) (ha:PE X a ta) (hb:PE X b tb) (hs:X3 b):PE X (.Subscript a b pos) (qf r ta tb):=by
 intro pins s σ H Q I h
 exact Subscript_ (qg ha hb I h λv u s2 x y H2 I2 rx ry q=>hr a b pins s2 σ H2 x y v u Q I2 rx ry q (hs _ _))
def ZP (K:b'):R2:=λx y H Q=>∃ p xs i v,x=.ref p/\y=.int i/\zl K H p xs/\y3 xs i=some v/\Q v H
def Uf (K:b'):R2:=λx y H Q=>∃ p xs i v,x=.ref p/\y=.int i/\ym K H p xs/\y3 xs i=some v/\Q v H
theorem Ug:X4 X (ZP X.K):=by
 intro value slice pins s σ H x y v u Q I rx ry h hs
 obtain ⟨p,xs,i,z,rfl,rfl,hq,he,q⟩:=h
 cases rx
 obtain ⟨t,rfl⟩:=ry
 obtain ⟨its,r,pl,hz⟩:=I.list hq
 obtain ⟨j,h1,h2,h3,h4,h5⟩:=zMD he
 obtain ⟨w,ew,rw'⟩:=r.get h2
 have hl:=r.length
 have hn:=ZI
 have fin:EP X pins σ Q w s:=⟨z,H,I,rw',q⟩
 by_cases h0:0<=i
 ·have hj:i.toNat=j:=by
   rw [seqIndex_of h0 h5] at h1
   exact Option.some.inj h1
  exact item_listR pl.isList h0 (by omega) (by rw [hj]; simpa using ew) fin hs
 ·have hj:(i + (its.toArray.size:Int)).toNat=j:=by
   rw [seqIndex_neg (by omega) h4] at h1
   rw [cM,<- hl]
   exact Option.some.inj h1
  exact subscriptTail_builtinR (x:=w) pl.isList.typeIs slot_list_getitem.lookup
   (wpAny_getItem_list_neg (Q:=λr s'=>r=w/\EP X pins σ Q r s') pl.isList (by omega) (by rw [cM] <;> omega) (by omega) (by rw [hj]; simpa using ew) ⟨rfl,fin⟩) hs
theorem zRf:X4 X (Uf X.K):=by
 intro value slice pins s σ H x y v u Q I rx ry h hs
 obtain ⟨p,xs,i,z,rfl,rfl,hq,he,q⟩:=h
 cases rx
 obtain ⟨t,rfl⟩:=ry
 obtain ⟨its,r,pl,hz⟩:=I.tuple hq
 obtain ⟨j,h1,h2,h3,h4,h5⟩:=zMD he
 obtain ⟨w,ew,rw'⟩:=r.get h2
 have hl:=r.length
 have hn:=ZI
 have fin:EP X pins σ Q w s:=⟨z,H,I,rw',q⟩
 exact subscriptTail_builtinR (x:=w) pl.typeIs slot_tuple_getitem.lookup
  (getItem_tuple (j:=j) (Q:=λr s'=>r=w/\EP X pins σ Q r s') pl (by omega) (by omega) (by rw [cM,<- hl]; exact h1) (by simpa using ew) ⟨rfl,fin⟩) hs
theorem zJ0 (its:List Value) (n j:Nat) (u:Value):Obj.mapSeq (·.setIfInBounds j u) { cls:=.type "list",data:=.seq its.toArray n }={ cls:=.type "list",data:=.seq (its.set j u).toArray n }:=by
 simp [Obj.mapSeq]
theorem zE.lst {pins:List (Addr × Obj)} {σ:St} {H:Hp} {s:Shared} {p:Addr} {xs:List V} (I:zE X pins σ H s) (h:H p=some (.lst xs)) :
  ∃ (its:List Value) (n:Nat),zK xs its/\s.heap.get? p=some { cls:=.type "list",data:=.seq its.toArray n }/\xs.length<=sizeLine:=by
 obtain ⟨z,its,n,r,e⟩:=I.hok p _ h
 exact ⟨its,n,r,e,z⟩
theorem zE.lstUpd {pins:List (Addr × Obj)} {σ:St} {H:Hp} {s:Shared} {p:Addr} {xs ys:List V} {its its':List Value} {n n':Nat} {f:Obj->Obj} (I:zE X pins σ H s) (h:H p=some (.lst xs))
  (ho:s.heap.get? p=some { cls:=.type "list",data:=.seq its.toArray n }) (hf:f { cls:=.type "list",data:=.seq its.toArray n }={ cls:=.type "list",data:=.seq its'.toArray n' }) (r:zK ys its') (hz:ys.length<=sizeLine) (t:Nat) :
  zE X pins σ (za H p (.lst ys)) { s with heap:=s.heap.update p f,toks:=t }:=by
 have e:(s.heap.update p f).get? p=some { cls:=.type "list",data:=.seq its'.toArray n' }:=by
  rw [fA f ho (by rw [hf] <;> rfl),hf]
 refine I.write (x:=p) (e:=p) (by rw [h]; trivial) (.inl rfl) (λb u hb q=>(dE _ _ (Ne.symm hb)).trans q) ⟨_,e⟩ ?_
 exact ⟨hz,its',n',r,e⟩
def ZQ:V->V->V->Hp->(Hp->Prop)->Prop:=λo i v H Q=>∃ p xs k j,o=.ref p/\i=.int k/\H p=some (.lst xs)/\xj xs.length k=some j/\Q (za H p (.lst (xs.set j v)))
theorem zMY:qe X ZQ:=by
 intro pins s σ H o i v ov iv u Q I ro ri rv h
 obtain ⟨p,xs,k,j,rfl,rfl,hp,hj,q⟩:=h
 cases ro
 obtain ⟨t,rfl⟩:=ri
 obtain ⟨its,n,r,ho,hz⟩:=I.lst hp
 obtain ⟨h1,h2,h3,h4⟩:=X2 hj
 have hl:=r.length
 have hn:=ZI
 have I':zE X pins σ (za H p (.lst (xs.set j v))) { s with heap:=s.heap.update p (Obj.mapSeq (·.setIfInBounds j u)) }:=
  I.lstUpd hp ho (zJ0 its n j u) (r.set rv j) (by rw [dq]; exact hz) s.toks
 by_cases h0:0<=k
 ·have hk:k.toNat=j:=by
   rw [seqIndex_of h0 h4] at h1
   exact Option.some.inj h1
  exact PySem.W.ki_setAt ho h0 (by omega) (by rw [cM,<- hl]; exact h4) (by rw [hk]; exact ⟨_,I',q⟩)
 ·have hk:(k + (its.toArray.size:Int)).toNat=j:=by
   rw [seqIndex_neg (by omega) h3] at h1
   rw [cM,<- hl]
   exact Option.some.inj h1
  exact PySem.W.ki_setBack ho (by omega) (by rw [cM,<- hl]; exact h3) (by omega) (by rw [hk]; exact ⟨_,I',q⟩)
theorem zHB (lo hi:Option Int) (n:Nat):(sliceBounds lo hi none n).1=((HT.sIx n 0 lo:Nat):Int)/\(sliceBounds lo hi none n).2.1=((HT.sIx n n hi:Nat):Int)/\(sliceBounds lo hi none n).2.2=1:=by
 refine ⟨?_,?_,rfl⟩
 ·cases lo with
  | none=>simp [sliceBounds,HT.sIx]
  | some i=>
   simp only [sliceBounds,HT.sIx,mE,show (1:Int) > 0 by decide,if_true]
   by_cases h:i < 0
   ·simp only [h,if_true] <;> omega
   ·simp only [h,if_false] <;> omega
 ·cases hi with
  | none=>simp [sliceBounds,HT.sIx]
  | some i=>
   simp only [sliceBounds,HT.sIx,mE,show (1:Int) > 0 by decide,if_true]
   by_cases h:i < 0
   ·simp only [h,if_true] <;> omega
   ·simp only [h,if_false] <;> omega
theorem zGE (its:List Value) (lo hi:Option Int):slicePick its.toArray lo hi none=((its.drop (HT.sIx its.length 0 lo)).take (HT.sIx its.length its.length hi - HT.sIx its.length 0 lo)).toArray:=by
 obtain ⟨h1,h2,h3⟩:=zHB lo hi its.toArray.size
 unfold slicePick
 rw [h1,h2,h3]
 simp only [sliceRange_one,pick_run,cM] <;> rfl
def Uh (K:b'):V->Option Int->Option Int->Hp->VK->Prop:=λx lo hi H Q=>∃ a xs,x=.ref a/\zl K H a xs/\∀ p,H p=none->Q (.ref p) (za H p (.lst (wv xs lo hi)))
theorem zOg:qm X (Uh X.K):=by
 intro pins s σ H x v vl vu lo hi sl Q I rx hs pl pu h
 obtain ⟨a,xs,rfl,hx,q⟩:=h
 cases rx
 obtain ⟨its,r,ht,hz⟩:=I.list hx
 have hlen:=r.length
 refine ⟨"list",_,slot_list_getitem.lookup,ht.isList.typeIs,?_⟩
 refine wpAny_getItem_list_slice ht.isList hs pl pu .none (by simp) ?_ (by rw [cM] <;> omega)
 rw [zGE,<- hlen]
 refine ⟨.ref s.heap.objs.size,_,I.laid (t':=s.toks) (o:=.lst (wv xs lo hi)) (λb ob q=>cE _ q) (cF _) ?_,rfl,q _ (I.hok.fresh (cF _))⟩
 exact ⟨dM (zFb xs lo hi) hz,_,0,(r.drop (HT.sIx xs.length 0 lo)).take (HT.sIx xs.length xs.length hi - HT.sIx xs.length 0 lo),cW _ rfl⟩
theorem xz:wu X (.builtin "len") (λxs H Q=>∃ p ys,xs=[.ref p]/\(zl X.K H p ys\/ym X.K H p ys)/\Q (.int ys.length) H):=by
 intro pins s σ H xs us Q I r h
 obtain ⟨p,ys,rfl,hq,q⟩:=h
 obtain ⟨u,rfl,rx⟩:=uL r
 cases rx
 have hn:=ZI
 rcases hq with hq | hq
 ·obtain ⟨its,r',pl,hz⟩:=I.list hq
  have hlen:=r'.length
  exact Calls.call_len_list pl.isList (by simp only [cM] <;> omega) ⟨.int ys.length,H,I.tok _,⟨s.toks + 1,by rw [cM,hlen]⟩,q⟩
 ·obtain ⟨its,r',pl,hz⟩:=I.tuple hq
  have hlen:=r'.length
  exact len_tuple pl (by simp only [cM] <;> omega) ⟨.int ys.length,H,I.tok _,⟨s.toks + 1,by rw [cM,hlen]⟩,q⟩
theorem uM:wu X (.type "list") (λxs H Q=>∃ p ys,xs=[.ref p]/\(zl X.K H p ys\/ym X.K H p ys)/\∀ l,H l=none->Q (.ref l) (za H l (.lst ys))):=by
 intro pins s σ H xs us Q I r h
 obtain ⟨p,ys,rfl,hq,q⟩:=h
 obtain ⟨u,rfl,rx⟩:=uL r
 cases rx
 have fin:∀ (its:List Value),zK ys its->ys.length<=sizeLine->∀ (h':Heap) (c':Nat),(∀ b o',s.heap.get? b=some o'->h'.get? b=some o')->
   h'.get? s.heap.objs.size=some { cls:=.type "list",dict:=none,data:=.seq its.toArray c',slots:=#[] }->EP X pins σ Q (.ref s.heap.objs.size) { s with heap:=h' }:=λits r' hz h' c' kp e=>
  ⟨.ref s.heap.objs.size,_,I.laid (t':=s.toks) kp (cF _) (show xn X.prog X.w _ h' _ (.lst ys) from ⟨hz,its,c',r',e⟩),rfl,q _ (I.hok.fresh (cF _))⟩
 rcases hq with hq | hq
 ·obtain ⟨its,r',pl,hz⟩:=I.list hq
  have hlen:=r'.length
  obtain ⟨o,ho,hc,n,hd⟩:=pl.isList
  exact call_list_seq p (.inl rfl) ho hc hd (λh' c' kp e=>fin its r' hz h' c' kp e) (by simp only [cM] <;> omega)
 ·obtain ⟨its,r',pl,hz⟩:=I.tuple hq
  have hlen:=r'.length
  obtain ⟨o,ho,hc,n,hd⟩:=pl
  exact call_list_seq p (.inr rfl) ho hc hd (λh' c' kp e=>fin its r' hz h' c' kp e) (by simp only [cM] <;> omega)
theorem uN:wu X (.type "tuple") (λxs H Q=>∃ p ys,xs=[.ref p]/\((zl X.K H p ys/\∀ l,H l=none->Q (.ref l) (za H l (.tup ys)))\/(ym X.K H p ys/\Q (.ref p) H))):=by
 intro pins s σ H xs us Q I r h
 obtain ⟨p,ys,rfl,h⟩:=h
 obtain ⟨u,rfl,rx⟩:=uL r
 cases rx
 rcases h with ⟨hq,q⟩ | ⟨hq,q⟩
 ·obtain ⟨its,r',pl,hz⟩:=I.list hq
  have hlen:=r'.length
  refine call_tuple_list pl.isList (λh' kp=>?_) (by simp only [cM] <;> omega)
  have I1:zE X pins σ H { s with heap:=h' }:=I.kept (t':=s.toks) kp
  have I2:zE X pins σ (za H h'.objs.size (.tup ys)) { s with heap:=h'.push { cls:=.type "tuple",data:=.seq its.toArray } }:=
   I1.laid (t':=s.toks) (λb o e=>cE _ e) (cF _) (show xn X.prog X.w _ _ _ (.tup ys) from ⟨hz,its,r',IsTup.new _ _⟩)
  exact ⟨.ref h'.objs.size,_,I2,rfl,q _ (I1.hok.fresh (cF _))⟩
 ·obtain ⟨its,r',pl,hz⟩:=I.tuple hq
  exact call_tuple_same pl ⟨.ref p,H,I,rfl,q⟩
def tyV (K:b') (T:String) (x:V) (H:Hp):Prop:=match x with
 | .str _=>T = "str"
 | .int _=>T = "int"
 | .ref p=>(T = "list"/\∃ xs,zl K H p xs)\/(T = "tuple"/\∃ o,K.lookup p=some o/\o.cls=.type "tuple"/\o.dict=none)∨
   (T = "dict"/\((∃ kvs,H p=some (.dK kvs))\/∃ kvs,H p=some (.dT kvs)))\/(T = "set"/\∃ S n,H p=some (.set S n))
 | _=>False
theorem zQE {pins:List (Addr × Obj)} {σ:St} {H:Hp} {s:Shared} {T:String} {x:V} {v:Value} (I:zE X pins σ H s) (r:zT x v) (ty:tyV X.K T x H) :
  s.TypeIs v T/\∀ a,v=.ref a->∃ ob,s.heap.get? a=some ob/\ob.dict=none:=by
 cases x with
 | str z=>
  obtain ⟨t,rfl⟩:=r
  cases (show T = "str" from ty)
  exact ⟨typeIs_str s z t,λ_ e=>nomatch e⟩
 | int i=>
  obtain ⟨t,rfl⟩:=r
  cases (show T = "int" from ty)
  exact ⟨typeIs_int s i t,λ_ e=>nomatch e⟩
 | ref p=>
  cases r
  rcases ty with ⟨rfl,xs,hq⟩ | ⟨rfl,o,hk,hc,hd⟩ | ⟨rfl,hk⟩ | ⟨rfl,S,n,hk⟩
  ·obtain ⟨its,_,pl,_⟩:=I.list hq
   refine ⟨pl.isList.typeIs,λa e=>?_⟩
   cases e
   obtain ⟨o,n,e,c,hd,_⟩:=pl
   exact ⟨o,e,hd⟩
  ·refine ⟨⟨o,I.kIn p o hk,hc⟩,λa e=>?_⟩
   cases e
   exact ⟨o,I.kIn _ o hk,hd⟩
  ·have z:∃ o,s.heap.get? p=some o/\o.ExactDict:=by
    rcases hk with ⟨kvs,hk⟩ | ⟨kvs,hk⟩
    ·obtain ⟨_,_,_,_,o,_,_,e,ex,_⟩:=I.hok p _ hk
     exact ⟨o,e,ex⟩
    ·obtain ⟨_,_,_,_,o,_,_,e,ex,_⟩:=I.hok p _ hk
     exact ⟨o,e,ex⟩
   obtain ⟨o,e,ex⟩:=z
   refine ⟨⟨o,e,ex.1⟩,λa e2=>?_⟩
   cases e2
   exact ⟨o,e,ex.2.1⟩
  ·obtain ⟨o,_,_,_,e,ex,_⟩:=I.hok p _ hk
   refine ⟨⟨o,e,ex.1⟩,λa e2=>?_⟩
   cases e2
   exact ⟨o,e,ex.2.1⟩
 | _=>exact False.elim ty
def Ui (K:b') (T:String) (r:V->List V->Hp->VK->Prop) (to:TE) (t:TA):TE:=λσ H Q=>to σ H λx H1=>tyV K T x H1/\t σ H1 λxs H2=>r x xs H2 Q
variable {o e:Expr} {es:List Expr} {to:TE} {t:TA} {name:Str} {apos cpos:Pos} {T id:String} {r:V->List V->Hp->VK->Prop}
theorem wG (pa:PlainAttrs T) (slot:Slot T name id) (hty:typeOf (.builtin id)=pure (.type "method_descriptor")) (hm:MtR X id r) (ho:PE X o to) (ha:PA X (e :: es) t)
  (hbase:attributeBase o name X.env (eval o X.env)=eval o X.env:=by rfl)
  (hfew:((backTo cpos (starEach (e :: es) X.env)).all (λx=>!x.1) && (backToKw cpos (keywordEach [] X.env)).all (λx=>x.1.isSome)
   && decide ((e :: es).length + ([]:List Keyword).length + (if ([]:List Keyword).isEmpty then 0 else 1) < 30))=true:=by rfl)
  (hline:(apos.endLine == cpos.line)=true:=by rfl) (hs:starEach (e :: es) X.env=(false,eval e X.env) :: starEach es X.env:=by rfl) (hplain:(backTo cpos (starEach es X.env)).any (·.1)=false:=by rfl) :
  PE X (.Call (.Attribute o name apos) (e :: es) [] cpos) (Ui X.K T r to t):=by
 intro pins s σ H Q I h
 refine wpAny_Call_method_late hbase hfew hline rfl (zj (ho pins s σ H _ I h) λv s1 ⟨x,H1,I1,r1,ty,q1⟩=>?_)
 obtain ⟨h1,h2⟩:=zQE I1 r1 ty
 refine ⟨T,id,pa,slot,hty,h1,h2,?_⟩
 have hA:=ha cpos pins s1 σ H1 _ I1 q1
 rw [hs] at hA |-
 refine Calls.callWith_builtin (by show (false || (backTo cpos (starEach es X.env)).any (·.1))=false; rw [hplain] <;> rfl) (Calls.evalArgs_plain ?_)
 exact zj hA λus s2 ⟨vs,H2,I2,r2,q2⟩=>hm pins s2 σ H2 x vs v us Q I2 r1 r2 q2
/- xs.append(e),list.index on a module's tuple .. are MtR facts of 06m -/
end
end L2
namespace L2
open PySem PySem.Spec PyProof.Rows
def Uj (X:Cx) (id:String) (r:V->List V->Hp->VK->Prop):Prop:=
 ∀ (pins:List (Addr × Obj)) (s:Shared) (σ:St) (H:Hp) (x:V) (xs:List V) (v:Value) (us:List Value) (Q:VK),zE X pins σ H s->zT x v->zK xs us->r x xs H Q->
  wpAny (model X.prog X.w) X.A (call (.builtin id) (v :: us)) (EP X pins σ Q) X.xe s
theorem zK.one:∀ {x:V} {us:List Value},zK [x] us->∃ u,us=[u]/\zT x u
 | _,_,.cons r .nil=>⟨_,rfl,r⟩
theorem zK.rep {xs:List V} {us:List Value} (h:zK xs us):∀ k:Nat,zK (cG k xs).flatten (cG k us).flatten
 | 0=>.nil
 | k + 1=>by
  rw [eI,eI,fD,fD]
  exact zK.append h (zK.rep h k)
theorem zHe (its:List Value):∀ (k:Nat) (acc:List Value),
  lj (λx1 x2=>x1++x2) acc.toArray (cG k its.toArray)=(acc++(cG k its).flatten).toArray
 | 0,acc=>by simp
 | k + 1,acc=>by
  have e:acc.toArray++its.toArray=(acc++its).toArray:=by simp
  have e2:(acc++its)++(cG k its).flatten=acc++(cG (k + 1) its).flatten:=by
   rw [eI,fD,eZ]
  rw [<- e2,<- zHe its k (acc++its),<- e,eI,fR]
section
variable {X:Cx} {pins:List (Addr × Obj)} {σ:St} {H:Hp} {s:Shared} {l b:Addr} {xs ys zs:List V}
theorem zE.lset {its its':List Value} {n:Nat} {f:Array Value->Array Value} {t':Nat} (I:zE X pins σ H s) (hH:H l=some (.lst xs))
  (e:s.heap.get? l=some { cls:=.type "list",data:=.seq its.toArray n }) (hf:f its.toArray=its'.toArray) (hv:zK ys its') (hz:ys.length<=sizeLine) :
  zE X pins σ (za H l (.lst ys)) { s with heap:=s.heap.update l (Obj.mapSeq f),toks:=t' }:=by
 have q:=PySem.IsL.update e f
 rw [hf] at q
 refine I.write (x:=l) (e:=l) (by rw [hH]; exact trivial) (.inl rfl) (λb' u hb hu=>(dE s.heap (Obj.mapSeq f) (Ne.symm hb)).trans hu) ⟨_,q⟩ ?_
 exact ⟨hz,its',_,hv,q⟩
theorem zE.lnew {its:List Value} {t':Nat} (I:zE X pins σ H s) (hv:zK ys its) (hz:ys.length<=sizeLine) :
  zE X pins σ (za H s.heap.objs.size (.lst ys)) { s with heap:=s.heap.push { cls:=.type "list",data:=.seq its.toArray },toks:=t' }:=
 I.laid (λ_ _ q=>cE _ q) (cF _) ⟨hz,its,0,hv,cW _ rfl⟩
theorem zE.fresh (I:zE X pins σ H s):H s.heap.objs.size=none:=I.hok.fresh (cF _)
theorem zE.lstM (I:zE X pins σ H s) (hH:H l=some (.lst xs)):xs.length<=sizeLine/\∃ (its:List Value) (n:Nat),zK xs its/\xs.length=its.length/\s.heap.get? l=some { cls:=.type "list",data:=.seq its.toArray n }:=by
 obtain ⟨z,its,n,r,e⟩:=I.hok l _ hH
 exact ⟨z,its,n,r,r.length,e⟩
theorem zNC {n:Nat} (h:n<=sizeLine):Builtin.List.listTooLong n=false:=by
 unfold Builtin.List.listTooLong
 exact decide_eq_false (by omega)
end
section
variable {X:Cx}
def zOl:V->List V->Hp->VK->Prop:=λx vs H Q=>∃ l xs y,x=.ref l/\vs=[y]/\H l=some (.lst xs)/\xs.length < sizeLine/\Q .non (za H l (.lst (xs++[y])))
theorem zLM:Uj X "list.append" zOl:=by
 intro pins s σ H x vs v us Q I rx rv h
 obtain ⟨l,xs,y,rfl,rfl,hH,hz,q⟩:=h
 cases rx
 obtain ⟨u,rfl,ru⟩:=rv.one
 obtain ⟨z,its,n,r,hl,e⟩:=I.lstM hH
 refine call_meets F.slot_list_append ⟨_,e,rfl⟩ F.entry_list_append (F.args_list_append_2 _ _) (PySem.list_append l its.toArray n u (by rw [cM]; omega)) ⟨e,?_⟩
 refine ⟨.non,_,I.lset (its':=its++[u]) hH e (by simp) (r.append (.cons ru .nil)) ?_,rfl,q⟩
 rw [cA,fB]
 omega
def qp:R2:=λx y H Q=>∃ l b xs zs,x=.ref l/\y=.ref b/\H l=some (.lst xs)/\H b=some (.lst zs)/\xs.length + zs.length<=sizeLine/\∀ p,H p=none->Q (.ref p) (za H p (.lst (xs++zs)))
theorem zN7:y8 X (binaryOp .Add) qp:=by
 intro pins s σ H x y v u Q I rx ry h
 obtain ⟨l,b,xs,zs,rfl,rfl,hH,hB,hz,q⟩:=h
 cases rx
 cases ry
 obtain ⟨z,its,n,r,hl,e⟩:=I.lstM hH
 obtain ⟨z2,its2,n2,r2,hl2,e2⟩:=I.lstM hB
 refine PySem.P.add_list e e2 ?_ (by rw [cM,cM]; omega)
 have ea:its.toArray++its2.toArray=(its++its2).toArray:=by simp
 rw [ea]
 exact ⟨.ref _,_,I.lnew (t':=s.toks) (r.append r2) (by rw [cA]; omega),rfl,q _ I.fresh⟩
def ZR:R2:=λx y H Q=>∃ l k xs,x=.ref l/\y=.int k/\H l=some (.lst xs)/\-(2 ^ 63)<=k/\k < 2 ^ 63/\xs.length * k.toNat<=sizeLine∧
 ∀ p,H p=none->Q (.ref p) (za H p (.lst (cG k.toNat xs).flatten))
theorem zPT {α:Type} (xs:List α) (k:Nat):(cG k xs).flatten.length=k * xs.length:=by
 induction k with
 | zero=>simp
 | succ k ih=>rw [eI,fD,cA,ih,Nat.succ_mul,Nat.add_comm]
theorem zRC:y8 X (binaryOp .Mult) ZR:=by
 intro pins s σ H x y v u Q I rx ry h
 obtain ⟨l,k,xs,rfl,rfl,hH,h1,h2,hz,q⟩:=h
 cases rx
 obtain ⟨t,rfl⟩:=ry
 obtain ⟨z,its,n,r,hl,e⟩:=I.lstM hH
 have hlen:its.toArray.size * k.toNat<=sizeLine:=by rw [cM,<- hl]; exact hz
 have hcap:¬ its.toArray.size * k.toNat > (2 ^ 63 - 1) / 8:=by
  have:(sizeLine:Nat)<=(2 ^ 63 - 1) / 8:=by decide
  omega
 have hfit:¬ (!Builtin.List.listFitsIndex k)=true:=by
  rw [fitsIndex_both h1 h2]
  exact dh
 have hlong:¬ Builtin.List.listTooLong (its.toArray.size * k.toNat)=true:=by
  rw [zNC hlen]
  exact dh
 have hnew:lj (λx1 x2=>x1++x2) #[] (cG (if its.toArray.isEmpty=true then 0 else k.toNat) its.toArray)=(cG k.toNat its).flatten.toArray:=by
  have f0:∀ m:Nat,lj (λx1 x2=>x1++x2) #[] (cG m its.toArray)=(cG m its).flatten.toArray:=λm=>by
   have:=zHe its m []
   rw [mT] at this
   exact this
  rw [f0]
  cases its with
  | nil=>simp
  | cons a r'=>rw [if_neg (by simp)]
 refine wpAny_binaryOp_repeat_ref (T:="list") (U:="int") (by decide) ⟨_,e,rfl⟩ (λs'=>typeIs_int s' k t) noFill_list_mul F.fills_int_mul F.slot_int_rmul repeat_list F.slot_int_index.lookup
  (call_meets F.slot_int_rmul (typeIs_int s k t) F.entry_int_rmul (F.args_int_rmul_2 _ _) (int___rmul___int_list k t l its.toArray n)
   ⟨e,rfl,⟨_,e,rfl⟩,call_meets F.slot_list_mul ⟨_,e,rfl⟩ F.entry_list_mul (F.args_list_mul_2 _ _) (AutoListH.list___mul___list_int_3 l its.toArray n k t hfit hcap hlong) ⟨e,?_⟩⟩)
 rw [hnew]
 exact ⟨.ref _,_,I.lnew (t':=s.toks) (r.rep k.toNat) (by rw [zPT,Nat.mul_comm]; exact hz),rfl,q _ I.fresh⟩
end
end L2
namespace Att
open PySem PySem.W PySem.Calls PyProof.Rows
theorem zFW {P:Params} {h:Heap}:∀ (ns:List Int) (vs:List Value),WellAll P h vs (ns.map WData.int)->IntsAre vs ns:=by
 intro ns
 induction ns with
 | nil=>
  intro vs w
  rw [mn] at w
  cases w
  exact .nil
 | cons n ns ih=>
  intro vs w
  rw [di] at w
  cases w with
  | cons a b=>
   cases a
   exact .cons _ _ (ih _ b)
theorem zKT {l:OpenLaw} {n:Nat} (hn:l.most=some n) {P:Params} {h:Heap} {args:List WData} {vals:List Value}
  (hpre:l.row.toRowW.claim.pre args=true) (hwl:WellAll P h vals args) :
  ∃ a vs ns,vals=[Value.ref a]/\args=[WData.list (ns.map WData.int)]/\h.get? a=some { cls:=.type "list",data:=.seq vs.toArray }/\IntsAre vs ns/\ns.length<=n:=by
 have hsh:WShape.hasAll [] args [.list .int]=true:=(pre_splitW hpre).1
 have hc:l.pre.holds [] { args:=args }=true:=(pre_splitW hpre).2
 obtain ⟨d,r,rfl,h1,h2⟩:=hasAllW_cons hsh
 obtain rfl:=hasAllW_nil h2
 obtain ⟨xs,rfl,h3⟩:=hasW_list h1
 obtain ⟨ns,rfl⟩:=items_int h3
 have hlen:ns.length<=n:=by
  unfold OpenLaw.pre at hc
  have h4:(WTm.not (.lt (.lit (.int (n:Int))) (.len (.arg 0)))).holds [] { args:=[.list (ns.map .int)] }=true:=by
   have h4:=(holds_andW hc).1
   rw [hn] at h4
   exact h4
  have h5:=condW_of h4 (w_not (w_lt w_lit (w_len_list (w_arg rfl))))
  rw [a_] at h5
  refine Nat.le_of_not_lt λq=>?_
  have q':(n:Int) < ((ns.length:Nat):Int):=by omega
  first
   | (rw [decide_eq_true q'] at h5; exact absurd h5 (by decide))
   | (simp at h5; omega)
 cases hwl with
 | cons w1 w2=>
  cases w2
  cases w1 with
  | list ho hall=>exact ⟨_,_,ns,rfl,rfl,ho,zFW ns _ hall,hlen⟩
theorem zKm (l:OpenLaw) (args:List WData):l.row.toRowW.claim.post args (.bool true) args=true:=
 postW_of (r:=l.row.toRowW) (X:=(true == true))
  (show WShape.has [] (.bool true) .bool=true by first | rfl | decide | simp [WShape.has,WShape.arms,WShape.armsAll])
  (show (WTm.eq .res (.lit (.bool true))).value [] { args:=args,res:=some (.bool true),after:=args }=some (.bool (true == true)) from w_eq_bool (w_res rfl) w_lit) rfl
theorem attach_call {l:OpenLaw} {n:Nat} {q:Program} {loose:List Str} {XP:(Str->Option Value)->Heap->Prop} {YP:World->Heap->Prop} {d:DefRec}
  (hn:l.most=some n) (hdf:d.params.defaults=[])
  (call:∀ (w:World) (s₀ s₁:Shared) (mg mb:Str->Option Value) (fa:Addr) (o:Obj) (pm cd doc:Value) (a:Addr) (vs:List Value) (ns:List Int),
   Ground q loose [] XP w s₀ mg mb s₁.heap->YP w s₁.heap->
   s₁.heap.get? fa=some o->o.data=.func (docDef d.name d.params d.body d.scope pm cd doc)->s₁.heap.CodeRec cd d.name->mg d.name=some (.ref fa)->
   s₁.heap.get? a=some { cls:=.type "list",data:=.seq vs.toArray }->IntsAre vs ns->ns.length<=n->s₁.gens=#[]->
   codeAny (model l.prog w) callerA (.call (.ref fa) ⟨[.ref a],[]⟩) (λr s'=>r=.ok (.ret (.bool true))/\OldK s₁.heap s'.heap/\s'.os=s₁.os/\AllBare s'.gens) s₁) :
  WalkO q loose XP YP l.row.toRowW d [] (λf vs=>PySem.call f vs):=by
 intro w s₀ s₁ mg mb G Y fa o pm cd doc dV kV ho hd hcd hD hmg hg args vals as hpre hlay hrd hwl hlo
 obtain rfl:dV=.none:=Dflts.none hD hdf
 obtain rfl:kV=.none:=Dflts.noKw hD
 obtain ⟨a,vs,ns,rfl,rfl,hobj,hints,hlen⟩:=zKT hn hpre hwl
 refine enter_call (codeAny_mono (call w s₀ s₁ mg mb fa o pm cd doc a vs ns G Y ho (fd_plain hd) hcd hmg hobj hints hlen hg) λr s' hq=>?_)
 obtain ⟨rfl,h2,h3,h4⟩:=hq
 exact ⟨.inl ⟨.bool true,.bool true,[],rfl,λ_=>rfl,.bool true,zKm l _,λ_=>⟨List.Pairwise.nil,λ_ hm=>(nomatch hm)⟩⟩,h2,h3,h4⟩
end Att
namespace L2
open PySem PySem.Spec PyProof.Rows
theorem zG8:∀ {vs:List Value} {ns:List Int},IntsAre vs ns->zK (ns.map V.int) vs
 | _,_,.nil=>.nil
 | _,_,.cons n t h=>.cons ⟨t,rfl⟩ (zG8 h)
end L2
namespace L2
open PySem PySem.Spec PyProof.Rows
def ZS (s:Stmt) (j:Nat):Stmt:=match s with
 | .ClassDef _ _ _ body _ _ _ _ _ _ _=>body.getD j (.Pass ⟨0,0,0,0⟩)
 | _=>.Pass ⟨0,0,0,0⟩
def ww (s:Stmt):Arguments:=match s with
 | .FunctionDef _ a _ _ _ _ _ _ _ _=>a
 | _=>{ posonlyargs:=[],args:=[],vararg:=none,kwonlyargs:=[],kw_defaults:=[],kwarg:=none,defaults:=[] }
def xS (s:Stmt):List Stmt:=match s with
 | .FunctionDef _ _ b _ _ _ _ _ _ _=>b
 | _=>[]
def zR (s:Stmt):Scope:=match s with
 | .FunctionDef _ _ _ _ _ _ sc _ _ _=>sc
 | _=>{ kind:=.function,names:=[],isGenerator:=false,isCoroutine:=false }
abbrev zV:vg:=λ_ _ _ _ _ _=>False
abbrev E0:XK:=λ_ _ _=>False
theorem X5 {X:Cx}:ql zV X E0:=λ_ _ _ _ _ _ _ h=>h.elim
structure zf (K:b') (x qual:Str) (st:Stmt) (f:Addr) (fd:FuncData):Prop where
 ex:∃ (oc:Value) (od:Option Addr) (kV doc pm:Value) (an:Option Addr) (cdv ct:Value) (osl:Array (Option Value)),
  fd=eD x qual (ww st) (xS st) (zR st) .none kV doc pm an cdv ct/\K.lookup f=some ⟨oc,od,.func fd,osl⟩/\hW K cdv qual=true
 kp:eg K (.ref f)=true
section
variable {P:Program} {w:World} {K:b'} {mg:Str->Option Value} {base:Heap}
theorem zf.ok {x qual:Str} {st:Stmt} {f:Addr} {fd:FuncData} {N ps:List Str} {k:Nat} {sp:Sp} (F:zf K x qual st f fd) (S:ze N ps (zR st)) (len:∀ vs H Q E,sp vs H Q E->vs.length=ps.length)
  (hbody:∀ (cdv:Value) (A:Around) (outer:List Env) (s:Shared) (H:Hp) (vs:List V) (Q:VK) (E:XK),zU k (A.deeper (envOfC qual (zR st) s.heap.objs.size f cdv))->sp vs H Q E->
   ∃ t,yk (zc zV P w K mg base N qual (zR st) f cdv A outer s H E).nox (xS st) t/\t { nx:=λ_ H'=>Q .non H',rt:=Q } (yC N vs) H):zF P w K mg base zV (k + 1) f fd ps sp:=by
 obtain ⟨oc,od,kV,doc,pm,an,cdv,ct,osl,rfl,lk,hcd⟩:=F.ex
 refine X0 lk hcd S len λA outer s H vs Q E hr hsp=>?_
 obtain ⟨t,h,q⟩:=hbody cdv A outer s H vs Q E hr hsp
 exact ⟨t,h.nox,q⟩
theorem zf.binds {x qual:Str} {st:Stmt} {f:Addr} {fd:FuncData} {ps:List Str} (F:zf K x qual st f fd)
  (h:∀ (kV doc pm:Value) (an:Option Addr) (cdv ct:Value) (us:List Value),us.length=ps.length->bindArgs (eD x qual (ww st) (xS st) (zR st) .none kV doc pm an cdv ct) ⟨us,[]⟩=pure (ps.zip us)):vG K fd ps []:=by
 obtain ⟨oc,od,kV,doc,pm,an,cdv,ct,osl,rfl,lk,hcd⟩:=F.ex
 exact .all (h kV doc pm an cdv ct)
theorem Uk {x qual:Str} {st:Stmt} {f:Addr} {oc:Value} {od an:Option Addr} {osl:Array (Option Value)} {kV doc pm cdv ct:Value} (l:K.lookup f=some ⟨oc,od,.func (eD x qual (ww st) (xS st) (zR st) .none kV doc pm an cdv ct),osl⟩)
  (c:hW K cdv qual=true) (k:eg K (.ref f)=true):zf K x qual st f (eD x qual (ww st) (xS st) (zR st) .none kV doc pm an cdv ct):=⟨⟨oc,od,kV,doc,pm,an,cdv,ct,osl,rfl,l,c⟩,k⟩
end
theorem Ul {n:Nat} (h:n<=1000):n < sizeLine:=lQ h (by decide)
section
variable {X:Cx}
theorem pv (i:Nat) {x:Str} {pos:Pos} (hN:X.N[i]? = some x:=by rfl) (hv:j4 X.env.scope x:=by first | exact Or.inl rfl | exact Or.inr (Or.inl rfl) | exact Or.inr (Or.inr rfl)) (hd:(x == ("__debug__" : Str))=false:=by decide)
  (hcd:(x == ("__classdict__" : Str))=false:=by decide):PE X (.Name x pos) (jQ i):=UI hN hv hd hcd
end
def zN (H H':Hp):Prop:=∀ b o,H b=some o->H' b=some o
theorem zN.refl (H:Hp):zN H H:=λ_ _ h=>h
theorem zN.trans {H H1 H2:Hp} (a:zN H H1) (b:zN H1 H2):zN H H2:=λc o h=>b c o (a c o h)
end L2
set_option maxHeartbeats 4000000
namespace Sh
def cm (t b:Int):Int:=if b < 0 then -(e7 t b:Int) else (e7 t b:Int)
def zY (t b:Int):Int:=t.fdiv (cm t b)
def zM (t b:Int):Int:=b.fdiv (cm t b)
theorem zLd {t b:Int} (h:b≠0):0 < (e7 t b:Int):=by
 have:0 < e7 t b:=Int.gcd_pos_of_ne_zero_right _ h
 omega
theorem zNd (t b:Int):cm t b ∣ t:=by
 unfold cm
 split
 ·exact Int.neg_dvd.mpr (iY t b)
 ·exact iY t b
theorem zNe (t b:Int):cm t b ∣ b:=by
 unfold cm
 split
 ·exact Int.neg_dvd.mpr (iO t b)
 ·exact iO t b
theorem zNJ (t b:Int):zY t b * cm t b=t:=lI (zNd t b)
theorem zJC (t b:Int):zM t b * cm t b=b:=lI (zNe t b)
theorem j6 {t b:Int} (h:b≠0):0 < zM t b:=by
 have e:=zJC t b
 have g:=zLd (t:=t) h
 rcases gV (zM t b) 0 with hl | hl | hl
 ·exfalso
  unfold cm at e
  split at e
  ·rename_i hb
   have:=Int.mul_pos_of_neg_of_neg hl (show -(e7 t b:Int) < 0 by omega)
   omega
  ·have:=iH hl g
   omega
 ·exfalso
  rw [hl,Int.zero_mul] at e
  omega
 ·exact hl
theorem zLT {t b:Int} (h:b≠0):zY t b * b=t * zM t b:=by
 have e1:=zNJ t b
 have e2:=zJC t b
 calc zY t b * b=zY t b * (zM t b * cm t b):=by rw [e2]
  _=(zY t b * cm t b) * zM t b:=by rw [ng,hX (zM t b)]
  _=t * zM t b:=by rw [e1]
end Sh
namespace Sh
def jF (st:Int × Int) (p:Int × Int × Int):Int × Int:=(st.1 * p.2.2 + p.1 * p.2.1 * st.2,st.2 * p.2.2)
def yR (ws:List Int) (pts:List (Int × Int)):Int × Int:=(ws.zip pts).foldl jF (0,1)
end Sh
namespace Sh
section
variable {β γ:Type}
def look (m:List (List Int × β)) (k:List Int):Option β:=(m.find? λkv=>decide (kv.1=k)).map (·.2)
def put (m:List (List Int × β)) (k:List Int) (v:β):List (List Int × β):=
 if (m.any λkv=>decide (kv.1=k))=true then m.map (λkv=>if kv.1=k then (kv.1,v) else kv) else m++[(k,v)]
end
section
variable (num:List Int->Int) (den:Int)
def hl (r:List Int × Int):Bool:=decide (num r.1<=r.2 * den)
variable (hden:0 < den) (lin:∀ (ws:List Int) (c:Int),num (ws.map (· * c))=num ws * c)
include hden lin
end
end Sh
namespace L2
open PySem
def ub (env:Env) (cs:List (Str × Addr)) (p:Str × NameKind):List (Str × Addr):=if (p.2 == .free)=true then (p.1,(env.cells.lookup p.1).getD 0) :: cs else cs
def vO (scope:Scope) (env:Env):List (Str × Addr):=scope.names.foldl (ub env) []
theorem zJ8 {env:Env}:∀ (names:List (Str × NameKind)) (cs:List (Str × Addr)),(∀ p∈names,p.2=.free->(env.cells.lookup p.1).isSome=true)->
  (forIn names cs (λ(p:Str × NameKind) (r:List (Str × Addr))=>(if (p.2 == .free)=true then do let a <- cellOf env p.1; pure (ForInStep.yield ((p.1,a) :: r)) else pure (ForInStep.yield r):Sem (ForInStep (List (Str × Addr))))))=pure (names.foldl (ub env) cs):=by
 intro names
 induction names with
 | nil=>intro cs _; rfl
 | cons p r ih=>
  intro cs h
  obtain ⟨n,k⟩:=p
  rw [i7]
  by_cases hk:k=.free
  ·subst hk
   obtain ⟨c,hc⟩:=eA.mp (h (n,.free) cD rfl)
   have e:cellOf env n=pure c:=by unfold cellOf; dsimp only at hc; rw [hc]
   have z:ub env cs (n,.free)=(n,c) :: cs:=by unfold ub; dsimp only at hc |-; rw [hc]; rfl
   simp only [e,beq_self_eq_true,if_true,pure_bind,fR,z]
   exact ih _ λq hq=>h q (cB _ hq)
  ·have b:(k == NameKind.free)=false:=by simpa using hk
   have z:ub env cs (n,k)=cs:=by unfold ub; dsimp only; rw [b]; rfl
   simp only [b,ft,if_false,pure_bind,fR,z]
   exact ih _ λq hq=>h q (cB _ hq)
theorem zF9 {scope:Scope} {env:Env} (h:∀ p∈scope.names,p.2=.free->(env.cells.lookup p.1).isSome=true):closureFor scope env=pure (vO scope env):=by
 unfold closureFor vO
 have:=zJ8 scope.names [] h
 exact (congrArg (λm=>m >>= λr=>pure r) this).trans rfl
theorem zL0 {env:Env}:∀ (names:List (Str × NameKind)) (cs:List (Str × Addr)) (x:Str) (c:Addr),(x,c)∈names.foldl (ub env) cs->(x,c)∈cs\/((x,NameKind.free)∈names/\c=(env.cells.lookup x).getD 0):=by
 intro names
 induction names with
 | nil=>intro cs x c h; exact .inl h
 | cons p r ih=>
  intro cs x c h
  obtain ⟨n,k⟩:=p
  rw [fR] at h
  rcases ih _ x c h with h1 | ⟨h1,h2⟩
  ·unfold ub at h1
   dsimp only at h1
   by_cases hk:k=.free
   ·subst hk
    simp only [beq_self_eq_true,if_true] at h1
    rcases da.mp h1 with e | h1
    ·injection e with e1 e2
     subst e1; subst e2
     exact .inr ⟨cD,rfl⟩
    ·exact .inl h1
   ·have b:(k == NameKind.free)=false:=by simpa using hk
    simp only [b,ft,if_false] at h1
    exact .inl h1
  ·exact .inr ⟨cB _ h1,h2⟩
theorem gu {α β:Type} [BEq α] [LawfulBEq α]:∀ {l:List (α × β)} {a:α} {b:β},l.lookup a=some b->(a,b)∈l
 | [],_,_,h=>by simp at h
 | (x,y) :: r,a,b,h=>by
  rw [dk] at h
  by_cases e:a=x
  ·subst e
   simp only [beq_self_eq_true,if_true] at h
   cases h
   exact cD
  ·have:(a == x)=false:=by simpa using e
   simp only [this] at h
   exact cB _ (gu h)
theorem zFT {α β:Type} [BEq α] [LawfulBEq α]:∀ {l:List (α × β)} {a:α} {b:β},(a,b)∈l->∃ c,l.lookup a=some c
 | [],_,_,h=>by cases h
 | (x,y) :: r,a,b,h=>by
  rw [dk]
  by_cases e:a=x
  ·subst e
   exact ⟨y,by simp⟩
  ·have z:(a == x)=false:=by simpa using e
   rcases da.mp h with q | q
   ·injection q with q1 _; exact absurd q1 e
   ·obtain ⟨c,hc⟩:=zFT q
    exact ⟨c,by simp only [z]; exact hc⟩
theorem zL1 {env:Env}:∀ (names:List (Str × NameKind)) (cs:List (Str × Addr)) (x:Str),((x,NameKind.free)∈names\/∃ c,(x,c)∈cs)->∃ c,(x,c)∈names.foldl (ub env) cs:=by
 intro names
 induction names with
 | nil=>
  intro cs x h
  rcases h with h | h
  ·cases h
  ·exact h
 | cons p r ih=>
  intro cs x h
  rw [fR]
  refine ih _ x ?_
  rcases h with h | ⟨c,h⟩
  ·rcases da.mp h with e | h
   ·subst e
    exact .inr ⟨_,by unfold ub; simp only [beq_self_eq_true,if_true]; exact cD⟩
   ·exact .inl h
  ·refine .inr ⟨c,?_⟩
   unfold ub
   split
   ·exact cB _ h
   ·exact h
theorem qr {scope:Scope} {env:Env} (h:∀ p∈scope.names,p.2=.free->(env.cells.lookup p.1).isSome=true) {x:Str} {c:Addr} (e:(vO scope env).lookup x=some c) :
  env.cells.lookup x=some c/\(x,NameKind.free)∈scope.names:=by
 rcases zL0 scope.names [] x c (gu e) with z | ⟨z,q⟩
 ·cases z
 ·obtain ⟨d,hd⟩:=eA.mp (h _ z rfl)
  dsimp only at hd
  rw [hd] at q
  exact ⟨by rw [hd,q]; rfl,z⟩
theorem Um {scope:Scope} {env:Env} {x:Str} (h:(x,NameKind.free)∈scope.names):∃ c,(vO scope env).lookup x=some c:=by
 obtain ⟨c,hc⟩:=zL1 (env:=env) scope.names [] x (.inl h)
 exact zFT hc
theorem zEa {scope:Scope} {env:Env} {x:Str} {k:NameKind} (h:(relabel scope env).names.lookup x=some k):(k=.cell/\((x,NameKind.free)∈scope.names\/(x,NameKind.cell)∈scope.names))\/(x,k)∈scope.names:=by
 have m:=gu h
 unfold relabel at m
 obtain ⟨⟨n,j⟩,hm,e⟩:=cH.mp m
 dsimp only at e
 split at e
 ·rename_i q
  injection e with e1 e2
  subst e1; subst e2
  have q1:j=NameKind.free:=by
   have:=(eC.mp (eC.mp q).1).1
   exact eq_of_beq this
  subst q1
  exact .inl ⟨rfl,.inl hm⟩
 ·injection e with e1 e2
  subst e1; subst e2
  exact .inr hm
end L2
namespace L2
open PySem PySem.Spec PyProof.Rows
def Bd (n:Nat) (i:Int):Prop:=i.natAbs < 2 ^ n
theorem Bd.mono {n m:Nat} {i:Int} (h:Bd n i) (k:n<=m:=by decide):Bd m i:=cU h (Nat.pow_le_pow_right (by decide) k)
theorem Bd.of_le {n:Nat} {i j:Int} (h:Bd n j) (k:i.natAbs<=j.natAbs):Bd n i:=lQ k h
theorem Bd.mul {n m:Nat} {i j:Int} (h:Bd n i) (k:Bd m j):Bd (n + m) (i * j):=by
 unfold Bd
 rw [Int.natAbs_mul,Nat.pow_add]
 rcases Nat.eq_zero_or_pos j.natAbs with z | z
 ·rw [z,Nat.mul_zero]
  exact Nat.mul_pos (io _) (io _)
 ·exact cU (Nat.mul_lt_mul_of_pos_right h z) (lJ _ (iz k))
theorem Bd.add {n:Nat} {i j:Int} (h:Bd n i) (k:Bd n j):Bd (n + 1) (i + j):=by
 have h':i.natAbs < 2 ^ n:=h
 have k':j.natAbs < 2 ^ n:=k
 unfold Bd
 rw [mq]
 have:=Int.natAbs_add_le i j
 omega
theorem Bd.neg {n:Nat} {i:Int} (h:Bd n i):Bd n (-i):=by
 unfold Bd
 rw [Int.natAbs_neg]
 exact h
theorem Bd.sub {n:Nat} {i j:Int} (h:Bd n i) (k:Bd n j):Bd (n + 1) (i - j):=by
 rw [Int.sub_eq_add_neg]
 exact h.add k.neg
theorem Bd.lit {n:Nat} {i:Int} (h:i.natAbs < 2 ^ n:=by decide):Bd n i:=h
theorem Bd.bits {n:Nat} {i:Int} (h:Bd n i):Builtin.Int.intBits i<=n:=by
 have h':i.natAbs < 2 ^ n:=h
 unfold Builtin.Int.intBits
 split
 ·exact ik _
 ·rename_i z
  have nz:i.natAbs≠0:=by
   intro q
   apply z
   rw [lR.mp q]
   rfl
  exact (Nat.log2_lt nz).mpr h'
theorem Bd.fdiv {n:Nat} {i:Int} (h:Bd n i) (j:Int):Bd n (i.fdiv j):=
 h.of_le (Int.natAbs_fdiv_le_natAbs i j)
def X6 (i j:Int):Prop:=Bd 60000 i/\Bd 60000 j
def zSD (_ j:Int):Prop:=j≠0/\Bd 8000 j
section
variable {X:Cx}
theorem X6.ok {i j:Int} (h:X6 i j):IntMulOk i j:=by
 have h1:=h.1.bits
 have h2:=h.2.bits
 have hc:Builtin.Int.intTooBig (Builtin.Int.intBits i + Builtin.Int.intBits j)=false:=by
  unfold Builtin.Int.intTooBig
  rw [bitsLine_eq]
  exact decide_eq_false (by omega)
 unfold IntMulOk
 rw [hc]
 simp
theorem zO5:y8 X (binaryOp .Mult) (rI X6 λi j=>.int (i * j)):=Xu λ_ _ _ _ _ _ _ hc q=>mul_int q hc.ok
theorem zMw:y8 X (binaryOp .FloorDiv) (rI zSD λi j=>.int (i.fdiv j)):=Xu λ_ _ _ _ _ _ _ hc q=>by
 refine floordiv_int hc.1 q (.inl (PyProof.noPylong_of_log2 ?_))
 have h':_ < 2 ^ 8000:=hc.2
 have nz:_≠0:=λz=>hc.1 (lR.mp z)
 exact Nat.lt_trans ((Nat.log2_lt nz).mpr h') (by decide)
end
section
variable {X:Cx}
def zQa (K:b'):List V->Hp->VK->Prop:=λxs H Q=>∃ x c t b,xs=[x,.ty c]/\ya K H x t/\dl K t (.type c)=some b/\Q (.bl b) H
theorem uc:wu X (.builtin "isinstance") (zQa X.K):=by
 intro pins s σ H xs us Q I r h
 obtain ⟨x,c,t,b,rfl,ty,e,q⟩:=h
 obtain ⟨u,v,rfl,ru,rv⟩:=ZJ r
 cases (show v=Value.type c from rv)
 exact zHb I ru ty e λtk=>⟨.bl b,H,I.tok tk,rfl,q⟩
end
mutual
inductive Dp (K:b') (H:Hp):V->PyData->Prop where
 | non:Dp K H .non .none
 | bl (b:Bool):Dp K H (.bl b) (.bool b)
 | int (i:Int):Dp K H (.int i) (.int i)
 | str (x:Str):Dp K H (.str x) (.str x)
 | lst {a:Addr} {xs:List V} {ds:List PyData} (e:zl K H a xs) (h:ud K H xs ds):Dp K H (.ref a) (.list ds)
 | tup {a:Addr} {xs:List V} {ds:List PyData} (e:ym K H a xs) (h:ud K H xs ds):Dp K H (.ref a) (.tuple ds)
inductive ud (K:b') (H:Hp):List V->List PyData->Prop where
 | nil:ud K H [] []
 | cons {x:V} {xs:List V} {d:PyData} {ds:List PyData} (h:Dp K H x d) (t:ud K H xs ds):ud K H (x :: xs) (d :: ds)
end
section
variable {X:Cx} {pins:List (Addr × Obj)} {σ:St} {H:Hp} {s:Shared}
mutual
theorem Dp.reads (I:zE X pins σ H s):∀ {x:V} {d:PyData} {u:Value},Dp X.K H x d->zT x u->∃ as,Reads s.heap u d as
 | _,_,_,.non,r=>by cases r; exact ⟨_,.none⟩
 | _,_,_,.bl b,r=>by cases r; exact ⟨_,.bool b⟩
 | _,_,_,.int i,r=>by obtain ⟨t,rfl⟩:=r; exact ⟨_,.int i t⟩
 | _,_,_,.str x,r=>by obtain ⟨t,rfl⟩:=r; exact ⟨_,.str x t⟩
 | _,_,_,.lst e h,r=>by
  cases r
  obtain ⟨its,rv,⟨o,n,e1,e2,_,e3⟩,_⟩:=I.list e
  obtain ⟨as,q⟩:=ud.reads I h rv
  exact ⟨_,.list e1 e2 e3 (by simpa using q)⟩
 | _,_,_,.tup e h,r=>by
  cases r
  obtain ⟨its,rv,⟨o,e1,e2,n,e3⟩,_⟩:=I.tuple e
  obtain ⟨as,q⟩:=ud.reads I h rv
  exact ⟨_,.tuple e1 e2 e3 (by simpa using q)⟩
theorem ud.reads (I:zE X pins σ H s):∀ {xs:List V} {ds:List PyData} {us:List Value},ud X.K H xs ds->zK xs us->∃ as,ReadsAll s.heap us ds as
 | _,_,_,.nil,r=>by cases r; exact ⟨_,.nil⟩
 | _,_,_,.cons h t,r=>by
  cases r with
  | cons r1 r2=>
   obtain ⟨_,q1⟩:=Dp.reads I h r1
   obtain ⟨_,q2⟩:=ud.reads I t r2
   exact ⟨_,.cons q1 q2⟩
end
end
section
variable {X:Cx}
theorem j7 (hc:X.calm=true):wu X (.builtin "all") (λxs H Q=>∃ (p:Addr) (bs:List Bool),xs=[.ref p]/\zl X.K H p (bs.map V.bl)/\Q (.bl (bs.all id)) H):=by
 intro pins s σ H xs us Q I r h
 obtain ⟨p,bs,rfl,hq,q⟩:=h
 obtain ⟨u,rfl,ru⟩:=uL r
 cases ru
 obtain ⟨its,rv,pl,hz⟩:=I.list hq
 have hh:X.A.in1.handled=none:=I.ok.hd hc
 have hlt:p < s.heap.objs.size:=by obtain ⟨o,n,e,_⟩:=pl; exact cS e
 refine call_all_walk (wpAny_pyIter_list pl.isList ?_)
 have hlen:its.length=bs.length:=by rw [<- rv.length,a_]
 refine ⟨s.heap.objs.size,_,_,_,_,_,λi=>bs.getD i true,rfl,Walks.list hh s.heap.objs.size p (dA hlt) its.toArray,⟨⟨_,cW _ rfl,rfl,rfl⟩,pl.isList.push _⟩,?_,λh' tk kk=>?_⟩
 ·intro i v s' Q' E' hP hQ'
  have e1:its[i]? = some v:=by simpa using hP
  have hi:i < its.length:=(cK.mp e1).1
  have hb:(bs.map V.bl)[i]? = some (.bl (bs.getD i true)):=by
   rw [db,b_ (by omega),cz,b_ (by omega)]
   rfl
  obtain ⟨u',e2,r2⟩:=rv.get hb
  rw [e1] at e2
  cases e2
  cases r2
  exact wpAny_truthy_bool hQ'
 ·have e:(cR its.toArray.size).all (λi=>bs.getD i true)=bs.all id:=by
   rw [cM,hlen]
   rw [fz,de,de]
   constructor
   ·intro z b hb
    obtain ⟨i,hi,rfl⟩:=ii.mp hb
    have:=z i (dz.mpr hi)
    rw [cz,b_ hi] at this
    exact this
   ·intro z i hi
    have hi':=dz.mp hi
    rw [cz,b_ hi']
    exact z _ (dX hi')
  refine ⟨.bl (bs.all id),H,I.kept (h':=h') (t':=tk) λb o eb=>kk b o ?_ (cE _ eb),?_,q⟩
  ·intro hb
   have:b=s.heap.objs.size:=by simpa using hb
   rw [this] at eb
   exact absurd (cS eb) (dy _)
  ·rw [e]
   rfl
end
end L2
namespace L2
open PySem PySem.Spec PyProof.Rows
def v5 (own:List Str) (caps:List (Nat × Str)) (σ:St):St:=own.map (λ_=>none)++caps.map λp=>(σ[p.1]?).getD none
abbrev zh (own:List Str) (caps:List (Nat × Str)):List Str:=own++caps.map (·.2)
theorem zEZ {scope:Scope} {env:Env} {x:Str}:(relabel scope env).names.lookup x=(scope.names.lookup x).map λk=>if (k == .free && env.scope.kind == .function && env.kindOf x == some .cell)=true then .cell else k:=by
 unfold relabel
 generalize scope.names=l
 induction l with
 | nil=>rfl
 | cons p r ih=>
  obtain ⟨n,k⟩:=p
  rw [di]
  by_cases e:x=n
  ·subst e
   by_cases c:(k == NameKind.free && env.scope.kind == .function && env.kindOf x == some .cell)=true
   ·simp only [c,if_true,dk,beq_self_eq_true,fT]
   ·simp only [c,if_false,dk,beq_self_eq_true,fT,ft]
  ·have z:(x == n)=false:=by simpa using e
   dsimp only
   split <;> simp only [dk,z] <;> exact ih
section
variable {X:Cx} {scope:Scope} {own:List Str} {caps:List (Nat × Str)} {pins:List (Addr × Obj)} {σ:St} {H:Hp} {s s4:Shared} {C D:Addr} {fp:List Addr}
theorem zNi {i:Nat} {x:Str} {v:V} (h1:(zh own caps)[i]? = some x) (h2:(v5 own caps σ)[i]? = some (some v)):∃ j,(j,x)∈caps/\σ[j]? = some (some v):=by
 unfold v5 at h2
 by_cases hi:i < own.length
 ·rw [eh (by simpa using hi),db] at h2
  cases e:own[i]? with
  | none=>rw [e] at h2; cases h2
  | some a=>rw [e] at h2; cases h2
 ·rw [dB (by simpa using hi),a_,db] at h2
  unfold zh at h1
  rw [dB (by omega),db] at h1
  cases e:caps[i - own.length]? with
  | none=>rw [e] at h1; cases h1
  | some p=>
   obtain ⟨j,n⟩:=p
   rw [e] at h1 h2
   cases h1
   refine ⟨j,dm e,?_⟩
   simp only [fT,Option.some.injEq] at h2
   cases q:σ[j]? with
   | none=>rw [q] at h2; cases h2
   | some o=>rw [q] at h2; exact congrArg some h2
abbrev xb (its:List Value) (k:Nat):Obj:={ cls:=.type "list",data:=.seq its.toArray k }
theorem zNj {Y:Cx} {its:List Value} {k:Nat} {y:Value} {pl:List (Addr × Obj)} {Q:Value->Shared->Prop} {E:Value->Shared->Prop} (I:zE Y ((D,xb its k) :: pl) σ H s) (hn:yQ Y [] H D) (hp:Y.pn=[]) (hz:its.length<=sizeLine)
  (q:∀ h' k' tk,(∀ b o,b≠D->s.heap.get? b=some o->h'.get? b=some o)->zE Y [(D,xb (its++[y]) k')] σ H { s with heap:=h',toks:=tk }->Q .none { s with heap:=h',toks:=tk }) :
  wpAny (model Y.prog Y.w) Y.A (call (.builtin "list.append") [.ref D,y]) Q E s:=by
 have pD:=I.pin (D,xb its k) (cQ _ cD)
 have e:s.heap.get? D=some (xb its k):=pD.1
 refine call_meets F.slot_list_append ⟨_,e,rfl⟩ F.entry_list_append (F.args_list_append_2 _ _) (PySem.list_append D its.toArray k y (by rw [cM]; exact hz)) ⟨e,?_⟩
 have e2:=PySem.IsL.update e (·.push y)
 have ea:its.toArray.push y=(its++[y]).toArray:=by simp
 have keep:∀ b o,b≠D->s.heap.get? b=some o->(s.heap.update D (Obj.mapSeq (·.push y))).get? b=some o:=λb o hb eb=>(dE s.heap _ (Ne.symm hb)).trans eb
 have I0:zE Y [] σ H s:=I.pins_of λp hp'=>by cases hp'
 have I1:zE Y [] σ H { s with heap:=s.heap.update D (Obj.mapSeq (·.push y)),toks:=s.toks }:=I0.turned keep hn.1 hn.2.1 hn.2.2.2.1 hn.2.2.2.2.1 hn.2.2.2.2.2
 have e3:(s.heap.update D (Obj.mapSeq (·.push y))).get? D=some (xb (its++[y]) _):=e2.trans (by rw [ea])
 have I2:zE Y [(D,xb (its++[y]) (if ((its++[y]).toArray.size == its.toArray.size)=true then k else k + 1))] σ H { s with heap:=s.heap.update D (Obj.mapSeq (·.push y)),toks:=s.toks }:=I1.pins_of λp hp'=>by
  rw [df.mp hp']
  exact ⟨e3,hn.1,hn.2.1,hn.2.2.1,λv z=>by cases z⟩
 exact q _ _ s.toks keep I2
end
end L2
namespace L2
open PySem PySem.Spec PyProof.Rows
structure Fn (P:Program) (w:World) (K:b') (mg:Str->Option Value) (base:Heap) (x:Str) (ps:List Str) (k:Nat) (sp:Sp):Prop where
 ex:∃ f fd,zF P w K mg base zV k f fd ps sp/\mg x=some (.ref f)/\eg K (.ref f)=true/\vG K fd ps []
theorem Fn.mono {P:Program} {w:World} {K:b'} {mg:Str->Option Value} {base:Heap} {x:Str} {ps:List Str} {j k:Nat} {sp:Sp} (F:Fn P w K mg base x ps j sp) (h:j<=k:=by decide):Fn P w K mg base x ps k sp:=by
 obtain ⟨f,fd,a,b,c,d⟩:=F.ex
 exact ⟨f,fd,a.mono h,b,c,d⟩
theorem zI4 {X:Cx} {x:Str} {ps:List Str} {k:Nat} {sp:Sp} {e:Expr} {es:List Expr} {t:TA} {p pos:Pos} (F:Fn X.prog X.w X.K X.mg X.base x ps k sp) (hr:zU k X.A) (hg:Gl X x) (ha:PA X (e :: es) t)
  (hdb:(x == ("__debug__" : Str))=false:=by decide) (he:starEach (e :: es) X.env=(false,eval e X.env) :: starEach es X.env:=by rfl) (hpl:(backTo pos (starEach es X.env)).any (·.1)=false:=by rfl) :
  PE X (.Call (.Name x p) (e :: es) [] pos) (qk sp [] E0 t):=by
 obtain ⟨f,fd,a,b,c,d⟩:=F.ex
 exact Uc a hr hg b c d .nil X5 ha hdb he hpl
end L2
namespace L2
open PySem PySem.Spec PyProof.Rows
theorem uO:bootBuiltins "isinstance" = some (.builtin "isinstance"):=by decide +kernel
theorem x8:bootBuiltins "len" = some (.builtin "len"):=by decide +kernel
theorem zL7:bootBuiltins "abs" = some (.builtin "abs"):=by decide +kernel
theorem j8:bootBuiltins "all" = some (.builtin "all"):=by decide +kernel
theorem X7:bootBuiltins "int" = some (.type "int"):=by decide +kernel
theorem zKB:bootBuiltins "bool" = some (.type "bool"):=by decide +kernel
theorem vP:bootBuiltins "tuple" = some (.type "tuple"):=by decide +kernel
theorem wV:bootBuiltins "list" = some (.type "list"):=by decide +kernel
structure xV (K:b') (x qual:Str) (st:Stmt) (f:Addr) (fd:FuncData) (d:Value):Prop where
 ex:∃ (oc:Value) (od:Option Addr) (kV doc pm:Value) (an:Option Addr) (cdv ct:Value) (osl:Array (Option Value)) (T:Addr) (oT:Obj) (n:Nat),
  fd=eD x qual (ww st) (xS st) (zR st) (.ref T) kV doc pm an cdv ct/\K.lookup f=some ⟨oc,od,.func fd,osl⟩/\hW K cdv qual=true/\K.lookup T=some oT/\oT.data=.seq #[d] n
 kp:eg K (.ref f)=true
theorem xV.ok {P:Program} {w:World} {K:b'} {mg:Str->Option Value} {base:Heap} {x qual:Str} {st:Stmt} {f:Addr} {fd:FuncData} {d:Value} {N ps:List Str} {k:Nat} {sp:Sp} (F:xV K x qual st f fd d) (S:ze N ps (zR st))
  (len:∀ vs H Q E,sp vs H Q E->vs.length=ps.length)
  (hbody:∀ (cdv:Value) (A:Around) (outer:List Env) (s:Shared) (H:Hp) (vs:List V) (Q:VK) (E:XK),zU k (A.deeper (envOfC qual (zR st) s.heap.objs.size f cdv))->sp vs H Q E->
   ∃ t,yk (zc zV P w K mg base N qual (zR st) f cdv A outer s H E).nox (xS st) t/\t { nx:=λ_ H'=>Q .non H',rt:=Q } (yC N vs) H):zF P w K mg base zV (k + 1) f fd ps sp:=by
 obtain ⟨oc,od,kV,doc,pm,an,cdv,ct,osl,T,oT,n,rfl,lk,hcd,_⟩:=F.ex
 refine X0 lk hcd S len λA outer s H vs Q E hr hsp=>?_
 obtain ⟨t,h,q⟩:=hbody cdv A outer s H vs Q E hr hsp
 exact ⟨t,h.nox,q⟩
end L2
namespace L2
open PySem PySem.Spec PyProof.Rows
theorem zPa {K:b'} {x qual:Str} {st:Stmt} {f T:Addr} {oc kV doc pm cdv ct d:Value} {od an:Option Addr} {osl:Array (Option Value)} {oT:Obj} {n:Nat} (l:K.lookup f=some ⟨oc,od,.func (eD x qual (ww st) (xS st) (zR st) (.ref T) kV doc pm an cdv ct),osl⟩)
  (c:hW K cdv qual=true) (k:eg K (.ref f)=true) (t:K.lookup T=some oT) (e:oT.data=.seq #[d] n):xV K x qual st f (eD x qual (ww st) (xS st) (zR st) (.ref T) kV doc pm an cdv ct) d:=
 ⟨⟨oc,od,kV,doc,pm,an,cdv,ct,osl,T,oT,n,rfl,l,c,t,e⟩,k⟩
theorem xV.binds {K:b'} {x qual:Str} {st:Stmt} {f:Addr} {fd:FuncData} {d:Value} {ps:List Str} (F:xV K x qual st f fd d)
  (h:∀ (T:Addr) (kV doc pm:Value) (an:Option Addr) (cdv ct:Value) (us:List Value),us.length=ps.length->∃ k:Option (Array Value)->Sem (List (Str × Value)),
   bindArgs (eD x qual (ww st) (xS st) (zR st) (.ref T) kV doc pm an cdv ct) ⟨us,[]⟩=seqItems? (.ref T) >>= k/\k (some #[d])=pure (ps.zip us)):vG K fd ps []:=by
 obtain ⟨oc,od,kV,doc,pm,an,cdv,ct,osl,T,oT,n,rfl,lk,hcd,t,e⟩:=F.ex
 intro s us X hl
 rw [d5] at hl |-
 obtain ⟨k,h1,h2⟩:=h T kV doc pm an cdv ct us hl
 exact .of_defaults (T:=T) rfl (X T oT t) e h1 h2
end L2
namespace L2
open PySem PySem.Spec PyProof.Rows
structure wf (P:Program) (w:World) (K:b') (mg:Str->Option Value) (base:Heap) (x:Str) (ps:List Str) (k:Nat) (sp:Sp) (dv:V):Prop where
 ex:∃ f fd d,zF P w K mg base zV k f fd ps sp/\mg x=some (.ref f)/\eg K (.ref f)=true/\vG K fd ps []/\vG K fd ps [d]/\zT dv d
theorem wf.mono {P:Program} {w:World} {K:b'} {mg:Str->Option Value} {base:Heap} {x:Str} {ps:List Str} {j k:Nat} {sp:Sp} {dv:V} (F:wf P w K mg base x ps j sp dv) (h:j<=k:=by decide):wf P w K mg base x ps k sp dv:=by
 obtain ⟨f,fd,d,a,b,c,e⟩:=F.ex
 exact ⟨f,fd,d,a.mono h,b,c,e⟩
theorem wf.fn {P:Program} {w:World} {K:b'} {mg:Str->Option Value} {base:Heap} {x:Str} {ps:List Str} {k:Nat} {sp:Sp} {dv:V} (F:wf P w K mg base x ps k sp dv):Fn P w K mg base x ps k sp:=by
 obtain ⟨f,fd,d,a,b,c,e,_⟩:=F.ex
 exact ⟨f,fd,a,b,c,e⟩
theorem zKx {X:Cx} {x:Str} {ps:List Str} {k:Nat} {sp:Sp} {e:Expr} {es:List Expr} {t:TA} {p pos:Pos} {dv:V} (F:wf X.prog X.w X.K X.mg X.base x ps k sp dv) (hr:zU k X.A) (hg:Gl X x) (ha:PA X (e :: es) t)
  (hdb:(x == ("__debug__" : Str))=false:=by decide) (he:starEach (e :: es) X.env=(false,eval e X.env) :: starEach es X.env:=by rfl) (hpl:(backTo pos (starEach es X.env)).any (·.1)=false:=by rfl) :
  PE X (.Call (.Name x p) (e :: es) [] pos) (qk sp [dv] E0 t):=by
 obtain ⟨f,fd,d,a,b,c,_,h2,r⟩:=F.ex
 exact Uc a hr hg b c h2 (.cons r .nil) X5 ha hdb he hpl
theorem xV.binds1 {K:b'} {x qual:Str} {st:Stmt} {f:Addr} {fd:FuncData} {d:Value} {ps:List Str} (F:xV K x qual st f fd d)
  (h:∀ (T:Addr) (kV doc pm:Value) (an:Option Addr) (cdv ct:Value) (us:List Value),us.length + 1=ps.length->∃ k:Option (Array Value)->Sem (List (Str × Value)),
   bindArgs (eD x qual (ww st) (xS st) (zR st) (.ref T) kV doc pm an cdv ct) ⟨us,[]⟩=seqItems? (.ref T) >>= k/\k (some #[d])=pure (ps.zip (us++[d]))):vG K fd ps [d]:=by
 obtain ⟨oc,od,kV,doc,pm,an,cdv,ct,osl,T,oT,n,rfl,lk,hcd,t,e⟩:=F.ex
 intro s us X hl
 rw [cA,fB] at hl
 obtain ⟨k,h1,h2⟩:=h T kV doc pm an cdv ct us hl
 exact .of_defaults (T:=T) rfl (X T oT t) e h1 h2
theorem zIZ:bootBuiltins "range" = some (.type "range"):=by decide +kernel
end L2
set_option maxRecDepth 100000
namespace L2
open PySem
section
variable {prog:Program} {w:World} {A:Around} {E:Value->Shared->Prop} {s:Shared}
theorem zLu (hh:A.handled=none) (it t:Addr) (hne:t≠it) (items:Array Value) :
  Draws prog w A it [it,t] items.size (λi v=>items[i]? = some v) (λi h=>h.IsTupleIter it t i/\h.IsTuple t items) where
 live:=λ_ _ st=>let ⟨o,ho,_⟩:=st.1; ⟨o,ho⟩
 frame:=λ_ _ _ st hk=>⟨let ⟨o,e,r⟩:=st.1; ⟨o,hk it (by simp) o e,r⟩,let ⟨o,e,r⟩:=st.2; ⟨o,hk t (by simp) o e,r⟩⟩
 item:=λi s Q E hi st hQ=>by
  obtain ⟨hit,ht⟩:=st
  obtain ⟨o,ho,hc,hd⟩:=id hit
  obtain ⟨ol,hol,_,nl,hdl⟩:=id ht
  have hx:items[i]? = some items[i]:=by simp [hi]
  unfold Builtin.SmallTypes.nextOf
  refine wpAny_bind (wpAny_callSpecial?_slot (name:=dD "__next__") hit.typeIs F.slot_tuple_iterator_next (wpAny_call_entry F.slot_tuple_iterator_next hit.typeIs F.entry_tuple_iterator_next ?_ (F.args_tuple_iterator_next_1 _)))
  change wpAny _ _ (field (.ref it) 0 >>= _) _ _ s
  refine wpAny_bind (wpAny_field ho hd (x:=.ref t) rfl ?_)
  change wpAny _ _ (if (Value.ref t == Value.none)=true then _ else _) _ _ s
  rw [if_neg (show (Value.ref t == Value.none)≠true from dh)]
  change wpAny _ _ (field (.ref it) 1 >>= _) _ _ s
  refine wpAny_bind (wpAny_field ho hd (x:=.int i 0) rfl ?_)
  change wpAny _ _ (seqItems? (.ref t) >>= _) _ _ s
  refine wpAny_bind (wpAny_seqItems hol hdl ?_)
  simp only [f_,hx]
  refine wpAny_bind (wpAny_setField ho hd (by simp) (wpAny_pure ⟨items[i],rfl,wpAny_pure (hQ _ _ s.toks hx ⟨?_,?_⟩ (Heap.SameBut.update ..))⟩))
  ·exact ⟨_,fA _ ho (Obj.isFreed_of_fields (Obj.data_mapFields hd _)),(Obj.cls_mapFields ..).trans hc,by rw [Obj.data_mapFields hd]; simp [rawInt]⟩
  ·exact ht.extBut (Heap.SameBut.update ..).extBut hne
 done:=λs Q E st hE=>by
  obtain ⟨hit,ht⟩:=st
  obtain ⟨o,ho,hc,hd⟩:=id hit
  obtain ⟨ol,hol,_,nl,hdl⟩:=id ht
  have hx:items[items.size]? = none:=by simp
  unfold Builtin.SmallTypes.nextOf
  refine wpAny_bind (wpAny_callSpecial?_slot (name:=dD "__next__") hit.typeIs F.slot_tuple_iterator_next (wpAny_call_entry F.slot_tuple_iterator_next hit.typeIs F.entry_tuple_iterator_next ?_ (F.args_tuple_iterator_next_1 _)))
  change wpAny _ _ (field (.ref it) 0 >>= _) _ _ s
  refine wpAny_bind (wpAny_field ho hd (x:=.ref t) rfl ?_)
  change wpAny _ _ (if (Value.ref t == Value.none)=true then _ else _) _ _ s
  rw [if_neg (show (Value.ref t == Value.none)≠true from dh)]
  change wpAny _ _ (field (.ref it) 1 >>= _) _ _ s
  refine wpAny_bind (wpAny_field ho hd (x:=.int items.size 0) rfl ?_)
  change wpAny _ _ (seqItems? (.ref t) >>= _) _ _ s
  refine wpAny_bind (wpAny_seqItems hol hdl ?_)
  simp only [f_,hx]
  refine wpAny_bind (wpAny_rule (wpAny_bind (wpAny_setField ho hd (by simp) ?_)))
  change wpAny _ _ (newExc (.type "StopIteration") [] >>= _) _ _ _
  refine wpAny_bind ?_
  simp only [newExc,newTuple]
  refine wpAny_bind (wpAny_newObj_type ?_ (by size_fits))
  refine wpAny_bind (m:=firstArgMember _ _) (wpAny_of_eq (a:=Value.none) (by first | rfl | (simp only [firstArgMember]; rfl)) ?_)
  refine wpAny_newObj_type ?_ (by size_fits)
  simp only [raiseNew]
  refine wpAny_bind (wpAny_handled ?_)
  first | rw [show A.in1.handled=none from hh] | rw [hh]
  refine wpAny_bind (wpAny_pure (wpAny_throw ?_))
  exact hE _ _ (((Heap.SameBut.update ..).extBut.push _).push _) ⟨_,cW _ rfl,rfl⟩
structure Zp (z TI TO i1 i2:Addr) (f1 f2:List Addr):Prop where
 a1:TI≠z
 a2:TO≠z
 a3:i1≠z
 a4:i2≠z
 a5:TI≠TO
 a6:TI≠i1
 a7:TI≠i2
 a8:TO≠i1
 a9:TO≠i2
 b1:z∉f1
 b2:z∉f2
 b3:TO∉f1
 b4:TO∉f2
 b5:i1∉f2
 b6:i2∉f1
theorem zMJ {z TI TO i1 i2:Addr} {f1 f2:List Addr} {n1 n2 k:Nat} {P1 P2:Nat->Value->Prop} {S1 S2:Nat->Heap->Prop} {a b:Value} {Q:Value->Shared->Prop}
  (D1:Draws prog w A i1 f1 n1 P1 S1) (D2:Draws prog w A i2 f2 n2 P2 S2) (Z:Zp z TI TO i1 i2 f1 f2) (hz:IsZip s.heap z TI TO .none) (hI:IsPair s.heap TI (.ref i1) (.ref i2)) (hO:IsPair s.heap TO a b)
  (s1:S1 k s.heap) (s2:S2 k s.heap) (k1:k < n1) (k2:k < n2)
  (hQ:∀ x y h' tk,P1 k x->P2 k y->IsZip h' z TI TO (rawInt s.heap.objs.size)->IsPair h' TI (.ref i1) (.ref i2)->IsPair h' TO x y->S1 (k + 1) h'->S2 (k + 1) h'->IsPair h' s.heap.objs.size x y->
   (∀ c o,c≠z->c≠TO->c≠i1->c≠i2->s.heap.get? c=some o->h'.get? c=some o)->Q (.ref s.heap.objs.size) { s with heap:=h',toks:=tk }) :
  wpAny (model prog w) A (Builtin.«zip.__next__» ⟨[.ref z],[]⟩) (λfin s'=>∃ v,fin=.done (.ret v)/\Q v s') E s:=by
 change wpAny _ _ (field (.ref z) 2 >>= _) _ _ _
 refine wpAny_bind (wpAny_field hz rfl (x:=.bool false) rfl ?_)
 change wpAny _ _ (field (.ref z) 3 >>= _) _ _ _
 refine wpAny_bind (wpAny_field hz rfl (x:=.ref TI) rfl ?_)
 refine wpAny_bind (wpAny_seqItems hI rfl ?_)
 change wpAny _ _ (Builtin.SmallTypes.ownedTupleIsFree (.ref z) >>= _) _ _ _
 refine wpAny_bind ?_
 unfold Builtin.SmallTypes.ownedTupleIsFree
 refine wpAny_bind (wpAny_field hz rfl (x:=.none) rfl (wpAny_pure ?_))
 simp only [if_true]
 refine wpAny_bind (wpAny_rule ?_)
 refine wpAny_bind (wpAny_field hz rfl (x:=.ref TO) rfl ?_)
 refine wpAny_bind (wpAny_setField_rec hz (by simp) λg1 z1 m1=>?_)
 replace z1:IsZip g1 z TI TO .ellipsis:=z1
 refine wpAny_bind ?_
 simp only [mF,mU,i7,lD]
 refine wpAny_bind (wpAny_bind (wpAny_onRaise ?_))
 change wpAny _ _ (Builtin.SmallTypes.nextOf (.ref i1) >>= _) _ _ _
 refine wpAny_bind (D1.item k _ _ _ k1 (D1.frame _ _ _ s1 λc hc o e=>m1.extBut c o (λq=>Z.b1 (q ▸ hc)) e) λx g2 t2 px s12 m2=>wpAny_pure ?_)
 have o2:IsPair g2 TO a b:=m2.extBut _ _ Z.a8 (m1.extBut _ _ Z.a2 hO)
 refine wpAny_bind (wpAny_seqItems o2 rfl ?_)
 refine wpAny_bind (wpAny_updateSeq_pair o2 λg3 o3 m3=>?_)
 replace o3:IsPair g3 TO x b:=o3
 refine wpAny_bind (wpAny_letGo (wpAny_pure ?_))
 refine wpAny_bind (wpAny_bind (wpAny_onRaise ?_))
 change wpAny _ _ (Builtin.SmallTypes.nextOf (.ref i2) >>= _) _ _ _
 refine wpAny_bind (D2.item k _ _ _ k2 (D2.frame _ _ _ s2 λc hc o e=>m3.extBut c o (λq=>Z.b4 (q ▸ hc)) (m2.extBut c o (λq=>Z.b5 (q ▸ hc)) (m1.extBut c o (λq=>Z.b2 (q ▸ hc)) e))) λy g4 t4 py s24 m4=>wpAny_pure ?_)
 have o4:IsPair g4 TO x b:=m4.extBut _ _ Z.a9 o3
 refine wpAny_bind (wpAny_seqItems o4 rfl ?_)
 refine wpAny_bind (wpAny_updateSeq_pair o4 λg5 o5 m5=>?_)
 replace o5:IsPair g5 TO x y:=o5
 refine wpAny_bind (wpAny_letGo (wpAny_pure (wpAny_pure ?_)))
 refine wpAny_bind (wpAny_seqItems o5 rfl ?_)
 refine wpAny_bind (wpAny_newTuple ?_)
 have sz:g5.objs.size=s.heap.objs.size:=by
  have q5:g5.objs.size=g4.objs.size:=m5.1
  have q4:g4.objs.size=g3.objs.size:=m4.1
  have q3:g3.objs.size=g2.objs.size:=m3.1
  have q2:g2.objs.size=g1.objs.size:=m2.1
  have q1:g1.objs.size=s.heap.objs.size:=m1.1
  omega
 have all5:∀ c o,c≠z->c≠TO->c≠i1->c≠i2->s.heap.get? c=some o->g5.get? c=some o:=λc o c1 c2 c3 c4 e=>m5.extBut _ _ c2 (m4.extBut _ _ c4 (m3.extBut _ _ c2 (m2.extBut _ _ c3 (m1.extBut _ _ c1 e))))
 have z5:IsZip g5 z TI TO .ellipsis:=m5.extBut _ _ Z.a2.symm (m4.extBut _ _ Z.a4.symm (m3.extBut _ _ Z.a2.symm (m2.extBut _ _ Z.a3.symm z1)))
 have I5:IsPair g5 TI (.ref i1) (.ref i2):=all5 _ _ Z.a1 Z.a5 Z.a6 Z.a7 hI
 have u1:S1 (k + 1) g5:=D1.frame _ _ _ s12 λc hc o e=>m5.extBut c o (λq=>Z.b3 (q ▸ hc)) (m4.extBut c o (λq=>Z.b6 (q ▸ hc)) (m3.extBut c o (λq=>Z.b3 (q ▸ hc)) e))
 have u2:S2 (k + 1) g5:=D2.frame _ _ _ s24 λc hc o e=>m5.extBut c o (λq=>Z.b4 (q ▸ hc)) e
 have lt:z < g5.objs.size:=cS z5
 change wpAny _ _ (Builtin.SmallTypes.ownedTupleHandOut (.ref z) (.ref g5.objs.size) >>= _) _ _ _
 refine wpAny_bind ?_
 unfold Builtin.SmallTypes.ownedTupleHandOut
 have z6:IsZip (g5.push { cls:=.type "tuple",data:=.seq #[x,y] }) z TI TO .ellipsis:=cE _ z5
 refine wpAny_bind (wpAny_setField_rec z6 (by simp) λg7 z7 m7=>?_)
 replace z7:IsZip g7 z TI TO (rawInt g5.objs.size):=z7
 refine wpAny_setField_rec z7 (by simp) λg8 z8 m8=>?_
 replace z8:IsZip g8 z TI TO (rawInt g5.objs.size):=z8
 have up:∀ c o,c≠z->g5.get? c=some o->g8.get? c=some o:=λc o c1 e=>m8.extBut _ _ c1 (m7.extBut _ _ c1 (cE _ e))
 have T8:IsPair g8 g5.objs.size x y:=m8.extBut _ _ (fJ lt) (m7.extBut _ _ (fJ lt) (cW _ rfl))
 rw [sz] at z8 T8
 refine wpAny_pure ⟨_,rfl,?_⟩
 change Q (.ref g5.objs.size) _
 rw [sz]
 exact hQ x y g8 _ px py z8 (up _ _ Z.a1 I5) (up _ _ Z.a2 o5) (D1.frame _ _ _ u1 λc hc o e=>up c o (λq=>Z.b1 (q ▸ hc)) e) (D2.frame _ _ _ u2 λc hc o e=>up c o (λq=>Z.b2 (q ▸ hc)) e) T8
  λc o c1 c2 c3 c4 e=>up c o c1 (all5 c o c1 c2 c3 c4 e)
theorem zMG {z TI TO i1 i2:Addr} {f1 f2:List Addr} {n1 n2 k:Nat} {P1 P2:Nat->Value->Prop} {S1 S2:Nat->Heap->Prop} {a b:Value} {Q:Fin->Shared->Prop}
  (D1:Draws prog w A i1 f1 n1 P1 S1) (D2:Draws prog w A i2 f2 n2 P2 S2) (Z:Zp z TI TO i1 i2 f1 f2) (hz:IsZip s.heap z TI TO .none) (hI:IsPair s.heap TI (.ref i1) (.ref i2)) (hO:IsPair s.heap TO a b)
  (s1:S1 k s.heap) (s2:S2 k s.heap) (k1:k<=n1) (k2:k<=n2) (ke:k=n1\/k=n2)
  (hE:∀ h' e tk,(∀ c o,c≠z->c≠TO->c≠i1->c≠i2->s.heap.get? c=some o->h'.get? c=some o)->(∃ o,h'.get? e=some o/\o.cls=.type "StopIteration")->E (.ref e) { s with heap:=h',toks:=tk }) :
  wpAny (model prog w) A (Builtin.«zip.__next__» ⟨[.ref z],[]⟩) Q E s:=by
 change wpAny _ _ (field (.ref z) 2 >>= _) _ _ _
 refine wpAny_bind (wpAny_field hz rfl (x:=.bool false) rfl ?_)
 change wpAny _ _ (field (.ref z) 3 >>= _) _ _ _
 refine wpAny_bind (wpAny_field hz rfl (x:=.ref TI) rfl ?_)
 refine wpAny_bind (wpAny_seqItems hI rfl ?_)
 change wpAny _ _ (Builtin.SmallTypes.ownedTupleIsFree (.ref z) >>= _) _ _ _
 refine wpAny_bind ?_
 unfold Builtin.SmallTypes.ownedTupleIsFree
 refine wpAny_bind (wpAny_field hz rfl (x:=.none) rfl (wpAny_pure ?_))
 simp only [if_true]
 refine wpAny_bind (wpAny_rule ?_)
 refine wpAny_bind (wpAny_field hz rfl (x:=.ref TO) rfl ?_)
 refine wpAny_bind (wpAny_setField_rec hz (by simp) λg1 z1 m1=>?_)
 replace z1:IsZip g1 z TI TO .ellipsis:=z1
 refine wpAny_bind ?_
 simp only [mF,mU,i7,lD]
 refine wpAny_bind (wpAny_bind (wpAny_onRaise ?_))
 change wpAny _ _ (Builtin.SmallTypes.nextOf (.ref i1) >>= _) _ _ _
 have s1':S1 k g1:=D1.frame _ _ _ s1 λc hc o e=>m1.extBut c o (λq=>Z.b1 (q ▸ hc)) e
 by_cases c1:k=n1
 ·subst c1
  refine wpAny_bind (D1.done _ _ _ s1' λg2 e m2 he=>?_)
  obtain ⟨oe,he1,he2⟩:=he
  have z2:IsZip g2 z TI TO .ellipsis:=m2 _ _ Z.a3.symm z1
  have nez:e≠z:=λq=>by subst q; rw [z2] at he1; cases he1; simp at he2
  exact wpAny_setField_rec z2 (by simp) λg3 _ m3=>hE g3 e _ (λc o c1 c2 c3 c4 q=>m3.extBut _ _ c1 (m2 _ _ c3 (m1.extBut _ _ c1 q))) ⟨oe,m3.extBut _ _ nez he1,he2⟩
 ·have c2:k=n2:=ke.resolve_left c1
  subst c2
  refine wpAny_bind (D1.item k _ _ _ (by omega) s1' λx g2 t2 px s12 m2=>wpAny_pure ?_)
  have o2:IsPair g2 TO a b:=m2.extBut _ _ Z.a8 (m1.extBut _ _ Z.a2 hO)
  refine wpAny_bind (wpAny_seqItems o2 rfl ?_)
  refine wpAny_bind (wpAny_updateSeq_pair o2 λg3 o3 m3=>?_)
  refine wpAny_bind (wpAny_letGo (wpAny_pure ?_))
  refine wpAny_bind (wpAny_bind (wpAny_onRaise ?_))
  change wpAny _ _ (Builtin.SmallTypes.nextOf (.ref i2) >>= _) _ _ _
  refine wpAny_bind (D2.done _ _ _ (D2.frame _ _ _ s2 λc hc o e=>m3.extBut c o (λq=>Z.b4 (q ▸ hc)) (m2.extBut c o (λq=>Z.b5 (q ▸ hc)) (m1.extBut c o (λq=>Z.b2 (q ▸ hc)) e))) λg4 e m4 he=>?_)
  obtain ⟨oe,he1,he2⟩:=he
  have z4:IsZip g4 z TI TO .ellipsis:=m4 _ _ Z.a4.symm (m3.extBut _ _ Z.a2.symm (m2.extBut _ _ Z.a3.symm z1))
  have nez:e≠z:=λq=>by subst q; rw [z4] at he1; cases he1; simp at he2
  exact wpAny_setField_rec z4 (by simp) λg5 _ m5=>hE g5 e _ (λc o c1 c2 c3 c4 q=>m5.extBut _ _ c1 (m4 _ _ c4 (m3.extBut _ _ c2 (m2.extBut _ _ c3 (m1.extBut _ _ c1 q))))) ⟨oe,m5.extBut _ _ nez he1,he2⟩
end
section
variable {prog:Program} {w:World} {A:Around} {E:Value->Shared->Prop} {s:Shared}
theorem zMH {z TI TO i1 i2:Addr} {f1 f2:List Addr} {n1 n2 k:Nat} {P1 P2:Nat->Value->Prop} {S1 S2:Nat->Heap->Prop} {a b:Value} {Q:Option Value->Shared->Prop}
  (D1:Draws prog w A.in1 i1 f1 n1 P1 S1) (D2:Draws prog w A.in1 i2 f2 n2 P2 S2) (Z:Zp z TI TO i1 i2 f1 f2) (hz:IsZip s.heap z TI TO .none) (hI:IsPair s.heap TI (.ref i1) (.ref i2)) (hO:IsPair s.heap TO a b)
  (s1:S1 k s.heap) (s2:S2 k s.heap) (k1:k < n1) (k2:k < n2)
  (hQ:∀ x y h' tk,P1 k x->P2 k y->IsZip h' z TI TO (rawInt s.heap.objs.size)->IsPair h' TI (.ref i1) (.ref i2)->IsPair h' TO x y->S1 (k + 1) h'->S2 (k + 1) h'->IsPair h' s.heap.objs.size x y->
   (∀ c o,c≠z->c≠TO->c≠i1->c≠i2->s.heap.get? c=some o->h'.get? c=some o)->Q (some (.ref s.heap.objs.size)) { s with heap:=h',toks:=tk }) :
  wpAny (model prog w) A (pyNext (.ref z)) Q E s:=by
 have ty:s.TypeIs (.ref z) "zip":=⟨_,hz,rfl⟩
 unfold pyNext
 refine wpAny_bind (wpAny_attempt (wpAny_callSpecial?_slot (name:=dD "__next__") ty F.slot_zip_next (wpAny_call_entry F.slot_zip_next ty F.entry_zip_next ?_ (F.args_zip_next_1 _))))
 exact zMJ D1 D2 Z hz hI hO s1 s2 k1 k2 λx y h' tk c1 c2 c3 c4 c5 c6 c7 c8 c9=>wpAny_pure (hQ x y h' tk c1 c2 c3 c4 c5 c6 c7 c8 c9)
theorem zOU {z TI TO i1 i2:Addr} {f1 f2:List Addr} {n1 n2 k:Nat} {P1 P2:Nat->Value->Prop} {S1 S2:Nat->Heap->Prop} {a b:Value} {Q:Option Value->Shared->Prop}
  (D1:Draws prog w A.in1 i1 f1 n1 P1 S1) (D2:Draws prog w A.in1 i2 f2 n2 P2 S2) (Z:Zp z TI TO i1 i2 f1 f2) (hz:IsZip s.heap z TI TO .none) (hI:IsPair s.heap TI (.ref i1) (.ref i2)) (hO:IsPair s.heap TO a b)
  (s1:S1 k s.heap) (s2:S2 k s.heap) (k1:k<=n1) (k2:k<=n2) (ke:k=n1\/k=n2)
  (hQ:∀ h' tk,(∀ c o,c≠z->c≠TO->c≠i1->c≠i2->s.heap.get? c=some o->h'.get? c=some o)->Q none { s with heap:=h',toks:=tk }) :
  wpAny (model prog w) A (pyNext (.ref z)) Q E s:=by
 have ty:s.TypeIs (.ref z) "zip":=⟨_,hz,rfl⟩
 unfold pyNext
 refine wpAny_bind (wpAny_attempt (wpAny_callSpecial?_slot (name:=dD "__next__") ty F.slot_zip_next (wpAny_call_entry F.slot_zip_next ty F.entry_zip_next
  (zMG D1 D2 Z hz hI hO s1 s2 k1 k2 ke λh' e tk keep he=>?_) (F.args_zip_next_1 _))))
 obtain ⟨o,ho,hc⟩:=he
 refine wpAny_bind (wpAny_isInstance (T:="StopIteration") (b:=true) ⟨o,ho,hc⟩ isSubtype_stop ?_)
 exact wpAny_pure (hQ _ _ keep)
end
end L2
namespace L2
open PySem PySem.Spec PyProof.Rows
theorem ZT {vs:Array Value} (v:Option Value):Data.fields vs≠Data.cell v:=λz=>by cases z
theorem zEy {vs:Array Value} {n:Nat} (v:Option Value):Data.seq vs n≠Data.cell v:=λz=>by cases z
theorem zE.turnT {X:Cx} {pins:List (Addr × Obj)} {σ:St} {H:Hp} {s:Shared} {h':Heap} {tk:Nat} {ch:List Addr} {T:Addr} {x y:V} {u v:Value} (I:zE X pins σ H s) (hf:∀ b∈ch,yQ X pins H b) (keep:∀ b o,b∉ch->s.heap.get? b=some o->h'.get? b=some o)
  (hT:s.heap.objs.size<=T) (p:IsPair h' T u v) (rx:zT x u) (ry:zT y v):zE X pins σ (za H T (.tup [x,y])) { s with heap:=h',toks:=tk }:=by
 have fr:H T=none:=I.hok.fresh hT
 have nT:∀ b o,s.heap.get? b=some o->b≠T:=λb o e z=>by rw [z] at e; exact absurd (cU (cS e) hT) (dy _)
 have jE:∀ b o,H b=some o->b∉ch:=λb o e z=>by rw [(hf b z).1] at e; cases e
 refine I.step (ch:=ch) (λb hb=>⟨(hf b hb).2.2.2.1,(hf b hb).2.1,(hf b hb).2.2.2.2.1,(hf b hb).2.2.2.2.2⟩) (λb o _ _ hc e _=>keep b o hc e) (λb o _ _ hc e _=>⟨o.slots,keep b o hc e⟩)
  (λb o _ e n=>by rw [zu (nT b o e)]; exact n) (λb o hc e=>⟨o,keep b o hc e⟩) (λb xs e=>by rw [zu (wD e fr)]; exact e) (λb o w e=>by rw [zu (wD e fr)]; exact e)
  (λb ps e=>⟨#[],by rw [zu (wD e fr),e]; simp⟩) (λm hm=>?_) (λb w e=>?_) I.bare
 ·obtain ⟨o,es,ep,ho,r⟩:=hm
  exact ⟨o,es,ep,keep _ o (λz=>(hf _ z).2.1 rfl) ho,r⟩
 ·by_cases hb:b=T
  ·subst hb
   rw [xh] at e
   cases e
   exact ⟨by show 2<=sizeLine; decide,[u,v],.cons rx (.cons ry .nil),⟨_,p,rfl,_,rfl⟩⟩
  ·rw [zu hb] at e
   refine (I.hok b w e).stay (λc q hc ec=>keep c q ?_ ec) (λc ec=>by rw [zu (wD ec fr)]; exact ec) λc xs ec=>by rw [zu (wD ec fr)]; exact ec
   rcases hc with z | z
   ·rw [z]
    exact jE b w e
   ·exact jE c _ z
theorem zE.turnN {X:Cx} {pins:List (Addr × Obj)} {σ:St} {H:Hp} {s:Shared} {h':Heap} {tk:Nat} {ch:List Addr} (I:zE X pins σ H s) (hf:∀ b∈ch,yQ X pins H b) (keep:∀ b o,b∉ch->s.heap.get? b=some o->h'.get? b=some o) :
  zE X pins σ H { s with heap:=h',toks:=tk }:=by
 have jE:∀ b o,H b=some o->b∉ch:=λb o e z=>by rw [(hf b z).1] at e; cases e
 refine I.step (ch:=ch) (λb hb=>⟨(hf b hb).2.2.2.1,(hf b hb).2.1,(hf b hb).2.2.2.2.1,(hf b hb).2.2.2.2.2⟩) (λb o _ _ hc e _=>keep b o hc e) (λb o _ _ hc e _=>⟨o.slots,keep b o hc e⟩)
  (λb o _ e n=>n) (λb o hc e=>⟨o,keep b o hc e⟩) (λb xs e=>e) (λb o w e=>e) (λb ps e=>⟨#[],by rw [e]; simp⟩) (λm hm=>?_) (λb w e=>?_) I.bare
 ·obtain ⟨o,es,ep,ho,r⟩:=hm
  exact ⟨o,es,ep,keep _ o (λz=>(hf _ z).2.1 rfl) ho,r⟩
 ·refine (I.hok b w e).stay (λc q hc ec=>keep c q ?_ ec) (λc ec=>ec) λc xs ec=>ec
  rcases hc with z | z
  ·rw [z]
   exact jE b w e
  ·exact jE c _ z
theorem v6 {x y z:Nat} (h1:x≠y) (h2:x≠z):x∉[y,z]:=by simp [h1,h2]
theorem ZU (n a b:Nat) (la:a < n) (lb:b < n):Zp (n + 4) (n + 2) (n + 3) n (n + 1) [n,a] [n + 1,b]:=by
 have e:∀ x y:Nat,x≠y->(x:Addr)≠y:=λ_ _ h=>h
 exact ⟨e _ _ (by omega),e _ _ (by omega),e _ _ (by omega),e _ _ (by omega),e _ _ (by omega),e _ _ (by omega),e _ _ (by omega),e _ _ (by omega),e _ _ (by omega),
  v6 (by omega) (by omega),v6 (by omega) (by omega),v6 (by omega) (by omega),v6 (by omega) (by omega),v6 (by omega) (by omega),v6 (by omega) (by omega)⟩
end L2
namespace L2
open PySem PySem.Spec PyProof.Rows
def Uo (J:It) (g:TG) (tc:TT) (te:TE) (Q:VK) (σ0:St) (H0:Hp):Prop:=∃ W:Nat->Nat->List V->St->Hp->Prop,(∃ m,W 0 m [] σ0 H0)/\∀ i m ys σ1 H,W i m ys σ1 H->
 (J.stop i H/\∀ p,H p=none->Q (.ref p) (za H p (.lst ys)))\/(J.go i H/\ys.length < sizeLine/\∃ (N:V->St->Hp->Prop) (N0:St->Hp->Prop),(∀ y σ' H',N y σ' H'->∃ m',m' < m/\W (i + 1) m' (ys++[y]) σ' H')/\(∀ σ' H',N0 σ' H'->∃ m',m' < m/\W (i + 1) m' ys σ' H')∧
    ∀ x H',J.yld i H x H'->g x σ1 H' λσ2 H2=>tc σ2 H2 λb H3=>if b=true then te σ2 H3 λy H4=>N y σ2 H4 else N0 σ2 H3)
def zNx (own:List Str) (caps:List (Nat × Str)) (wi:TI) (g:TG) (tc:TT) (te:TE):TE:=λσ H Q=>wi σ H λJ H1=>Uo J g tc te Q (v5 own caps σ) H1
end L2
namespace L2
open PySem PySem.Spec PyProof.Rows
section
variable {X:Cx}
theorem Up (hu:X.A.units + 64 < cLine):y8 X (compareOp .NotEq) (λx y H Q=>∃ d e:PyData,Dp X.K H x d/\Dp X.K H y e/\d.canLay0=true/\e.canLay0=true/\d.depth<=60/\e.depth<=60/\Q (.bl (!PyData.eqv d e)) H):=by
 intro pins s σ H x y v u Q I rx ry h
 obtain ⟨d,e,hx,hy,hc,hc',hd,hd',q⟩:=h
 obtain ⟨_,r1⟩:=hx.reads I rx
 obtain ⟨_,r2⟩:=hy.reads I ry
 exact SeqAt.compareNe_reads r1 r2 hc hc' (by omega) ⟨.bl _,H,I,rfl,q⟩
end
end L2
namespace L2
open PySem
theorem X8:bootBuiltins "max" = some (.builtin "max"):=by decide +kernel
end L2
namespace L2
open PySem PySem.Spec PyProof.Rows
theorem ZV:bootBuiltins "sum" = some (.builtin "sum"):=by decide +kernel
theorem zHc:∀ {ns:List Int} {its:List Value},zK (ns.map V.int) its->∃ zs:List (Int × Tok),its=zs.map (λp=>Value.int p.1 p.2)/\zs.map (·.1)=ns
 | [],_,.nil=>⟨[],rfl,rfl⟩
 | n :: r,_,.cons h t=>by
  obtain ⟨zs,e1,e2⟩:=zHc t
  obtain ⟨tk,rfl⟩:=h
  exact ⟨(n,tk) :: zs,by rw [e1]; rfl,by rw [di,e2]⟩
section
variable {X:Cx}
theorem ZW (hc:X.calm=true):wu X (.builtin "sum") (λxs H Q=>∃ (p:Addr) (ns:List Int),xs=[.ref p]/\zl X.K H p (ns.map V.int)/\Q (.int ns.sum) H):=by
 intro pins s σ H xs us Q I r h
 obtain ⟨p,ns,rfl,hq,q⟩:=h
 obtain ⟨u,rfl,ru⟩:=uL r
 cases ru
 obtain ⟨its,rv,pl,hz⟩:=I.list hq
 obtain ⟨zs,e1,e2⟩:=zHc rv
 have e3:its.toArray=intItems zs.toArray:=by
  rw [e1]
  unfold intItems
  simp
 have hl:=pl.isList
 rw [e3] at hl
 refine sum_intListG (I.ok.hd hc) hl λh' tk t' kk=>⟨.int ns.sum,H,I.kept (h':=h') (t':=tk) kk,⟨t',?_⟩,q⟩
 rw [preSum_eq,cJ (by simp),e2]
end
end L2
namespace L2
open PySem PySem.Spec PyProof.Rows
theorem ZX {a b c d:Nat} (h1:a < b) (h2:b<=c) (h3:c + 1<=d):d≠a:=by omega
theorem Uq {a b c:Nat} (h1:c=a + 1) (h2:c + 1<=b):b≠a:=by omega
theorem X9 {x:Str} {c:Addr}:∀ (names:List (Str × NameKind)) (n:Nat) (acc:List (Str × Addr)),(cellsFrom n names acc).lookup x=some c->((x,NameKind.cell)∈names/\n<=c)\/acc.lookup x=some c
 | [],_,_,h=>.inr h
 | (y,k) :: r,n,acc,h=>by
  unfold cellsFrom at h
  split at h
  ·rename_i hk
   rcases X9 r (n + 1) ((y,n) :: acc) h with ⟨a,b⟩ | z
   ·exact .inl ⟨cB _ a,by omega⟩
   ·rw [dk] at z
    by_cases e:(x == y)=true
    ·simp only [e] at z
     have e1:x=y:=eq_of_beq e
     have e2:k=.cell:=eq_of_beq hk
     subst e1
     subst e2
     cases z
     exact .inl ⟨cD,cF _⟩
    ·have e':(x == y)=false:=by simpa using e
     simp only [e'] at z
     exact .inr z
  ·rcases X9 r n acc h with ⟨a,b⟩ | z
   ·exact .inl ⟨cB _ a,b⟩
   ·exact .inr z
theorem Ur {x:Str}:∀ (names:List (Str × NameKind)) (n:Nat) (acc:List (Str × Addr)),(x,NameKind.cell)∉names->(cellsFrom n names acc).lookup x=acc.lookup x
 | [],_,_,_=>rfl
 | (y,k) :: r,n,acc,h=>by
  have hr:(x,NameKind.cell)∉r:=λz=>h (cB _ z)
  unfold cellsFrom
  split
  ·rename_i hk
   have e2:k=.cell:=eq_of_beq hk
   rw [Ur r _ _ hr,dk]
   have e':(x == y)=false:=by
    cases q:x == y with
    | false=>rfl
    | true=>exact absurd (by rw [eq_of_beq q,e2]; exact cD) h
   simp only [e']
  ·exact Ur r _ _ hr
theorem Us:∀ (names:List (Str × NameKind)) (n:Nat) (acc:List (Str × Addr)),(∀ x c,acc.lookup x=some c->c < n)->(∀ x y c,acc.lookup x=some c->acc.lookup y=some c->x=y)->
  ∀ x y c,(cellsFrom n names acc).lookup x=some c->(cellsFrom n names acc).lookup y=some c->x=y
 | [],_,_,_,h2=>h2
 | (z,k) :: r,n,acc,h1,h2=>by
  unfold cellsFrom
  split
  ·have look:∀ x c,((z,n) :: acc).lookup x=some c->(x=z/\c=n)\/acc.lookup x=some c:=λx c e=>by
    rw [dk] at e
    cases q:x == z with
    | true=>
     simp only [q] at e
     exact .inl ⟨eq_of_beq q,(Option.some.inj e).symm⟩
    | false=>
     simp only [q] at e
     exact .inr e
   refine Us r (n + 1) ((z,n) :: acc) (λx c e=>?_) λx y c e1 e2=>?_
   ·rcases look x c e with ⟨_,e⟩ | e
    ·rw [e]
     exact dC n
    ·exact g_ (h1 x c e)
   ·rcases look x c e1 with ⟨a1,b1⟩ | a1 <;> rcases look y c e2 with ⟨a2,b2⟩ | a2
    ·rw [a1,a2]
    ·have:=h1 y c a2
     rw [b1] at this
     exact absurd this (dy n)
    ·have:=h1 x c a1
     rw [b2] at this
     exact absurd this (dy n)
    ·exact h2 x y c a1 a2
  ·exact Us r n acc h1 h2
theorem Ut {x:Str} {c:Addr}:∀ (names:List (Str × NameKind)) (h:Heap) (acc:List (Str × Addr)),(cellsFrom h.objs.size names acc).lookup x=some c->acc.lookup x=some c\/(pushCells h names).IsCell c none
 | [],_,_,e=>.inl e
 | (y,k) :: r,h,acc,e=>by
  unfold cellsFrom at e
  unfold pushCells
  split at e
  ·rename_i hk
   rw [if_pos hk]
   have q:=Ut (x:=x) (c:=c) r (h.push { cls:=.type "cell",data:=.cell none }) ((y,h.objs.size) :: acc) (by rw [eX]; exact e)
   rcases q with q | q
   ·rw [dk] at q
    cases z:x == y with
    | true=>
     simp only [z] at q
     cases q
     exact .inr ⟨_,pushCells_keeps r _ _ _ (cW _ rfl),rfl⟩
    | false=>
     simp only [z] at q
     exact .inl q
   ·exact .inr q
  ·rename_i hk
   rw [if_neg hk]
   exact Ut r h acc e
theorem gv:∀ {l:List (Str × NameKind)} {x:Str} {k:NameKind},(l.map (·.1)).Nodup->(x,k)∈l->l.lookup x=some k
 | [],_,_,_,h=>by cases h
 | (y,j) :: r,x,k,nd,h=>by
  rw [di,fP] at nd
  rw [dk]
  rcases da.mp h with e | h
  ·cases e
   rw [beq_self_eq_true]
  ·have ne:(x == y)=false:=by
    cases q:x == y with
    | false=>rfl
    | true=>exact absurd (by rw [<- eq_of_beq q]; exact cH.mpr ⟨(x,k),h,rfl⟩) nd.1
   simp only [ne]
   exact gv nd.2 h
theorem zGl {M:Model} {A:Around} {E:Value->Shared->Prop} {s:Shared} {scope:Scope} {globals:Addr} {closure:List (Str × Addr)} {qual:Str} {func:Option Addr} {code:Value} {env:Env} {builtins:Addr} {Q:Env->Shared->Prop}
  (h:Q (newEnv scope s.heap.objs.size globals (cellsFrom (s.heap.objs.size + 1) scope.names closure) qual func code (some env) builtins) { s with heap:=pushCells (s.heap.push { cls:=.type "dict",data:=.dict #[] }) scope.names }) :
  wpAny M A (newFunctionEnv scope globals closure [] qual func code (some env) builtins) Q E s:=by
 simp only [newFunctionEnv,Option.isSome_some,if_true]
 refine wpAny_bind (wpAny_alloc ?_)
 refine wpAny_bind (wpAny_layCells _ (λname kind cells=>by cases hkc:kind == NameKind.cell <;> simp [hkc]) _ _ _ _ ?_)
 rw [show ({ s with heap:=s.heap.push { cls:=.type "dict",data:=.dict #[] } }:Shared).heap.objs.size=s.heap.objs.size + 1 from eX ..]
 simp only [lD]
 exact wpAny_bind (wpAny_pure (wpAny_pure h))
abbrev y4 (X:Cx) (scope:Scope) (N:List Str) (C:Addr) (s₀:Shared) (H₀:Hp) (ex:List Addr):Cx:=
 { X with N:=N,s₀:=s₀,H₀:=H₀,env:=compEnvC scope (cellsFrom (C + 1) scope.names (vO scope X.env)) C X.env,outer:=X.stack,ex:=ex,fn:=λx=>scope.names.lookup x == some .cell,pn:=[],xe:=λ_ _=>False }
structure vj (X:Cx) (scope:Scope) (own:List Str) (caps:List (Nat × Str)):Prop where
 kind:scope.kind=.function
 nod:(scope.names.map (·.1)).Nodup
 locs:∀ y∈scope.names,y.2=.local->scope.names.lookup y.1=some .local
 free:∀ y∈scope.names,y.2=.free->(X.env.cells.lookup y.1).isSome=true
 caps:∀ p∈caps,X.N[p.1]? = some p.2/\scope.names.lookup p.2=some .free/\(X.env.kindOf p.2=some .cell\/X.env.kindOf p.2=some .free)
section
variable {X:Cx} {scope:Scope} {own:List Str} {caps:List (Nat × Str)} {pins:List (Addr × Obj)} {σ:St} {H:Hp} {s s4:Shared} {C D:Addr} {fp:List Addr}
theorem WA (B:vj X scope own caps) {x:Str} {c n:Nat} (e:(cellsFrom n scope.names (vO scope X.env)).lookup x=some c):((x,NameKind.cell)∈scope.names/\n<=c)\/X.env.cells.lookup x=some c:=
 (X9 _ _ _ e).imp id λz=>(qr B.free z).1
theorem zJT (I:zE X pins σ H s) {x:Str} {c:Addr} (e:X.env.cells.lookup x=some c):c < s.heap.objs.size:=by
 obtain ⟨v,o,ho,_⟩:=I.cell x c e
 exact cS ho
theorem zPw (B:vj X scope own caps) (I:zE X pins σ H s) (hf:∀ b∈fp,yQ X pins H b) (hC:s.heap.objs.size<=C) (hlt:∀ b∈fp,b < s.heap.objs.size):(y4 X scope (zh own caps) C s H fp).Ok where
 mod:=I.ok.mod
 kind:=B.kind
 glob:=I.ok.glob
 blt:=I.ok.blt
 above:=hC
 inj:=Us _ _ _ (λx c e=>cU (zJT I (qr B.free e).1) (Nat.le_succ_of_le hC)) λx y c h1 h2=>I.ok.inj x y c (qr B.free h1).1 (qr B.free h2).1
 has:=λx h=>by
  have fr:(x,NameKind.free)∈scope.names->∃ c,(cellsFrom (C + 1) scope.names (vO scope X.env)).lookup x=some c:=λz=>by
   obtain ⟨c,e⟩:=Um (env:=X.env) z
   exact eA.mp (d9 _ _ _ (.inr (by rw [e]; rfl)))
  have ce:(x,NameKind.cell)∈scope.names->∃ c,(cellsFrom (C + 1) scope.names (vO scope X.env)).lookup x=some c:=λz=>
   eA.mp (d9 _ _ _ (.inl (gv B.nod z)))
  rcases h with h | h
  ·rcases zEa (show (relabel scope X.env).names.lookup x=some .cell from h) with ⟨_,z | z⟩ | z
   ·exact fr z
   ·exact ce z
   ·exact ce z
  ·rcases zEa (show (relabel scope X.env).names.lookup x=some .free from h) with ⟨z,_⟩ | z
   ·cases z
   ·exact fr z
 cab:=λx c h e=>by
  have hx:scope.names.lookup x=some .cell:=eq_of_beq h
  rcases X9 _ _ _ e with ⟨_,z⟩ | z
  ·exact dM hC (l_ z)
  ·have:=gv B.nod (qr B.free z).2
   rw [hx] at this
   cases this
 hd:=I.ok.hd
 frames:=I.ok.frames
 stk:=.inl rfl
 exf:=λb hb=>⟨λe=>by have:=hlt b hb; rw [e] at this; exact absurd (cU this hC) (dy _),λx c e=>by
  rcases WA B e with ⟨_,z⟩ | z
  ·exact ZX (hlt b hb) hC z
  ·exact (hf b hb).2.2.2.2.1 x c z⟩
 bs:=I.bs
 bsz:=dM I.ok.bsz I.sz
 noex:=λb o e hb=>by
  rcases (hf b hb).2.2.2.1 with z | z
  ·exact I.ok.noex b o e z
  ·exact absurd (cU (cS e) (dM I.ok.bsz z)) (dy _)
 exfs:=λb hb z=>by
  rcases da.mp (I.stkSub b z) with e | z
  ·exact (hf b hb).2.1 e
  ·exact (hf b hb).2.2.1 z
 funs:=I.stack
 frf:=I.stkFree
theorem zNk (B:vj X scope own caps) (I:zE X pins σ H s) (hf:∀ b∈fp,yQ X pins H b) (hC:s.heap.objs.size<=C) (hlt:∀ b∈fp,b < s.heap.objs.size)
  {m:Str->Option Value} (hn:s4.heap.Ns C m) (hk:∀ b o,s.heap.get? b=some o->s4.heap.get? b=some o) (hcell:∀ x c,(cellsFrom (C + 1) scope.names (vO scope X.env)).lookup x=some c->(vO scope X.env).lookup x=some c\/s4.heap.IsCell c none) (ho:s4.os=s.os) (hb:AllBare s4.gens) :
  zE (y4 X scope (zh own caps) C s H fp) [] (v5 own caps σ) H s4 where
 ok:=zPw B I hf hC hlt
 os:=ho
 bare:=hb
 base:=Un.kept hk
 loc:=⟨m,hn,λi x v h1 h2 h3=>by
  obtain ⟨j,hm,hs⟩:=zNi h1 h2
  obtain ⟨c1,c2,c3⟩:=B.caps _ hm
  obtain ⟨m',_,hl⟩:=I.loc
  have vis:j4 X.env.scope x:=c3.elim (λz=>.inr (.inl z)) λz=>.inr (.inr z)
  obtain ⟨u,r,l⟩:=hl j x v c1 hs vis
  refine ⟨u,r,.inr ?_⟩
  have hm2:(x,NameKind.free)∈scope.names:=gu c2
  obtain ⟨c',hc'⟩:=Um (env:=X.env) hm2
  have hc2:=(qr B.free hc').1
  have noc:(x,NameKind.cell)∉scope.names:=λz=>by
   have:=gv B.nod z
   rw [c2] at this
   cases this
  refine ⟨?_,c',(Ur _ _ _ noc).trans hc',?_⟩
  ·show (relabel scope X.env).names.lookup x=some .cell\/(relabel scope X.env).names.lookup x=some .free
   rw [zEZ,c2,fT]
   split
   ·exact .inl rfl
   ·exact .inr rfl
  ·rcases l with ⟨k,_⟩ | ⟨_,c,e,z⟩
   ·rcases c3 with c3 | c3 <;> rw [c3] at k <;> cases k
   ·rw [hc2] at e
    cases e
    obtain ⟨o,e1,e2⟩:=z
    exact ⟨o,hk _ o e1,e2⟩⟩
 cell:=λx c e=>by
  rcases hcell x c e with z | z
  ·obtain ⟨v,o,e1,e2⟩:=I.cell x c (qr B.free z).1
   exact ⟨v,o,hk _ o e1,e2⟩
  ·exact ⟨none,z⟩
 free:=I.hok.fresh hC
 freeC:=λx c e=>by
  rcases WA B e with ⟨_,z⟩ | z
  ·exact I.hok.fresh (dM hC (l_ z))
  ·exact I.freeC x c z
 pin:=λp hp=>by simp at hp
 hok:=I.hok.kept hk
 len:=by
  show (v5 own caps σ).length=(zh own caps).length
  unfold v5 zh
  simp
end
theorem zNl {X:Cx} {scope S:Scope} {own N:List Str} {caps:List (Nat × Str)} (k:scope.kind=.function) (nd:(scope.names.map (·.1)).Nodup)
  (hS:X.env.scope=S) (hc:∃ n,X.env.cells=cellsFrom n S.names []) (hN:X.N=N) (fr:scope.names.all (λy=>y.2 != .free || S.names.lookup y.1 == some .cell)=true)
  (cp:caps.all (λp=>N[p.1]? == some p.2 && scope.names.lookup p.2 == some .free && S.names.lookup p.2 == some .cell)=true):vj X scope own caps:=by
 obtain ⟨nn,hc⟩:=hc
 refine ⟨k,nd,λy hy e=>?_,λy hy e=>?_,λp hp=>?_⟩
 ·exact gv nd (by rw [<- e]; exact hy)
 ·have q:=de.mp fr y hy
  rw [e] at q
  have q2:S.names.lookup y.1=some .cell:=by simpa using q
  rw [hc]
  exact d9 S.names nn [] (.inl q2)
 ·have q:=de.mp cp p hp
  simp only [eQ,beq_iff_eq] at q
  refine ⟨by rw [hN]; exact q.1.1,q.1.2,.inl ?_⟩
  show X.env.scope.names.lookup p.2=some .cell
  rw [hS]
  exact q.2
theorem zR4 {Y:Cx} {scope S:Scope} {own own0:List Str} {caps caps0:List (Nat × Str)} {C:Addr} {s₀:Shared} {H₀:Hp} {ex:List Addr} (k:scope.kind=.function) (nd:(scope.names.map (·.1)).Nodup)
  (ndS:(S.names.map (·.1)).Nodup) (fr:scope.names.all (λy=>y.2 != .free || S.names.lookup y.1 == some .cell || S.names.lookup y.1 == some .free)=true)
  (cp:caps.all (λp=>(zh own0 caps0)[p.1]? == some p.2 && scope.names.lookup p.2 == some .free)=true):vj (y4 Y S (zh own0 caps0) C s₀ H₀ ex) scope own caps:=by
 have fr':∀ y∈scope.names,y.2=.free->S.names.lookup y.1=some .cell\/S.names.lookup y.1=some .free:=λy hy e=>by
  have q:=de.mp fr y hy
  rw [e] at q
  simpa using q
 refine ⟨k,nd,λy hy e=>?_,λy hy e=>?_,λp hp=>?_⟩
 ·exact gv nd (by rw [<- e]; exact hy)
 ·show ((cellsFrom (C + 1) S.names (vO S Y.env)).lookup y.1).isSome=true
  refine d9 _ _ _ ?_
  rcases fr' y hy e with z | z
  ·exact .inl z
  ·obtain ⟨c,e⟩:=Um (env:=Y.env) (gu z)
   exact .inr (by rw [e]; rfl)
 ·have q:=de.mp cp p hp
  simp only [eQ,beq_iff_eq] at q
  refine ⟨q.1,q.2,?_⟩
  show (relabel S Y.env).names.lookup p.2=some .cell\/(relabel S Y.env).names.lookup p.2=some .free
  rw [zEZ]
  rcases fr' _ (gu q.2) rfl with z | z
  ·left
   show (S.names.lookup p.2).map _=_
   rw [z]
   rfl
  ·show (S.names.lookup p.2).map _=_\/(S.names.lookup p.2).map _=_
   rw [z,fT]
   split
   ·exact .inl rfl
   ·exact .inr rfl
end L2
namespace Sh
open PySem L2
theorem gw {H:Hp} {p:Addr} (h:H p=none) (o:HO):zN H (za H p o):=λb u q=>by rw [zu (wD q h)]; exact q
def Tp (H:Hp) (v:V) (xs:List V):Prop:=∃ a,v=.ref a/\H a=some (.tup xs)
theorem zF0 {α β:Type} {R:α->β->Prop}:∀ {xs:List α} {ys:List β} {i:Nat} {x:α},Paired R xs ys->xs[i]? = some x->∃ y,ys[i]? = some y/\R x y
 | _,_,_,_,.nil,e=>by simp at e
 | _,_,0,_,.cons r _,e=>by simp at e; subst e; exact ⟨_,rfl,r⟩
 | _,_,i + 1,x,.cons _ t,e=>by
  obtain ⟨y,h1,h2⟩:=zF0 (i:=i) (x:=x) t (by simpa using e)
  exact ⟨y,by simpa using h1,h2⟩
theorem ZY {α β:Type} {R:α->β->Prop} {x:α} {y:β} (r:R x y):∀ {xs:List α} {ys:List β},Paired R xs ys->Paired R (xs++[x]) (ys++[y])
 | _,_,.nil=>.cons r .nil
 | _,_,.cons q t=>.cons q (ZY r t)
theorem gz {α β:Type} {R:α->β->Prop}:∀ {xs zs:List α} {ys us:List β},Paired R xs ys->Paired R zs us->Paired R (xs++zs) (ys++us)
 | _,_,_,_,.nil,h=>h
 | _,_,_,_,.cons q t,h=>.cons q (gz t h)
theorem v8 {α:Type} {l:List α} {i:Nat} {x:α} (h:l[i]? = some x):l.take (i + 1)=l.take i++[x]:=by
 obtain ⟨hi,e⟩:=cK.mp h
 rw [f6 hi,e]
abbrev ZZ (H:Hp) (vs:List V) (ks:List (List Int)):Prop:=Paired (λv (k:List Int)=>Tp H v (k.map V.int)) vs ks
end Sh
namespace L2
open PySem PySem.Spec PyProof.Rows
section
variable {X:Cx}
def qt (K:b'):R2:=λx y H Q=>∃ d e:PyData,Dp K H x d/\Dp K H y e/\d.canLay0=true/\e.canLay0=true/\d.depth<=60/\e.depth<=60/\Q (.bl (dP d e)) H
theorem WB (hu:X.A.units + 64 < cLine):y8 X (compareOp .Eq) (qt X.K):=by
 intro pins s σ H x y v u Q I rx ry h
 obtain ⟨d,e,hx,hy,hc,hc',hd,hd',q⟩:=h
 obtain ⟨_,r1⟩:=hx.reads I rx
 obtain ⟨_,r2⟩:=hy.reads I ry
 exact SeqAt.compareEq_reads r1 r2 hc hc' (by omega) ⟨.bl _,H,I,rfl,q⟩
end
end L2
namespace Sh
open PySem L2
theorem Uu:∀ ns ms:List Int,eU (ns.map PyData.int) (ms.map PyData.int)=decide (ns=ms)
 | [],[]=>by simp [eU]
 | [],_ :: _=>by simp [eU]
 | _ :: _,[]=>by simp [eU]
 | a :: r,b :: t=>by
  have ih:=Uu r t
  simp only [di,eU,dP,ih,List.cons.injEq]
  by_cases h1:a=b <;> by_cases h2:r=t <;> simp [h1,h2]
def Uv (ws:List Int) (b:Int) (pts:List (Int × Int)):Bool:=decide ((yR ws pts).1<=b * (yR ws pts).2)
def lin (n:Nat) (c:Nat->Int) (r:List Int):Int:=((cR n).map λi=>r.getD i 0 * c i).sum
end Sh
namespace L2
open PySem PySem.Spec PyProof.Rows
def Uw (K:b') (a:Addr):It:=
 ⟨λi H=>∃ xs x,zl K H a xs/\xs[i]? = some x,
  λi H v H'=>∃ T x,v=.ref T/\H T=none/\H'=za H T (.tup [.int (i:Int),x])/\∀ xs,zl K H a xs->xs[i]? = some x,
  λi H=>∃ xs,zl K H a xs/\i=xs.length⟩
theorem zRT {c x y:Addr} (h:c∉[x,y]):c≠x/\c≠y:=by
 simp only [da,dL,or_false,not_or] at h
 exact h
theorem zKN {P:Program} {w:World} {K:b'} {es:List Expr} {kk:Nat} {tp:Pos} {a e it:Addr} (ne:e≠it) :
  vL P w K (.Tuple es kk tp) (Uw K a) [e,it] e (λi h=>(∃ old,IsEnum h e it i old)/\h.IsListIter it a i) where
 mem:=by simp
 obj:=λi h ⟨⟨old,t1⟩,t2⟩ c hc=>by
  simp only [da,dL,or_false] at hc
  rcases hc with rfl | rfl
  ·exact ⟨_,t1,ZT⟩
  ·obtain ⟨o,e,_,d⟩:=t2
   exact ⟨o,e,by rw [d]; exact ZT⟩
 keep:=λi h h' ⟨⟨old,t1⟩,t2⟩ k=>⟨⟨old,k e (by simp) _ t1⟩,(by obtain ⟨o,q,r⟩:=t2; exact ⟨o,k it (by simp) o q,r⟩)⟩
 item:=by
  intro X hP hw hK hc i pins s σ H E I hf ⟨⟨old,t1⟩,t2⟩ hg
  subst hP hw hK
  obtain ⟨xs,x,hq,hx⟩:=hg
  obtain ⟨its,rv,p,_⟩:=I.list hq
  obtain ⟨u,hu,ru⟩:=rv.get hx
  refine wpAny_pyNext_enum_item t1 t2 p.isList (x:=u) (by simpa using hu) ne ?_
  intro h1 z1 z2 z3 z4 keep
  refine ⟨_,rfl,wpAny_letOwnedTupleGo_enum (s:={ s with heap:=h1,toks:=s.toks + 1 }) z1 λh2 z5 sb=>?_⟩
  have elt:e < s.heap.objs.size:=cS t1
  have keep2:∀ c o,c∉[e,it]->s.heap.get? c=some o->h2.get? c=some o:=λc o hc q=>by
   obtain ⟨c1,c2⟩:=zRT hc
   exact sb.extBut c o c1 (keep c o c1 c2 q)
  have pT:IsPair h2 s.heap.objs.size (.int i s.toks) u:=sb.extBut _ _ (fJ elt) z3
  have I':=I.turnT (h':=h2) (tk:=s.toks + 1) (ch:=[e,it]) (x:=.int (i:Int)) (y:=x) hf keep2 (cF _) pT ⟨_,rfl⟩ ru
  refine ⟨.ref s.heap.objs.size,_,I',rfl,⟨s.heap.objs.size,x,rfl,I.hok.fresh (cF _),rfl,λxs' q=>by rw [I.list_inj q hq]; exact hx⟩,
   ⟨⟨u,by simpa using z5⟩,z2.extBut sb.extBut (Ne.symm ne)⟩,λc hc=>?_⟩
  have:=(hf c hc).1
  rw [zu]
  ·exact this
  ·intro q
   obtain ⟨o,e1⟩:∃ o,s.heap.get? c=some o:=by
    simp only [da,dL,or_false] at hc
    rcases hc with rfl | rfl
    ·exact ⟨_,t1⟩
    ·obtain ⟨o,e1,_⟩:=t2; exact ⟨o,e1⟩
   rw [q] at e1
   exact absurd (cS e1) (dy _)
 done:=by
  intro X hP hw hK hc i pins s σ H E I hf ⟨⟨old,t1⟩,t2⟩ hg
  subst hP hw hK
  obtain ⟨xs,hq,e1⟩:=hg
  obtain ⟨its,rv,p,_⟩:=I.list hq
  have n1:its.length=xs.length:=rv.length.symm
  refine wpAny_pyNext_enum_end (I.ok.hd hc) t1 t2 p.isList (by simp; omega) ?_
  intro h1 ext
  refine ⟨rfl,I.turnN (h':=h1) (tk:=s.toks) (ch:=[e,it]) hf λc o hc q=>?_⟩
  exact ext c o (zRT hc).2 q
 self:=λ_ _ _ _ _ ⟨⟨_,st⟩,_⟩ h=>wpAny_pyIter_enum st h
section
variable {X:Cx} {es:List Expr} {kk:Nat} {tp:Pos}
def Za (K:b') (ta:TA):TI:=λσ H R=>ta σ H λvs H1=>∃ a,vs=[.ref a]/\(∃ xs,zl K H1 a xs)/\R (Uw K a) H1
theorem zOx {e1:Expr} {ta:TA} {p pos:Pos} (hg:Gl X "enumerate") (hm:X.mg "enumerate" = none) (ha:PA X [e1] ta) (hs:starEach [e1] X.env=[(false,eval e1 X.env)]:=by rfl) (hs2:starEach [] X.env=[]:=by rfl) :
  PI X (.Tuple es kk tp) (.Call (.Name "enumerate" p) [e1] [] pos) (Za X.K ta):=by
 intro pins s σ H R I h
 refine Call_ (j5 I hg hm (show bootBuiltins "enumerate" = some (.type "enumerate") by decide +kernel) (PyProof.Rows.callWith_type1 (zj (ha pos pins s σ H _ I h) λus s1 ⟨vs,H1,I1,r1,q1⟩=>?_) (by rw [hs,hs2]) (by rw [hs2]; rfl)))
 obtain ⟨a,e,⟨xs,hx⟩,q⟩:=q1
 subst e
 obtain ⟨u,rfl,ru⟩:=uL r1
 cases ru
 obtain ⟨its,rv,p1,_⟩:=I1.list hx
 have la:a < s1.heap.objs.size:=by obtain ⟨o,n,e,_⟩:=p1; exact cS e
 refine call_enumerate_list p1.isList λh' z1 z2 _ keep=>wpAny_pyIter_enum z1 ?_
 have I2:zE X pins σ H1 { s1 with heap:=h' }:=I1.kept (t':=s1.toks) keep
 refine ⟨s1.heap.objs.size + 1,[s1.heap.objs.size + 1,s1.heap.objs.size],_,_,H1,rfl,I2,zKN (a:=a) (Nat.succ_ne_self _),⟨⟨_,z1⟩,z2⟩,λc hc=>?_,q⟩
 have ge:s1.heap.objs.size<=c:=by
  simp only [da,dL,or_false] at hc
  rcases hc with rfl | rfl
  ·exact eB _ 1
  ·exact cF _
 exact I1.fpOk ge (I1.hok.fresh ge)
end
end L2
namespace Sh
open PySem L2
inductive Kd where
 | int | bool | non | str | lst | tup | dic
 deriving DecidableEq
def Kd.nm:Kd->String
 | .int=>"int" | .bool=>"bool" | .non=>"NoneType" | .str=>"str" | .lst=>"list" | .tup=>"tuple" | .dic=>"dict"
def Kd.whole:Kd->Bool
 | .int=>true
 | _=>false
def Kd.isInt:Kd->Bool
 | .int=>true
 | .bool=>true
 | _=>false
def Kd.isBool:Kd->Bool
 | .bool=>true
 | _=>false
def Kd.isTup:Kd->Bool
 | .tup=>true
 | _=>false
def Kd.isLst:Kd->Bool
 | .lst=>true
 | _=>false
section
variable (K:b')
theorem j9 (k:Kd):dl K (.type k.nm) (.type "int")=some k.isInt:=by
 cases k <;> first | rfl | decide +kernel | (unfold dl; rw [if_pos (by decide +kernel)]; rfl) | (unfold dl; rw [if_neg (by decide +kernel)]; rfl)
theorem qA (k:Kd):dl K (.type k.nm) (.type "bool")=some k.isBool:=by
 cases k <;> first | rfl | decide +kernel | (unfold dl; rw [if_pos (by decide +kernel)]; rfl) | (unfold dl; rw [if_neg (by decide +kernel)]; rfl)
theorem qB (k:Kd):dl K (.type k.nm) (.type "tuple")=some k.isTup:=by
 cases k <;> first | rfl | decide +kernel | (unfold dl; rw [if_pos (by decide +kernel)]; rfl) | (unfold dl; rw [if_neg (by decide +kernel)]; rfl)
theorem qC (k:Kd):dl K (.type k.nm) (.type "list")=some k.isLst:=by
 cases k <;> first | rfl | decide +kernel | (unfold dl; rw [if_pos (by decide +kernel)]; rfl) | (unfold dl; rw [if_neg (by decide +kernel)]; rfl)
end
end Sh
namespace L2
open PySem PySem.Spec PyProof.Rows
structure xq (K:b') (mg:Str->Option Value) (x:Str) (C:Addr):Prop where
 cl:ua K C
 mgC:mg x=some (.ref C)
 ha:d4 K (.ref C) "__class__" = some (some (.builtin "object.__class__"))
 hn:l7 K (.builtin "object.__class__") "__get__" = some (some (.builtin "getset_descriptor.__get__"))
 htk:mS K (.builtin "object.__class__")=some true
 hm:nc K C (.type "object")=some true
theorem xq.ty {K:b'} {mg:Str->Option Value} {x:Str} {C a dx:Addr} {H:Hp} {fs:List (Str × V)} (T:xq K mg x C) (e:H a=some (.ins C dx fs)):ya K H (.ref a) (.ref C):=.ins e T.cl T.ha T.hn T.htk T.hm
structure ue (P:Program) (w:World) (K:b') (mg:Str->Option Value) (base:Heap) (C:Addr) (m:Str) (ps:List Str) (k:Nat) (sp:Sp):Prop where
 ex:∃ f fd,zF P w K mg base zV k f fd ps sp/\qi K C m f/\vG K fd ps []
structure qD (P:Program) (w:World) (K:b') (mg:Str->Option Value) (base:Heap) (C:Addr) (ps:List Str) (k:Nat) (sp:Sp):Prop where
 ex:∃ f fd,zF P w K mg base zV k f fd ps sp/\Mk K C f/\vG K fd ps []
theorem ue.mono {P:Program} {w:World} {K:b'} {mg:Str->Option Value} {base:Heap} {C:Addr} {m:Str} {ps:List Str} {j k:Nat} {sp:Sp} (F:ue P w K mg base C m ps j sp) (h:j<=k:=by decide):ue P w K mg base C m ps k sp:=by
 obtain ⟨f,fd,a,b,c⟩:=F.ex
 exact ⟨f,fd,a.mono h,b,c⟩
theorem qD.mono {P:Program} {w:World} {K:b'} {mg:Str->Option Value} {base:Heap} {C:Addr} {ps:List Str} {j k:Nat} {sp:Sp} (F:qD P w K mg base C ps j sp) (h:j<=k:=by decide):qD P w K mg base C ps k sp:=by
 obtain ⟨f,fd,a,b,c⟩:=F.ex
 exact ⟨f,fd,a.mono h,b,c⟩
section
variable {X:Cx} {C:Addr} {m x:Str} {ps:List Str} {k:Nat} {sp:Sp} {o e:Expr} {es:List Expr} {ta:TE} {t:TA} {p pos apos:Pos} {dv:V}
theorem zKv {pl:Sem Bool} (F:ue X.prog X.w X.K X.mg X.base C m ps k sp) (T:xq X.K X.mg x C) (hr:zU k X.A) (he:PE X o ta)
  (ht:eval (.Call (.Attribute o m apos) [] [] pos) X.env=(do
   let ov <- eval o X.env
   standAt apos.atName
   let (f,first) <- holding [ov] (getMethod ov m pl)
   callWith pos f first (backTo pos (starEach [] X.env)) (backToKw pos (keywordEach [] X.env))):=by rfl) :
  PE X (.Call (.Attribute o m apos) [] [] pos) (zQM C m sp [] E0 ta vN):=by
 obtain ⟨f,fd,a,b,c⟩:=F.ex
 exact zMs he T.cl b a hr c .nil X5 ht
theorem zMt (F:qD X.prog X.w X.K X.mg X.base C ps k sp) (T:xq X.K X.mg x C) (hr:zU (k + 1) X.A) (hg:Gl X x) (ha:PA X (e :: es) t)
  (hdb:(x == ("__debug__" : Str))=false:=by decide) (he:starEach (e :: es) X.env=(false,eval e X.env) :: starEach es X.env:=by rfl) (hpl:(backTo pos (starEach es X.env)).any (·.1)=false:=by rfl) :
  PE X (.Call (.Name x p) (e :: es) [] pos) (Xz C sp [] E0 t):=by
 obtain ⟨f,fd,a,b,c⟩:=F.ex
 exact zOz b a hr hg T.mgC c .nil X5 ha hdb he hpl
theorem zQ3 (T:xq X.K X.mg x C) (hg:Gl X x) (hd:(x == ("__debug__" : Str))=false:=by decide):PE X (.Name x pos) (tC (.ref C)):=zKw hg T.mgC rfl hd
def zN1 (K:b'):List V->Hp->VK->Prop:=λxs H Q=>∃ x C t b,xs=[x,.ref C]/\ya K H x t/\dl K t (.ref C)=some b/\Q (.bl b) H
theorem zHm:wu X (.builtin "isinstance") (zN1 X.K):=by
 intro pins s σ H xs us Q I r h
 obtain ⟨x,C,t,b,rfl,ty,e,q⟩:=h
 obtain ⟨u,v,rfl,ru,rv⟩:=ZJ r
 cases (show v=Value.ref C from rv)
 exact zHb I ru ty e λtk=>⟨.bl b,H,I.tok tk,rfl,q⟩
end
end L2
namespace L2
open PySem PySem.Spec PyProof.Rows
open PySem
def SqE (K:b') (H:Hp) (a:Addr) (xs:List V):Prop:=ym K H a xs\/zl K H a xs
section
variable {X:Cx} {es:List Expr} {kk:Nat} {tp:Pos}
theorem Ux {pins:List (Addr × Obj)} {σ:St} {H:Hp} {s:Shared} (I:zE X pins σ H s) {c:Addr} (hc:c∈[s.heap.objs.size + 4,s.heap.objs.size + 2,s.heap.objs.size + 3,s.heap.objs.size,s.heap.objs.size + 1]):yQ X pins H c:=by
 have ge:s.heap.objs.size<=c:=by
  simp only [da,dL,or_false] at hc
  rcases hc with rfl | rfl | rfl | rfl | rfl
  ·exact eB _ 4
  ·exact eB _ 2
  ·exact eB _ 3
  ·exact cF _
  ·exact eB _ 1
 exact I.fpOk ge (I.hok.fresh ge)
def Zb (K:b'):R2:=λx y H Q=>∃ p xs i v,x=.ref p/\y=.int i/\SqE K H p xs/\y3 xs i=some v/\Q v H
theorem zPX:X4 X (Zb X.K):=by
 intro value slice pins s σ H x y v u Q I rx ry h hs
 obtain ⟨p,xs,i,z,e1,e2,hq,he,q⟩:=h
 rcases hq with hq | hq
 ·exact zRf value slice pins s σ H x y v u Q I rx ry ⟨p,xs,i,z,e1,e2,hq,he,q⟩ hs
 ·exact Ug value slice pins s σ H x y v u Q I rx ry ⟨p,xs,i,z,e1,e2,hq,he,q⟩ hs
end
section
variable {prog:Program} {w:World} {A:Around} {E:Value->Shared->Prop}
theorem zRx {it l:Addr} {xs:Array Value} (ne:l≠it):∀ (m j:Nat) (s:Shared) (R:List Value->Shared->Prop),s.heap.IsListIter it l j->s.heap.IsList l xs->j + m<=xs.size->
  (∀ g,g.IsListIter it l (j + m)->Heap.SameBut it s.heap g->R ((xs.toList.drop j).take m) { s with heap:=g })->wpAny (model prog w) A (draw (.ref it) m) R E s
 | 0,j,s,R,hi,_,_,k=>wpAny_pure (by simpa using k s.heap hi (Heap.SameBut.refl ..))
 | m + 1,j,s,R,hi,hl,le,k=>by
  have lt:j < xs.size:=by omega
  have step:=λg (z:Heap.SameBut it s.heap g)=>(hl.extBut z.extBut ne:g.IsList l xs)
  show wpAny _ _ (pyNext (.ref it) >>= _) R E s
  refine wpAny_bind (wpAny_pyNext_list_item hi hl (x:=xs[j]) (by simp [lt]) λg1 i1 b1=>?_)
  refine wpAny_bind (wpAny_holding (zRx ne m (j + 1) _ _ i1 (step g1 b1) (by omega) λg2 i2 b2=>wpAny_pure ?_))
  have z:=k g2 (by rw [show j + (m + 1)=j + 1 + m by omega]; exact i2) (b1.trans b2)
  rw [show xs.toList.drop j=xs[j] :: xs.toList.drop (j + 1) by simp [List.drop_eq_getElem_cons,lt],ip] at z
  exact z
theorem zRh {s:Shared} {l:Addr} {xs:Array Value} {R:List Value->Shared->Prop} (hd:A.handled=none) (hl:s.heap.IsList l xs)
  (k:∀ g,Heap.ExtBut s.heap.objs.size s.heap g->R xs.toList { s with heap:=g }):wpAny (model prog w) A (unpackItems (.ref l) xs.size none) R E s:=by
 have ne:l≠s.heap.objs.size:=by
  obtain ⟨o,eo,_⟩:=hl
  exact dA (cS eo)
 unfold unpackItems
 refine wpAny_bind ?_
 unfold notIterableAtAll
 refine wpAny_bind (wpAny_specialOf hl.typeIs slot_list_iter.lookup ?_)
 refine wpAny_pure ?_
 simp only [ft,if_false]
 refine wpAny_bind (wpAny_holding (wpAny_pyIter_list hl ?_))
 refine wpAny_bind (wpAny_holding (zRx ne xs.size 0 _ _ ⟨_,cW _ rfl,rfl,rfl⟩ (hl.push _) (by omega) λg1 i1 b1=>?_))
 rw [show List.take xs.size (List.drop 0 xs.toList)=xs.toList by rw [fo]; exact cJ (by simp),if_neg (by simp)]
 refine wpAny_bind (wpAny_holding (wpAny_pyNext_list_end hd i1 ((hl.push _).extBut b1.extBut ne) (by simp) λg2 x2=>?_))
 simp only [Option.isSome_none,ft,if_false]
 exact wpAny_pure (k g2 λc o n e=>x2 c o n (b1.extBut c o n (cE _ e)))
end
section
variable {X:Cx} {pos:Pos}
def Uy (K:b') (n:Nat) (t:jS):TG:=λv σ H Q=>∃ a xs,v=.ref a/\zl K H a xs/\xs.length=n/\t xs σ H Q
theorem zQv {es:List Expr} {k:Nat} {t:jS} {n:Nat} (hc:X.calm=true) (h:gq X es t)
  (hn:(assignEach es X.env).length=n:=by rfl) (hst:(assignEach es X.env).findIdx? (·.1)=none:=by rfl):PG X (.Tuple es k pos) (Uy X.K n t):=by
 intro pins s σ H v u Q I r hw
 obtain ⟨a,xs,e1,hq,hl,hw⟩:=hw
 subst e1
 cases r
 obtain ⟨its,rv,ht,hz⟩:=I.list hq
 rw [assign_Tuple]
 refine wpAny_bind (wpAny_standAt ?_)
 unfold unpack
 rw [show (assignEach es X.env).length=its.toArray.size by simp [hn,<- hl,rv.length],hst]
 refine wpAny_bind (wpAny_holding (zRh (I.ok.hd hc) ht.isList λg hx=>?_))
 have I1:zE X pins σ H { s with heap:=g }:=I.kept (t':=s.toks) λb o e=>hx b o (dA (cS e)) e
 exact h pins _ σ H xs _ Q I1 (by simpa using rv) hw
end
end L2
namespace L2
open PySem PySem.Spec PyProof.Rows
inductive vQ (i:Nat) (σ:St) (H:Hp) (Q:VK):Prop
 | mk (v:V) (_:σ[i]? = some (some v)) (_:Q v H):vQ i σ H Q
inductive qu (x:V) (vs:List V) (H:Hp) (Q:VK):Prop
 | mk (l:Addr) (xs:List V) (y:V) (_:x=.ref l) (_:vs=[y]) (_:H l=some (.lst xs)) (_:xs.length < sizeLine) (_:Q .non (za H l (.lst (xs++[y])))):qu x vs H Q
inductive qv (o i v:V) (H:Hp) (Q:Hp->Prop):Prop
 | mk (p:Addr) (xs:List V) (k:Int) (j:Nat) (_:o=.ref p) (_:i=.int k) (_:H p=some (.lst xs)) (_:xj xs.length k=some j) (_:Q (za H p (.lst (xs.set j v)))):qv o i v H Q
section
variable {X:Cx}
theorem yq:Uj X "list.append" qu:=λpins s σ H x xs v us Q I rx rv ⟨l,ys,y,h1,h2,h3,h4,q⟩=>zLM pins s σ H x xs v us Q I rx rv ⟨l,ys,y,h1,h2,h3,h4,q⟩
theorem qw:qe X qv:=λpins s σ H o i v ov iv u Q I h1 h2 h3 ⟨p,xs,k,j,a,b,c,d,q⟩=>zMY pins s σ H o i v ov iv u Q I h1 h2 h3 ⟨p,xs,k,j,a,b,c,d,q⟩
theorem y6 (i:Nat) {x:Str} {pos:Pos} (hN:X.N[i]? = some x:=by rfl) (hv:j4 X.env.scope x:=by first | exact Or.inl rfl | exact Or.inr (Or.inl rfl) | exact Or.inr (Or.inr rfl)) (hd:(x == ("__debug__" : Str))=false:=by decide)
  (hcd:(x == ("__classdict__" : Str))=false:=by decide):PE X (.Name x pos) (vQ i):=λpins s σ H Q I ⟨v,e,h⟩=>UI hN hv hd hcd pins s σ H Q I ⟨v,e,h⟩
end
end L2
namespace Sh
open PySem L2
def Uz (H:Hp) (v:V) (r:List Int):Prop:=∃ a,v=.ref a/\H a=some (.lst (r.map V.int))
abbrev Zc (H:Hp) (vs:List V) (tab:List (List Int)):Prop:=Paired (Uz H) vs tab
structure MD where
 rows:List (List Int)
 nexts:List (List Int)
 steer:List Int
 push:List (List Int)
 add:List Int
 div:Int
structure jV (m:MD) (n p:Nat):Prop where
 rows:∀ r∈m.rows,r.length=n + 1
 few:m.rows.length<=900
 nexts:m.nexts.length=n/\∀ r∈m.nexts,r.length=n
 steer:m.steer.length=n
 push:m.push.length=n/\∀ r∈m.push,r.length=p
 add:m.add.length=n
 div:1<=m.div
 n3:n<=3
 p6:p<=12
def Zd (r n s p a:V) (d:Int):List (Str × V):=[("rows",r),("nexts",n),("steer",s),("push",p),("add",a),("divisor",.int d)]
structure zOS (C:Addr) (H:Hp) (o:Addr) (m:MD) where
 dx:Addr
 r:Addr
 rv:List V
 n:Addr
 nv:List V
 s:Addr
 p:Addr
 pv:List V
 a:Addr
structure zOS.Ok {C:Addr} {H:Hp} {o:Addr} {m:MD} (M:zOS C H o m):Prop where
 ins:H o=some (.ins C M.dx (Zd (.ref M.r) (.ref M.n) (.ref M.s) (.ref M.p) (.ref M.a) m.div))
 hr:H M.r=some (.lst M.rv)
 hrv:ZZ H M.rv m.rows
 hn:H M.n=some (.lst M.nv)
 hnv:Zc H M.nv m.nexts
 hs:H M.s=some (.lst (m.steer.map V.int))
 hp:H M.p=some (.lst M.pv)
 hpv:Zc H M.pv m.push
 ha:H M.a=some (.lst (m.add.map V.int))
structure wW (n:Nat) (bs:List (Int × Int)) (ms:List MD):Prop where
 n1:1<=n
 n3:n<=3
 bok:∀ b∈bs,b.1<=b.2
 b6:bs.length<=6
 m1:1<=ms.length
 m40:ms.length<=40
 mok:∀ m∈ms,jV m n bs.length
theorem zNN {K:b'} {C:Addr}:dl K (.ref C) (.ref C)=some true:=by
 unfold dl
 rw [if_pos (by simp)]
end Sh
namespace Sh
open PySem L2
def uf (B:List Addr) (H H':Hp):Prop:=∀ b o,H b=some o->b∉B->H' b=some o
theorem uf.refl (B:List Addr) (H:Hp):uf B H H:=λ_ _ e _=>e
def hide (B:List Addr) (H:Hp):Hp:=λb=>if b∈B then none else H b
theorem zKX {H:Hp} {x dx:Addr} (hx:H x=none) (hdx:H dx=none) (ne:dx≠x) (u o:HO):zN H (za (za H dx u) x o):=
 (gw hdx _).trans (gw ((zu (Ne.symm ne)).trans hx) _)
end Sh
namespace L2
open PySem PySem.Spec PyProof.Rows
theorem zF.no {P:Program} {w:World} {K:b'} {mg:Str->Option Value} {base:Heap} {CX:vg} {k:Nat} {f:Addr} {fd:FuncData} {ps:List Str} {sp:Sp} (hn:∀ vs H Q E,¬ sp vs H Q E):zF P w K mg base CX k f fd ps sp:=
 ⟨λ_ _ _ _ h=>(hn _ _ _ _ h).elim,λ_ _ _ _ _ _ _ _ _ _ _ _ _ h=>(hn _ _ _ _ h).elim⟩
end L2
namespace Sh
inductive RT where
 | str (ns:List Int) (a d:Int)
 | stp (t:RT) (lo hi:Int)
 | prt (row:List Int) (x y:RT)
def RT.dep:RT->Nat
 | .str _ _ _=>1
 | .stp t _ _=>t.dep + 1
 | .prt _ x y=>max x.dep y.dep + 1
def RT.rows:RT->List (List Int)
 | .str _ _ _=>[]
 | .stp t _ _=>t.rows
 | .prt r x y=>[r]++x.rows++y.rows
def xr (pts:List (Int × Int)):RT->Int × Int
 | .str ns a d=>(zY ((yR ns pts).1 + a * (yR ns pts).2) ((yR ns pts).2 * d),zM ((yR ns pts).1 + a * (yR ns pts).2) ((yR ns pts).2 * d))
 | .stp t lo hi=>if (xr pts t).1 < lo * (xr pts t).2 then (lo,1) else if hi * (xr pts t).2 < (xr pts t).1 then (hi,1) else xr pts t
 | .prt row x y=>if (yR (row.take pts.length) pts).1<=row.getD pts.length 0 * (yR (row.take pts.length) pts).2 then xr pts x else xr pts y
end Sh
namespace L2
open PySem PySem.Spec PyProof.Rows Sh
section
variable {X:Cx}
inductive zQb (K:b') (x y:V) (H:Hp) (Q:VK):Prop
 | mk (a b:Addr) (xs ys:List V) (_:x=.ref a) (_:y=.ref b) (_:H a=some (.tup xs)) (_:H b=some (.tup ys)) (_:xs≠[]) (_:xs.length + ys.length<=sizeLine) (_:∀ p H',zN H H'->H' p=some (.tup (xs++ys))->Q (.ref p) H'):zQb K x y H Q
theorem zO7:y8 X (binaryOp .Add) (zQb X.K):=by
 intro pins s σ H x y v u Q I rx ry h
 obtain ⟨a,b,xs,ys,rfl,rfl,ha,hb,hne,hz,q⟩:=h
 exact zO8 pins s σ H _ _ v u Q I rx ry ⟨a,b,xs,ys,rfl,rfl,ym.of ha,ym.of hb,hne,hz,λz=>q a H (zN.refl _) (ha.trans (by rw [z,d5])),λ_ p hp=>q p _ (gw hp _) xh⟩
end
end L2
namespace Sh
section
variable {pts:List (Int × Int)} (hp:∀ p∈pts,0 < p.2)
include hp
end
end Sh
namespace L2
open PySem PySem.Spec PyProof.Rows
abbrev WC:=Array Value->Option Addr->Prop
def yd (base:Heap) (l:List Env) (e:Addr) (cls:Value) (P:WC) (fl:Value) (h:Heap):Prop:=
 base.StaysIn h/\base.get? e=none/\h.FunFrames base l/\∃ (oe:Obj) (vs:Array Value) (T:Addr) (oT:Obj) (ts:Array Value),h.get? e=some oe/\oe.cls=cls/\oe.data=.fields vs/\P vs oe.dict/\vs[1]? = some (.ref T)/\base.get? T=none/\T≠e/\h.get? T=some oT/\oT.data=.fields ts/\ts[3]? = some fl
def g6 (P:WC):Prop:=∀ (vs:Array Value) (d:Option Addr) (v:Value),P vs d->P (vs.setIfInBounds 1 v) d
section
variable {M:Model} {A:Around} {E:Value->Shared->Prop} {s:Shared} {base:Heap} {env:Env} {outer:List Env} {L e:Addr} {cls:Value} {P:WC} {Q:Unit->Shared->Prop} {oe:Obj} {vs:Array Value}
theorem g9 {h:Heap} {T:Addr} {oT:Obj} {ts:Array Value} (hT:h.get? T=some oT) (hd:oT.data=.fields ts) {b:Addr} {o:Obj} (hb:h.get? b=some o) (n:∀ ws,o.data≠.fields ws):b≠T:=by
 rintro rfl
 rw [hT] at hb
 cases hb
 exact n ts hd
theorem zOP {head:Value} {hn:Bool} (st:g6 P) (hfr:A.frames=some (env :: outer)) (hl:s.heap.FunFrames base (env :: outer)) (hf:env.frame=some L) (he:s.heap.get? e=some oe) (hkb:base.StaysIn s.heap) (hen:base.get? e=none) (hd:oe.data=.fields vs) (hsz:1 < vs.size) (hP:P vs oe.dict)
  (h:∀ h',yd base (env :: outer) e oe.cls P (rawInt L) h'->s.heap.UpToSlots h'->Q () { s with heap:=h' }) :
  wpAny M A (do let a <- frameOf env; let pl <- entryPlaceOf L hn; let b <- EntryCells.newEntry head a .none (rawInt L) .none pl; setField (.ref e) 1 b) Q E s:=by
 have nf:e∉(env :: outer).filterMap (·.frame):=λz=>by
  obtain ⟨_,o,ho,n⟩:=hl.mem z
  rw [he] at ho
  cases ho
  exact n vs hd
 refine wpAny_bind (wpAny_frameOf_fun hfr hl hf λg sg=>wpAny_bind (wpAny_entryPlaceOf λpl hpl=>?_))
 unfold EntryCells.newEntry newFields
 refine wpAny_bind (wpAny_newObj_type ?_ (hpl.sizeOk5 _ _ _ _ _))
 have e1:g.get? e=some oe:=(sg.2.1 e nf).trans he
 have k1:base.StaysIn g:=λb o q=>(sg.2.1 b λz=>by rw [(hl.mem z).1] at q; cases q).trans (hkb b o q)
 generalize hO:({ cls:=.type "traceback",dict:=none,data:=.fields ([head,.ref L,.none,rawInt L,.none]++(if pl.isEmpty then cG 6 Value.none else pl)).toArray }:Obj)=O
 have dO:∃ ws,O.data=.fields ws/\ws[3]? = some (rawInt L):=by
  rw [<- hO]
  refine ⟨_,rfl,?_⟩
  first | (simp; done) | (rcases hpl with rfl | ⟨_,_,_,_,_,_,_,rfl⟩ <;> simp)
 have fO:O.isFreed=false:=by rw [<- hO]; rfl
 obtain ⟨ws,dw,w3⟩:=dO
 have e2:=cE (h:=g) O e1
 refine wpAny_setField e2 hd hsz (h _ ?_ ?_)
 ·have ne:g.objs.size≠e:=fJ (cS e1)
  have d3:=Obj.data_mapFields hd (·.setIfInBounds 1 (Value.ref g.objs.size))
  refine ⟨λb o q=>?_,hen,hl.of_keeps λb o q n=>?_,_,_,g.objs.size,O,ws,fA (Obj.mapFields (·.setIfInBounds 1 (Value.ref g.objs.size))) e2 (Obj.isFreed_of_fields d3),Obj.cls_mapFields _ _,d3,?_,by simp [hsz],k1.fresh,ne,?_,dw,w3⟩
  ·have nb:b≠e:=λz=>by rw [z,hen] at q; cases q
   rw [dE _ _ (Ne.symm nb)]
   exact cE _ (k1 b o q)
  ·obtain ⟨sl,q1⟩:=sg.2.2 b o q
   refine ⟨{ o with slots:=sl },?_,rfl⟩
   rw [dE _ _ (Ne.symm (g9 he hd q n))]
   exact cE _ q1
  ·have z:=st vs oe.dict (Value.ref g.objs.size) hP
   first | exact z | (rw [show (oe.mapFields (·.setIfInBounds 1 (Value.ref g.objs.size))).dict=oe.dict by unfold Obj.mapFields; split <;> rfl]; exact z)
  ·rw [dE _ _ (Ne.symm ne)]
   exact cW g fO
 ·intro b o q n
  obtain ⟨sl,q1⟩:=sg.2.2 b o q
  refine ⟨sl,?_⟩
  rw [dE _ _ (Ne.symm (g9 he hd q n))]
  exact cE _ q1
theorem zRR (st:g6 P) (hfr:A.frames=some (env :: outer)) (hf:env.frame=some L) (x:yd base (env :: outer) e cls P .none s.heap)
  (h:∀ h',yd base (env :: outer) e cls P (rawInt L) h'->s.heap.UpToSlots h'->Q () { s with heap:=h' }):wpAny M A (noteFrame (.ref e) env) Q E s:=by
 obtain ⟨k,en,fr,oe,vs,T,oT,ts,he,rfl,hd,hP,h1,nT,ne,hT,dT,h3⟩:=x
 unfold noteFrame
 simp only [hf]
 refine wpAny_bind (wpAny_field he hd h1 ?_)
 rw [if_pos (show (Value.ref T != Value.none)=true by simp)]
 refine wpAny_bind (wpAny_field hT dT h3 ?_)
 rw [if_neg (show ¬ ((Value.none == rawInt L)=true) by simp [rawInt])]
 refine wpAny_bind (wpAny_setField hT dT (eP.mp h3).1 ?_)
 have oth:∀ b,b≠T->(s.heap.update T (Obj.mapFields (·.setIfInBounds 3 Value.none))).get? b=s.heap.get? b:=λb nb=>dE _ _ (Ne.symm nb)
 refine zOP st hfr (fr.of_keeps λb o q n=>⟨o,(oth b (g9 hT dT q n)).trans q,rfl⟩) hf ((oth e (Ne.symm ne)).trans he) (λb o q=>(oth b λz=>by rw [z,nT] at q; cases q).trans (k b o q)) en hd (eP.mp h1).1 hP λh' f u=>h h' f λb o q n=>u b o ((oth b (g9 hT dT q n)).trans q) n
theorem zLK (st:g6 P) (hfr:A.frames=some (env :: outer)) (hf:env.frame=some L) (hl:s.heap.FunFrames base (env :: outer)) (he:s.heap.get? e=some oe) (hkb:base.StaysIn s.heap) (hen:base.get? e=none) (hd:oe.data=.fields vs) (h1:vs[1]? = some .none) (hP:P vs oe.dict)
  (h:∀ h',yd base (env :: outer) e oe.cls P (rawInt L) h'->s.heap.UpToSlots h'->Q () { s with heap:=h' }):wpAny M A (noteFrame (.ref e) env) Q E s:=by
 unfold noteFrame
 simp only [hf]
 refine wpAny_bind (wpAny_field he hd h1 ?_)
 rw [if_neg (by decide)]
 exact zOP st hfr hl hf he hkb hen hd (eP.mp h1).1 hP h
theorem WD {l:List Env} {fl:Value} (x:yd base l e cls P fl s.heap) (h:∀ h',yd base l e cls P .none h'->s.heap.UpToSlots h'->Q () { s with heap:=h' }):wpAny M A (setFlight (.ref e) none) Q E s:=by
 obtain ⟨k,en,fr,oe,vs,T,oT,ts,he,hc,hd,hP,h1,nT,ne,hT,dT,h3⟩:=x
 have sz:3 < ts.size:=(eP.mp h3).1
 have oth:∀ b,b≠T->(s.heap.update T (Obj.mapFields (·.setIfInBounds 3 ((none:Option Addr).elim Value.none λf=>rawInt f)))).get? b=s.heap.get? b:=λb nb=>dE _ _ (Ne.symm nb)
 unfold setFlight
 refine wpAny_bind (wpAny_field he hd h1 ?_)
 rw [if_pos (show (Value.ref T != Value.none)=true by simp)]
 refine wpAny_setField hT dT sz (h _ ⟨λb o q=>(oth b λz=>by rw [z,nT] at q; cases q).trans (k b o q),en,fr.of_keeps λb o q n=>⟨o,(oth b (g9 hT dT q n)).trans q,rfl⟩,oe,vs,T,_,_,(oth e (Ne.symm ne)).trans he,hc,hd,hP,h1,nT,ne,fA _ hT (Obj.isFreed_of_fields (Obj.data_mapFields dT _)),Obj.data_mapFields dT _,by simp [sz]⟩ λb o q n=>⟨o.slots,(oth b (g9 hT dT q n)).trans q⟩)
theorem yd.out {fl:Value} {h:Heap} (x:yd base (env :: outer) e cls P fl h):yd base outer e cls P fl h:=by
 obtain ⟨k,en,⟨_,_,fr⟩,r⟩:=x
 exact ⟨k,en,fr,r⟩
theorem zPU (st:g6 P) (hfr:A.frames=some (env :: outer)) (hf:env.frame=some L) (x:yd base (env :: outer) e cls P .none s.heap)
  (h:∀ h',yd base outer e cls P .none h'->s.heap.UpToSlots h'->Q () { s with heap:=h' }):wpAny M A (leaving env (.ref e)) Q E s:=by
 unfold leaving
 exact wpAny_bind (zRR st hfr hf x λh1 f1 u1=>WD f1 λh2 f2 u2=>h h2 f2.out (u1.trans u2))
theorem zIP (st:g6 P) (hfr:A.frames=some (env :: outer)) (hf:env.frame=some L) (hl:s.heap.FunFrames base (env :: outer)) (he:s.heap.get? e=some oe) (hkb:base.StaysIn s.heap) (hen:base.get? e=none) (hd:oe.data=.fields vs) (h1:vs[1]? = some .none) (hP:P vs oe.dict)
  (h:∀ h',yd base outer e oe.cls P .none h'->s.heap.UpToSlots h'->Q () { s with heap:=h' }):wpAny M A (leaving env (.ref e)) Q E s:=by
 unfold leaving
 exact wpAny_bind (zLK st hfr hf hl he hkb hen hd h1 hP λh1 f1 u1=>WD f1 λh2 f2 u2=>h h2 f2.out (u1.trans u2))
end
def P0:WC:=λvs _=>vs[2]? = some .none
theorem U0:g6 P0:=λvs _ _ h=>by
 unfold P0 at h |-
 rw [Array.getElem?_setIfInBounds_ne (by decide)]
 exact h
theorem yd.first {base h:Heap} {l:List Env} {e:Addr} {cls fl:Value} (x:yd base l e cls P0 fl h):∃ oe vs,h.get? e=some oe/\oe.cls=cls/\oe.data=.fields vs/\vs[2]? = some .none:=by
 obtain ⟨_,_,_,oe,vs,_,_,_,he,hc,hd,hP,_⟩:=x
 exact ⟨oe,vs,he,hc,hd,hP⟩
end L2
namespace L2
open PySem PySem.Spec PyProof.Rows
section
variable {P:Program} {w:World} {H:Hp} {h:Heap} {a:Addr}
theorem xn.there {o:HO} (x:xn P w H h a o):∃ ob,h.get? a=some ob:=by
 cases o with
 | lst xs=>obtain ⟨_,_,_,_,e⟩:=x; exact ⟨_,e⟩
 | tup xs=>obtain ⟨_,_,_,p⟩:=x; obtain ⟨ob,e,_⟩:=p; exact ⟨ob,e⟩
 | dK kvs=>obtain ⟨_,_,_,_,ob,_,_,e,_⟩:=x; exact ⟨ob,e⟩
 | dT kvs=>obtain ⟨_,_,_,_,ob,_,_,e,_⟩:=x; exact ⟨ob,e⟩
 | set S n=>obtain ⟨ob,_,_,_,e,_⟩:=x; exact ⟨ob,e⟩
 | ins C dx fs=>obtain ⟨_,_,_,e,_⟩:=x; exact ⟨_,e⟩
 | own y=>exact x
 | xd fs=>obtain ⟨_,⟨ob,_,_,e,_⟩,_⟩:=x; exact ⟨ob,e⟩
 | rng lo hi=>obtain ⟨_,_,_,e⟩:=x; exact ⟨_,e⟩
 | frz ob u=>obtain ⟨e,_⟩:=x; exact ⟨_,e⟩
 | tbl ps=>exact ⟨_,show h.get? a=some _ from x⟩
 | met f y=>exact ⟨_,show h.get? a=some _ from x⟩
 | ext φ=>obtain ⟨_,e,_⟩:=x; exact e
theorem xG.none_of (x:xG P w H h) (e:h.get? a=none):H a=none:=by
 cases q:H a with
 | none=>rfl
 | some o=>
  obtain ⟨ob,z⟩:=(x a o q).there
  rw [e] at z
  cases z
theorem xG.hide {as:List Addr} (x:xG P w H h) (f:∀ b∈as,H b=none):xG P w H (fN h as):=λa o e=>
 (x a o e).stay (λb u hb q=>fF _ q λz=>by
  have n:=f b z
  rcases hb with rfl | hb
  ·rw [n] at e; cases e
  ·rw [n] at hb; cases hb) (λ_ q=>q) λ_ _ q=>q
end
structure XL (P:Program) (w:World) (outer:List Env) (H H':Hp) (s s':Shared) (B:Heap) (e:Addr) (cls a0:Value):Prop where
 os:s'.os=s.os
 bare:AllBare s'.gens
 keep:∀ b o,s.heap.get? b=some o->H b=none->b∉xK outer->B.get? b=some o
 slot:∀ b o,s.heap.get? b=some o->H b=none->b∈xK outer->∃ sl,s'.heap.get? b=some { o with slots:=sl }
 free:∀ b o,s.heap.get? b=some o->H b=none->H' b=none
 there:∀ b o,s.heap.get? b=some o->b∉xK outer->∃ o',B.get? b=some o'
 tups:∀ b xs,H b=some (.tup xs)->H' b=some (.tup xs)
 frzs:∀ b o u,H b=some (.frz o u)->H' b=some (.frz o u)
 tbls:∀ b ps,H b=some (.tbl ps)->∃ more,H' b=some (.tbl (ps++more))
 hok:xG P w H' B
 fly:yd B outer e cls P0 .none s'.heap
def xW (P:Program) (w:World):vg:=λouter H s E ev s'=>∃ (e:Addr) (cls a0:Value) (B:Heap) (H':Hp),ev=.ref e/\XL P w outer H H' s s' B e cls a0/\E cls none H'
section
variable {P:Program} {w:World} {outer:List Env} {H H':Hp} {s s':Shared} {B:Heap} {e:Addr} {cls a0:Value}
theorem XL.un (x:XL P w outer H H' s s' B e cls a0):Un (xK outer) [] H H' s.heap s'.heap where
 keep:=λb o q n hb _=>x.fly.1 b o (x.keep b o q n hb)
 slot:=λb o q n hb _=>x.slot b o q n hb
 free:=λb o q n _=>x.free b o q n
 there:=λb o q _=>by
  by_cases hb:b∈xK outer
  ·obtain ⟨_,o',ho,_⟩:=x.fly.2.2.1.mem hb
   exact ⟨o',ho⟩
  ·obtain ⟨o',ho⟩:=x.there b o q hb
   exact ⟨o',x.fly.1 _ _ ho⟩
 tups:=x.tups
 frzs:=x.frzs
 tbls:=x.tbls
theorem XL.held (x:XL P w outer H H' s s' B e cls a0):xG P w H' s'.heap:=x.hok.kept x.fly.1
theorem XL.move {h':Heap} {tk:Nat} (x:XL P w outer H H' s s' B e cls a0) (f:yd B outer e cls P0 .none h') (u:s'.heap.UpToSlots h'):XL P w outer H H' s { s' with heap:=h',toks:=tk } B e cls a0 where
 os:=x.os
 bare:=x.bare
 keep:=x.keep
 slot:=λb o q n hb=>by
  obtain ⟨sl,e1⟩:=x.slot b o q n hb
  obtain ⟨_,o',ho,nf⟩:=x.fly.2.2.1.mem hb
  rw [e1] at ho
  cases ho
  obtain ⟨sl',e2⟩:=u b _ e1 nf
  exact ⟨sl',e2⟩
 free:=x.free
 there:=x.there
 tups:=x.tups
 frzs:=x.frzs
 tbls:=x.tbls
 hok:=x.hok
 fly:=f
theorem XL.new (x:XL P w outer H H' s s' B e cls a0):s.heap.get? e=none/\H' e=none/\e∉xK outer:=by
 have nf:e∉xK outer:=λz=>by
  obtain ⟨_,o,ho,nd⟩:=x.fly.2.2.1.mem z
  obtain ⟨oe,vs,he,_,hd,_⟩:=yd.first x.fly
  rw [he] at ho
  cases ho
  exact nd _ hd
 refine ⟨?_,x.hok.none_of x.fly.2.1,nf⟩
 cases q:s.heap.get? e with
 | none=>rfl
 | some o=>
  obtain ⟨o',z⟩:=x.there e o q nf
  rw [x.fly.2.1] at z
  cases z
end
section
variable {P:Program} {w:World} {K:b'} {mg:Str->Option Value} {base:Heap} {N:List Str} {qual:Str} {scope:Scope} {f:Addr} {cd:Value} {A:Around} {outer:List Env} {s:Shared} {H:Hp} {E:XK}
theorem WE {X:Cx} {pins:List (Addr × Obj)} {σ:St} {H1:Hp} {s1:Shared} {b:Addr} {o:Obj} (I:zE X pins σ H1 s1) (q:X.s₀.heap.get? b=some o) (hb:b∉X.fs):b∉xK X.stack:=λz=>by
 rcases da.mp (I.stkSub b z) with e | z
 ·exact absurd (cU (cS q) I.ok.above) (by rw [e]; exact dy _)
 ·exact hb z
theorem zJj {pins:List (Addr × Obj)} {σ:St} {H1:Hp} {s1:Shared} {h2:Heap} {e:Addr} {cls:Value} {args:List Value}
  (I:zE (zc (xW P w) P w K mg base N qual scope f cd A outer s H E) pins σ H1 s1) (hx:m_ s1.heap h2 e cls args) (q:E cls none H1) :
  (zc (xW P w) P w K mg base N qual scope f cd A outer s H E).xe (.ref e) { s1 with heap:=h2 }:=by
 have fr:=I.stack
 have fh:=PySem.W.funFrames_hide (as:=xK (zc (xW P w) P w K mg base N qual scope f cd A outer s H E).stack) fr λenv he b hb=>iA.mpr ⟨env,he,hb⟩
 obtain ⟨t,he,htn,ht⟩:=hx.there
 have fr2:∀ b,s1.heap.get? b=none->(fN s1.heap (xK (zc (xW P w) P w K mg base N qual scope f cd A outer s H E).stack)).get? b=none:=λb hb=>by
  cases q:(fN s1.heap (xK (zc (xW P w) P w K mg base N qual scope f cd A outer s H E).stack)).get? b with
  | none=>rfl
  | some o=>
   have:=ix _ q
   rw [hb] at this
   cases this
 refine zIP (s:={ s1 with heap:=h2 }) (base:=fN s1.heap (xK (zc (xW P w) P w K mg base N qual scope f cd A outer s H E).stack)) U0 I.ok.frames rfl (fh.of_keeps λb o q _=>⟨o,hx.keeps b o q,rfl⟩) he (λb o q=>hx.keeps b o (ix _ q)) (fr2 e hx.new) rfl rfl rfl λh' x1 x4=>?_
 refine ⟨e,cls,.ref t,_,H1,rfl,⟨I.os,I.bare,λb o eb n hb=>?_,λb o eb n hb=>?_,λb o eb n=>I.base.free b o eb n (by simp [zc]),λb o eb hb=>?_,I.base.tups,I.base.frzs,I.base.tbls,I.hok.hide λb hb=>I.stkFree b hb,x1⟩,q⟩
 ·exact fF _ (I.base.keep b o eb n hb (by simp [zc])) (WE I eb hb)
 ·obtain ⟨sl,e1⟩:=I.base.slot b o eb n hb (by simp [zc])
  obtain ⟨_,o',ho,nf⟩:=I.funs.mem hb
  rw [e1] at ho
  cases ho
  obtain ⟨sl',e2⟩:=x4 b _ (hx.keeps _ _ e1) nf
  exact ⟨sl',e2⟩
 ·obtain ⟨o',e1⟩:=I.base.there b o eb (by simp [zc])
  exact ⟨o',fF _ e1 (WE I eb hb)⟩
theorem zK0 {E':XK} (hE:∀ c d H,E' c d H->E c d H):ql (xW P w) (zc (xW P w) P w K mg base N qual scope f cd A outer s H E) E':=by
 intro pins σ H1 s1 ev s2 I h
 obtain ⟨e,cls,a0,B,H2,rfl,x,q⟩:=h
 have un:=(I.base.mono (fs':=xK (zc (xW P w) P w K mg base N qual scope f cd A outer s H E).stack) (ex':=[]) (λb hb=>by
  show b∈xK (_ :: outer)
  unfold xK
  rw [eG]
  split
  ·exact hb
  ·exact cB _ hb) λb hb=>hb).trans x.un
 have hx:yd B ((zc (xW P w) P w K mg base N qual scope f cd A outer s H E).env :: outer) e cls P0 .none s2.heap:=x.fly
 refine zPU U0 I.ok.frames rfl hx λh' fl up=>?_
 refine ⟨e,cls,a0,B,H2,rfl,⟨x.os.trans I.os,x.bare,λb o eb n hb=>?_,λb o eb n hb=>?_,λb o eb n=>un.free b o eb n (by simp),λb o eb hb=>?_,un.tups,un.frzs,un.tbls,x.hok,fl⟩,hE _ _ _ q⟩
 ·exact x.keep b o (I.base.keep b o eb n hb (by simp [zc])) (I.base.free b o eb n (by simp [zc])) (WE I eb hb)
 ·obtain ⟨sl,e1⟩:=I.base.slot b o eb n hb (by simp [zc])
  have hb2:b∈xK (zc (xW P w) P w K mg base N qual scope f cd A outer s H E).stack:=by
   show b∈xK (_ :: outer)
   unfold xK
   rw [eG]
   split
   ·exact hb
   ·exact cB _ hb
  obtain ⟨sl1,e2⟩:=x.slot b _ e1 (I.base.free b o eb n (by simp [zc])) hb2
  obtain ⟨_,o',ho,nf⟩:=x.fly.2.2.1.mem hb2
  rw [e2] at ho
  cases ho
  obtain ⟨sl2,e3⟩:=up b _ e2 nf
  exact ⟨sl2,e3⟩
 ·obtain ⟨o',e1⟩:=I.base.there b o eb (by simp [zc])
  exact x.there b o' e1 (WE I eb hb)
end
theorem zPn {K:b'} {h:Heap} {C:Addr} {bmB:List Value} {newId:String} (X:K.In h) (q:iS K C bmB newId=true) :
  ∃ bm N nm qn bs hdct sn sub ab col dd k0 k1 k2 k3 k5 mN,h.get? C=some (excClassObj nm qn C N bs bm hdct sn sub ab col dd k0 k1 k2 k3 k5 newId)/\h.Ns N mN/\mN "__init__" = none/\OwnTail h bmB bm:=by
 unfold iS at q
 split at q
 case h_1 dd cd sl look=>
  split at q
  case h_1 C1 tl k0 k1 k2 k3 made k5 eqm eqs=>
   simp only [eQ,beq_iff_eq,Bool.not_eq_true'] at q
   obtain ⟨⟨⟨⟨⟨e1,e2⟩,e3⟩,e4⟩,e5⟩,e6⟩:=q
   subst e1 e2
   obtain ⟨nm,bs,mro,ns,qn,hd,sn,sub,ab,col,del⟩:=cd
   obtain ⟨sll⟩:=sl
   dsimp only at eqm e3 e5 e6 eqs
   subst eqm e3 eqs
   exact ⟨tl,ns,nm,qn,bs,hd,sn,sub,ab,col,dd,k0,k1,k2,k3,k5,h.nsMap ns,X _ _ look,.of_isNs (PySem.W.isNs_of_in X e5),PySem.W.nsMap_none_of_in X e5 e6,PySem.W.tail_of_in X e4⟩
  all_goals cases q
 all_goals cases q
abbrev bmV:List Value:=[.type "ValueError",.type "Exception",.type "BaseException",.type "object"]
def zNw (C:Addr) (E:XK) (ta:TA):TS:=λ_ σ H=>ta σ H λvs H1=>vs.length<=sizeLine/\E (.ref C) none H1
def zSB (X:Cx) (E:XK):Prop:=∀ (pins:List (Addr × Obj)) (σ:St) (H:Hp) (s:Shared) (h':Heap) (e:Addr) (cls:Value) (args:List Value),zE X pins σ H s->m_ s.heap h' e cls args->E cls none H->X.xe (.ref e) { s with heap:=h' }
theorem zMm {X:Cx} {C:Addr} {E:XK} {x:Str} {np cpos pos:Pos} {e0:Expr} {es:List Expr} {ta:TA} (R:zSB X E) (hC:iS X.K C bmV "ValueError.__new__" = true) (hg:Gl X x) (hm:X.mg x=some (.ref C)) (hc:X.calm=true) (ha:PA X (e0 :: es) ta)
  (hdb:(x == ("__debug__" : Str))=false:=by decide) (he:starEach (e0 :: es) X.env=(false,eval e0 X.env) :: starEach es X.env:=by rfl) (hpl:(backTo cpos (starEach es X.env)).any (·.1)=false:=by rfl) :
  PS X (.Raise (some (.Call (.Name x np) (e0 :: es) [] cpos)) none pos) (zNw C E ta):=by
 intro pins s σ H D I h
 obtain ⟨bm,N,nm,qn,bs,hdct,sn,sub,ab,col,dd,k0,k1,k2,k3,k5,mN,oC,oN,oi,oT⟩:=zPn I.ok.mod.kin hC
 have hp:(backTo cpos (starEach (e0 :: es) X.env)).any (·.1)=false:=by
  rw [he]
  show (false || (backTo cpos (starEach es X.env)).any (·.1))=false
  rw [hpl]
  rfl
 refine wpAny_Raise_call_subT (C:=C) (nm:=nm) (q:=qn) (N:=N) (bs:=bs) (bm:=bm) (hdct:=hdct) (sn:=sn) (sub:=sub) (ab:=ab) (col:=col) (dd:=dd) (k0:=k0) (k1:=k1) (k2:=k2) (k3:=k3) (k5:=k5) PySem.F.excBase_ValueError (mN:=mN)
  (oT.hasType PySem.F.excBase_ValueError.hasBase) (I.ok.hd hc) hp oi (gp I hg hm ⟨rfl,?_⟩ hdb)
 have ha':=ha cpos pins s σ H _ I h
 rw [he] at ha' |-
 refine Calls.evalArgs_plain (zj ha' λus s2 ⟨vs,H1,I2,r,hl,qE⟩=>?_)
 exact ⟨rfl,(by rw [<- r.length]; exact hl),I2.bk _ _ oC,oN.keeps I2.bk,oT.keeps I2.bk,λh' e hm'=>R pins σ H1 s2 h' e _ _ I2 hm' qE⟩
section
variable {P:Program} {w:World} {K:b'} {mg:Str->Option Value} {base:Heap}
theorem zf.okX {x qual:Str} {st:Stmt} {f:Addr} {fd:FuncData} {N ps:List Str} {k:Nat} {sp:Sp} (F:zf K x qual st f fd) (S:ze N ps (zR st)) (len:∀ vs H Q E,sp vs H Q E->vs.length=ps.length)
  (hbody:∀ (cdv:Value) (A:Around) (outer:List Env) (s:Shared) (H:Hp) (vs:List V) (Q:VK) (E:XK),zU k (A.deeper (envOfC qual (zR st) s.heap.objs.size f cdv))->sp vs H Q E->
   ∃ t,yk (zc (xW P w) P w K mg base N qual (zR st) f cdv A outer s H E) (xS st) t/\t { nx:=λ_ H'=>Q .non H',rt:=Q } (yC N vs) H):zF P w K mg base (xW P w) (k + 1) f fd ps sp:=by
 obtain ⟨oc,od,kV,doc,pm,an,cdv,ct,osl,rfl,lk,hcd⟩:=F.ex
 exact X0 lk hcd S len λA outer s H vs Q E hr hsp=>hbody cdv A outer s H vs Q E hr hsp
structure jG (P:Program) (w:World) (K:b') (mg:Str->Option Value) (base:Heap) (x:Str) (ps:List Str) (k:Nat) (sp:Sp):Prop where
 ex:∃ f fd,zF P w K mg base (xW P w) k f fd ps sp/\mg x=some (.ref f)/\eg K (.ref f)=true/\vG K fd ps []
theorem jG.mono {x:Str} {ps:List Str} {j k:Nat} {sp:Sp} (F:jG P w K mg base x ps j sp) (h:j<=k:=by decide):jG P w K mg base x ps k sp:=by
 obtain ⟨f,fd,a,b,c,d⟩:=F.ex
 exact ⟨f,fd,a.mono h,b,c,d⟩
end
def qy (e C:Addr):HO:=.ext λh=>∃ oe vs,h.get? e=some oe/\oe.cls=.ref C/\oe.data=.fields vs/\vs[2]? = some .none
abbrev Cx.mark (X:Cx) (e:Addr):Cx:={ X with A:=X.A.mark (some (.ref e)),calm:=false,xe:=λ_ _=>False }
section
variable {X:Cx} {pins:List (Addr × Obj)} {σ:St} {H:Hp} {s:Shared} {e:Addr}
theorem zE.mark (I:zE X pins σ H s) (e:Addr):zE (X.mark e) pins σ H s:=
 ⟨⟨I.ok.mod,I.ok.kind,I.ok.glob,I.ok.blt,I.ok.above,I.ok.inj,I.ok.has,I.ok.cab,λz=>(nomatch z),I.ok.frames,I.ok.stk,I.ok.exf,I.ok.bs,I.ok.bsz,I.ok.noex,I.ok.exfs,I.ok.funs,I.ok.frf⟩,I.os,I.bare,I.base,I.loc,I.cell,I.free,I.freeC,I.pin,I.hok,I.len⟩
theorem zE.unmark (hh:X.calm=true->X.A.handled=none) (I:zE (X.mark e) pins σ H s):zE X pins σ H s:=
 ⟨⟨I.ok.mod,I.ok.kind,I.ok.glob,I.ok.blt,I.ok.above,I.ok.inj,I.ok.has,I.ok.cab,hh,I.ok.frames,I.ok.stk,I.ok.exf,I.ok.bs,I.ok.bsz,I.ok.noex,I.ok.exfs,I.ok.funs,I.ok.frf⟩,I.os,I.bare,I.base,I.loc,I.cell,I.free,I.freeC,I.pin,I.hok,I.len⟩
theorem zE.track {o:HO} (I:zE X pins σ H s) (hn:H e=none) (h0:e∈X.ex\/X.s₀.heap.get? e=none) (hL:e≠X.env.locals) (hc:∀ x c,X.env.cells.lookup x=some c->c≠e) (hp:∀ p∈X.pn++pins,p.1≠e)
  (new:xn X.prog X.w (za H e o) s.heap e o):zE X pins σ (za H e o) s:=by
 have ne:∀ b u,H b=some u->b≠e:=λb u q=>wD q hn
 refine ⟨I.ok,I.os,I.bare,⟨I.base.keep,I.base.slot,λb ob q n hx=>?_,I.base.there,λb xs q=>?_,λb ob u q=>?_,λb ps q=>?_⟩,I.loc,I.cell,?_,λx c q=>?_,λp hq=>?_,λb u q=>?_,I.len⟩
 ·rw [zu λz=>?_]
  ·exact I.base.free b ob q n hx
  ·subst z
   rcases h0 with z | z
   ·exact hx z
   ·rw [q] at z; cases z
 ·have z:=I.base.tups b xs q
  rw [zu (ne _ _ z)]
  exact z
 ·have z:=I.base.frzs b ob u q
  rw [zu (ne _ _ z)]
  exact z
 ·obtain ⟨m,z⟩:=I.base.tbls b ps q
  exact ⟨m,by rw [zu (ne _ _ z)]; exact z⟩
 ·rw [zu (Ne.symm hL)]
  exact I.free
 ·rw [zu (hc x c q)]
  exact I.freeC x c q
 ·obtain ⟨a1,a2,a3,a4,a5⟩:=I.pin p hq
  exact ⟨a1,by rw [zu (hp p hq)]; exact a2,a3,a4,a5⟩
 ·by_cases z:b=e
  ·subst z
   rw [xh] at q
   cases q
   exact new
  ·rw [zu z] at q
   exact (I.hok b u q).stay (λ_ _ _ r=>r) (λc r=>by rw [zu (ne _ _ r)]; exact r) λc xs r=>by rw [zu (ne _ _ r)]; exact r
end
def PEX (X:Cx) (ex:Expr) (t:XK->TE):Prop:=
 ∀ (pins:List (Addr × Obj)) (s:Shared) (σ:St) (H:Hp) (Q:VK) (E:XK),zE X pins σ H s->t E σ H Q->
  wpAny (model X.prog X.w) X.A (eval ex X.env) (EP X pins σ Q) (λev s'=>∃ (s1:Shared) (H1 H2:Hp) (e:Addr) (cls a0:Value) (B:Heap),zE X pins σ H1 s1/\ev=.ref e/\XL X.prog X.w X.stack H1 H2 s1 s' B e cls a0/\E cls none H2) s
theorem zHM {X:Cx} {x:Str} {ps:List Str} {k:Nat} {sp:Sp} {e:Expr} {es:List Expr} {t:TA} {p pos:Pos} (F:jG X.prog X.w X.K X.mg X.base x ps k sp) (hr:zU k X.A) (hg:Gl X x) (ha:PA X.nox (e :: es) t)
  (hdb:(x == ("__debug__" : Str))=false:=by decide) (he:starEach (e :: es) X.env=(false,eval e X.env) :: starEach es X.env:=by rfl) (hpl:(backTo pos (starEach es X.env)).any (·.1)=false:=by rfl) :
  PEX X (.Call (.Name x p) (e :: es) [] pos) (λE=>qk sp [] E t):=by
 intro pins s σ H Q E I h
 obtain ⟨f,fd,Fk,hm,hk,hb⟩:=F.ex
 refine wpAny_Call_Name_kw (gp I hg hm ?_ hdb)
 refine iB (h₀:=X.base) I.ok.mod.kin hk (wpAny_mono (ha pos pins s σ H _ (I.wish _) h) (λus s1 ⟨vs,H1,I1,r,q⟩=>⟨I1.unwish.kIn,?_⟩) λ_ _ z=>False.elim z) he hpl
 have I1':=I1.unwish
 have r2:zK (vs++[]) (us++[]):=r.append .nil
 have hl:(us++[]).length=ps.length:=by rw [<- r2.length]; exact Fk.len _ _ _ _ q
 refine wpAny_call (codeAny_mono (Fk.run X.A X.stack s1 H1 ⟨us,[]⟩ (us++[]) (vs++[]) Q E hr I1'.env0 (hb s1 us I1'.kIn hl) r2 q) λr s' hq=>?_)
 cases r with
 | error ev=>
  obtain ⟨ee,cls,a0,B,H2,rfl,x,qE⟩:=hq
  exact ⟨s1,H1,H2,ee,cls,a0,B,I1',rfl,x,qE⟩
 | ok fl=>
  cases fl with
  | ret u=>exact I1'.after hq
  | next=>exact False.elim hq
  | brk=>exact False.elim hq
  | cont=>exact False.elim hq
end L2
namespace L2
open PySem PySem.Spec PyProof.Rows
def XP (X:Cx) (pins:List (Addr × Obj)) (ES:St->XK) (ev:Value) (s':Shared):Prop:=
 ∃ (σ1:St) (s1:Shared) (H1 H2:Hp) (e:Addr) (cls a0:Value) (B:Heap),zE X pins σ1 H1 s1/\ev=.ref e/\XL X.prog X.w X.stack H1 H2 s1 s' B e cls a0/\ES σ1 cls none H2
abbrev TX:=(St->XK)->TS
def PSX (X:Cx) (st:Stmt) (t:TX):Prop:=∀ (pins:List (Addr × Obj)) (s:Shared) (σ:St) (H:Hp) (D:yw) (ES:St->XK),zE X pins σ H s->t ES D σ H->wpAny (model X.prog X.w) X.A (exec st X.env) (SP X pins D) (XP X pins ES) s
def jW (X:Cx) (ss:List Stmt) (t:TX):Prop:=∀ (pins:List (Addr × Obj)) (s:Shared) (σ:St) (H:Hp) (D:yw) (ES:St->XK),zE X pins σ H s->t ES D σ H->wpAny (model X.prog X.w) X.A (execs ss X.env) (SP X pins D) (XP X pins ES) s
section
variable {X:Cx} {call:Expr} {tb:XK->TE} {pos pos':Pos}
theorem zIy (hb:PEX X call tb) (hs:swapsWith call none pos.line X.env=pure false:=by rfl):PSX X (.Expr call pos) (λES D σ H=>tb (ES σ) σ H λ_ H1=>D.nx σ H1):=by
 intro pins s σ H D ES I h
 refine wpAny_Expr_any (wpAny_mono (hb pins s σ H _ _ I h) (λv s1 ⟨y,H1,I1,r1,q1⟩=>⟨σ,H1,I1,q1⟩) λev s1 ⟨s0,H1,H2,e,cls,a0,B,I0,e1,xl,q⟩=>⟨σ,s0,H1,H2,e,cls,a0,B,I0,e1,xl,q⟩) I.quiet hs
theorem zIx:jW X [] (λ_ D σ H=>D.nx σ H):=λ_ _ σ H _ _ I h=>wpAny_execs_nil ⟨σ,H,I,h⟩
theorem zHI {st:Stmt} {ss:List Stmt} {t u:TX} (h1:PSX X st t) (h2:jW X ss u):jW X (st :: ss) (λES D σ H=>t ES { D with nx:=u ES D } σ H):=by
 intro pins s σ H D ES I h
 refine wpAny_execs_cons (wpAny_mono (h1 pins s σ H _ ES I h) (λf s1 q=>?_) λ_ _ z=>z)
 cases f with
 | next=>obtain ⟨σ',H',I',q'⟩:=q; exact h2 pins s1 σ' H' D ES I' q'
 | brk=>exact q
 | cont=>exact q
 | ret u=>exact q
end
def zQJ (K:b') (Cb:Addr) (tb:TX) (th:TS):TS:=λD σ H=>
 tb (λσ1 cls _ H2=>∃ C,cls=.ref C/\lE K (.ref C) (.ref Cb)=some true/\∀ e,H2 e=none->
  th D σ1 (za H2 e (qy e C))) D σ H
theorem zKl {X:Cx} {Cb:Addr} {x:Str} {body:List Stmt} {tb:TX} {th:TS} {b₀:Stmt} {suite:List Stmt} {np hpos pos:Pos} (hg:Gl X x) (hm:X.mg x=some (.ref Cb)) (hc:X.calm=true)
  (hf:X.env.frame=some X.env.locals) (hst:X.stack=X.env :: X.outer) (hb:jW X body tb) (hh:∀ e,yk (X.mark e) (b₀ :: suite) th)
  (hdb:(x == ("__debug__" : Str))=false:=by decide) :
  PS X (.Try body [.ExceptHandler (some (.Name x np)) none (b₀ :: suite) hpos] [] [] pos) (zQJ X.K Cb tb th):=by
 intro pins s σ H D I h
 refine wpAny_Try_except (wpAny_mono (hb pins s σ H D _ I h) (λfl s1 q1=>?_) λev s1 hx=>?_)
 ·cases fl with
  | next=>exact wpAny_execs_nil q1
  | brk=>exact q1
  | cont=>exact q1
  | ret u=>exact q1
 obtain ⟨σ1,s0,H1,H2,e,cls,a0,B,I0,rfl,xl,C,rfl,hx,q⟩:=hx
 have hfr:X.A.frames=some (X.env :: X.outer):=by rw [<- hst]; exact I.ok.frames
 have xl':XL X.prog X.w (X.env :: X.outer) H1 H2 s0 s1 B e (.ref C) a0:=by rw [<- hst]; exact xl
 have behind:∀ {h':Heap} {tk:Nat},XL X.prog X.w (X.env :: X.outer) H1 H2 s0 { s1 with heap:=h',toks:=tk } B e (.ref C) a0->zE X pins σ1 H2 { s1 with heap:=h',toks:=tk }:=λ{h' tk} z=>by
  have z':XL X.prog X.w X.stack H1 H2 s0 { s1 with heap:=h',toks:=tk } B e (.ref C) a0:=by rw [hst]; exact z
  exact I0.call' (ch:=[]) z'.os z'.un z'.held z'.bare λb hb=>absurd hb (by simp)
 have hE:∀ (Y:Around) (v:Value) (sx:Shared),False->notedBy (model X.prog X.w) Y X.env (cameBackBy (model X.prog X.w) X.A X.env X.xe) v sx:=λ_ _ _ z=>z.elim
 refine zRR U0 hfr hf xl'.fly λh4 held4 up4=>?_
 refine WD held4 λh5 fly5 up5=>?_
 have x5:=xl'.move (tk:=s1.toks) fly5 (up4.trans up5)
 have I5:=behind x5
 refine wpAny_handleBy_cons (codeAny_handlers_test (gp (I5.mark e) hg hm ?_ hdb)) (by intro q; cases q)
 obtain ⟨oe,ws,he,hcl,hd,_⟩:=yd.first fly5
 have LT:PySem.W.Looks (model X.prog X.w) h5 (typeOf (.ref e)) (.ref C):=hcl ▸ (PySem.W.Looks.ld he).andThen .now
 refine (PySem.W.exm_one (K:=X.K) I5.kIn LT hx).here (codeAny_handlers_suite ?_)
 refine WD (s:={ s1 with heap:=h5 }) fly5 λh6 fly6 up6=>?_
 have x6:=xl'.move (tk:=s1.toks) fly6 ((up4.trans up5).trans up6)
 have I6:=behind x6
 obtain ⟨oe6,ws6,he6,hcl6,hd6,h26⟩:=yd.first fly6
 obtain ⟨new,hH,nfr⟩:=xl.new
 have eL:e≠X.env.locals:=λz=>nfr (by
  rw [hst]
  unfold xK
  rw [eG,hf,z]
  exact cD)
 have J6:zE X pins σ1 (za H2 e (qy e C)) { s1 with heap:=h6,toks:=s1.toks }:=by
  refine I6.track hH ?_ eL (λy c q z=>?_) (λp hp z=>?_) ⟨⟨oe6,ws6,he6,hcl6,hd6,h26⟩,⟨oe6,he6⟩,λg1 g2 ⟨o,v,p1,p2,p3⟩ k=>⟨o,v,k _ p1,p2,p3⟩⟩
  ·by_cases hx:e∈X.ex
   ·exact .inl hx
   ·refine .inr ?_
    cases q:X.s₀.heap.get? e with
    | none=>rfl
    | some o=>
     obtain ⟨o',z⟩:=I0.base.there e o q hx
     rw [new] at z
     cases z
  ·obtain ⟨v,o,ho,_⟩:=I0.cell y c q
   rw [z,new] at ho
   cases ho
  ·have z1:=(I0.pin p hp).1
   rw [z,new] at z1
   cases z1
 refine wpAny_mono (hh e pins _ _ _ _ (J6.mark e) (q e hH)) (λfl s8 h8=>?_) λ_ _ z=>False.elim z
 cases fl with
 | ret u=>obtain ⟨v,σ8,H8,I8,r8,q8⟩:=h8; exact ⟨v,σ8,H8,I8.unmark λz=>I.ok.hd z,r8,q8⟩
 | brk=>obtain ⟨σ8,H8,I8,q8⟩:=h8; exact ⟨σ8,H8,I8.unmark λz=>I.ok.hd z,q8⟩
 | cont=>obtain ⟨σ8,H8,I8,q8⟩:=h8; exact ⟨σ8,H8,I8.unmark λz=>I.ok.hd z,q8⟩
 | next=>obtain ⟨σ8,H8,I8,q8⟩:=h8; exact ⟨σ8,H8,I8.unmark λz=>I.ok.hd z,q8⟩
end L2
namespace L2
open PySem PySem.Spec PyProof.Rows
section
variable {P:Program} {w:World} {K:b'} {mg:Str->Option Value} {base:Heap} {N:List Str} {qual:Str} {scope:Scope} {f:Addr} {cd:Value} {A:Around} {outer:List Env} {s:Shared} {H:Hp} {E:XK}
variable {C:Addr} {m x:Str} {ps:List Str} {k:Nat} {sp:Sp} {o e:Expr} {es:List Expr} {ta:TE} {t:TA} {p pos apos:Pos}
theorem zI3 (F:jG P w K mg base x ps k sp) (hr:zU k (zc (xW P w) P w K mg base N qual scope f cd A outer s H E).A) (hg:Gl (zc (xW P w) P w K mg base N qual scope f cd A outer s H E) x) (ha:PA (zc (xW P w) P w K mg base N qual scope f cd A outer s H E) (e :: es) t)
  (hdb:(x == ("__debug__" : Str))=false:=by decide) (he:starEach (e :: es) (zc (xW P w) P w K mg base N qual scope f cd A outer s H E).env=(false,eval e (zc (xW P w) P w K mg base N qual scope f cd A outer s H E).env) :: starEach es (zc (xW P w) P w K mg base N qual scope f cd A outer s H E).env:=by rfl)
  (hpl:(backTo pos (starEach es (zc (xW P w) P w K mg base N qual scope f cd A outer s H E).env)).any (·.1)=false:=by rfl) :
  PE (zc (xW P w) P w K mg base N qual scope f cd A outer s H E) (.Call (.Name x p) (e :: es) [] pos) (qk sp [] E t):=by
 obtain ⟨f',fd,a,b,c,d⟩:=F.ex
 exact Uc (X:=zc (xW P w) P w K mg base N qual scope f cd A outer s H E) a hr hg b c d .nil (zK0 λ_ _ _ z=>z) ha hdb he hpl
end
end L2
namespace Sh
open PySem L2
inductive AK where
 | int (i:Int)
 | bool (b:Bool)
 | non
 | str (x:Str)
 | dic
 | lst (as:List AK)
 | tup (as:List AK)
 | mode (r n s p a d:AK)
def AK.isInt:AK->Bool
 | .int _=>true
 | .bool _=>true
 | _=>false
def AK.isBool:AK->Bool
 | .bool _=>true
 | _=>false
def AK.isLst:AK->Bool
 | .lst _=>true
 | _=>false
def AK.isTup:AK->Bool
 | .tup _=>true
 | _=>false
inductive Ze where
 | made | bad | many
def Ze.str:Ze->Str
 | .made=>"made"
 | .bad=>"bad"
 | .many=>"many"
end Sh
namespace HT
open PySem PySem.Spec PyProof.Rows
section
variable {prog:Program} {w:World} {A:Around} {E:Value->Shared->Prop} {s:Shared}
theorem cat_tup0 {t b:Addr} {vs ws:List Value} {Q:Value->Shared->Prop} (ht:IsTup s.heap t vs.toArray) (hb:IsTup s.heap b ws.toArray) (hv:vs=[]) (h0:Q (.ref b) s):wpAny (model prog w) A (binaryOp .Add (.ref t) (.ref b)) Q E s:=by
 obtain ⟨⟨cls,dd,data,sl⟩,ho,hc,n,hd⟩:=id ht
 obtain ⟨⟨cls2,dd2,data2,sl2⟩,ho2,hc2,n2,hd2⟩:=id hb
 simp only at hc hd hc2 hd2
 subst hc hd hc2 hd2
 exact concat_meets ⟨_,ho,rfl⟩ ⟨_,ho2,rfl⟩ noFill_tuple_add seq_tuple_add f7 fQ (fL _ _)
  (tuple_addW0 t b vs.toArray ws.toArray n n2 dd dd2 sl sl2 (by simp [hv])) ⟨ho,ho2,h0⟩
theorem getItem_tuple_all {t sl:Addr} {items:Array Value} {vl vu:Value} {lo hi:Option Int} {Q:Value->Shared->Prop} (ht:IsTup s.heap t items) (hs:s.heap.IsSliceOf sl vl vu .none) (pl:IsPart vl lo) (pu:IsPart vu hi)
  (hw:sIx items.size 0 lo=0/\sIx items.size items.size hi=items.size) (h:Q (.ref t) s):wpAny (model prog w) A (getItem (.ref t) (.ref sl)) Q E s:=by
 obtain ⟨os,hos,hcs,hds⟩:=id hs
 have hTs:s.TypeIs (.ref sl) "slice":=⟨os,hos,hcs⟩
 unfold getItem
 try with_reducible refine wpAny_holding ?_
 first | refine wpAny_bind (wpAny_pure ?_) | skip
 refine wpAny_bind (wpAny_sequenceKey ht.typeIs (by decide) ?_)
 refine wpAny_bind (wpAny_callSpecial?_slot (name:=dD "__getitem__") ht.typeIs PyProof.Rows.slot_tuple_getitem
  (wpAny_call_entry PyProof.Rows.slot_tuple_getitem ht.typeIs entry_tuple_getitem ?_ (args_tuple_getitem _ _)))
 show wpAny _ _ (Builtin.Tuple.tupleItemsOf (.ref t) >>= _) _ _ s
 refine wpAny_bind (tupleItemsOf_ ht ?_)
 refine wpAny_bind (wpAny_typeOf hTs ?_)
 rw [if_pos (by decide)]
 refine wpAny_bind (zCv hs pl pu ?_)
 have hyes:(((sIx items.size 0 lo:Nat):Int) == 0 && (1:Int) == 1 && (sIx items.size items.size hi - sIx items.size 0 lo) == items.size)=true:=by
  rw [hw.1,hw.2]
  simp
 show wpAny _ _ (if (((sIx items.size 0 lo:Nat):Int) == 0 && (1:Int) == 1 && (sIx items.size items.size hi - sIx items.size 0 lo) == items.size)=true then _ else _) _ _ s
 rw [if_pos hyes]
 unfold Builtin.Tuple.tupleIsExact
 refine wpAny_bind (wpAny_bind (wpAny_typeOf ht.typeIs (wpAny_pure ?_)))
 rw [if_pos (by decide)]
 refine wpAny_bind (wpAny_rule ?_)
 exact wpAny_pure ⟨_,rfl,wpAny_pure h⟩
end
end HT
namespace L2
open PySem PySem.Spec PyProof.Rows
section
variable {X:Cx}
inductive U1 (x y:V) (H:Hp) (Q:VK):Prop
 | mk (a b:Addr) (xs ys:List V) (_:x=.ref a) (_:y=.ref b) (_:H a=some (.tup xs)) (_:H b=some (.tup ys)) (_:xs.length + ys.length<=sizeLine) (_:∀ p H',zN H H'->H' p=some (.tup (xs++ys))->Q (.ref p) H'):U1 x y H Q
theorem Zf:y8 X (binaryOp .Add) U1:=by
 intro pins s σ H x y v u Q I rx ry h
 obtain ⟨a,b,xs,ys,rfl,rfl,ha,hb,hz,q⟩:=h
 by_cases hne:xs=[]
 ·subst hne
  cases rx
  cases ry
  obtain ⟨its,r1,p1,_⟩:=I.tuple (ym.of ha)
  obtain ⟨its2,r2,p2,_⟩:=I.tuple (ym.of hb)
  exact HT.cat_tup0 p1 p2 (r1.nil_iff.mpr rfl) ⟨.ref b,H,I,rfl,q b H (zN.refl _) hb⟩
 ·exact zO7 pins s σ H _ _ v u Q I rx ry ⟨a,b,xs,ys,rfl,rfl,ha,hb,hne,hz,q⟩
inductive Zg (x:V) (lo hi:Option Int) (H:Hp) (Q:VK):Prop
 | mk (a:Addr) (xs:List V) (_:x=.ref a) (_:H a=some (.tup xs)) (_:∀ p H',zN H H'->H' p=some (.tup (wv xs lo hi))->Q (.ref p) H'):Zg x lo hi H Q
theorem zNO:qm X Zg:=by
 intro pins s σ H x v vl vu lo hi sl Q I rx hs pl pu h
 obtain ⟨a,xs,rfl,hx,q⟩:=h
 by_cases hw:HT.sIx xs.length 0 lo=0/\HT.sIx xs.length xs.length hi=xs.length
 ·cases rx
  obtain ⟨its,r,ht,hz⟩:=I.tuple (ym.of hx)
  have hlen:its.toArray.size=xs.length:=by rw [cM]; exact r.length.symm
  refine ⟨"tuple",_,PyProof.Rows.slot_tuple_getitem.lookup,ht.typeIs,?_⟩
  refine HT.getItem_tuple_all ht hs pl pu (by rw [hlen]; exact hw) ⟨.ref a,H,I,rfl,q a H (zN.refl _) (hx.trans ?_)⟩
  unfold wv
  rw [hw.1,hw.2,fo,hZ,mG]
 ·exact zQU pins s σ H _ v vl vu lo hi sl Q I rx hs pl pu ⟨a,xs,rfl,ym.of hx,hw,λp hp=>q p _ (Sh.gw hp _) xh⟩
end
end L2
set_option linter.all false
namespace Sh
def bt:List (Int × Int)->Int
 | []=>1
 | p :: ps=>p.2 * bt ps
def tp:List Int->List (Int × Int)->Int
 | w :: ws,p :: ps=>w * p.1 * bt ps + p.2 * tp ws ps
 | _,_=>0
def U2 (r:Int) (c d:List Int):List Int:=dQ (λx y=>r * x + y) c d
def comb (n:Nat):List Int->List (List Int)->List Int
 | r :: rs,c :: cs=>U2 r c (comb n rs cs)
 | _,_=>cG n 0
def yG:List Int->List Int->Int
 | r :: rs,a :: as=>r * a + yG rs as
 | _,_=>0
def zx (nums:List Int) (ls:List (List Int)) (j:Nat):Int:=((nums.zip ls).map λq=>q.1 * q.2.getD j 0).sum
theorem zKo (r:Int) (rs:List Int) (c:List Int) (cs:List (List Int)) (j:Nat):zx (r :: rs) (c :: cs) j=r * c.getD j 0 + zx rs cs j:=by
 simp only [zx,lV,di,iU]
end Sh
set_option linter.all false
namespace Sh
def xZ (pl:Int) (n:Nat) (nu:Int):List Int:=(cR n).map λ(i:Nat)=>if (i:Int)=pl then nu else 0
theorem ug (pl:Int) (n:Nat) (nu:Int):(xZ pl n nu).length=n:=by
 unfold xZ
 rw [a_,cT]
def hB (pts:List (Int × Int)) (ws:List Int) (b:Int):Bool:=decide (tp ws pts<=b * bt pts)
def hR (pts:List (Int × Int)) (r:List Int):Bool:=hB pts (r.take pts.length) (r.getD pts.length 0)
end Sh
set_option linter.all false
namespace Sh
theorem zHK:∀ (ns:List Int) (ls:List (List Int)) (j:Nat),zx ns ls j=yG ns (ls.map λr=>r.getD j 0)
 | [],_,_=>by simp [zx,yG]
 | _ :: _,[],_=>by simp [zx,yG]
 | n :: ns,l :: ls,j=>by rw [zKo,di,zHK ns ls j]; rfl
end Sh
set_option linter.all false
namespace Sh
def wg (f:Nat->Int):Nat->Nat->Option Nat
 | _,0=>none
 | p,m + 1=>if f p≠0 then some p else wg f (p + 1) m
def ye (rows:List (List Int)) (p f:Nat):List (List Int):=(rows.set p (rows.getD f [])).set f (rows.getD p [])
def v9 (row piv:List Int) (p:Nat) (last:Int):List Int:=(row.zip piv).map λq=>(piv.getD p 0 * q.1 - row.getD p 0 * q.2).fdiv last
def uh (l2:List (List Int)) (p:Nat) (last:Int):List (List Int):=(cR l2.length).map λi=>if i=p then l2.getD i [] else v9 (l2.getD i []) (l2.getD p []) p last
def wx (st:List (List Int) × Int) (p:Nat):Option (List (List Int) × Int):=
 (wg (λk=>(st.1.getD k []).getD p 0) p (st.1.length - p)).map λf=>(uh (ye st.1 p f) p st.2,((ye st.1 p f).getD p []).getD p 0)
def yy (rows:List (List Int)):Nat->Option (List (List Int) × Int)
 | 0=>some (rows,1)
 | i + 1=>(yy rows i).bind λst=>wx st i
theorem U3 {x a q:Int} (ha:a≠0) (h:x=a * q):x.fdiv a=q:=by rw [h]; exact iP q ha
theorem zRo (x:Int):x.fdiv 1=x:=by rw [Int.fdiv_one]
def r4 (a b c d:Int):List Int:=[a,b,c,d]
def wy (a0 a1 a2 b0 b1 b2 c0 c1 c2:Int):Int:=a0 * (b1 * c2 - b2 * c1) + a1 * (b2 * c0 - b0 * c2) + a2 * (b0 * c1 - b1 * c0)
def U4 (R:Option (List (List Int) × Int)) (a0 a1 a2 b0 b1 b2:Int):Prop:=
 (R=none/\a0 * b1 - a1 * b0=0)\/∃ D E0 E1:Int,R=some ([[D,0,E0],[0,D,E1]],D)/\D≠0/\a0 * b1 - a1 * b0≠0/\a0 * E0 + a1 * E1=a2 * D/\b0 * E0 + b1 * E1=b2 * D
theorem zOG (a0 a1 a2 b0 b1 b2:Int) (ha:a0≠0):U4 (wx (uh [[a0,a1,a2],[b0,b1,b2]] 0 1,a0) 1) a0 a1 a2 b0 b1 b2:=by
 have e1:uh [[a0,a1,a2],[b0,b1,b2]] 0 1=[[a0,a1,a2],[0,a0 * b1 - b0 * a1,a0 * b2 - b0 * a2]]:=by
  show [[a0,a1,a2],[(a0 * b0 - b0 * a0).fdiv 1,(a0 * b1 - b0 * a1).fdiv 1,(a0 * b2 - b0 * a2).fdiv 1]]=_
  simp only [zRo]
  rw [show a0 * b0 - b0 * a0=0 by grind]
 rw [e1]
 unfold wx
 have hf:wg (λk=>(([[a0,a1,a2],[0,a0 * b1 - b0 * a1,a0 * b2 - b0 * a2]]:List (List Int)).getD k []).getD 1 0) 1 1=if a0 * b1 - b0 * a1≠0 then some 1 else none:=rfl
 show U4 (fM _ (wg _ 1 1)) _ _ _ _ _ _
 rw [hf]
 by_cases hd:a0 * b1 - b0 * a1≠0
 ·rw [if_pos hd]
  refine .inr ⟨a0 * b1 - b0 * a1,b1 * a2 - a1 * b2,a0 * b2 - b0 * a2,?_,hd,by grind,by grind,by grind⟩
  show some ([[((a0 * b1 - b0 * a1) * a0 - a1 * 0).fdiv a0,((a0 * b1 - b0 * a1) * a1 - a1 * (a0 * b1 - b0 * a1)).fdiv a0,((a0 * b1 - b0 * a1) * a2 - a1 * (a0 * b2 - b0 * a2)).fdiv a0],[0,a0 * b1 - b0 * a1,a0 * b2 - b0 * a2]],a0 * b1 - b0 * a1)=_
  rw [U3 (q:=a0 * b1 - b0 * a1) ha (by grind),U3 (q:=0) ha (by grind),U3 (q:=b1 * a2 - a1 * b2) ha (by grind)]
 ·rw [if_neg hd]
  exact .inl ⟨rfl,by grind⟩
theorem Zh (a0 a1 a2 b0 b1 b2:Int):U4 (yy [[a0,a1,a2],[b0,b1,b2]] 2) a0 a1 a2 b0 b1 b2:=by
 have hf:wg (λk=>(([[a0,a1,a2],[b0,b1,b2]]:List (List Int)).getD k []).getD 0 0) 0 2=if a0≠0 then some 0 else if b0≠0 then some 1 else none:=rfl
 have hr:yy [[a0,a1,a2],[b0,b1,b2]] 2=(wx ([[a0,a1,a2],[b0,b1,b2]],1) 0).bind λst=>wx st 1:=rfl
 rw [hr]
 by_cases ha:a0≠0
 ·have hs:wx ([[a0,a1,a2],[b0,b1,b2]],1) 0=some (uh [[a0,a1,a2],[b0,b1,b2]] 0 1,a0):=by
   unfold wx
   show fM _ (wg _ 0 2)=_
   rw [hf,if_pos ha]
   rfl
  rw [hs]
  exact zOG _ _ _ _ _ _ ha
 ·by_cases hb:b0≠0
  ·have hs:wx ([[a0,a1,a2],[b0,b1,b2]],1) 0=some (uh [[b0,b1,b2],[a0,a1,a2]] 0 1,b0):=by
    unfold wx
    show fM _ (wg _ 0 2)=_
    rw [hf,if_neg ha,if_pos hb]
    rfl
   rw [hs]
   rcases zOG b0 b1 b2 a0 a1 a2 hb with ⟨h1,h2⟩ | ⟨D,E0,E1,h1,h2,h3,h4,h5⟩
   ·exact .inl ⟨h1,by grind⟩
   ·exact .inr ⟨D,E0,E1,h1,h2,by grind,h5,h4⟩
  ·have hs:wx ([[a0,a1,a2],[b0,b1,b2]],1) 0=none:=by
    unfold wx
    show fM _ (wg _ 0 2)=_
    rw [hf,if_neg ha,if_neg hb]
    rfl
   rw [hs]
   exact .inl ⟨rfl,by rw [show a0=0 by omega,show b0=0 by omega]; grind⟩
theorem Zi (a0 a1:Int):(yy [[a0,a1]] 1=none/\a0=0)\/(yy [[a0,a1]] 1=some ([[a0,a1]],a0)/\a0≠0):=by
 have hr:yy [[a0,a1]] 1=wx ([[a0,a1]],1) 0:=rfl
 have hf:wg (λk=>(([[a0,a1]]:List (List Int)).getD k []).getD 0 0) 0 1=if a0≠0 then some 0 else none:=rfl
 rw [hr]
 unfold wx
 show (fM _ (wg _ 0 1)=_/\_)\/(fM _ (wg _ 0 1)=_/\_)
 rw [hf]
 by_cases ha:a0≠0
 ·rw [if_pos ha]
  exact .inr ⟨rfl,ha⟩
 ·rw [if_neg ha]
  exact .inl ⟨rfl,by omega⟩
def xu (rows:List (List Int)):Int:=
 if rows.length=1 then (rows.getD 0 []).getD 0 0
 else if rows.length=2 then (rows.getD 0 []).getD 0 0 * (rows.getD 1 []).getD 1 0 - (rows.getD 0 []).getD 1 0 * (rows.getD 1 []).getD 0 0
 else wy ((rows.getD 0 []).getD 0 0) ((rows.getD 0 []).getD 1 0) ((rows.getD 0 []).getD 2 0) ((rows.getD 1 []).getD 0 0) ((rows.getD 1 []).getD 1 0) ((rows.getD 1 []).getD 2 0) ((rows.getD 2 []).getD 0 0) ((rows.getD 2 []).getD 1 0) ((rows.getD 2 []).getD 2 0)
structure WF (rows L:List (List Int)) (D:Int) (n:Nat):Prop where
 run:yy rows n=some (L,D)
 ne:D≠0
 det:xu rows≠0
 len:L.length=n
 dia:∀ i,i < n->(L.getD i []).length=n + 1/\(L.getD i []).getD i 0=D
 eqs:∀ r∈rows,((cR n).map λj=>r.getD j 0 * (L.getD j []).getD n 0).sum=r.getD n 0 * D
theorem zMX {rows:List (List Int)} {n:Nat} (hl:rows.length=n) (hr:∀ r∈rows,r.length=n + 1) (h1:1<=n) (h3:n<=2):(yy rows n=none/\xu rows=0)\/∃ L D,WF rows L D n:=by
 rcases (by omega:n=1\/n=2) with rfl | rfl
 ·match rows,hl,hr with
  | [A],_,hr=>
   match A,hr A (by simp) with
   | [a0,a1],_=>
    rcases Zi a0 a1 with ⟨e1,e2⟩ | ⟨e1,e2⟩
    ·exact .inl ⟨e1,e2⟩
    ·refine .inr ⟨_,_,e1,e2,e2,rfl,λi hi=>?_,λr hr=>?_⟩
     ·rcases (by omega:i=0) with rfl
      exact ⟨rfl,rfl⟩
     ·rw [df.mp hr]
      show a0 * a1 + 0=a1 * a0
      grind
 ·match rows,hl,hr with
  | [A,B],_,hr=>
   match A,B,hr A (by simp),hr B (by simp) with
   | [a0,a1,a2],[b0,b1,b2],_,_=>
    rcases Zh a0 a1 a2 b0 b1 b2 with ⟨e1,e2⟩ | ⟨D,E0,E1,e1,e2,e3,e4,e5⟩
    ·exact .inl ⟨e1,e2⟩
    ·refine .inr ⟨_,_,e1,e2,e3,rfl,λi hi=>?_,λr hr=>?_⟩
     ·rcases (by omega:i=0\/i=1) with rfl | rfl
      ·exact ⟨rfl,rfl⟩
      ·exact ⟨rfl,rfl⟩
     ·rcases da.mp hr with e | hr
      ·rw [e]
       show a0 * E0 + (a1 * E1 + 0)=a2 * D
       omega
      ·rw [df.mp hr]
       show b0 * E0 + (b1 * E1 + 0)=b2 * D
       omega
end Sh
set_option linter.all false
namespace Sh
theorem zOt {a b:Int} (h:0 < a * b):(0 < a/\0 < b)\/(a < 0/\b < 0):=by
 rcases gV a 0 with x | x | x
 ·rcases gV b 0 with y | y | y
  ·exact .inr ⟨x,y⟩
  ·rw [y,mr] at h; omega
  ·have:=iH x y; omega
 ·rw [x,Int.zero_mul] at h; omega
 ·rcases gV b 0 with y | y | y
  ·have:=Int.mul_neg_of_pos_of_neg x y; omega
  ·rw [y,mr] at h; omega
  ·exact .inl ⟨x,y⟩
structure BR where
 p:Nat
 c:Int
 v:Int
def BR.ws (n:Nat) (r:BR):List Int:=xZ (r.p:Int) n r.c
def BR.row (n:Nat) (r:BR):List Int:=r.ws n++[r.c * r.v]
def qz (rs:List BR) (cs:List Nat) (q:Nat):BR:=rs.getD (cs.getD q 0) ⟨0,1,0⟩
theorem kA {α:Type} {l:List α} {i j:Nat} {x d:α} (h:i < l.length):(l.set i x).getD j d=if j=i then x else l.getD j d:=by
 rw [cz,cz]
 by_cases e:j=i
 ·rw [if_pos e,e,eO h]
  rfl
 ·rw [if_neg e,dF (Ne.symm e)]
def tight (rs:List BR) (cs:List Nat) (r:BR):Bool:=decide (0 < r.c * (qz rs cs r.p).c) && decide (r.c * r.v < r.c * (qz rs cs r.p).v)
def jX (us:List Int) (rs:List BR) (count:Nat) (cs:List Nat) (q:Nat):Bool:=decide (us.getD q 0 * (qz rs cs q).c < 0) || (decide (count<=cs.getD q 0) && decide (us.getD q 0≠0))
end Sh
namespace Bl
def lsum (l:List Nat) (f:Nat->Rat):Rat:=l.foldr (λi s=>f i + s) 0
theorem lsum_cons (i:Nat) (l:List Nat) (f:Nat->Rat):lsum (i :: l) f=f i + lsum l f:=rfl
theorem U5 (f g:Nat->Rat):∀ l:List Nat,lsum l f - lsum l g=lsum l λi=>f i - g i
 | []=>by show (0:Rat) - 0=0; grind
 | i :: l=>by
  have:=U5 f g l
  rw [lsum_cons,lsum_cons,lsum_cons]
  grind
theorem zF3 {f g:Nat->Rat}:∀ {l:List Nat},(∀ i∈l,f i=g i)->lsum l f=lsum l g
 | [],_=>rfl
 | i :: l,h=>by rw [lsum_cons,lsum_cons,h i cD,zF3 λj hj=>h j (cB _ hj)]
theorem zFR {f:Nat->Rat}:∀ {l:List Nat},(∀ i∈l,0<=f i)->0<=lsum l f
 | [],_=>iq
 | i :: l,h=>by
  have h1:=h i cD
  have h2:=zFR λj hj=>h j (cB _ hj)
  rw [lsum_cons]
  grind
theorem WG {f:Nat->Rat}:∀ {l:List Nat},(∀ i∈l,0<=f i)->(∃ i∈l,0 < f i)->0 < lsum l f
 | [],_,⟨_,h,_⟩=>by cases h
 | i :: l,h,⟨j,hj,pj⟩=>by
  have h1:=h i cD
  have h2:=zFR λj hj=>h j (cB _ hj)
  rw [lsum_cons]
  rcases da.mp hj with rfl | hj
  ·grind
  ·have:=WG (λj hj=>h j (cB _ hj)) ⟨j,hj,pj⟩
   grind
theorem zi {r:Nat->Nat}:∀ {m:Nat},0 < m->∃ u,u < m/\∀ t,t < m->r t<=r u
 | 0,h=>absurd h (dy 0)
 | 1,_=>⟨0,by decide,λt ht=>by rw [show t=0 by omega]; exact cF _⟩
 | m + 2,_=>by
  obtain ⟨u,hu,h⟩:=zi (r:=r) (m:=m + 1) (mt m)
  by_cases c:r u<=r (m + 1)
  ·exact ⟨m + 1,by omega,λt ht=>by
    by_cases e:t=m + 1
    ·rw [e]; exact cF _
    ·exact dM (h t (by omega)) c⟩
  ·exact ⟨u,by omega,λt ht=>by
    by_cases e:t=m + 1
    ·rw [e]; omega
    ·exact h t (by omega)⟩
section
variable {B:Nat->List Nat} {r p:Nat->Nat} {m:Nat}
def Nx (B B':List Nat) (p r:Nat):Prop:=p∈B/\r∉B/\∀ i,i∈B' ↔ (i∈B/\i≠p)\/i=r
theorem zQO (h:∀ t,t < m->Nx (B t) (B (t + 1)) (p t) (r t)) {i:Nat} (no:∀ t,t < m->p t≠i):∀ {s t:Nat},s<=t->t<=m->i∈B s->i∈B t:=by
 intro s t hst ht hi
 induction t with
 | zero=>rw [show s=0 by omega] at hi; exact hi
 | succ t ih=>
  by_cases e:s=t + 1
  ·rw [<- e]; exact hi
  ·exact ((h t (by omega)).2.2 i).mpr (.inl ⟨ih (by omega) (by omega),λz=>no t (by omega) z.symm⟩)
theorem zR0 (h:∀ t,t < m->Nx (B t) (B (t + 1)) (p t) (r t)) {i:Nat} (no:∀ t,t < m->r t≠i):∀ {s t:Nat},s<=t->t<=m->i∈B t->i∈B s:=by
 intro s t hst ht hi
 induction t with
 | zero=>rw [show s=0 by omega]; exact hi
 | succ t ih=>
  by_cases e:s=t + 1
  ·rw [e]; exact hi
  ·rcases ((h t (by omega)).2.2 i).mp hi with z | z
   ·exact ih (by omega) (by omega) z.1
   ·exact absurd z.symm (no t (by omega))
theorem zF8 (h:∀ t,t < m->Nx (B t) (B (t + 1)) (p t) (r t)) (c:∀ i,i∈B m ↔ i∈B 0) {u:Nat} (hu:u < m):∃ v,v < m/\p v=r u:=by
 apply cZ
 intro no
 have no':∀ t,t < m->p t≠r u:=λt ht z=>no ⟨t,ht,z⟩
 have i1:r u∈B (u + 1):=((h u hu).2.2 _).mpr (.inr rfl)
 have i2:=zQO h no' (show u + 1<=m by omega) (cF m) i1
 exact (h u hu).2.1 (zQO h no' (ik u) (by omega) ((c _).mp i2))
theorem WH (h:∀ t,t < m->Nx (B t) (B (t + 1)) (p t) (r t)) (c:∀ i,i∈B m ↔ i∈B 0) {u v i:Nat} (hu:u < m) (hv:v < m) (iv:i∈B v) (iu:i∉B u):∃ t,t < m/\r t=i:=by
 apply cZ
 intro no
 have no':∀ t,t < m->r t≠i:=λt ht z=>no ⟨t,ht,z⟩
 have i0:=zR0 h no' (ik v) (by omega) iv
 exact iu (zR0 h no' (show u<=m by omega) (cF m) ((c i).mpr i0))
theorem zJ3 (h:∀ t,t < m->Nx (B t) (B (t + 1)) (p t) (r t)) (c:∀ i,i∈B m ↔ i∈B 0) {v:Nat} (hv:v < m):∃ t,t < m/\r t=p v:=by
 have iv:=(h v hv).1
 have nv:p v∉B (v + 1):=λz=>by
  rcases ((h v hv).2.2 _).mp z with z | z
  ·exact z.2 rfl
  ·exact (h v hv).2.1 (z ▸ iv)
 by_cases e:v + 1 < m
 ·exact WH h c e hv iv nv
 ·have e1:v + 1=m:=by omega
  rw [e1] at nv
  exact WH h c (show 0 < m by omega) hv iv λz=>nv ((c _).mpr z)
end
structure FStep {P:Type} (val:Nat->P->Rat) (b:Nat->Rat) (count:Nat) (B B':List Nat) (x:P) (p r:Nat) (w:Nat->Rat):Prop where
 nx:∀ i,i∈B' ↔ (i∈B/\i≠p)\/i=r
 tight:∀ i∈B,val i x=b i
 brk:b r < val r x
 lt:r < count
 least:∀ i,i < r->val i x<=b i
 comb:∀ z:P,val r z=lsum B λi=>w i * val i z
 pin:p∈B
 pos:0 < w p
 pl:∀ i∈B,i < p->w i<=0
theorem FStep.out {P:Type} {val:Nat->P->Rat} {b:Nat->Rat} {count:Nat} {B B':List Nat} {x:P} {p r:Nat} {w:Nat->Rat} (h:FStep val b count B B' x p r w):Nx B B' p r:=⟨h.pin,λz=>by have:=h.tight r z; have:=h.brk; grind,h.nx⟩
theorem zLi {P:Type} {val:Nat->P->Rat} {b:Nat->Rat} {count m:Nat} {B:Nat->List Nat} {x:Nat->P} {p r:Nat->Nat} {w:Nat->Nat->Rat} (m0:0 < m) (h:∀ t,t < m->FStep val b count (B t) (B (t + 1)) (x t) (p t) (r t) (w t)):¬ ∀ i,i∈B m ↔ i∈B 0:=λc=>by
 have N:∀ t,t < m->Nx (B t) (B (t + 1)) (p t) (r t):=λt ht=>(h t ht).out
 obtain ⟨u,hu,hT⟩:=zi (r:=r) m0
 obtain ⟨v,hv,ev⟩:=zF8 N c hu
 have su:=h u hu
 have sv:=h v hv
 have nr:r v < r u:=by
  have l:=hT v hv
  have ne:r v≠r u:=λz=>(N v hv).2.1 (by rw [z,<- ev]; exact sv.pin)
  omega
 have e1:=sv.comb (x u)
 have e2:=sv.comb (x v)
 have d:=U5 (λi=>w v i * val i (x u)) (λi=>w v i * val i (x v)) (B v)
 rw [<- e1,<- e2] at d
 have k1:=su.least (r v) nr
 have k2:=sv.brk
 have pos:0 < lsum (B v) λi=>w v i * val i (x u) - w v i * val i (x v):=by
  refine WG (λi hi=>?_) ⟨p v,sv.pin,?_⟩
  ·rw [sv.tight i hi]
   by_cases iu:i∈B u
   ·rw [su.tight i iu]
    grind
   ·by_cases ep:i=p v
    ·have k3:=su.brk
     rw [ep,ev]
     have k4:=sv.pos
     rw [ev] at k4
     have:=ic (dN k3) (dN k4)
     grind
    ·obtain ⟨t,ht,et⟩:=WH N c hu hv hi iu
     have lt:i < r u:=by
      have:=hT t ht
      have ne:i≠r u:=λz=>ep (z.trans ev.symm)
      omega
     have k5:=sv.pl i hi (by rw [ev]; exact lt)
     have k6:=su.least i lt
     have:=ic k6 (show 0<=-(w v i) by grind)
     grind
  ·rw [sv.tight _ sv.pin,ev]
   have k3:=su.brk
   have k4:=sv.pos
   rw [ev] at k4
   have:=Rat.mul_lt_mul_of_pos_left k3 k4
   grind
 grind
structure CStep {P:Type} (val:Nat->P->Rat) (b:Nat->Rat) (obj:P->Rat) (count:Nat) (B B':List Nat) (x x' d:P) (p r:Nat) (y:Nat->Rat) (s:Rat):Prop where
 nx:∀ i,i∈B' ↔ (i∈B/\i≠p)\/i=r
 tight:∀ i∈B,val i x=b i
 feas:∀ i,i < count->val i x<=b i
 comb:∀ z:P,obj z=lsum B λi=>y i * val i z
 pin:p∈B
 fit:y p < 0\/(count<=p/\y p≠0)
 pl:∀ i∈B,i < p->¬ (y i < 0\/(count<=i/\y i≠0))
 dir:∀ i∈B,i≠p->val i d=0
 dp:val p d=if 0 < y p then 1 else -1
 lt:r < count
 up:0 < val r d
 first:∀ k,k < r->0 < val k d->(b r - val r x) * val k d < (b k - val k x) * val r d
 far:s * val r d=b r - val r x
 mv:∀ i,val i x'=val i x + s * val i d
 mo:obj x'=obj x + s * obj d
section
variable {P:Type} {val:Nat->P->Rat} {b:Nat->Rat} {obj:P->Rat} {count:Nat} {B B':List Nat} {x x' d:P} {p r:Nat} {y:Nat->Rat} {s:Rat}
theorem CStep.out (h:CStep val b obj count B B' x x' d p r y s):Nx B B' p r:=⟨h.pin,λz=>by
 by_cases e:r=p
 ·
  have k:=h.up
  have f:=h.fit
  have l:=h.lt
  rw [e] at k l
  rw [h.dp] at k
  have yp:¬ 0 < y p:=by
   rcases f with f | f
   ·grind
   ·omega
  rw [if_neg yp] at k
  grind
 ·have:=h.dir r z e
  have:=h.up
  grind,h.nx⟩
theorem CStep.nonneg (h:CStep val b obj count B B' x x' d p r y s):0<=s:=by
 have k:=h.far
 have f:=h.feas r h.lt
 have u:=h.up
 apply cZ
 intro c
 have c':s < 0:=by grind
 have:=dn c' u
 grind
theorem CStep.gain (h:CStep val b obj count B B' x x' d p r y s):0 < obj d:=by
 rw [h.comb]
 have pp:0 < y p * val p d:=by
  rw [h.dp]
  by_cases c:0 < y p
  ·rw [if_pos c]
   grind
  ·rw [if_neg c]
   rcases h.fit with f | f
   ·grind
   ·have:=f.2
    grind
 refine WG (λi hi=>?_) ⟨p,h.pin,pp⟩
 by_cases e:i=p
 ·rw [e]
  exact dN pp
 ·rw [h.dir i hi e]
  grind
theorem CStep.next (h:CStep val b obj count B B' x x' d p r y s):∀ i∈B',val i x'=b i:=λi hi=>by
 rw [h.mv i]
 rcases (h.nx i).mp hi with z | z
 ·rw [h.dir i z.1 z.2,h.tight i z.1]
  grind
 ·rw [z,h.far]
  grind
end
theorem zNI {f:Nat->Rat} {l:List Nat} (h:∀ i∈l,f i<=0) (k:∃ i∈l,f i < 0):lsum l f < 0:=by
 have z:=WG (f:=λi=>0 - f i) (l:=l) (λi hi=>by have:=h i hi; grind) (by
  obtain ⟨i,hi,q⟩:=k
  exact ⟨i,hi,by grind⟩)
 have e:=U5 (λ_=>0) f l
 have z0:lsum l (λ_=>0)=0:=by
  clear z e h k
  induction l with
  | nil=>rfl
  | cons a l ih=>rw [lsum_cons,ih]; grind
 rw [<- e,z0] at z
 grind
theorem zKA {P:Type} {val:Nat->P->Rat} {b:Nat->Rat} {obj:P->Rat} {count m:Nat} {B:Nat->List Nat} {x d:Nat->P} {p r:Nat->Nat} {y:Nat->Nat->Rat} {s:Nat->Rat} (m0:0 < m) (h:∀ t,t < m->CStep val b obj count (B t) (B (t + 1)) (x t) (x (t + 1)) (d t) (p t) (r t) (y t) (s t)):¬ ∀ i,i∈B m ↔ i∈B 0:=λc=>by
 have N:∀ t,t < m->Nx (B t) (B (t + 1)) (p t) (r t):=λt ht=>(h t ht).out
 have same:obj (x m)=obj (x 0):=by
  obtain ⟨k,ek⟩:∃ k,m=k + 1:=⟨m - 1,by omega⟩
  have e0:=(h 0 m0).comb
  rw [e0 (x m),e0 (x 0)]
  refine zF3 λi hi=>?_
  have i1:=(c i).mpr hi
  have t1:val i (x m)=b i:=by
   rw [ek] at i1 |-
   exact (h k (by omega)).next i i1
  rw [t1,(h 0 m0).tight i hi]
 have mono:∀ t,t < m->obj (x t)<=obj (x (t + 1)):=λt ht=>by
  have st:=h t ht
  have g:=dH st.nonneg (dN st.gain)
  rw [st.mo]
  grind
 have up:∀ j t,t + j<=m->obj (x t)<=obj (x (t + j)):=λj=>by
  induction j with
  | zero=>exact λt _=>iq
  | succ j ih=>
   intro t ht
   have h1:=ih t (by omega)
   have h2:=mono (t + j) (by omega)
   have e:t + (j + 1)=t + j + 1:=by omega
   rw [e]
   exact Rat.le_trans h1 h2
 have s0:∀ t,t < m->s t=0:=λt ht=>by
  have st:=h t ht
  have a1:=up t 0 (by omega)
  have a2:=up (m - (t + 1)) (t + 1) (by omega)
  rw [fC] at a1
  rw [show t + 1 + (m - (t + 1))=m by omega,same,st.mo] at a2
  have g:=st.gain
  have n:=st.nonneg
  apply cZ
  intro ne
  have ps:0 < s t:=by grind
  have:=ir ps g
  grind
 have pt:∀ t,t<=m->∀ i,val i (x t)=val i (x 0):=λt=>by
  induction t with
  | zero=>exact λ_ _=>rfl
  | succ t ih=>
   intro ht i
   rw [(h t (by omega)).mv i,s0 t (by omega),ih (by omega) i]
   grind
 obtain ⟨u,hu,hT⟩:=zi (r:=r) m0
 obtain ⟨v,hv,ev⟩:=zF8 N c hu
 have su:=h u hu
 have sv:=h v hv
 have Tc:=su.lt
 have yT:y v (p v) < 0:=by
  rcases sv.fit with f | f
  ·exact f
  ·rw [ev] at f
   omega
 have yl:∀ i∈B v,i < r u->0<=y v i:=λi hi lt=>by
  have:=sv.pl i hi (by rw [ev]; exact lt)
  grind
 have g:=su.gain
 rw [sv.comb] at g
 have neg:lsum (B v) (λi=>y v i * val i (d u)) < 0:=by
  refine zNI (λi hi=>?_) ⟨p v,sv.pin,?_⟩
  ·by_cases eT:i=r u
   ·have:=su.up
    have k:=yT
    rw [ev] at k
    rw [eT]
    have:=dn k this
    grind
   by_cases iu:i∈B u
   ·by_cases ep:i=p u
    ·obtain ⟨t,ht,et⟩:=zJ3 N c hu
     have lt:i < r u:=by have:=hT t ht; omega
     have yi:=yl i hi lt
     have dpu:=su.dp
     have yn:¬ 0 < y u (p u):=by
      rcases su.fit with f | f
      ·grind
      ·omega
     rw [if_neg yn] at dpu
     rw [ep] at yi |-
     rw [dpu]
     grind
    ·rw [su.dir i iu ep]
     grind
   ·obtain ⟨t,ht,et⟩:=WH N c hu hv hi iu
    have lt:i < r u:=by have:=hT t ht; omega
    have yi:=yl i hi lt
    have ti:val i (x u)=b i:=by rw [pt u (by omega) i,<- pt v (by omega) i]; exact sv.tight i hi
    have vi:val i (d u)<=0:=by
     apply cZ
     intro k
     have k':0 < val i (d u):=by grind
     have f:=su.first i lt k'
     have fe:=su.feas (r u) Tc
     have:=dH (show 0<=b (r u) - val (r u) (x u) by grind) (dN k')
     rw [ti] at f
     grind
    have:=dH yi (show 0<=-(val i (d u)) by grind)
    grind
  ·have:=su.up
   have k:=yT
   rw [ev] at k |-
   have:=dn k this
   grind
 grind
theorem U6:∀ (M:Nat) (l:List Nat),l.Nodup->(∀ x∈l,x < M)->l.length<=M
 | 0,l,_,h=>by
  cases l with
  | nil=>exact cF 0
  | cons a l=>exact absurd (h a cD) (e8 a)
 | M + 1,l,nd,h=>by
  by_cases c:M∈l
  ·have e:=List.length_erase_of_mem c
   have p:0 < l.length:=List.length_pos_of_mem c
   have k:=U6 M (l.erase M) (nd.erase M) λx hx=>by
    have h1:=h x (List.mem_of_mem_erase hx)
    have ne:x≠M:=λz=>(nd.not_mem_erase (a:=M)) (z ▸ hx)
    omega
   omega
  ·have k:=U6 M l nd λx hx=>by
    have h1:=h x hx
    have ne:x≠M:=λz=>c (z ▸ hx)
    omega
   omega
def code (N:Nat):List Nat->Nat
 | []=>0
 | a :: l=>a + N * code N l
theorem zLz {N:Nat}:∀ {l:List Nat},(∀ i∈l,i < N)->code N l < N ^ l.length
 | [],_=>by show 0 < N ^ 0; rw [Nat.pow_zero]; decide
 | a :: l,h=>by
  have h1:=h a cD
  have h2:=zLz λi hi=>h i (cB _ hi)
  show a + N * code N l < N ^ (l.length + 1)
  rw [mq,Nat.mul_comm (N ^ l.length) N]
  have h3:=lJ N (show code N l + 1<=N ^ l.length from h2)
  rw [Nat.mul_add] at h3
  omega
theorem zJQ {N:Nat}:∀ {l k:List Nat},l.length=k.length->(∀ i∈l,i < N)->(∀ i∈k,i < N)->code N l=code N k->l=k
 | [],[],_,_,_,_=>rfl
 | [],_ :: _,h,_,_,_=>nomatch h
 | _ :: _,[],h,_,_,_=>nomatch h
 | a :: l,c :: k,h,hl,hk,e=>by
  have a1:=hl a cD
  have c1:=hk c cD
  have e':a + N * code N l=c + N * code N k:=e
  have m1:(a + N * code N l) % N=a:=by rw [iI]; exact mH a1
  have m2:(c + N * code N k) % N=c:=by rw [iI]; exact mH c1
  have ac:a=c:=by rw [<- m1,<- m2,e']
  have np:0 < N:=by omega
  have q:code N l=code N k:=Nat.eq_of_mul_eq_mul_left np (by omega)
  rw [ac,zJQ (Nat.succ.inj h) (λi hi=>hl i (cB _ hi)) (λi hi=>hk i (cB _ hi)) q]
theorem zIW {N n:Nat} {S:List (List Nat)} (nd:S.Nodup) (h:∀ c∈S,c.length=n/\∀ i∈c,i < N):S.length<=N ^ n:=by
 have k:=U6 (N ^ n) (S.map (code N)) (by
  refine mf.mpr (List.Pairwise.imp_of_mem ?_ nd)
  intro x y hx hy ne e
  exact ne (zJQ ((h x hx).1.trans (h y hy).1.symm) (h x hx).2 (h y hy).2 e)) λz hz=>by
  obtain ⟨c,hc,rfl⟩:=cH.mp hz
  have:=zLz (h c hc).2
  rw [(h c hc).1] at this
  exact this
 rw [a_] at k
 exact k
def d3 (a0 a1 a2 b0 b1 b2 c0 c1 c2:Rat):Rat:=a0 * (b1 * c2 - b2 * c1) + a1 * (b2 * c0 - b0 * c2) + a2 * (b0 * c1 - b1 * c0)
def d2 (a0 a1 b0 b1:Rat):Rat:=a0 * b1 - a1 * b0
theorem zHf {N n m:Nat} {B:Nat->List Nat} (ne:∀ s t,s < t->t<=m->B s≠B t) (h:∀ t,t<=m->(B t).length=n/\∀ i∈B t,i < N):m < N ^ n:=by
 have k:=zIW (N:=N) (n:=n) (S:=(cR (m + 1)).map B) (by
  refine mf.mpr (List.Pairwise.imp_of_mem ?_ List.pairwise_lt_range)
  intro s t _ ht lt
  exact ne s t lt (by have:=dz.mp ht; omega)) λc hc=>by
  obtain ⟨t,ht,rfl⟩:=cH.mp hc
  exact h t (by have:=dz.mp ht; omega)
 rw [a_,cT] at k
 omega
theorem feas_few {P:Type} {val:Nat->P->Rat} {b:Nat->Rat} {count m N n:Nat} {B:Nat->List Nat} {x:Nat->P} {p r:Nat->Nat} {w:Nat->Nat->Rat} (h:∀ t,t < m->FStep val b count (B t) (B (t + 1)) (x t) (p t) (r t) (w t)) (k:∀ t,t<=m->(B t).length=n/\∀ i∈B t,i < N):m < N ^ n:=
 zHf (λs t st tm e=>zLi (m:=t - s) (B:=λj=>B (s + j)) (x:=λj=>x (s + j)) (p:=λj=>p (s + j)) (r:=λj=>r (s + j)) (w:=λj=>w (s + j)) (by omega) (λj hj=>h (s + j) (by omega)) λi=>by
  show i∈B (s + (t - s)) ↔ i∈B (s + 0)
  rw [show s + (t - s)=t by omega,mw,e]) k
theorem climb_few {P:Type} {val:Nat->P->Rat} {b:Nat->Rat} {obj:P->Rat} {count m N n:Nat} {B:Nat->List Nat} {x d:Nat->P} {p r:Nat->Nat} {y:Nat->Nat->Rat} {s:Nat->Rat} (h:∀ t,t < m->CStep val b obj count (B t) (B (t + 1)) (x t) (x (t + 1)) (d t) (p t) (r t) (y t) (s t)) (k:∀ t,t<=m->(B t).length=n/\∀ i∈B t,i < N):m < N ^ n:=
 zHf (λs0 t st tm e=>zKA (m:=t - s0) (B:=λj=>B (s0 + j)) (x:=λj=>x (s0 + j)) (d:=λj=>d (s0 + j)) (p:=λj=>p (s0 + j)) (r:=λj=>r (s0 + j)) (y:=λj=>y (s0 + j)) (s:=λj=>s (s0 + j)) (by omega) (λj hj=>h (s0 + j) (by omega)) λi=>by
  show i∈B (s0 + (t - s0)) ↔ i∈B (s0 + 0)
  rw [show s0 + (t - s0)=t by omega,mw,e]) k
end Bl
set_option linter.all false
namespace Sh
def zW:Nat->(Nat->Rat)->Rat
 | 0,_=>0
 | n + 1,f=>zW n f + f n
theorem wX {f g:Nat->Rat}:∀ {n:Nat},(∀ j,j < n->f j=g j)->zW n f=zW n g
 | 0,_=>rfl
 | n + 1,h=>by
  show zW n f + f n=zW n g + g n
  rw [wX λj hj=>h j (g_ hj),h n (dC n)]
theorem U7 (f g:Nat->Rat):∀ n:Nat,zW n (λj=>f j + g j)=zW n f + zW n g
 | 0=>by show (0:Rat)=0 + 0; grind
 | n + 1=>by
  show zW n (λj=>f j + g j) + (f n + g n)=(zW n f + f n) + (zW n g + g n)
  rw [U7 f g n]
  grind
theorem kB (c:Rat) (f:Nat->Rat):∀ n:Nat,zW n (λj=>c * f j)=c * zW n f
 | 0=>by show (0:Rat)=c * 0; grind
 | n + 1=>by
  show zW n (λj=>c * f j) + c * f n=c * (zW n f + f n)
  rw [kB c f n]
  grind
theorem U8:∀ n:Nat,zW n (λ_=>0)=0
 | 0=>rfl
 | n + 1=>by
  show zW n (λ_=>0) + 0=0
  rw [U8 n]
  grind
theorem zG9 (f:Nat->Nat->Rat) (m:Nat):∀ n:Nat,zW n (λj=>zW m (λi=>f i j))=zW m (λi=>zW n (λj=>f i j))
 | 0=>by
  show (0:Rat)=zW m (λi=>0)
  rw [U8]
 | n + 1=>by
  show zW n (λj=>zW m (λi=>f i j)) + zW m (λi=>f i n)=zW m (λi=>zW n (λj=>f i j) + f i n)
  rw [zG9 f m n,U7]
theorem WI (f:Nat->Rat):∀ n:Nat,zW (n + 1) f=f 0 + zW n (λj=>f (j + 1))
 | 0=>by show (0:Rat) + f 0=f 0 + 0; grind
 | n + 1=>by
  show zW (n + 1) f + f (n + 1)=f 0 + (zW n (λj=>f (j + 1)) + f (n + 1))
  rw [WI f n]
  grind
def jY (ws:List Int) (q:Nat->Rat):Rat:=zW ws.length λj=>(ws.getD j 0:Rat) * q j
theorem zHj:∀ {xs ys:List Int},xs.length=ys.length->((yG xs ys:Int):Rat)=zW xs.length λi=>(xs.getD i 0:Rat) * (ys.getD i 0:Rat)
 | [],[],_=>by show ((0:Int):Rat)=0; rfl
 | [],_ :: _,h=>nomatch h
 | _ :: _,[],h=>nomatch h
 | x :: xs,y :: ys,h=>by
  show ((x * y + yG xs ys:Int):Rat)=zW (xs.length + 1) λi=>((x :: xs).getD i 0:Rat) * ((y :: ys).getD i 0:Rat)
  rw [WI,fU,cO,zHj (Nat.succ.inj h)]
  rfl
theorem ui {D:Int} (h:0 < D):(0:Rat) < (D:Rat):=by exact_mod_cast h
def zX (p:Int × Int):Rat:=(p.1:Rat) / (p.2:Rat)
def zt (pts:List (Int × Int)) (j:Nat):Rat:=zX (pts.getD j (0,1))
theorem vR {p:Int × Int} (h:0 < p.2):zX p * (p.2:Rat)=(p.1:Rat):=by
 unfold zX
 have d:=ui h
 have ne:(p.2:Rat)≠0:=λz=>by rw [z] at d; exact absurd d eV
 rw [eJ,eW,fu _ ne,e_]
theorem WJ {p:Int × Int} {x:Rat} (h:0 < p.2) (e:(p.1:Rat)=x * (p.2:Rat)):zX p=x:=by
 have d:=ui h
 have ne:(p.2:Rat)≠0:=λz=>by rw [z] at d; exact absurd d eV
 unfold zX
 rw [e,eJ,eW,fy _ ne,e_]
theorem zIg (q:Nat->Rat):∀ (ws:List Int) (pts:List (Int × Int)) (st:Int × Int) (k:Nat),ws.length=pts.length->(∀ p∈pts,0 < p.2)->(∀ j,j < pts.length->q (k + j)=zX (pts.getD j (0,1)))->0 < st.2->
  0 < ((ws.zip pts).foldl jF st).2/\((((ws.zip pts).foldl jF st).1:Int):Rat)=(zX st + zW ws.length λj=>(ws.getD j 0:Rat) * q (k + j)) * ((((ws.zip pts).foldl jF st).2:Int):Rat)
 | [],[],st,k,_,_,_,s0=>⟨s0,by
  show (st.1:Rat)=(zX st + 0) * (st.2:Rat)
  rw [Rat.add_zero,vR s0]⟩
 | [],_ :: _,_,_,h,_,_,_=>nomatch h
 | _ :: _,[],_,_,h,_,_,_=>nomatch h
 | x :: ws,p :: pts,st,k,h,hp,hq,s0=>by
  have p0:=hp p cD
  have s1:0 < (jF st (x,p)).2:=eY s0 p0
  obtain ⟨z1,z2⟩:=zIg q ws pts (jF st (x,p)) (k + 1) (Nat.succ.inj h) (λr hr=>hp r (cB _ hr)) (λj hj=>by
   have:=hq (j + 1) (mI hj)
   rw [show k + 1 + j=k + (j + 1) by omega,this]
   rfl) s1
  refine ⟨z1,z2.trans ?_⟩
  show _=(zX st + zW (ws.length + 1) λj=>((x :: ws).getD j 0:Rat) * q (k + j)) * _
  rw [WI]
  congr 1
  have e1:zX (jF st (x,p))=zX st + (x:Rat) * zX p:=WJ s1 (by
   show ((st.1 * p.2 + x * p.1 * st.2:Int):Rat)=_ * ((st.2 * p.2:Int):Rat)
   rw [fU,cO,cO,cO,cO,<- vR s0,<- vR p0]
   grind)
  have e2:q (k + 0)=zX p:=hq 0 (mt _)
  have e3:(zW ws.length λj=>(ws.getD j 0:Rat) * q (k + 1 + j))=zW ws.length λj=>((x :: ws).getD (j + 1) 0:Rat) * q (k + (j + 1)):=wX λj _=>by
   rw [show k + 1 + j=k + (j + 1) by omega]
   rfl
  rw [e1,e3,e2,Rat.add_assoc]
  rfl
theorem qF {t b:Int} (h:b≠0):0 < zM t b/\zX (zY t b,zM t b)=(t:Rat) / (b:Rat):=by
 have p:=j6 (t:=t) h
 refine ⟨p,WJ p ?_⟩
 have c:=zLT (t:=t) h
 have ne:(b:Rat)≠0:=λz=>h (by exact_mod_cast z)
 have c':((zY t b * b:Int):Rat)=((t * zM t b:Int):Rat):=by rw [c]
 rw [cO,cO] at c'
 show ((zY t b:Int):Rat)=(t:Rat) / (b:Rat) * ((zM t b:Int):Rat)
 rw [eJ]
 have e:(zY t b:Rat)=(zY t b:Rat) * (b:Rat) * (b:Rat)⁻¹:=by rw [eW,fy _ ne,e_]
 rw [e,c']
 grind
end Sh
set_option linter.all false
namespace Sh
def vl (n:Nat) (r:List Int) (z:Nat->Rat):Rat:=zW n λj=>(r.getD j 0:Rat) * z j
def bo (n:Nat) (r:List Int):Rat:=((r.getD n 0:Int):Rat)
def kC (L:List (List Int)) (D:Int) (n:Nat):List (Int × Int):=(cR n).map λi=>(zY ((L.getD i []).getD n 0) D,zM ((L.getD i []).getD n 0) D)
def yS (rows:List (List Int)) (n:Nat):List (Int × Int):=match yy rows n with
 | some (L,D)=>kC L D n
 | none=>[]
theorem WK {rows L:List (List Int)} {D:Int} {n:Nat} (S:WF rows L D n):yS rows n=kC L D n:=by
 unfold yS
 rw [S.run]
theorem zJU (f:Nat->Int):∀ n:Nat,((((cR n).map f).sum:Int):Rat)=zW n λj=>(f j:Rat)
 | 0=>rfl
 | n + 1=>by
  rw [List.range_succ,cP,List.sum_append,fU,zJU f n]
  show _ + (((f n + 0:Int)):Rat)=zW n (λj=>(f j:Rat)) + (f n:Rat)
  rw [Int.add_zero]
theorem zQl {L:List (List Int)} {D:Int} {n j:Nat} (h:j < n):(kC L D n).getD j (0,1)=(zY ((L.getD j []).getD n 0) D,zM ((L.getD j []).getD n 0) D):=by
 unfold kC
 rw [cz,db,dY h]
 rfl
theorem zOf {rows L:List (List Int)} {D:Int} {n:Nat} (S:WF rows L D n) {r:List Int} (hr:r∈rows):vl n r (zt (yS rows n))=bo n r:=by
 have ne:(D:Rat)≠0:=λz=>S.ne (by exact_mod_cast z)
 have e:∀ j,j < n->zt (yS rows n) j=(((L.getD j []).getD n 0:Int):Rat) * (D:Rat)⁻¹:=λj hj=>by
  unfold zt
  rw [WK S,zQl hj,(qF S.ne).2,eJ]
 have z:=S.eqs r hr
 have z':((((cR n).map λj=>r.getD j 0 * (L.getD j []).getD n 0).sum:Int):Rat)=((r.getD n 0 * D:Int):Rat):=by rw [z]
 rw [zJU,cO] at z'
 unfold vl bo
 rw [wX (g:=λj=>(D:Rat)⁻¹ * (((r.getD j 0 * (L.getD j []).getD n 0:Int)):Rat)) λj hj=>by rw [e j hj,cO]; grind,kB,z',Rat.mul_comm,eW,fy _ ne,e_]
structure Sq (rows:List (List Int)) (n:Nat):Prop where
 len:rows.length=n
 row:∀ r∈rows,r.length=n + 1
 n1:1<=n
 n3:n<=2
theorem zNy {rows:List (List Int)} {n:Nat} (h:Sq rows n) (d:xu rows≠0):∃ L D,WF rows L D n:=by
 rcases zMX h.len h.row h.n1 h.n3 with ⟨_,z⟩ | z
 ·exact absurd z d
 ·exact z
theorem qG {rows:List (List Int)} {n:Nat} (h:Sq rows n) (d:xu rows≠0):(yS rows n).length=n/\(∀ p∈yS rows n,0 < p.2)/\∀ r∈rows,vl n r (zt (yS rows n))=bo n r:=by
 obtain ⟨L,D,S⟩:=zNy h d
 refine ⟨?_,λp hp=>?_,λr hr=>zOf S hr⟩
 ·rw [WK S]
  unfold kC
  rw [a_,cT]
 ·rw [WK S] at hp
  obtain ⟨i,_,e⟩:=cH.mp hp
  rw [<- e]
  exact j6 S.ne
def xP (n:Nat) (f:Nat->Nat->Int):Int:=
 if n=1 then f 0 0 else if n=2 then f 0 0 * f 1 1 - f 0 1 * f 1 0 else wy (f 0 0) (f 0 1) (f 0 2) (f 1 0) (f 1 1) (f 1 2) (f 2 0) (f 2 1) (f 2 2)
theorem kD (rows:List (List Int)):xu rows=xP rows.length λq j=>(rows.getD q []).getD j 0:=rfl
theorem kE {n:Nat} {f g:Nat->Nat->Int} (n1:1<=n) (n3:n<=2) (h:∀ q j,q < n->j < n->f q j=g q j):xP n f=xP n g:=by
 rcases (by omega:n=1\/n=2\/n=3) with rfl | rfl | rfl
 ·exact h 0 0 (by decide) (by decide)
 ·show f 0 0 * f 1 1 - f 0 1 * f 1 0=_
  rw [h 0 0 (by decide) (by decide),h 1 1 (by decide) (by decide),h 0 1 (by decide) (by decide),h 1 0 (by decide) (by decide)]
  rfl
 ·show wy (f 0 0) (f 0 1) (f 0 2) (f 1 0) (f 1 1) (f 1 2) (f 2 0) (f 2 1) (f 2 2)=_
  rw [h 0 0 (by decide) (by decide),h 0 1 (by decide) (by decide),h 0 2 (by decide) (by decide),h 1 0 (by decide) (by decide),h 1 1 (by decide) (by decide),h 1 2 (by decide) (by decide),h 2 0 (by decide) (by decide),h 2 1 (by decide) (by decide),h 2 2 (by decide) (by decide)]
  rfl
theorem zLw {n:Nat} {f:Nat->Nat->Int} (n1:1<=n) (n3:n<=2):xP n (λq j=>f j q)=xP n f:=by
 rcases (by omega:n=1\/n=2\/n=3) with rfl | rfl | rfl
 ·rfl
 ·show f 0 0 * f 1 1 - f 1 0 * f 0 1=f 0 0 * f 1 1 - f 0 1 * f 1 0
  grind
 ·show wy (f 0 0) (f 1 0) (f 2 0) (f 0 1) (f 1 1) (f 2 1) (f 0 2) (f 1 2) (f 2 2)=wy (f 0 0) (f 0 1) (f 0 2) (f 1 0) (f 1 1) (f 1 2) (f 2 0) (f 2 1) (f 2 2)
  unfold wy
  grind
theorem zLx {n p:Nat} {f:Nat->Nat->Int} {R:Nat->Int} {w:Nat->Rat} (n1:1<=n) (n3:n<=2) (hp:p < n) (h:∀ j,j < n->(R j:Rat)=zW n λk=>(f k j:Rat) * w k) :
  ((xP n (λq j=>if q=p then R j else f q j):Int):Rat)=w p * ((xP n f:Int):Rat):=by
 rcases (by omega:n=1\/n=2\/n=3) with rfl | rfl | rfl
 ·have p0:p=0:=by omega
  subst p0
  have h0:=h 0 (by decide)
  have h0':(R 0:Rat)=0 + (f 0 0:Rat) * w 0:=h0
  show ((R 0:Int):Rat)=w 0 * ((f 0 0:Int):Rat)
  rw [h0']
  grind
 ·have h0:(R 0:Rat)=0 + (f 0 0:Rat) * w 0 + (f 1 0:Rat) * w 1:=h 0 (by decide)
  have h1:(R 1:Rat)=0 + (f 0 1:Rat) * w 0 + (f 1 1:Rat) * w 1:=h 1 (by decide)
  have e:((xP 2 f:Int):Rat)=(f 0 0:Rat) * (f 1 1:Rat) - (f 0 1:Rat) * (f 1 0:Rat):=by
   show ((f 0 0 * f 1 1 - f 0 1 * f 1 0:Int):Rat)=_
   rw [eK,cO,cO]
  rw [e]
  rcases (by omega:p=0\/p=1) with rfl | rfl
  ·show ((R 0 * f 1 1 - R 1 * f 1 0:Int):Rat)=_
   rw [eK,cO,cO,h0,h1]
   grind
  ·show ((f 0 0 * R 1 - f 0 1 * R 0:Int):Rat)=_
   rw [eK,cO,cO,h0,h1]
   grind
 ·have h0:(R 0:Rat)=0 + (f 0 0:Rat) * w 0 + (f 1 0:Rat) * w 1 + (f 2 0:Rat) * w 2:=h 0 (by decide)
  have h1:(R 1:Rat)=0 + (f 0 1:Rat) * w 0 + (f 1 1:Rat) * w 1 + (f 2 1:Rat) * w 2:=h 1 (by decide)
  have h2:(R 2:Rat)=0 + (f 0 2:Rat) * w 0 + (f 1 2:Rat) * w 1 + (f 2 2:Rat) * w 2:=h 2 (by decide)
  have dc:∀ a0 a1 a2 b0 b1 b2 c0 c1 c2:Int,((wy a0 a1 a2 b0 b1 b2 c0 c1 c2:Int):Rat)=(a0:Rat) * ((b1:Rat) * c2 - b2 * c1) + a1 * (b2 * c0 - b0 * c2) + a2 * (b0 * c1 - b1 * c0):=λa0 a1 a2 b0 b1 b2 c0 c1 c2=>by
   unfold wy
   simp only [fU,cO,eK]
  have e:((xP 3 f:Int):Rat)=_:=dc (f 0 0) (f 0 1) (f 0 2) (f 1 0) (f 1 1) (f 1 2) (f 2 0) (f 2 1) (f 2 2)
  rw [e]
  rcases (by omega:p=0\/p=1\/p=2) with rfl | rfl | rfl
  ·refine (dc (R 0) (R 1) (R 2) (f 1 0) (f 1 1) (f 1 2) (f 2 0) (f 2 1) (f 2 2)).trans ?_
   rw [h0,h1,h2]
   grind
  ·refine (dc (f 0 0) (f 0 1) (f 0 2) (R 0) (R 1) (R 2) (f 2 0) (f 2 1) (f 2 2)).trans ?_
   rw [h0,h1,h2]
   grind
  ·refine (dc (f 0 0) (f 0 1) (f 0 2) (f 1 0) (f 1 1) (f 1 2) (R 0) (R 1) (R 2)).trans ?_
   rw [h0,h1,h2]
   grind
end Sh
set_option linter.all false
namespace Sh
def y9 (rows:List (List Int)) (cs:List Nat):List (List Int):=cs.map λc=>rows.getD c []
def xc (rows:List (List Int)) (cs:List Nat) (us:List Int) (n:Nat):List (List Int):=(cR n).map λj=>(cs.map λc=>(rows.getD c []).getD j 0)++[us.getD j 0]
def xL (rows:List (List Int)) (cs:List Nat) (p:Nat) (nu:Int) (n:Nat):List (List Int):=cs.map λc=>(rows.getD c []).take n++[if c=cs.getD p 0 then nu else 0]
def wz (rows:List (List Int)) (cs:List Nat) (p:Nat) (n:Nat):List (List Int):=(cR n).map λk=>(rows.getD (cs.getD k 0) []).take n++[if k=p then 1 else 0]
structure Cr (rows:List (List Int)) (n:Nat) (cs:List Nat):Prop where
 n1:1<=n
 n3:n<=2
 row:∀ r∈rows,r.length=n + 1
 len:cs.length=n
 lt:∀ c∈cs,c < rows.length
 det:xu (y9 rows cs)≠0
theorem uj {α β:Type} {f:α->β} {l:List α} {k:Nat} {d:α} {e:β} (h:k < l.length):(l.map f).getD k e=f (l.getD k d):=by
 rw [cz,cz,db,b_ h]
 rfl
theorem kF {α:Type} {f:Nat->α} {n k:Nat} {d:α} (h:k < n):((cR n).map f).getD k d=f k:=by
 rw [cz,db,dY h]
 rfl
theorem yf {α:Type} {l:List α} {k:Nat} {d:α} (h:k < l.length):l.getD k d∈l:=by
 rw [cz,b_ h]
 exact dX _
theorem qH {l:List Int} {x:Int} {n j:Nat} (hl:l.length=n) (h:j < n):(l++[x]).getD j 0=l.getD j 0:=by
 rw [cz,eh (by omega),<- cz]
theorem jZ {l:List Int} {x:Int} {n:Nat} (hl:l.length=n):(l++[x]).getD n 0=x:=by
 rw [cz,dB (by omega),hl,h7]
 rfl
theorem qI {l:List Int} {n j:Nat} (h:j < n):(l.take n).getD j 0=l.getD j 0:=by
 rw [cz,fK h,<- cz]
theorem zIj {n p:Nat} {c:Rat} {f:Nat->Rat} (hp:p < n):zW n (λk=>f k * (if k=p then c else 0))=f p * c:=by
 induction n with
 | zero=>omega
 | succ n ih=>
  show zW n (λk=>f k * (if k=p then c else 0)) + f n * (if n=p then c else 0)=f p * c
  by_cases e:p=n
  ·rw [if_pos e.symm,wX (g:=λ_=>0) λj hj=>by rw [if_neg (by omega)]; grind,U8,e]
   grind
  ·rw [if_neg (λz=>e z.symm),ih (by omega)]
   grind
section
variable {rows:List (List Int)} {n:Nat} {cs:List Nat}
theorem Cr.at_ (C:Cr rows n cs) {k:Nat} (h:k < n):cs.getD k 0 < rows.length/\(rows.getD (cs.getD k 0) []).length=n + 1:=by
 have:=C.lt _ (yf (d:=0) (show k < cs.length by rw [C.len]; exact h))
 exact ⟨this,C.row _ (yf this)⟩
theorem Cr.sqC (C:Cr rows n cs):Sq (y9 rows cs) n:=⟨by unfold y9; rw [a_,C.len],λr hr=>by
 obtain ⟨c,hc,e⟩:=cH.mp hr
 rw [<- e]
 exact C.row _ (yf (C.lt c hc)),C.n1,C.n3⟩
theorem Cr.sqW (C:Cr rows n cs) (us:List Int):Sq (xc rows cs us n) n:=⟨by unfold xc; rw [a_,cT],λr hr=>by
 obtain ⟨c,hc,e⟩:=cH.mp hr
 rw [<- e,cA,a_,C.len]
 rfl,C.n1,C.n3⟩
theorem Cr.sqD (C:Cr rows n cs) (p:Nat) (nu:Int):Sq (xL rows cs p nu n) n:=⟨by unfold xL; rw [a_,C.len],λr hr=>by
 obtain ⟨c,hc,e⟩:=cH.mp hr
 have:=C.row _ (yf (C.lt c hc) (d:=[]))
 rw [<- e,cA,cI,this]
 show min n (n + 1) + 1=n + 1
 omega,C.n1,C.n3⟩
theorem Cr.sqP (C:Cr rows n cs) (p:Nat):Sq (wz rows cs p n) n:=⟨by unfold wz; rw [a_,cT],λr hr=>by
 obtain ⟨c,hc,e⟩:=cH.mp hr
 have:=(C.at_ (dz.mp hc)).2
 rw [<- e,cA,cI,this]
 show min n (n + 1) + 1=n + 1
 omega,C.n1,C.n3⟩
theorem Cr.detC (C:Cr rows n cs):xP n (λq j=>(rows.getD (cs.getD q 0) []).getD j 0)≠0:=by
 have d:=C.det
 rw [kD,C.sqC.len] at d
 rw [kE (g:=λq j=>((y9 rows cs).getD q []).getD j 0) C.n1 C.n3 λq j hq hj=>?_]
 ·exact d
 ·unfold y9
  rw [uj (d:=0) (by rw [C.len]; exact hq)]
theorem Cr.detW (C:Cr rows n cs) (us:List Int):xu (xc rows cs us n)≠0:=by
 rw [kD,(C.sqW us).len,<- zLw C.n1 C.n3,kE (g:=λq j=>(rows.getD (cs.getD q 0) []).getD j 0) C.n1 C.n3 λq j hq hj=>?_]
 ·exact C.detC
 ·unfold xc
  rw [kF hj,qH (by rw [a_]; exact C.len) hq,uj (d:=0) (by rw [C.len]; exact hq)]
theorem Cr.detD (C:Cr rows n cs) (p:Nat) (nu:Int):xu (xL rows cs p nu n)≠0:=by
 rw [kD,(C.sqD p nu).len,kE (g:=λq j=>(rows.getD (cs.getD q 0) []).getD j 0) C.n1 C.n3 λq j hq hj=>?_]
 ·exact C.detC
 ·unfold xL
  rw [uj (d:=0) (by rw [C.len]; exact hq),qH (n:=n) (by rw [cI,(C.at_ hq).2]; omega) hj,qI hj]
theorem Cr.detP (C:Cr rows n cs) (p:Nat):xu (wz rows cs p n)≠0:=by
 rw [kD,(C.sqP p).len,kE (g:=λq j=>(rows.getD (cs.getD q 0) []).getD j 0) C.n1 C.n3 λq j hq hj=>?_]
 ·exact C.detC
 ·unfold wz
  rw [kF hq,qH (n:=n) (by rw [cI,(C.at_ hq).2]; omega) hj,qI hj]
def zm (rows:List (List Int)) (cs:List Nat) (n:Nat):List (Int × Int):=yS (y9 rows cs) n
def zp (rows:List (List Int)) (cs:List Nat) (us:List Int) (n:Nat):List (Int × Int):=yS (xc rows cs us n) n
theorem Cr.pt (C:Cr rows n cs) {k:Nat} (h:k < n):vl n (rows.getD (cs.getD k 0) []) (zt (zm rows cs n))=bo n (rows.getD (cs.getD k 0) []):=
 (qG C.sqC C.det).2.2 _ (by
  unfold y9
  exact cH.mpr ⟨_,yf (by rw [C.len]; exact h),rfl⟩)
theorem Cr.wt (C:Cr rows n cs) (us:List Int) {j:Nat} (h:j < n):((us.getD j 0:Int):Rat)=zW n λk=>(((rows.getD (cs.getD k 0) []).getD j 0:Int):Rat) * zt (zp rows cs us n) k:=by
 have z:=(qG (C.sqW us) (C.detW us)).2.2 ((cs.map λc=>(rows.getD c []).getD j 0)++[us.getD j 0]) (by
  unfold xc
  exact cH.mpr ⟨j,dz.mpr h,rfl⟩)
 unfold vl bo at z
 rw [jZ (by rw [a_]; exact C.len)] at z
 rw [<- z]
 refine wX λk hk=>?_
 rw [qH (by rw [a_]; exact C.len) hk,uj (d:=0) (by rw [C.len]; exact hk)]
 rfl
theorem Cr.comb (C:Cr rows n cs) (us:List Int) (z:Nat->Rat):vl n us z=zW n λk=>zt (zp rows cs us n) k * vl n (rows.getD (cs.getD k 0) []) z:=by
 unfold vl
 rw [wX (g:=λj=>zW n λk=>zt (zp rows cs us n) k * ((((rows.getD (cs.getD k 0) []).getD j 0:Int):Rat) * z j)) λj hj=>?_,zG9]
 ·exact wX λk hk=>kB _ _ n
 ·rw [C.wt us hj,Rat.mul_comm,<- kB]
  exact wX λk _=>by grind
theorem Cr.way (C:Cr rows n cs) (p:Nat) (nu:Int) {k:Nat} (h:k < n):vl n (rows.getD (cs.getD k 0) []) (zt (yS (xL rows cs p nu n) n))=if cs.getD k 0=cs.getD p 0 then (nu:Rat) else 0:=by
 have z:=(qG (C.sqD p nu) (C.detD p nu)).2.2 ((rows.getD (cs.getD k 0) []).take n++[if cs.getD k 0=cs.getD p 0 then nu else 0]) (by
  unfold xL
  exact cH.mpr ⟨_,yf (by rw [C.len]; exact h),rfl⟩)
 have lt:((rows.getD (cs.getD k 0) []).take n).length=n:=by rw [cI,(C.at_ h).2]; omega
 unfold bo at z
 rw [jZ lt] at z
 have e:vl n ((rows.getD (cs.getD k 0) []).take n++[if cs.getD k 0=cs.getD p 0 then nu else 0]) (zt (yS (xL rows cs p nu n) n))=vl n (rows.getD (cs.getD k 0) []) (zt (yS (xL rows cs p nu n) n)):=by
  unfold vl
  exact wX λj hj=>by rw [qH lt hj,qI hj]
 rw [<- e,z]
 split <;> rfl
theorem Cr.dual (C:Cr rows n cs) (p:Nat):∃ d:Nat->Rat,∀ k,k < n->vl n (rows.getD (cs.getD k 0) []) d=if k=p then 1 else 0:=by
 refine ⟨zt (yS (wz rows cs p n) n),λk h=>?_⟩
 have z:=(qG (C.sqP p) (C.detP p)).2.2 ((rows.getD (cs.getD k 0) []).take n++[if k=p then 1 else 0]) (by
  unfold wz
  exact cH.mpr ⟨k,dz.mpr h,rfl⟩)
 have lt:((rows.getD (cs.getD k 0) []).take n).length=n:=by rw [cI,(C.at_ h).2]; omega
 unfold bo at z
 rw [jZ lt] at z
 have e:vl n ((rows.getD (cs.getD k 0) []).take n++[if k=p then 1 else 0]) (zt (yS (wz rows cs p n) n))=vl n (rows.getD (cs.getD k 0) []) (zt (yS (wz rows cs p n) n)):=by
  unfold vl
  exact wX λj hj=>by rw [qH lt hj,qI hj]
 rw [<- e,z]
 split <;> rfl
theorem Cr.inj (C:Cr rows n cs) {k l:Nat} (hk:k < n) (hl:l < n) (e:cs.getD k 0=cs.getD l 0):k=l:=by
 obtain ⟨d,hd⟩:=C.dual k
 have a:=hd k hk
 have b:=hd l hl
 rw [<- e,a,if_pos rfl] at b
 by_cases z:l=k
 ·exact z.symm
 ·rw [if_neg z] at b
  exact absurd b (by decide)
theorem Cr.nodup (C:Cr rows n cs):cs.Nodup:=by
 refine List.pairwise_iff_getElem.mpr λi j hi hj hij e=>?_
 have:=C.inj (k:=i) (l:=j) (by rw [<- C.len]; exact hi) (by rw [<- C.len]; exact hj) (by
  rw [cz,cz,b_ hi,b_ hj,e])
 omega
theorem Cr.one (C:Cr rows n cs) {z z':Nat->Rat} (h:∀ k,k < n->vl n (rows.getD (cs.getD k 0) []) z=vl n (rows.getD (cs.getD k 0) []) z') {j:Nat} (hj:j < n):z j=z' j:=by
 have e:∀ y:Nat->Rat,vl n ((cR n).map λi=>if i=j then 1 else 0) y=y j:=λy=>by
  unfold vl
  rw [wX (g:=λi=>y i * (if i=j then 1 else 0)) λi hi=>?_,zIj hj]
  ·grind
  ·rw [kF hi]
   split
   ·show ((1:Int):Rat) * y i=y i * 1
    grind
   ·show ((0:Int):Rat) * y i=y i * 0
    grind
 have a:=C.comb ((cR n).map λi=>if i=j then 1 else 0) z
 have b:=C.comb ((cR n).map λi=>if i=j then 1 else 0) z'
 rw [e] at a b
 rw [a,b]
 exact wX λk hk=>by rw [h k hk]
theorem Cr.exch (C:Cr rows n cs) {p r:Nat} (hp:p < n) (hr:r < rows.length) (w0:zt (zp rows cs (rows.getD r []) n) p≠0):Cr rows n (cs.set p r):=by
 have lp:p < cs.length:=by rw [C.len]; exact hp
 have D:((xP n (λq j=>if q=p then (rows.getD r []).getD j 0 else (rows.getD (cs.getD q 0) []).getD j 0):Int):Rat)=_:=zLx (f:=λq j=>(rows.getD (cs.getD q 0) []).getD j 0) (R:=λj=>(rows.getD r []).getD j 0) C.n1 C.n3 hp λj hj=>C.wt (rows.getD r []) hj
 refine ⟨C.n1,C.n3,C.row,by rw [dq]; exact C.len,λc hc=>?_,λz=>?_⟩
 ·rcases fE hc with hc | hc
  ·exact C.lt c hc
  ·rw [hc]; exact hr
 ·have e:xu (y9 rows (cs.set p r))=xP n (λq j=>if q=p then (rows.getD r []).getD j 0 else (rows.getD (cs.getD q 0) []).getD j 0):=by
   rw [kD,show (y9 rows (cs.set p r)).length=n by unfold y9; rw [a_,dq,C.len]]
   refine kE C.n1 C.n3 λq j hq hj=>?_
   unfold y9
   rw [uj (d:=0) (by rw [dq,C.len]; exact hq),kA lp]
   by_cases eq:q=p
   ·rw [if_pos eq,if_pos eq]
   ·rw [if_neg eq,if_neg eq]
  rw [<- e,z] at D
  have c0:((xP n λq j=>(rows.getD (cs.getD q 0) []).getD j 0:Int):Rat)≠0:=λy=>C.detC (by exact_mod_cast y)
  have D':(0:Rat)=zt (zp rows cs (rows.getD r []) n) p * ((xP n λq j=>(rows.getD (cs.getD q 0) []).getD j 0:Int):Rat):=D
  have h:=Rat.mul_eq_zero.mp D'.symm
  rcases h with h | h
  ·exact w0 h
  ·exact c0 h
end
end Sh
set_option linter.all false
namespace Sh
theorem Zj {α:Type} (S:α->α->Prop) (M:Nat) (h:∀ (B:Nat->α) (m:Nat),(∀ t,t < m->S (B t) (B (t + 1)))->m < M) {P:α->Prop} (step:∀ a,(∀ b,S a b->P b)->P a) (a:α):P a:=by
 apply cZ
 intro na
 have nx:∀ a:{ a // ¬ P a },∃ b:{ b // ¬ P b },S a.1 b.1:=λa=>by
  apply cZ
  intro no
  exact a.2 (step a.1 λb sb=>cZ λnb=>no ⟨⟨b,nb⟩,sb⟩)
 let f:=λa=>Classical.choose (nx a)
 have hf:∀ a,S a.1 (f a).1:=λa=>h9 (nx a)
 let B:Nat->{ a // ¬ P a }:=λt=>Nat.rec (⟨a,na⟩:{ a // ¬ P a }) (λ_ b=>f b) t
 have:=h (λt=>(B t).1) M λt _=>hf (B t)
 exact dy _ this
theorem zLS (g:Nat->Rat):∀ l:List Nat,Bl.lsum l g=zW l.length λk=>g (l.getD k 0)
 | []=>rfl
 | a :: l=>by
  rw [Bl.lsum_cons,zLS g l]
  show _=zW (l.length + 1) _
  rw [WI]
  rfl
theorem zNr (n:Nat) (r:List Int) (z d:Nat->Rat) (s:Rat):vl n r (λj=>z j + s * d j)=vl n r z + s * vl n r d:=by
 unfold vl
 rw [<- kB,<- U7]
 exact wX λj _=>by grind
theorem zMM {n:Nat} {r:List Int} {z z':Nat->Rat} (h:∀ j,j < n->z j=z' j):vl n r z=vl n r z':=by
 unfold vl
 exact wX λj hj=>by rw [h j hj]
theorem kG {cs:List Nat} (nd:cs.Nodup) {k:Nat} (h:k < cs.length):cs.idxOf (cs.getD k 0)=k:=by
 rw [cz,b_ h]
 exact nd.idxOf_getElem k h
theorem zLR {cs:List Nat} (nd:cs.Nodup) {p r i:Nat} (hp:p < cs.length):i∈cs.set p r ↔ (i∈cs/\i≠cs.getD p 0)\/i=r:=by
 have at_:∀ k,k < cs.length->cs.getD k 0=cs[k]!:=λk hk=>by
  rw [cz,b_ hk]
  simp [hk]
 constructor
 ·intro h
  obtain ⟨k,hk,e⟩:=ef h
  rw [dq] at hk
  by_cases z:p=k
  ·rw [ie,if_pos z] at e
   exact .inr e.symm
  ·rw [ie,if_neg z] at e
   refine .inl ⟨by rw [<- e]; exact dX _,λy=>z ?_⟩
   have e1:=kG nd hp
   rw [<- y,<- e] at e1
   rw [<- e1]
   exact nd.idxOf_getElem k hk
 ·rintro (⟨h,ne⟩ | rfl)
  ·obtain ⟨k,hk,e⟩:=ef h
   have z:p≠k:=λz=>ne (by
    subst z
    rw [<- e,cz,b_ hk]
    rfl)
   rw [<- e]
   refine ii.mpr ⟨k,by rw [dq]; exact hk,?_⟩
   rw [ie,if_neg z]
  ·exact ii.mpr ⟨p,by rw [dq]; exact hp,by rw [ie,if_pos rfl]⟩
section
variable (rows:List (List Int)) (n:Nat)
abbrev VA (i:Nat) (z:Nat->Rat):Rat:=vl n (rows.getD i []) z
abbrev BA (i:Nat):Rat:=bo n (rows.getD i [])
abbrev XC (cs:List Nat):Nat->Rat:=zt (zm rows cs n)
abbrev YC (cs:List Nat) (us:List Int):Nat->Rat:=zt (zp rows cs us n)
def Fe (count:Nat) (cs:List Nat):Prop:=∀ i,i < count->VA rows n i (XC rows n cs)<=BA rows n i
end
section
variable {rows:List (List Int)} {n count:Nat} {cs:List Nat} {us:List Int}
theorem Cr.tight (C:Cr rows n cs):∀ i∈cs,VA rows n i (XC rows n cs)=BA rows n i:=λi hi=>by
 obtain ⟨k,hk,e⟩:=ef hi
 have z:=C.pt (k:=k) (by rw [<- C.len]; exact hk)
 have ek:cs.getD k 0=i:=by
  rw [cz,b_ hk]
  exact e
 rw [ek] at z
 exact z
theorem Cr.combL (C:Cr rows n cs) (us:List Int) (z:Nat->Rat):vl n us z=Bl.lsum cs λi=>YC rows n cs us (cs.idxOf i) * VA rows n i z:=by
 rw [zLS,C.len,C.comb us z]
 exact wX λk hk=>by rw [kG C.nodup (by rw [C.len]; exact hk)]
theorem zLh (C:Cr rows n cs) (hc:count<=rows.length) {r p:Nat} (hr:r < count) (hb:BA rows n r < VA rows n r (XC rows n cs)) (hl:∀ i,i < r->VA rows n i (XC rows n cs)<=BA rows n i) (hp:p < n)
  (fp:0 < YC rows n cs (rows.getD r []) p) (lp:∀ k,k < n->0 < YC rows n cs (rows.getD r []) k->cs.getD p 0<=cs.getD k 0) :
  Bl.FStep (VA rows n) (BA rows n) count cs (cs.set p r) (XC rows n cs) (cs.getD p 0) r λi=>YC rows n cs (rows.getD r []) (cs.idxOf i):=by
 have lcp:p < cs.length:=by rw [C.len]; exact hp
 refine ⟨λi=>zLR C.nodup lcp,C.tight,hb,hr,hl,C.combL _,yf lcp,?_,λi hi lt=>?_⟩
 ·rw [kG C.nodup lcp]
  exact fp
 ·obtain ⟨k,hk,e⟩:=ef hi
  have ek:cs.getD k 0=i:=by
   rw [cz,b_ hk]
   exact e
  rw [<- ek] at lt |-
  rw [kG C.nodup hk]
  have:=lp k (by rw [<- C.len]; exact hk)
  grind
def xv (rows:List (List Int)) (n count:Nat) (us:List Int) (cs:List Nat) (k:Nat):Prop:=YC rows n cs us k < 0\/(count<=cs.getD k 0/\YC rows n cs us k≠0)
structure vS (rows:List (List Int)) (n count:Nat) (x d:Nat->Rat) (r:Nat):Prop where
 lt:r < count
 up:0 < VA rows n r d
 first:∀ k,k < r->0 < VA rows n k d->(BA rows n r - VA rows n r x) * VA rows n k d < (BA rows n k - VA rows n k x) * VA rows n r d
 all:∀ k,k < count->0 < VA rows n k d->(BA rows n r - VA rows n r x) * VA rows n k d<=(BA rows n k - VA rows n k x) * VA rows n r d
structure q9 (rows:List (List Int)) (n:Nat) (cs:List Nat) (us:List Int) (p:Nat) (d:Nat->Rat):Prop where
 at_:∀ k,k < n->k≠p->VA rows n (cs.getD k 0) d=0
 p:VA rows n (cs.getD p 0) d=if 0 < YC rows n cs us p then 1 else -1
theorem q9.val (C:Cr rows n cs) {p:Nat} (hp:p < n) {d:Nat->Rat} (W:q9 rows n cs us p d) (vs:List Int):vl n vs d=YC rows n cs vs p * (if 0 < YC rows n cs us p then 1 else -1):=by
 rw [C.comb vs d,wX (g:=λk=>YC rows n cs vs k * (if k=p then (if 0 < YC rows n cs us p then 1 else -1) else 0)) λk hk=>?_,zIj hp]
 by_cases e:k=p
 ·rw [if_pos e,e]
  rw [show vl n (rows.getD (cs.getD p 0) []) d=_ from W.p]
 ·rw [if_neg e,show vl n (rows.getD (cs.getD k 0) []) d=_ from W.at_ k hk e]
theorem WL (C:Cr rows n cs) (hc:count<=rows.length) {p r:Nat} (hp:p < n) {d:Nat->Rat} (W:q9 rows n cs us p d) (hr:r < count) (up:0 < VA rows n r d):Cr rows n (cs.set p r)/\YC rows n cs (rows.getD r []) p≠0:=by
 have z:YC rows n cs (rows.getD r []) p≠0:=λz=>by
  have e:=W.val C hp (rows.getD r [])
  have up':0 < vl n (rows.getD r []) d:=up
  rw [e,z] at up'
  grind
 exact ⟨C.exch hp (by omega) z,z⟩
theorem U9 (C:Cr rows n cs) (hc:count<=rows.length) {p r:Nat} (hp:p < n) {d:Nat->Rat} (W:q9 rows n cs us p d) (hr:r < count) (up:0 < VA rows n r d) {s:Rat} (far:s * VA rows n r d=BA rows n r - VA rows n r (XC rows n cs)) (vs:List Int) :
  vl n vs (XC rows n (cs.set p r))=vl n vs (XC rows n cs) + s * vl n vs d:=by
 have C':=(WL C hc hp W hr up).1
 have lp:p < cs.length:=by rw [C.len]; exact hp
 rw [<- zNr]
 refine zMM λj hj=>C'.one (z:=XC rows n (cs.set p r)) (z':=λj=>XC rows n cs j + s * d j) (λk hk=>?_) hj
 have e:vl n (rows.getD ((cs.set p r).getD k 0) []) (XC rows n (cs.set p r))=bo n (rows.getD ((cs.set p r).getD k 0) []):=C'.tight _ (yf (by rw [C'.len]; exact hk))
 rw [e,zNr,kA lp]
 by_cases z:k=p
 ·rw [if_pos z]
  have:s * vl n (rows.getD r []) d=bo n (rows.getD r []) - vl n (rows.getD r []) (XC rows n cs):=far
  grind
 ·rw [if_neg z]
  have h1:vl n (rows.getD (cs.getD k 0) []) d=0:=W.at_ k hk z
  have h2:=C.pt hk
  rw [h1]
  show bo n (rows.getD (cs.getD k 0) [])=vl n (rows.getD (cs.getD k 0) []) (zt (zm rows cs n)) + s * 0
  rw [h2]
  grind
theorem zJ9 (C:Cr rows n cs) (F:Fe rows n count cs) (hc:count<=rows.length) {p r:Nat} (hp:p < n) (fp:xv rows n count us cs p) (lp:∀ k,k < n->xv rows n count us cs k->cs.getD p 0<=cs.getD k 0) {d:Nat->Rat} (W:q9 rows n cs us p d) (M:vS rows n count (XC rows n cs) d r) :
  ∃ s,Bl.CStep (VA rows n) (BA rows n) (vl n us) count cs (cs.set p r) (XC rows n cs) (XC rows n (cs.set p r)) d (cs.getD p 0) r (λi=>YC rows n cs us (cs.idxOf i)) s:=by
 have lcp:p < cs.length:=by rw [C.len]; exact hp
 have ne:VA rows n r d≠0:=λz=>by have:=M.up; rw [z] at this; exact absurd this eV
 have far:((BA rows n r - VA rows n r (XC rows n cs)) / VA rows n r d) * VA rows n r d=BA rows n r - VA rows n r (XC rows n cs):=by
  rw [eJ,eW,fu _ ne,e_]
 have fitI:∀ k,k < n->(xv rows n count us cs k ↔ (YC rows n cs us (cs.idxOf (cs.getD k 0)) < 0\/(count<=cs.getD k 0/\YC rows n cs us (cs.idxOf (cs.getD k 0))≠0))):=λk hk=>by
  rw [kG C.nodup (by rw [C.len]; exact hk)]
  exact Iff.rfl
 refine ⟨(BA rows n r - VA rows n r (XC rows n cs)) / VA rows n r d,λi=>zLR C.nodup lcp,C.tight,F,C.combL us,yf lcp,(fitI p hp).mp fp,λi hi lt=>?_,λi hi ne=>?_,?_,M.lt,M.up,M.first,far,λi=>U9 C hc hp W M.lt M.up far _,U9 C hc hp W M.lt M.up far us⟩
 ·obtain ⟨k,hk,e⟩:=ef hi
  have ek:cs.getD k 0=i:=by
   rw [cz,b_ hk]
   exact e
  rw [<- ek] at lt |-
  have hkn:k < n:=by rw [<- C.len]; exact hk
  intro z
  have:=lp k hkn ((fitI k hkn).mpr z)
  omega
 ·obtain ⟨k,hk,e⟩:=ef hi
  have ek:cs.getD k 0=i:=by
   rw [cz,b_ hk]
   exact e
  rw [<- ek] at ne |-
  exact W.at_ k (by rw [<- C.len]; exact hk) λz=>ne (by rw [z])
 ·show VA rows n (cs.getD p 0) d=if 0 < YC rows n cs us (cs.idxOf (cs.getD p 0)) then 1 else -1
  rw [kG C.nodup lcp]
  exact W.p
theorem zNg (C:Cr rows n cs) (F:Fe rows n count cs) (hc:count<=rows.length) {p r:Nat} (hp:p < n) {d:Nat->Rat} (W:q9 rows n cs us p d) (M:vS rows n count (XC rows n cs) d r):Fe rows n count (cs.set p r):=λi hi=>by
 have up:=M.up
 have ne:VA rows n r d≠0:=λz=>by rw [z] at up; exact absurd up eV
 obtain ⟨s,far⟩:∃ s,s * VA rows n r d=BA rows n r - VA rows n r (XC rows n cs):=⟨(BA rows n r - VA rows n r (XC rows n cs)) / VA rows n r d,by
  rw [eJ,eW,fu _ ne,e_]⟩
 have e:VA rows n i (XC rows n (cs.set p r))=VA rows n i (XC rows n cs) + s * VA rows n i d:=U9 C hc hp W M.lt up far _
 rw [e]
 have fr:=F r M.lt
 have s0:0<=s:=by
  apply cZ
  intro c
  have:=dn (show s < 0 by grind) up
  grind
 have fi:=F i hi
 by_cases z:0 < VA rows n i d
 ·have a:=M.all i hi z
  rw [<- far] at a
  apply cZ
  intro c
  have c':BA rows n i - VA rows n i (XC rows n cs) < s * VA rows n i d:=by grind
  have:=dn c' up
  grind
 ·have:=dH s0 (show 0<=-(VA rows n i d) by grind)
  grind
end
end Sh
set_option linter.all false
namespace Sh
def yO (pts:List (Int × Int)):Int:=pts.foldl (λD p=>(D * p.2).fdiv (e7 D p.2:Int)) 1
def yU (pts:List (Int × Int)):List Int:=pts.map λp=>p.1 * (yO pts).fdiv p.2
theorem zHa {D b:Int} (hD:0 < D) (hb:0 < b):0 < (D * b).fdiv (e7 D b:Int)/\D ∣ (D * b).fdiv (e7 D b:Int)/\b ∣ (D * b).fdiv (e7 D b:Int):=by
 have g0:(0:Int) < (e7 D b:Int):=by
  have:=Int.gcd_pos_of_ne_zero_left b (show D≠0 by omega)
  omega
 obtain ⟨x,hx⟩:(e7 D b:Int) ∣ D:=iY ..
 obtain ⟨y,hy⟩:(e7 D b:Int) ∣ b:=iO ..
 generalize (e7 D b:Int)=g at *
 have e1:(D * b).fdiv g=D * y:=by
  rw [show D * b=(D * y) * g by rw [hy]; grind]
  exact Int.mul_fdiv_cancel _ (by omega)
 have e2:D * y=x * b:=by rw [hx,hy]; grind
 rw [e1]
 refine ⟨?_,⟨y,rfl⟩,⟨x,by rw [e2,hX]⟩⟩
 refine eY hD ?_
 rw [hy] at hb
 rcases zOt hb with ⟨_,z⟩ | ⟨z,_⟩
 ·exact z
 ·omega
theorem JA:∀ (pts:List (Int × Int)) (D:Int),0 < D->(∀ p∈pts,0 < p.2)->0 < pts.foldl (λD p=>(D * p.2).fdiv (e7 D p.2:Int)) D/\D ∣ pts.foldl (λD p=>(D * p.2).fdiv (e7 D p.2:Int)) D/\∀ p∈pts,p.2 ∣ pts.foldl (λD p=>(D * p.2).fdiv (e7 D p.2:Int)) D
 | [],D,h,_=>⟨h,Int.dvd_refl _,λp hp=>nomatch hp⟩
 | q :: pts,D,h,hp=>by
  obtain ⟨c1,c2,c3⟩:=zHa h (hp q cD)
  obtain ⟨i1,i2,i3⟩:=JA pts _ c1 λp hp'=>hp p (cB _ hp')
  refine ⟨i1,nh c2 i2,λp hp'=>?_⟩
  rcases da.mp hp' with rfl | hp'
  ·exact nh c3 i2
  ·exact i3 p hp'
theorem zPJ {pts:List (Int × Int)} (h:∀ p∈pts,0 < p.2):0 < yO pts:=(JA pts 1 (by decide) h).1
theorem zPI {pts:List (Int × Int)} (h:∀ p∈pts,0 < p.2) {k:Nat} (hk:k < pts.length):(((yU pts).getD k 0:Int):Rat)=(yO pts:Rat) * zt pts k:=by
 obtain ⟨D0,_,dv⟩:=JA pts 1 (by decide) h
 have hm:=yf (d:=(0,1)) hk
 have p0:=h _ hm
 obtain ⟨c,hc⟩:=dv _ hm
 unfold yU zt
 rw [uj (d:=(0,1)) hk]
 have e:(yO pts).fdiv (pts.getD k (0,1)).2=c:=by
  rw [show yO pts=(pts.getD k (0,1)).2 * c from hc]
  exact iP _ (by omega)
 rw [e,show yO pts=(pts.getD k (0,1)).2 * c from hc,cO,cO,<- vR p0]
 grind
theorem zK5 (pts:List (Int × Int)):(yU pts).length=pts.length:=by unfold yU; rw [a_]
def spr (count:Nat) (cs:List Nat) (xs:List Int):List Int:=(cs.zip xs).foldl (λns q=>if q.1 < count then ns.set q.1 q.2 else ns) (cG count 0)
inductive wR where
 | emp (ns:List Int)
 | mst (f:Int × Int) (D:Int) (ns:List Int) (pts:List (Int × Int))
 | opn (pts:List (Int × Int)) (way:List Int)
structure uA (F:Nat->Prop) (cs:List Nat) (n p:Nat):Prop where
 lt:p < n
 fit:F p
 least:∀ k,k < n->F k->cs.getD p 0<=cs.getD k 0
theorem JB (F:Nat->Prop) (cs:List Nat) (n:Nat):(∀ k,k < n->¬ F k)\/∃ p,uA F cs n p:=by
 induction n with
 | zero=>exact .inl λk hk=>absurd hk (e8 k)
 | succ n ih=>
  by_cases fn:F n
  ·right
   rcases ih with ih | ⟨p,h1,h2,h3⟩
   ·exact ⟨n,dC n,fn,λk hk fk=>by
     by_cases e:k=n
     ·rw [e]; exact cF _
     ·exact absurd fk (ih k (by omega))⟩
   ·by_cases le:cs.getD p 0<=cs.getD n 0
    ·exact ⟨p,by omega,h2,λk hk fk=>by
      by_cases e:k=n
      ·rw [e]; exact le
      ·exact h3 k (by omega) fk⟩
    ·exact ⟨n,dC n,fn,λk hk fk=>by
      by_cases e:k=n
      ·rw [e]; exact cF _
      ·have:=h3 k (by omega) fk
       omega⟩
  ·rcases ih with ih | ⟨p,h1,h2,h3⟩
   ·exact .inl λk hk fk=>by
     by_cases e:k=n
     ·exact fn (e ▸ fk)
     ·exact ih k (by omega) fk
   ·exact .inr ⟨p,by omega,h2,λk hk fk=>by
     by_cases e:k=n
     ·exact absurd (e ▸ fk) fn
     ·exact h3 k (by omega) fk⟩
def vT (y:Rat):Int:=if 0 < y then 1 else -1
def w4 (rows:List (List Int)) (cs:List Nat) (us:List Int) (p n:Nat):List (Int × Int):=yS (xL rows cs p (vT (YC rows n cs us p)) n) n
section
variable (rows:List (List Int)) (n count:Nat) (us:List Int)
inductive jH:Nat->List Nat->wR->Prop
 | mst {m:Nat} {cs:List Nat} (h:∀ k,k < n->¬ xv rows n count us cs k):jH m cs (.mst (zY (yR us (zm rows cs n)).1 (yR us (zm rows cs n)).2,zM (yR us (zm rows cs n)).1 (yR us (zm rows cs n)).2) (yO (zp rows cs us n)) (spr count cs (yU (zp rows cs us n))) (zm rows cs n))
 | opn {m:Nat} {cs:List Nat} {p:Nat} (h:uA (xv rows n count us cs) cs n p) (no:∀ k,k < count->¬ 0 < VA rows n k (zt (w4 rows cs us p n))):jH m cs (.opn (zm rows cs n) (yU (w4 rows cs us p n)))
 | go {m:Nat} {cs:List Nat} {p r:Nat} {R:wR} (h:uA (xv rows n count us cs) cs n p) (M:vS rows n count (XC rows n cs) (zt (w4 rows cs us p n)) r) (z:jH m (cs.set p r) R):jH (m + 1) cs R
def gA (cs:List Nat) (r:Nat):Prop:=r < count/\BA rows n r < VA rows n r (XC rows n cs)/\∀ i,i < r->VA rows n i (XC rows n cs)<=BA rows n i
def yz (w:List (Int × Int)):List (Int × Int):=w.map λp=>(zY (-p.1) p.2,zM (-p.1) p.2)
inductive uB:Nat->List Nat->wR->Prop
 | done {m k:Nat} {cs:List Nat} {R:wR} (h:Fe rows n count cs) (z:jH rows n count us k cs R):uB m cs R
 | emp {m:Nat} {cs:List Nat} {r:Nat} (h:gA rows n count cs r) (no:∀ k,k < n->¬ 0 < YC rows n cs (rows.getD r []) k):uB m cs (.emp (spr count (cs++[r]) (yU (yz (zp rows cs (rows.getD r []) n)++[(zY 1 1,zM 1 1)]))))
 | go {m:Nat} {cs:List Nat} {p r:Nat} {R:wR} (h:gA rows n count cs r) (l:uA (λk=>0 < YC rows n cs (rows.getD r []) k) cs n p) (z:uB m (cs.set p r) R):uB (m + 1) cs R
end
end Sh
set_option linter.all false
namespace Sh
section
variable {rows:List (List Int)} {n count:Nat} {cs:List Nat} {us:List Int}
theorem Cr.wLen (C:Cr rows n cs) (us:List Int):(zp rows cs us n).length=n/\∀ p∈zp rows cs us n,0 < p.2:=⟨(qG (C.sqW us) (C.detW us)).1,(qG (C.sqW us) (C.detW us)).2.1⟩
theorem Cr.wayIs (C:Cr rows n cs) {p:Nat} (hp:p < n):q9 rows n cs us p (zt (w4 rows cs us p n)):=by
 refine ⟨λk hk ne=>?_,?_⟩
 ·have z:=C.way p (vT (YC rows n cs us p)) hk
  rw [if_neg (λe=>ne (C.inj hk hp e))] at z
  exact z
 ·have z:=C.way p (vT (YC rows n cs us p)) hp
  rw [if_pos rfl] at z
  refine Eq.trans z ?_
  unfold vT
  split <;> rfl
theorem JC {us:List Int} (lu:us.length=n) (q:Nat->Rat):jY us q=vl n us q:=by
 unfold jY vl
 rw [lu]
theorem JD {us:List Int} {pts:List (Int × Int)} (lu:us.length=pts.length) (hp:∀ p∈pts,0 < p.2):0 < (yR us pts).2/\(((yR us pts).1:Int):Rat)=jY us (zt pts) * (((yR us pts).2:Int):Rat):=by
 obtain ⟨h1,h2⟩:=zIg (zt pts) us pts (0,1) 0 lu hp (λj _=>by rw [fC]; rfl) (by decide)
 refine ⟨h1,h2.trans ?_⟩
 show _=jY us (zt pts) * ((((us.zip pts).foldl jF (0,1)).2:Int):Rat)
 congr 1
 have z:zX (0,1)=0:=by
  refine WJ (by decide) ?_
  show ((0:Int):Rat)=0 * ((1:Int):Rat)
  rw [my]
  rfl
 rw [z,Rat.zero_add]
 exact wX λj _=>by rw [fC]
end
end Sh
set_option linter.all false
namespace Sh
theorem zJO {a1 b1 a2 b2 a3 b3:Rat} (p1:0 < b1) (p2:0 < b2) (p3:0 < b3) (h:a1 * b2 < a2 * b1) (k:a2 * b3<=a3 * b2):a1 * b3 < a3 * b1:=by
 apply cZ
 intro c
 have c':a3 * b1<=a1 * b3:=by grind
 have x:=dn h p3
 have y:=dJ k (dN p1)
 have z:=dJ c' (dN p2)
 grind
theorem JE (rows:List (List Int)) (n:Nat) (x d:Nat->Rat):∀ count:Nat,(∀ k,k < count->¬ 0 < VA rows n k d)\/∃ r,vS rows n count x d r
 | 0=>.inl λk hk=>absurd hk (e8 k)
 | c + 1=>by
  by_cases p:0 < VA rows n c d
  ·right
   rcases JE rows n x d c with no | ⟨r,h1,h2,h3,h4⟩
   ·exact ⟨c,dC c,p,λk hk z=>absurd z (no k hk),λk hk z=>by
     by_cases e:k=c
     ·rw [e]; exact iq
     ·exact absurd z (no k (by omega))⟩
   ·by_cases lt:(BA rows n c - VA rows n c x) * VA rows n r d < (BA rows n r - VA rows n r x) * VA rows n c d
    ·have all:∀ k,k < c->0 < VA rows n k d->(BA rows n c - VA rows n c x) * VA rows n k d < (BA rows n k - VA rows n k x) * VA rows n c d:=λk hk z=>zJO p h2 z lt (h4 k hk z)
     exact ⟨c,dC c,p,all,λk hk z=>by
      by_cases e:k=c
      ·rw [e]; exact iq
      ·exact dN (all k (by omega) z)⟩
    ·exact ⟨r,by omega,h2,h3,λk hk z=>by
      by_cases e:k=c
      ·rw [e]; grind
      ·exact h4 k (by omega) z⟩
  ·rcases JE rows n x d c with no | ⟨r,h1,h2,h3,h4⟩
   ·exact .inl λk hk z=>by
     by_cases e:k=c
     ·exact p (e ▸ z)
     ·exact no k (by omega) z
   ·exact .inr ⟨r,by omega,h2,h3,λk hk z=>by
     by_cases e:k=c
     ·exact absurd (e ▸ z) p
     ·exact h4 k (by omega) z⟩
theorem zJH (P:Nat->Prop):∀ c:Nat,(∀ i,i < c->¬ P i)\/∃ r,r < c/\P r/\∀ i,i < r->¬ P i
 | 0=>.inl λk hk=>absurd hk (e8 k)
 | c + 1=>by
  rcases zJH P c with no | ⟨r,h1,h2,h3⟩
  ·by_cases p:P c
   ·exact .inr ⟨c,dC c,p,no⟩
   ·exact .inl λi hi z=>by
     by_cases e:i=c
     ·exact p (e ▸ z)
     ·exact no i (by omega) z
  ·exact .inr ⟨r,by omega,h2,h3⟩
section
variable {rows:List (List Int)} {n count:Nat} {us:List Int}
theorem zJR {S:List Nat->List Nat->Prop} {B:Nat->List Nat} {m:Nat} (hS:∀ a b,S a b->Cr rows n a/\Cr rows n b) (h:∀ t,t < m->S (B t) (B (t + 1))) (m0:0 < m):∀ t,t<=m->(B t).length=n/\∀ i∈B t,i < rows.length:=λt ht=>by
 have C:Cr rows n (B t):=by
  by_cases e:t < m
  ·exact (hS _ _ (h t e)).1
  ·have z:=(hS _ _ (h (t - 1) (by omega))).2
   rw [show t - 1 + 1=t by omega] at z
   exact z
 exact ⟨C.len,C.lt⟩
theorem zNf (hc:count<=rows.length) (cs:List Nat):Cr rows n cs->Fe rows n count cs->∃ m R,jH rows n count us m cs R:=by
 refine Zj (λcs cs'=>(Cr rows n cs/\Cr rows n cs')/\∃ q:(Nat->Rat) × Nat × Nat × (Nat->Rat) × Rat,Bl.CStep (VA rows n) (BA rows n) (vl n us) count cs cs' (XC rows n cs) (XC rows n cs') q.1 q.2.1 q.2.2.1 q.2.2.2.1 q.2.2.2.2) (rows.length ^ n + 1) (λB m h=>?_)
  (P:=λcs=>Cr rows n cs->Fe rows n count cs->∃ m R,jH rows n count us m cs R) (λcs ih C F=>?_) cs
 ·by_cases m0:0 < m
  ·have F:∀ t,∃ q:(Nat->Rat) × Nat × Nat × (Nat->Rat) × Rat,t < m->Bl.CStep (VA rows n) (BA rows n) (vl n us) count (B t) (B (t + 1)) (XC rows n (B t)) (XC rows n (B (t + 1))) q.1 q.2.1 q.2.2.1 q.2.2.2.1 q.2.2.2.2:=λt=>by
    by_cases e:t < m
    ·obtain ⟨q,hq⟩:=(h t e).2
     exact ⟨q,λ_=>hq⟩
    ·exact ⟨(λ_=>0,0,0,λ_=>0,0),λz=>absurd z e⟩
   obtain ⟨f,hf⟩:=iV F
   have:=Bl.climb_few (B:=B) (x:=λt=>XC rows n (B t)) (d:=λt=>(f t).1) (p:=λt=>(f t).2.1) (r:=λt=>(f t).2.2.1) (y:=λt=>(f t).2.2.2.1) (s:=λt=>(f t).2.2.2.2) (N:=rows.length) (n:=n) hf (zJR (S:=λa b=>Cr rows n a/\Cr rows n b) (λa b z=>z) (λt ht=>(h t ht).1) m0)
   omega
  ·omega
 ·rcases JB (xv rows n count us cs) cs n with no | ⟨p,L⟩
  ·exact ⟨0,_,.mst no⟩
  ·have W:=C.wayIs (us:=us) L.lt
   rcases JE rows n (XC rows n cs) (zt (w4 rows cs us p n)) count with no | ⟨r,M⟩
   ·exact ⟨0,_,.opn L no⟩
   ·have C':=(WL C hc L.lt W M.lt M.up).1
    obtain ⟨s,st⟩:=zJ9 C F hc L.lt L.fit L.least W M
    obtain ⟨m,R,h1⟩:=ih _ ⟨⟨C,C'⟩,(_,_,_,_,_),st⟩ C' (zNg C F hc L.lt W M)
    exact ⟨m + 1,R,.go L M h1⟩
theorem zPO (hc:count<=rows.length) (cs:List Nat):Cr rows n cs->∃ m R,uB rows n count us m cs R:=by
 refine Zj (λcs cs'=>(Cr rows n cs/\Cr rows n cs')/\∃ q:Nat × Nat × (Nat->Rat),Bl.FStep (VA rows n) (BA rows n) count cs cs' (XC rows n cs) q.1 q.2.1 q.2.2) (rows.length ^ n + 1) (λB m h=>?_)
  (P:=λcs=>Cr rows n cs->∃ m R,uB rows n count us m cs R) (λcs ih C=>?_) cs
 ·by_cases m0:0 < m
  ·have F:∀ t,∃ q:Nat × Nat × (Nat->Rat),t < m->Bl.FStep (VA rows n) (BA rows n) count (B t) (B (t + 1)) (XC rows n (B t)) q.1 q.2.1 q.2.2:=λt=>by
    by_cases e:t < m
    ·obtain ⟨q,hq⟩:=(h t e).2
     exact ⟨q,λ_=>hq⟩
    ·exact ⟨(0,0,λ_=>0),λz=>absurd z e⟩
   obtain ⟨f,hf⟩:=iV F
   have:=Bl.feas_few (B:=B) (x:=λt=>XC rows n (B t)) (p:=λt=>(f t).1) (r:=λt=>(f t).2.1) (w:=λt=>(f t).2.2) (N:=rows.length) (n:=n) hf (zJR (S:=λa b=>Cr rows n a/\Cr rows n b) (λa b z=>z) (λt ht=>(h t ht).1) m0)
   omega
  ·omega
 ·rcases zJH (λi=>BA rows n i < VA rows n i (XC rows n cs)) count with no | ⟨r,r1,r2,r3⟩
  ·have F:Fe rows n count cs:=λi hi=>by
    have:=no i hi
    grind
   obtain ⟨k,R,h1⟩:=zNf hc cs C F
   exact ⟨0,R,.done F h1⟩
  ·have FB:gA rows n count cs r:=⟨r1,r2,λi hi=>by
    have:=r3 i hi
    grind⟩
   rcases JB (λk=>0 < YC rows n cs (rows.getD r []) k) cs n with no | ⟨p,L⟩
   ·exact ⟨0,_,.emp FB no⟩
   ·have w0:YC rows n cs (rows.getD r []) p≠0:=λz=>by
     have:=L.fit
     rw [z] at this
     exact absurd this eV
    have C':=C.exch L.lt (by omega) w0
    obtain ⟨m,R,h1⟩:=ih _ ⟨⟨C,C'⟩,(_,_,_),zLh C hc r1 r2 FB.2.2 L.lt L.fit L.least⟩ C'
    exact ⟨m + 1,R,.go FB L h1⟩
end
end Sh
set_option linter.all false
namespace Sh
def vU (rows:List (List Int)) (n count:Nat) (us:List Int) (cs:List Nat) (k:Nat):Prop:=count<=cs.getD k 0/\YC rows n cs us k≠0
open Classical in
noncomputable def FC (rows:List (List Int)) (n count:Nat):Nat->List Nat
 | 0=>(cR n).map λk=>count + k
 | i + 1=>if h:∃ p,uA (vU rows n count (rows.getD i []) (FC rows n count i)) (FC rows n count i) n p then (FC rows n count i).set (Classical.choose h) i else FC rows n count i
structure uk (rows:List (List Int)) (n count:Nat):Prop where
 n1:1<=n
 n3:n<=2
 row:∀ r∈rows,r.length=n + 1
 len:rows.length=count + n
 ax:∀ k,k < n->∀ j,j < n->(rows.getD (count + k) []).getD j 0=if j=k then 1 else 0
section
variable {rows:List (List Int)} {n count:Nat}
theorem zPd (h:uk rows n count):Cr rows n (FC rows n count 0):=by
 have n1:=h.n1
 have n3:=h.n3
 have hl:(FC rows n count 0).length=n:=by
  show ((cR n).map λk=>count + k).length=n
  rw [a_,cT]
 refine ⟨n1,n3,h.row,hl,λc hc=>?_,?_⟩
 ·have hc':c∈(cR n).map λk=>count + k:=hc
  obtain ⟨k,hk,e⟩:=cH.mp hc'
  have:=dz.mp hk
  have:=h.len
  omega
 ·rw [kD,show (y9 rows (FC rows n count 0)).length=n by unfold y9; rw [a_,hl],kE (g:=λq j=>if j=q then 1 else 0) n1 n3 λq j hq hj=>?_]
  ·rcases (by omega:n=1\/n=2\/n=3) with rfl | rfl | rfl <;> decide
  ·unfold y9
   rw [uj (d:=0) (by rw [hl]; exact hq)]
   show (rows.getD (((cR n).map λk=>count + k).getD q 0) []).getD j 0=_
   rw [kF hq]
   exact h.ax q hq j hj
theorem uA.one {F:Nat->Prop} {cs:List Nat} {p q:Nat} (C:Cr rows n cs) (h:uA F cs n p) (k:uA F cs n q):p=q:=C.inj h.lt k.lt (Nat.le_antisymm (h.least q k.lt k.fit) (k.least p h.lt h.fit))
open Classical in
theorem zLk (i:Nat) (C:Cr rows n (FC rows n count i)) {p:Nat} (h:uA (vU rows n count (rows.getD i []) (FC rows n count i)) (FC rows n count i) n p):FC rows n count (i + 1)=(FC rows n count i).set p i:=by
 have ex:∃ p,uA (vU rows n count (rows.getD i []) (FC rows n count i)) (FC rows n count i) n p:=⟨p,h⟩
 show (if h:_ then _ else _)=_
 rw [dif_pos ex,uA.one C (h9 ex) h]
open Classical in
theorem JF (i:Nat) (h:∀ k,k < n->¬ vU rows n count (rows.getD i []) (FC rows n count i) k):FC rows n count (i + 1)=FC rows n count i:=by
 show (if h:_ then _ else _)=_
 rw [dif_neg λ⟨p,z⟩=>h p z.lt z.fit]
theorem Zk (h:uk rows n count):∀ i,i<=count->Cr rows n (FC rows n count i)
 | 0,_=>zPd h
 | i + 1,hi=>by
  have C:=Zk h i (by omega)
  have hl:=h.len
  rcases JB (vU rows n count (rows.getD i []) (FC rows n count i)) (FC rows n count i) n with no | ⟨p,L⟩
  ·rw [JF i no]; exact C
  ·rw [zLk i C L]; exact C.exch L.lt (by omega) L.fit.2
theorem zLj {i:Nat} (h:∀ k,k < n->¬ count<=(FC rows n count i).getD k 0):∀ j,FC rows n count (i + j)=FC rows n count i
 | 0=>rfl
 | j + 1=>by
  have z:=zLj h j
  have e:=JF (rows:=rows) (n:=n) (count:=count) (i + j) λk hk f=>h k hk (by
   have:=f.1
   rw [z] at this
   exact this)
  show FC rows n count (i + j + 1)=_
  rw [e,z]
theorem zND {us:List Int} (h:uk rows n count):∃ m R,uB rows n count us m (FC rows n count count) R:=zPO (by have:=h.len; omega) _ (Zk h count (cF _))
end
end Sh
namespace L2
open PySem PySem.Spec PyProof.Rows
def vk (t:Bool) (K:b') (H:Hp) (a:Addr) (xs:List V):Prop:=match t with
 | true=>ym K H a xs
 | false=>zl K H a xs
def uP (t:Bool) (h:Heap) (a:Addr) (its:Array Value):Prop:=match t with
 | true=>h.IsTuple a its
 | false=>h.IsList a its
def ja (t:Bool) (h:Heap) (i a:Addr) (n:Nat):Prop:=match t with
 | true=>h.IsTupleIter i a n
 | false=>h.IsListIter i a n
def qJ (t:Bool) (a:Addr):Obj:=match t with
 | true=>{ cls:=.type "tuple_iterator",data:=.fields #[.ref a,.int 0 0] }
 | false=>{ cls:=.type "list_iterator",data:=.fields #[.ref a,.int 0 0] }
section
variable {X:Cx} {pins:List (Addr × Obj)} {σ:St} {H:Hp} {s:Shared} {a i:Addr} {xs ys:List V} {h h':Heap} {n:Nat} {its:Array Value} {prog:Program} {w:World} {A:Around} {E:Value->Shared->Prop}
theorem WM:∀ {t:Bool},ja t h i a n->∃ o,h.get? i=some o/\∀ v,o.data≠.cell v
 | true,⟨o,e,_,d⟩=>⟨o,e,by rw [d]; exact ZT⟩
 | false,⟨o,e,_,d⟩=>⟨o,e,by rw [d]; exact ZT⟩
theorem WN (k:∀ o,h.get? i=some o->h'.get? i=some o):∀ {t:Bool},ja t h i a n->ja t h' i a n
 | true,⟨o,e,r⟩=>⟨o,k o e,r⟩
 | false,⟨o,e,r⟩=>⟨o,k o e,r⟩
theorem zRk (k:∀ o,h.get? a=some o->h'.get? a=some o):∀ {t:Bool},uP t h a its->uP t h' a its
 | true,⟨o,e,r⟩=>⟨o,k o e,r⟩
 | false,⟨o,e,r⟩=>⟨o,k o e,r⟩
theorem zOE:∀ {t:Bool},uP t h a its->a < h.objs.size
 | true,⟨_,e,_⟩=>cS e
 | false,⟨_,e,_⟩=>cS e
theorem zRl (e:h.get? i=some (qJ t a)):ja t h i a 0:=by
 cases t
 ·exact ⟨_,e,rfl,rfl⟩
 ·exact ⟨_,e,rfl,rfl⟩
theorem zRi {t:Bool}:(qJ t a).isFreed=false:=by cases t <;> rfl
theorem kH (I:zE X pins σ H s):∀ {t:Bool},vk t X.K H a xs->∃ its:List Value,zK xs its/\uP t s.heap a its.toArray
 | true,q=>let ⟨its,r,p,_⟩:=I.tuple q; ⟨its,r,p⟩
 | false,q=>let ⟨its,r,p,_⟩:=I.list q; ⟨its,r,p.isList⟩
theorem zKR (I:zE X pins σ H s):∀ {t:Bool},vk t X.K H a xs->vk t X.K H a ys->xs=ys
 | true,q,r=>I.tuple_inj q r
 | false,q,r=>I.list_inj q r
theorem WO (hh:A.handled=none) (hne:a≠i) (its:Array Value):∀ t:Bool,Draws prog w A i [i,a] its.size (λn v=>its[n]? = some v) (λn h=>ja t h i a n/\uP t h a its)
 | true=>zLu hh i a hne its
 | false=>Draws.list hh i a hne its
theorem zRg {Q:Value->Shared->Prop}:∀ {t:Bool},uP t s.heap a its->Q (.ref s.heap.objs.size) { s with heap:=s.heap.push (qJ t a) }->wpAny (model prog w) A (pyIter (.ref a)) Q E s
 | true,q,r=>wpAny_pyIter_tuple q r
 | false,q,r=>wpAny_pyIter_list q r
end
def JG (t u:Bool) (K:b') (a b:Addr):It:=
 ⟨λi H=>∃ xs ys x y,vk t K H a xs/\vk u K H b ys/\xs[i]? = some x/\ys[i]? = some y,
  λi H v H'=>∃ T x y,v=.ref T/\H T=none/\H'=za H T (.tup [x,y])/\(∀ xs,vk t K H a xs->xs[i]? = some x)/\∀ ys,vk u K H b ys->ys[i]? = some y,
  λi H=>∃ xs ys,vk t K H a xs/\vk u K H b ys/\i<=xs.length/\i<=ys.length/\(i=xs.length\/i=ys.length)⟩
theorem zKL {t u:Bool} {P:Program} {w:World} {K:b'} {es:List Expr} {kk:Nat} {tp:Pos} {a b z TI TO i1 i2:Addr} (Z:Zp z TI TO i1 i2 [i1,a] [i2,b]) (na:a≠i1) (nb:b≠i2) :
  vL P w K (.Tuple es kk tp) (JG t u K a b) [z,TI,TO,i1,i2] z (λi h=>IsZip h z TI TO .none/\IsPair h TI (.ref i1) (.ref i2)/\(∃ x y,IsPair h TO x y)/\ja t h i1 a i/\ja u h i2 b i) where
 mem:=by simp
 obj:=λi h ⟨t1,t2,⟨x,y,t3⟩,t4,t5⟩ c hc=>by
  simp only [da,dL,or_false] at hc
  rcases hc with rfl | rfl | rfl | rfl | rfl
  ·exact ⟨_,t1,ZT⟩
  ·exact ⟨_,t2,zEy⟩
  ·exact ⟨_,t3,zEy⟩
  ·exact WM t4
  ·exact WM t5
 keep:=λi h h' ⟨t1,t2,⟨x,y,t3⟩,t4,t5⟩ k=>⟨k z (by simp) _ t1,k TI (by simp) _ t2,⟨x,y,k TO (by simp) _ t3⟩,WN (k i1 (by simp)) t4,WN (k i2 (by simp)) t5⟩
 item:=by
  intro X hP hw hK hc i pins s σ H E I hf ⟨t1,t2,⟨x0,y0,t3⟩,t4,t5⟩ hg
  subst hP hw hK
  obtain ⟨xs,ys,x,y,hq1,hq2,hx,hy⟩:=hg
  obtain ⟨its1,rv1,p1⟩:=kH I hq1
  obtain ⟨its2,rv2,p2⟩:=kH I hq2
  obtain ⟨u',hu,ru⟩:=rv1.get hx
  obtain ⟨v,hv,rv⟩:=rv2.get hy
  have hh:X.A.in1.handled=none:=I.ok.hd hc
  have l1:i < its1.toArray.size:=by rw [cM]; exact (cK.mp hu).1
  have l2:i < its2.toArray.size:=by rw [cM]; exact (cK.mp hv).1
  refine zMH (WO hh na its1.toArray t) (WO hh nb its2.toArray u) Z t1 t2 t3 ⟨t4,p1⟩ ⟨t5,p2⟩ l1 l2 ?_
  intro x' y' h1 tk px py z1 z2 z3 z4 z5 z6 keep
  simp only [i8] at px py
  rw [hu] at px
  rw [hv] at py
  cases px
  cases py
  refine ⟨_,rfl,wpAny_letOwnedTupleGo_zip (s:={ s with heap:=h1,toks:=tk }) z1 λh2 z7 sb=>?_⟩
  have zlt:z < s.heap.objs.size:=cS t1
  have keep2:∀ c o,c∉[z,TI,TO,i1,i2]->s.heap.get? c=some o->h2.get? c=some o:=λc o hc e=>by
   simp only [da,dL,or_false,not_or] at hc
   exact sb.extBut c o hc.1 (keep c o hc.1 hc.2.2.1 hc.2.2.2.1 hc.2.2.2.2 e)
  have I':=I.turnT (h':=h2) (tk:=tk) (ch:=[z,TI,TO,i1,i2]) (x:=x) (y:=y) hf keep2 (cF _) (sb.extBut _ _ (fJ zlt) z6) ru rv
  refine ⟨.ref s.heap.objs.size,_,I',rfl,⟨s.heap.objs.size,x,y,rfl,I.hok.fresh (cF _),rfl,λxs' q=>by rw [zKR I q hq1]; exact hx,λys' q=>by rw [zKR I q hq2]; exact hy⟩,
   ⟨z7,sb.extBut _ _ Z.a1 z2,⟨_,_,sb.extBut _ _ Z.a2 z3⟩,WN (λo=>sb.extBut _ o Z.a3) z4.1,WN (λo=>sb.extBut _ o Z.a4) z5.1⟩,λc hc=>?_⟩
  have:=(hf c hc).1
  rw [zu]
  ·exact this
  ·intro q
   obtain ⟨o,e⟩:∃ o,s.heap.get? c=some o:=by
    simp only [da,dL,or_false] at hc
    rcases hc with rfl | rfl | rfl | rfl | rfl
    ·exact ⟨_,t1⟩
    ·exact ⟨_,t2⟩
    ·exact ⟨_,t3⟩
    ·obtain ⟨o,e,_⟩:=WM t4; exact ⟨o,e⟩
    ·obtain ⟨o,e,_⟩:=WM t5; exact ⟨o,e⟩
   rw [q] at e
   exact absurd (cS e) (dy _)
 done:=by
  intro X hP hw hK hc i pins s σ H E I hf ⟨t1,t2,⟨x0,y0,t3⟩,t4,t5⟩ hg
  subst hP hw hK
  obtain ⟨xs,ys,hq1,hq2,e1,e2,e3⟩:=hg
  obtain ⟨its1,rv1,p1⟩:=kH I hq1
  obtain ⟨its2,rv2,p2⟩:=kH I hq2
  have hh:X.A.in1.handled=none:=I.ok.hd hc
  have n1:its1.toArray.size=xs.length:=by rw [cM]; exact rv1.length.symm
  have n2:its2.toArray.size=ys.length:=by rw [cM]; exact rv2.length.symm
  refine zOU (WO hh na its1.toArray t) (WO hh nb its2.toArray u) Z t1 t2 t3 ⟨t4,p1⟩ ⟨t5,p2⟩ (by omega) (by omega) (by omega) ?_
  intro h1 tk keep
  refine ⟨rfl,I.turnN (h':=h1) (tk:=tk) (ch:=[z,TI,TO,i1,i2]) hf λc o hc e=>?_⟩
  simp only [da,dL,or_false,not_or] at hc
  exact keep c o hc.1 hc.2.2.1 hc.2.2.2.1 hc.2.2.2.2 e
 self:=λ_ _ _ _ _ st h=>wpAny_pyIter_zip st.1 h
abbrev gB (t u:Bool) (h:Heap) (a b:Addr):Heap:=(h.push (qJ t a)).push (qJ u b)
abbrev gC (t u:Bool) (h:Heap) (a b:Addr):Heap:=(gB t u h a b).push { cls:=.type "tuple",data:=.seq #[.ref h.objs.size,.ref (h.push (qJ t a)).objs.size] }
abbrev jb (t u:Bool) (h:Heap) (a b:Addr):Heap:=(gC t u h a b).push { cls:=.type "tuple",data:=.seq #[.none,.none] }
abbrev uC (t u:Bool) (h:Heap) (a b:Addr):Heap:=(jb t u h a b).push { cls:=.type "zip",data:=.fields #[.none,.bool false,.bool false,.ref (gB t u h a b).objs.size,.ref (gC t u h a b).objs.size] }
theorem zMI (t u:Bool) (a b:Addr) (xs ys:Array Value) :
  Meets (Builtin.«zip.__new__» ⟨[.type "zip",.ref a,.ref b],[]⟩) (λ_ R s=>uP t s.heap a xs/\uP u s.heap b ys/\R (.ok (.ret (.ref (jb t u s.heap a b).objs.size))) { s with heap:=uC t u s.heap a b }):=
 .of_wp λprog w A R s h=>by
  obtain ⟨hp,g,d,tk,os⟩:=s; obtain ⟨h1,h2,h⟩:=h
  have hsub:=sub_zip
  have e1:uP t (Shared.heap ⟨hp,g,d,tk,os⟩) a xs:=h1
  have e2:uP u (Shared.heap ⟨hp.push (qJ t a),g,d,tk,os⟩) b ys:=zRk (λ_ e=>cE _ e) h2
  wp_walk using zRg e1,zRg e2
  exact ⟨_,rfl,h⟩
theorem zL3 {t u:Bool} {prog:Program} {w:World} {A:Around} {E:Value->Shared->Prop} {s:Shared} {a b:Addr} {xs ys:Array Value} {Q:Value->Shared->Prop} (h1:uP t s.heap a xs) (h2:uP u s.heap b ys)
  (h:∀ h',IsZip h' (s.heap.objs.size + 4) (s.heap.objs.size + 2) (s.heap.objs.size + 3) .none->IsPair h' (s.heap.objs.size + 2) (.ref s.heap.objs.size) (.ref (s.heap.objs.size + 1))->IsPair h' (s.heap.objs.size + 3) .none .none->
   ja t h' s.heap.objs.size a 0->ja u h' (s.heap.objs.size + 1) b 0->(∀ c o,s.heap.get? c=some o->h'.get? c=some o)->Q (.ref (s.heap.objs.size + 4)) { s with heap:=h' }) :
  wpAny (model prog w) A (call (.type "zip") [.ref a,.ref b]) Q E s:=by
 refine callType_new F.called_zip (by decide) (F.typeCall_zip_2 _ _) (F.newCall_zip_2 _ _) (λobj=>F.args_object_init_3 obj _ _) F.entry_zip_new (zMI t u a b xs ys) ⟨h1,h2,?_⟩
 have g:∀ {h:Heap} {c:Addr} {o o':Obj},h.get? c=some o->(h.push o').get? c=some o:=λe=>cE _ e
 have p5:(uC t u s.heap a b).get? (jb t u s.heap a b).objs.size=some _:=cW _ rfl
 have p4:(uC t u s.heap a b).get? (gC t u s.heap a b).objs.size=some _:=g (cW _ rfl)
 have p3:(uC t u s.heap a b).get? (gB t u s.heap a b).objs.size=some _:=g (g (cW _ rfl))
 have p2:(uC t u s.heap a b).get? (s.heap.push (qJ t a)).objs.size=some _:=g (g (g (cW _ zRi)))
 have p1:(uC t u s.heap a b).get? s.heap.objs.size=some _:=g (g (g (g (cW _ zRi))))
 change _/\_
 simp only [eX] at p5 p4 p3 p2
 have n4:(jb t u s.heap a b).objs.size=s.heap.objs.size + 4:=by simp only [eX]
 rw [n4]
 refine ⟨⟨_,by rw [<- n4]; exact cW _ rfl,rfl⟩,h _ ?_ ?_ ?_ (zRl p1) (zRl p2) λc o x=>g (g (g (g (g x))))⟩
 ·exact p5
 ·exact p3
 ·exact p4
def Zl (K:b') (ta:TA):TI:=λσ H R=>ta σ H λvs H1=>∃ a b t u,vs=[.ref a,.ref b]/\(∃ xs,vk t K H1 a xs)/\(∃ ys,vk u K H1 b ys)/\R (JG t u K a b) H1
theorem zOw {X:Cx} {es:List Expr} {kk:Nat} {tp:Pos} {e1 e2:Expr} {ta:TA} {p pos:Pos} (hg:Gl X "zip") (hm:X.mg "zip" = none) (ha:PA X [e1,e2] ta) (hs:starEach [e1,e2] X.env=[(false,eval e1 X.env),(false,eval e2 X.env)]:=by rfl) (hs2:starEach [e2] X.env=[(false,eval e2 X.env)]:=by rfl) :
  PI X (.Tuple es kk tp) (.Call (.Name "zip" p) [e1,e2] [] pos) (Zl X.K ta):=by
 intro pins s σ H R I h
 refine Call_ (j5 I hg hm (show bootBuiltins "zip" = some (.type "zip") by decide +kernel) (PyProof.Rows.callWith_type1 (zj (ha pos pins s σ H _ I h) λus s1 ⟨vs,H1,I1,r1,q1⟩=>?_) (by rw [hs,hs2]) (by rw [hs2]; rfl)))
 obtain ⟨a,b,t,u,e,⟨xs,hx⟩,⟨ys,hy⟩,q⟩:=q1
 subst e
 obtain ⟨u',v,rfl,ru,rv⟩:=ZJ r1
 cases ru
 cases rv
 obtain ⟨its1,rv1,p1⟩:=kH I1 hx
 obtain ⟨its2,rv2,p2⟩:=kH I1 hy
 have la:=zOE p1
 have lb:=zOE p2
 refine zL3 p1 p2 λh' z1 z2 z3 z4 z5 keep=>wpAny_pyIter_zip z1 ?_
 have I2:zE X pins σ H1 { s1 with heap:=h' }:=I1.kept (t':=s1.toks) keep
 exact ⟨s1.heap.objs.size + 4,[s1.heap.objs.size + 4,s1.heap.objs.size + 2,s1.heap.objs.size + 3,s1.heap.objs.size,s1.heap.objs.size + 1],_,_,H1,rfl,I2,
  zKL (a:=a) (b:=b) (ZU _ _ _ la lb) (dA la) (dA (g_ lb)),⟨z1,z2,⟨_,_,z3⟩,z4,z5⟩,λc hc=>Ux I1 hc,q⟩
end L2
namespace L2
open PySem PySem.Spec PyProof.Rows
def tsK (prog:Program) (w:World) (A:Around) (cs:List Expr) (env:Env) (Q:Bool->Shared->Prop) (s:Shared):Prop:=match cs with
 | []=>Q true s
 | c :: _=>wpAny (model prog w) A (isTrue c env (eval c env)) Q (λ_ _=>False) s
def Zm (X:Cx) (cs:List Expr) (tc:TT):Prop:=match cs with
 | []=>∀ σ H Q,tc σ H Q->Q true H
 | c :: _=>PT X c tc
theorem zQF {X:Cx} {scope:Scope} {b0:_} {C:Addr} {s₀:Shared} {H₀:Hp} {ex:List Addr} {cs:List Expr} {tc:TT} {pins:List (Addr × Obj)} {σ:St} {H:Hp} {s:Shared} {Q:Bool->Hp->Prop} {G:Bool->Shared->Prop} (h:Zm (y4 X scope b0 C s₀ H₀ ex) cs tc) (I:zE (y4 X scope b0 C s₀ H₀ ex) pins σ H s) (q:tc σ H Q)
  (k:∀ ok s' H',zE (y4 X scope b0 C s₀ H₀ ex) pins σ H' s'->Q ok H'->G ok s'):tsK X.prog X.w X.A cs (y4 X scope b0 C s₀ H₀ ex).env G s:=by
 cases cs with
 | nil=>exact k true s H I (h _ _ _ q)
 | cons c cs=>exact zj (h pins s σ H _ I q) λok s' ⟨H',I',q'⟩=>k ok s' H' I' q'
section
variable {prog:Program} {w:World} {A:Around} {R:Result->Shared->Prop} {s:Shared}
theorem zIX {elt target iter:Expr} {cs:List Expr} {scope:Scope} {pos:Pos} {it acc:Value} {env:Env} (Wd:Nat->Shared->Prop)
  (yz:∀ n s,Wd n s->wpAny (model prog w) A (pyNext it) (λr s1=>match r with
   | none=>R (.ok .next) s1
   | some v=>wpAny (model prog w) A (letOwnedTupleGo target it v) (λ_ s2=>wpAny (model prog w) A (assign target env v) (λ_ s3=>tsK prog w A cs env (λok s4=>
     if ok=true then wpAny (model prog w) A (eval elt env) (λx s5=>wpAny (model prog w) A (call (.builtin "list.append") [acc,x]) (λ_ s6=>∃ m,m < n/\Wd m s6) (λ_ _=>False) s5) (λ_ _=>False) s4
     else ∃ m,m < n/\Wd m s4) s3) (λ_ _=>False) s2) (λ_ _=>False) s1) (λ_ _=>False) s)
  (hcs:cs=[]\/∃ c,cs=[c]) (n:Nat) (h:Wd n s):codeAny (model prog w) A (.compLoop (.ListComp elt [⟨target,iter,cs,0⟩] scope pos) 0 it acc env) R s:=by
 refine codeAny_loop rfl Wd (λn s hI=>?_) n h
 show wpAny _ _ (Sem.onRaise (compTurn (.ListComp elt [⟨target,iter,cs,0⟩] scope pos) 0 it acc env) _) _ _ s
 refine wpAny_noted ?_
 have go:wpAny (model prog w) A (pyNext it) _ _ s:=yz n s hI
 rcases hcs with rfl | ⟨c,rfl⟩
 ·rw [compTurn_list1]
  refine wpAny_bind (wpAny_standAt (wpAny_bind (wpAny_mono go (λr s1 h1=>?_) λ_ _ z=>False.elim z)))
  cases r with
  | none=>exact wpAny_pure h1
  | some v=>
   refine wpAny_bind (wpAny_mono h1 (λ_ s2 h2=>?_) λ_ _ z=>False.elim z)
   refine wpAny_bind (wpAny_mono h2 (λ_ s3 h3=>?_) λ_ _ z=>False.elim z)
   refine wpAny_bind (wpAny_bind (wpAny_mono h3 (λx s4 h4=>?_) λ_ _ z=>False.elim z))
   exact wpAny_bind (wpAny_mono h4 (λ_ s5 h5=>wpAny_pure (wpAny_pure ⟨rfl,h5⟩)) λ_ _ z=>False.elim z)
 ·rw [compTurn_list]
  refine wpAny_bind (wpAny_standAt (wpAny_bind (wpAny_mono go (λr s1 h1=>?_) λ_ _ z=>False.elim z)))
  cases r with
  | none=>exact wpAny_pure h1
  | some v=>
   refine wpAny_bind (wpAny_mono h1 (λ_ s2 h2=>?_) λ_ _ z=>False.elim z)
   refine wpAny_bind (wpAny_mono h2 (λ_ s3 h3=>?_) λ_ _ z=>False.elim z)
   refine wpAny_bind (wpAny_tests_one (wpAny_mono h3 (λok s4 h4=>?_) λ_ _ z=>False.elim z))
   cases ok with
   | false=>exact wpAny_pure ⟨rfl,h4⟩
   | true=>exact wpAny_bind (wpAny_bind (wpAny_mono h4 (λx s5 h5=>wpAny_bind (wpAny_mono h5 (λ_ s6 h6=>wpAny_pure (wpAny_pure ⟨rfl,h6⟩)) λ_ _ z=>False.elim z)) λ_ _ z=>False.elim z))
end
section
variable {X:Cx} {scope:Scope} {own:List Str} {caps:List (Nat × Str)} {elt tg iter:Expr} {cs:List Expr} {wi:TI} {g:TG} {tc:TT} {te:TE} {pos:Pos}
theorem zF7 {pins:List (Addr × Obj)} {σ:St} {H2:Hp} {s2:Shared} {it:Addr} {fp:List Addr} {tn:Nat->Heap->Prop} {J:It} {W:Nat->Nat->List V->St->Hp->Prop} {m0:Nat} {Q:VK} {E:Value->Shared->Prop} {RR:Value->Addr->Result->Shared->Prop}
  (B:vj X scope own caps) (hc:X.calm=true) (hg:∀ C s₀ H₀ ex,PG (y4 X scope (zh own caps) C s₀ H₀ ex) tg g) (hcs:cs=[]\/∃ c,cs=[c]) (ht:∀ C s₀ H₀ ex,Zm (y4 X scope (zh own caps) C s₀ H₀ ex) cs tc) (he:∀ C s₀ H₀ ex,PE (y4 X scope (zh own caps) C s₀ H₀ ex) elt te)
  (I2:zE X pins σ H2 s2) (T:vL X.prog X.w X.K tg J fp it tn) (st2:tn 0 s2.heap) (f2:∀ b∈fp,yQ X pins H2 b) (w0:W 0 m0 [] (v5 own caps σ) H2)
  (yz:∀ i m ys σ1 H,W i m ys σ1 H->(J.stop i H/\∀ p,H p=none->Q (.ref p) (za H p (.lst ys)))∨
   (J.go i H/\ys.length < sizeLine/\∃ (N:V->St->Hp->Prop) (N0:St->Hp->Prop),(∀ y σ' H',N y σ' H'->∃ m',m' < m/\W (i + 1) m' (ys++[y]) σ' H')/\(∀ σ' H',N0 σ' H'->∃ m',m' < m/\W (i + 1) m' ys σ' H')∧
    ∀ x H',J.yld i H x H'->g x σ1 H' λσ2 H2=>tc σ2 H2 λb H3=>if b=true then te σ2 H3 λy H4=>N y σ2 H4 else N0 σ2 H3))
  (hRR:∀ D C s6 H6 ys m,s6.heap.Ns C m->s2.heap.objs.size<=C->(∀ h',Heap.SameBut C s6.heap h'->zE X pins σ (za H6 D (.lst ys)) { s6 with heap:=h' })->za H6 D (.lst ys) C=none->Q (.ref D) (za H6 D (.lst ys))->RR (.ref D) C (.ok .next) s6) :
  wpAny (model X.prog X.w) X.A (newList []) (λacc s3=>wpAny (model X.prog X.w) X.A (newFunctionEnv scope X.env.globals (vO scope X.env) [] X.env.qual none .none (some X.env)) (λcenv s4=>
   codeAny (model X.prog X.w) X.A (.compStart (.ListComp elt [⟨tg,iter,cs,0⟩] scope pos) 0 (.ref it) acc { cenv with scope:=relabel scope X.env }) (RR acc cenv.locals) s4) E s3) E s2:=by
 have hlt:∀ b∈fp,b < s2.heap.objs.size:=λb hb=>by
  obtain ⟨o,ho,_⟩:=T.obj _ _ st2 b hb
  exact cS ho
 refine wpAny_newObj_type (zGl ?_)
 dsimp only
 generalize hP:s2.heap.push { cls:=.type "list",dict:=none,data:=.seq ([]:List Value).toArray }=HD
 have hns:(pushCells (HD.push { cls:=.type "dict",data:=.dict #[] }) scope.names).Ns HD.objs.size (λ_=>none):=(Heap.Ns.new HD (.type "dict")).keeps (pushCells_keeps _ _)
 have hkp:∀ b o,HD.get? b=some o->(pushCells (HD.push { cls:=.type "dict",data:=.dict #[] }) scope.names).get? b=some o:=λb o e=>pushCells_keeps _ _ b o (cE _ e)
 have hcell:∀ x c,(cellsFrom (HD.objs.size + 1) scope.names (vO scope X.env)).lookup x=some c->(vO scope X.env).lookup x=some c\/(pushCells (HD.push { cls:=.type "dict",data:=.dict #[] }) scope.names).IsCell c none:=λx c e=>
  Ut _ _ _ (by rw [eX]; exact e)
 generalize hP4:pushCells (HD.push { cls:=.type "dict",data:=.dict #[] }) scope.names=h4 at hns hkp hcell |-
 have hCD:HD.objs.size=s2.heap.objs.size + 1:=by rw [<- hP,eX]
 have hDC:s2.heap.objs.size≠HD.objs.size:=by omega
 have hle:s2.heap.objs.size<=HD.objs.size:=by omega
 have old:∀ b o,s2.heap.get? b=some o->h4.get? b=some o:=λb o eb=>hkp b o (by rw [<- hP]; exact cE _ eb)
 have hD4:h4.get? s2.heap.objs.size=some { cls:=.type "list",data:=.seq ([]:List Value).toArray 0 }:=hkp _ _ (by rw [<- hP]; exact cW _ rfl)
 have IY:zE (y4 X scope (zh own caps) HD.objs.size s2 H2 fp) [] (v5 own caps σ) H2 { s2 with heap:=h4 }:=
  zNk B I2 f2 (by omega) hlt hns old hcell rfl I2.bare
 have stat:∀ {H':Hp},(∀ b∈fp,H' b=none)->∀ b∈fp,yQ (y4 X scope (zh own caps) HD.objs.size s2 H2 fp) [] H' b:=λ{H'} hn b hb=>by
  have hb2:=hlt b hb
  refine ⟨hn b hb,?_,λz=>?_,.inl hb,λx c ec=>(match WA B ec with | .inl z=>ZX hb2 hle z.2 | .inr z=>(f2 b hb).2.2.2.2.1 x c z),λp hp=>by simp at hp⟩
  ·exact dA (cU hb2 hle)
  ·rcases da.mp (I2.stkSub b z) with e | z
   ·exact (f2 b hb).2.1 e
   ·exact (f2 b hb).2.2.1 z
 have statD:∀ {H':Hp},H' s2.heap.objs.size=none->yQ (y4 X scope (zh own caps) HD.objs.size s2 H2 fp) [] H' s2.heap.objs.size:=λ{H'} hn=>by
  refine ⟨hn,hDC,λz=>?_,.inr (cF _),λx c ec z=>?_,λp hp=>by simp at hp⟩
  ·obtain ⟨_,o,ho,_⟩:=I2.stack.mem z
   exact absurd (cS ho) (dy _)
  ·rcases WA B ec with ⟨_,y⟩ | y
   ·exact Uq hCD y z
   ·have:=zJT I2 y
    rw [z] at this
    exact dy _ this
 have qN:∀ b∈fp,b≠s2.heap.objs.size:=λb hb=>dA (hlt b hb)
 have IY':zE (y4 X scope (zh own caps) HD.objs.size s2 H2 fp) [(s2.heap.objs.size,xb [] 0)] (v5 own caps σ) H2 { s2 with heap:=h4 }:=
  IY.pins_of λp hp=>by
   rw [df.mp hp]
   have z:=statD (I2.hok.fresh (cF _))
   exact ⟨hD4,z.1,z.2.1,z.2.2.1,λv z=>by cases z⟩
 have loop:∀ s3:Shared,s3={ s2 with heap:=h4 }->
   codeAny (model X.prog X.w) X.A (.compLoop (.ListComp elt [⟨tg,iter,cs,0⟩] scope pos) 0 (.ref it) (.ref s2.heap.objs.size) (compEnvC scope (cellsFrom (HD.objs.size + 1) scope.names (vO scope X.env)) HD.objs.size X.env))
    (RR (.ref s2.heap.objs.size) HD.objs.size) s3:=by
  rintro s3 rfl
  refine zIX (λn s'=>∃ i ys σ' H' its k,zE (y4 X scope (zh own caps) HD.objs.size s2 H2 fp) [(s2.heap.objs.size,xb its k)] σ' H' s'/\tn i s'.heap/\(∀ b∈fp,H' b=none)∧
   zK ys its/\ys.length<=sizeLine/\W i n ys σ' H') ?_ hcs m0 ⟨0,[],_,H2,[],0,IY',T.keep _ _ _ st2 λb hb o eb=>old b o eb,λb hb=>(f2 b hb).1,.nil,ik _,w0⟩
  rintro n s5 ⟨i,ys,σ5,H5,its,k,I5,st5,fr5,rv5,hz5,w5⟩
  have stat5:∀ {H':Hp},(∀ b∈fp,H' b=none)->∀ b∈fp,yQ (y4 X scope (zh own caps) HD.objs.size s2 H2 fp) [(s2.heap.objs.size,xb its k)] H' b:=λ{H'} hn b hb=>by
   obtain ⟨a1,a2,a3,a4,a5,_⟩:=stat hn b hb
   refine ⟨a1,a2,a3,a4,a5,λp hp=>?_⟩
   have hp':p∈[(s2.heap.objs.size,xb its k)]:=hp
   rw [df.mp hp']
   exact Ne.symm (qN b hb)
  rcases yz i n ys σ5 H5 w5 with ⟨stop,qn⟩ | ⟨go,hlen,N,N0,hN,hN0,step⟩
  ·refine zj (T.done (y4 X scope (zh own caps) HD.objs.size s2 H2 fp) rfl rfl rfl hc i _ s5 σ5 H5 _ I5 (stat5 fr5) st5 stop) λr s6 ⟨hr,I6⟩=>?_
   subst hr
   obtain ⟨pD1,pD2,_⟩:=I6.pin (s2.heap.objs.size,xb its k) (cQ _ cD)
   obtain ⟨m6,hn6,_⟩:=I6.loc
   refine hRR _ _ s6 H5 ys m6 hn6 (by omega) (λh' sb=>?_) (by rw [zu (Ne.symm hDC)]; exact I6.free) (qn _ pD2)
   have hC5:H5 HD.objs.size=none:=I6.free
   have nb:∀ b o,s2.heap.get? b=some o->b≠HD.objs.size/\b≠s2.heap.objs.size:=λb o eb=>by
    have hb:=cS eb
    exact ⟨dA (cU hb hle),dA hb⟩
   have nt:∀ b o,H5 b=some o->b≠s2.heap.objs.size:=λb o eb z=>by rw [z] at eb; rw [show H5 s2.heap.objs.size=none from pD2] at eb; cases eb
   have un:Un (xK X.stack) fp H2 (za H5 s2.heap.objs.size (.lst ys)) s2.heap h':=
    ⟨λb o eb n1 n2 n3=>sb.extBut b o (nb b o eb).1 (I6.base.keep b o eb n1 n2 n3),
     λb o eb n1 n2 n3=>by
      obtain ⟨sl,e1⟩:=I6.base.slot b o eb n1 n2 n3
      exact ⟨sl,sb.extBut b _ (nb b o eb).1 e1⟩,
     λb o eb n1 n3=>by
      rw [zu (nb b o eb).2]
      exact I6.base.free b o eb n1 n3,
     λb o eb n3=>by
      obtain ⟨o',e1⟩:=I6.base.there b o eb n3
      exact ⟨o',sb.extBut b _ (nb b o eb).1 e1⟩,
     λb xs eb=>by
      have e1:=I6.base.tups b xs eb
      rw [zu (nt b _ e1)]
      exact e1,
     λb o u eb=>by
      have e1:=I6.base.frzs b o u eb
      rw [zu (nt b _ e1)]
      exact e1,
     λb ps eb=>by
      obtain ⟨more,e1⟩:=I6.base.tbls b ps eb
      refine ⟨more,?_⟩
      rw [zu (nt b _ e1)]
      exact e1⟩
   have ok5:xG X.prog X.w (za H5 s2.heap.objs.size (.lst ys)) h':=λb u eb=>by
    by_cases hb:b=s2.heap.objs.size
    ·subst hb
     rw [xh] at eb
     cases eb
     exact ⟨hz5,its,k,rv5,sb.extBut _ _ hDC pD1⟩
    ·rw [zu hb] at eb
     refine (I6.hok b u eb).stay (λc v hcv ev=>sb.extBut c v ?_ ev) (λc ec=>by rw [zu (nt c _ ec)]; exact ec) λc xs ec=>by rw [zu (nt c _ ec)]; exact ec
     rintro rfl
     rcases hcv with z | z
     ·rw [<- z,hC5] at eb
      cases eb
     ·rw [hC5] at z
      cases z
   exact I2.call' (s':={ s6 with heap:=h' }) (ch:=fp) I6.os un ok5 I6.bare λb hb=>⟨(f2 b hb).2.2.2.1,(f2 b hb).2.1,(f2 b hb).2.2.2.2.1,(f2 b hb).2.2.2.2.2⟩
  ·refine zj (T.item (y4 X scope (zh own caps) HD.objs.size s2 H2 fp) rfl rfl rfl hc i _ s5 σ5 H5 _ I5 (stat5 fr5) st5 go) λr s6 ⟨u,hr,h6⟩=>?_
   subst hr
   refine zj h6 λ_ s7 ⟨x,H7,I7,r7,y7,st7,fr7⟩=>?_
   have I7':=I7.pinned (stat5 fr7) (T.obj _ _ st7)
   refine zj (hg HD.objs.size s2 H2 fp _ s7 σ5 H7 x u _ I7' r7 (step x H7 y7)) λ_ s8 ⟨σ8,H8,I8,q8⟩=>?_
   refine zQF (ht HD.objs.size s2 H2 fp) I8 q8 λok sT HT IT qT=>?_
   cases ok with
   | false=>
    obtain ⟨m',hm',w9⟩:=hN0 σ8 HT qT
    refine ⟨m',hm',i + 1,ys,σ8,HT,its,k,IT.unpinned,?_,λb hb=>?_,rv5,hz5,w9⟩
    ·refine T.keep _ _ _ st7 λb hb o eb=>?_
     exact (IT.pin (b,o) (cQ _ (cQ _ (gr hb eb)))).1
    ·obtain ⟨o,eb,_⟩:=T.obj _ _ st7 b hb
     exact (IT.pin (b,o) (cQ _ (cQ _ (gr hb eb)))).2.1
   | true=>
    refine zj (he HD.objs.size s2 H2 fp _ sT σ8 HT _ IT qT) λyv s9 ⟨y,H9,I9,r9,n9⟩=>?_
    obtain ⟨m',hm',w9⟩:=hN y σ8 H9 n9
    have pD9:=(I9.pin (s2.heap.objs.size,xb its k) (cQ _ (ig _ cD))).2.1
    have hl:its.length=ys.length:=rv5.length.symm
    refine zNj (Y:=y4 X scope (zh own caps) HD.objs.size s2 H2 fp) (its:=its) (k:=k) (pl:=ZD fp s7.heap) I9 (statD pD9) rfl (by omega) λh' k' tk keep I'=>?_
    refine ⟨m',hm',i + 1,ys++[y],σ8,H9,its++[yv],k',I',?_,λb hb=>?_,rv5.append (.cons r9 .nil),?_,w9⟩
    ·refine T.keep _ _ _ st7 λb hb o eb=>keep b o (qN b hb) ?_
     exact (I9.pin (b,o) (cQ _ (cQ _ (gr hb eb)))).1
    ·obtain ⟨o,eb,_⟩:=T.obj _ _ st7 b hb
     exact (I9.pin (b,o) (cQ _ (cQ _ (gr hb eb)))).2.1
    ·rw [cA,fB]
     omega
 exact codeAny_compStart_list (loop _ rfl) (T.self _ 0 _ _ _ (T.keep _ _ _ st2 λb hb o eb=>old b o eb) (loop _ rfl))
theorem zI0 {i:Nat} {y:Str} {py spos:Pos} (hN:X.N.Nodup) (hy:X.N[i]? = some y) (hl:X.env.scope.names.lookup y=some .local) (B:vj X scope own caps) (hc:X.calm=true) (hi:PI X tg iter wi) (hg:∀ C s₀ H₀ ex,PG (y4 X scope (zh own caps) C s₀ H₀ ex) tg g)
  (hcs:cs=[]\/∃ c,cs=[c]) (ht:∀ C s₀ H₀ ex,Zm (y4 X scope (zh own caps) C s₀ H₀ ex) cs tc) (he:∀ C s₀ H₀ ex,PE (y4 X scope (zh own caps) C s₀ H₀ ex) elt te) (hsw:swapsWith (.ListComp elt [⟨tg,iter,cs,0⟩] scope pos) (some (.Name y py)) spos.line X.env=pure true) (hs:∀ x,foldedSetIterable iter X.env x=pure x:=by intro _; rfl) :
  PS X (.Assign [.Name y py] (.ListComp elt [⟨tg,iter,cs,0⟩] scope pos) spos) (uZ (zNx own caps wi g tc te) (Xr i)):=by
 intro pins s σ H D0 I h
 rw [exec_Assign_Name_used _ _ _ _ hsw]
 refine wpAny_bind (wpAny_standAt (wpAny_bind ?_))
 change wpAny _ X.A (do let _ <- comprehension (.ListComp elt [⟨tg,iter,cs,0⟩] scope pos) scope X.env _ (newList []) false (eval iter X.env) (some (assign (.Name y py) X.env))) _ _ s
 refine wpAny_bind (wpAny_mono (wpAny_comprehension_free (use:=some (assign (.Name y py) X.env)) (Q:=λ_ s'=>SP X pins D0 .next s') rfl hs (zF9 B.free) B.kind B.locs ?_) (λ_ s' hq=>wpAny_pure (wpAny_pure hq)) λ_ _ e=>e)
 refine zj (hi pins s σ H _ I h) λxv s1 h1=>zj h1 λitv s2 h2=>?_
 obtain ⟨it,fp,tn,J,H2,e,I2,T,st2,f2,W,⟨m0,w0⟩,yz⟩:=h2
 subst e
 refine zF7 (Q:=λx H1=>D0.nx (σ.set i (some x)) H1) (RR:=λacc C=>compPost (model X.prog X.w) X.A X.xe (some (assign (.Name y py) X.env)) (λ_ s'=>SP X pins D0 .next s') acc C) B hc hg hcs ht he I2 T st2 f2 w0 yz λD C s6 H6 ys m hn hC J6 hC6 q=>?_
 have I6:zE X pins σ (za H6 D (.lst ys)) s6:=J6 s6.heap (.refl ..)
 have CL:C≠X.env.locals:=λz=>by rw [z] at hC; exact absurd (cU I2.lt hC) (dy _)
 have CC:∀ x c,X.env.cells.lookup x=some c->c≠C:=λx c ec z=>by
  obtain ⟨v,o,ho,_⟩:=I2.cell x c ec
  rw [z] at ho
  exact absurd (cU (cS ho) hC) (dy _)
 have CP:∀ p∈X.pn++pins,p.1≠C:=λp hp z=>by
  have hl:=cS (I2.pin p hp).1
  rw [z] at hl
  exact absurd (cU hl hC) (dy _)
 change wpAny _ X.A (assign (.Name y py) X.env (.ref D)) _ _ s6
 refine wpAny_assign_Name (K9 I6 hN hy (.inl hl) (v:=.ref D) rfl (λs7 I7 ⟨a,sb,ha⟩=>?_) (.inr hl))
 have aC:C≠a:=λz=>by
  rcases ha with e | e
  ·exact CL (z.trans e)
  ·exact CC _ _ e z.symm
 refine ⟨m,hn.sameBut sb aC,λh' sb'=>⟨_,_,I7.turned (h':=h') (t':=s7.toks) (it:=C) (λb o hb eb=>sb'.extBut b o hb eb) hC6 CL (.inr (dM I2.sz hC)) CC CP,q⟩⟩
theorem zI2 (B:vj X scope own caps) (hc:X.calm=true) (hi:PI X tg iter wi) (hg:∀ C s₀ H₀ ex,PG (y4 X scope (zh own caps) C s₀ H₀ ex) tg g)
  (hcs:cs=[]\/∃ c,cs=[c]) (ht:∀ C s₀ H₀ ex,Zm (y4 X scope (zh own caps) C s₀ H₀ ex) cs tc) (he:∀ C s₀ H₀ ex,PE (y4 X scope (zh own caps) C s₀ H₀ ex) elt te) (hs:∀ x,foldedSetIterable iter X.env x=pure x:=by intro _; rfl) :
  PE X (.ListComp elt [⟨tg,iter,cs,0⟩] scope pos) (zNx own caps wi g tc te):=by
 intro pins s σ H Q I h
 rw [eval_ListComp]
 refine wpAny_comprehension_free (use:=none) rfl hs (zF9 B.free) B.kind B.locs ?_
 refine zj (hi pins s σ H _ I h) λxv s1 h1=>zj h1 λitv s2 h2=>?_
 obtain ⟨it,fp,tn,J,H2,e,I2,T,st2,f2,W,⟨m0,w0⟩,yz⟩:=h2
 subst e
 refine zF7 (RR:=λacc C=>compPost (model X.prog X.w) X.A X.xe none (EP X pins σ Q) acc C) B hc hg hcs ht he I2 T st2 f2 w0 yz λD C s6 H6 ys m hn hC J6 hC6 q=>?_
 exact ⟨m,hn,λh' sb=>⟨.ref D,_,J6 h' sb,rfl,q⟩⟩
end
end L2
namespace Pu
open PySem L2 Sh
inductive D where
 | int (i:Int)
 | bool (b:Bool)
 | non
 | str (x:Str)
 | scr (ns:List Int)
 | lst (ds:List D)
 | tup (ds:List D)
 | obj (c:Addr) (ns:List Str) (ds:List D)
inductive DV (H:Hp):V->D->Prop where
 | int (i:Int):DV H (.int i) (.int i)
 | bool (b:Bool):DV H (.bl b) (.bool b)
 | non:DV H .non .non
 | str (x:Str):DV H (.str x) (.str x)
 | scr {a:Addr} {ns:List Int} (e:Rd H a (.lst (ns.map V.int))):DV H (.ref a) (.scr ns)
 | lst {a:Addr} {xs:List V} {ds:List D} (e:H a=some (.lst xs)) (h:Paired (DV H) xs ds):DV H (.ref a) (.lst ds)
 | tup {a:Addr} {xs:List V} {ds:List D} (e:H a=some (.tup xs)) (h:Paired (DV H) xs ds):DV H (.ref a) (.tup ds)
 | obj {o dx c:Addr} {ns:List Str} {xs:List V} {ds:List D} (e:H o=some (.ins c dx (ns.zip xs))) (l:ns.length=xs.length) (h:Paired (DV H) xs ds):DV H (.ref o) (.obj c ns ds)
theorem JH {H H':Hp} (s:zN H H') {a:Addr} {u:HO} (h:Rd H a u):Rd H' a u:=h.imp (s _ _) λ⟨o,e⟩=>⟨o,s _ _ e⟩
theorem DV.same {H H':Hp} (s:zN H H'):∀ {v:V} {d:D},DV H v d->DV H' v d
 | _,_,.int i=>.int i
 | _,_,.bool b=>.bool b
 | _,_,.non=>.non
 | _,_,.str x=>.str x
 | _,_,.scr e=>.scr (JH s e)
 | _,_,.lst e h=>.lst (s _ _ e) (go s h)
 | _,_,.tup e h=>.tup (s _ _ e) (go s h)
 | _,_,.obj e l h=>.obj (s _ _ e) l (go s h)
where
 go {H H':Hp} (s:zN H H'):∀ {xs:List V} {ds:List D},Paired (DV H) xs ds->Paired (DV H') xs ds
  | _,_,.nil=>.nil
  | _,_,.cons h t=>.cons (DV.same s h) (go s t)
abbrev yK (H:Hp):List V->List D->Prop:=Paired (DV H)
theorem xT {H H':Hp} (s:zN H H') {xs:List V} {ds:List D} (h:yK H xs ds):yK H' xs ds:=DV.same.go s h
theorem Zn {H:Hp}:∀ {xs:List V} {ns:List Int},yK H xs (ns.map D.int)->xs=ns.map V.int
 | _,[],.nil=>rfl
 | _,_ :: _,.cons h t=>by cases h; rw [Zn t]; rfl
theorem zHh {H:Hp}:∀ {xs:List V} {bs:List Bool},yK H xs (bs.map D.bool)->xs=bs.map V.bl
 | _,[],.nil=>rfl
 | _,_ :: _,.cons h t=>by cases h; rw [zHh t]; rfl
def jI:HO->Bool
 | .tbl _=>true
 | _=>false
def vV:HO->Bool
 | .lst _=>true
 | .ins _ _ _=>true
 | _=>false
class yY where
 I:Hp->Prop
 same:∀ {H H':Hp},I H->zN H H'->I H'
 but:∀ {H H':Hp} {l:Addr} {o:HO},I H->H l=some o->vV o=true->(∀ b,b≠l->H' b=H b)->I H'
variable [yY]
theorem yY.put {H:Hp} {l:Addr} {u o:HO} (i:yY.I H) (e:H l=some u) (n:vV u=true:=by rfl):yY.I (za H l o):=yY.but i e n λ_ c=>zu c
def less (l:Addr) (H:Hp):Hp:=λb=>if b=l then none else H b
theorem yY.less {H:Hp} {l:Addr} {u:HO} (i:yY.I H) (e:H l=some u) (n:vV u=true:=by rfl):yY.I (less l H):=yY.but i e n λ_ c=>if_neg c
theorem zJD {H:Hp} {l:Addr}:zN (less l H) H:=λb o e=>by
 by_cases c:b=l
 ·rw [show less l H b=none from if_pos c] at e; cases e
 ·exact (if_neg c).symm.trans e
structure Sm (H H':Hp):Prop where
 s:∀ b o,H b=some o->jI o=false->H' b=some o
 t:∀ b o,H b=some o->jI o=true->∃ o',H' b=some o'/\jI o'=true
 k:yY.I H->yY.I H'
theorem Sm.at {H H':Hp} (s:Sm H H') {b:Addr} {o:HO} (e:H b=some o) (n:jI o=false:=by rfl):H' b=some o:=s.s b o e n
theorem Sm.of {H H':Hp} (s:zN H H'):Sm H H':=⟨λb o e _=>s b o e,λb o e n=>⟨o,s b o e,n⟩,λi=>yY.same i s⟩
theorem Sm.refl (H:Hp):Sm H H:=.of (zN.refl H)
theorem Sm.trans {H H1 H2:Hp} (a:Sm H H1) (b:Sm H1 H2):Sm H H2:=⟨λc o e n=>b.s c o (a.s c o e n) n,λc o e n=>let ⟨o1,e1,n1⟩:=a.t c o e n; b.t c o1 e1 n1,λi=>b.k (a.k i)⟩
theorem Sm.free {H H':Hp} (s:Sm H H') {b:Addr} (n:H' b=none):H b=none:=by
 cases e:H b with
 | none=>rfl
 | some o=>
  cases q:jI o with
  | false=>have:=s.s b o e q; rw [n] at this; cases this
  | true=>obtain ⟨o',e',_⟩:=s.t b o e q; rw [n] at e'; cases e'
theorem Sm.put {H0 H:Hp} {l:Addr} {x o:HO} (s:Sm H0 H) (n:H0 l=none) (e:H l=some x) (li:vV x=true:=by rfl):Sm H0 (za H l o):=⟨λb u q t=>(zu (wD q n)).trans (s.s b u q t),λb u q t=>let ⟨o',e',t'⟩:=s.t b u q t; ⟨o',(zu (wD q n)).trans e',t'⟩,λi=>yY.put (s.k i) e li⟩
theorem zQS {H H1 H2:Hp} {x:Addr} {u:HO} (s:Sm H H1) (e:H1 x=some u) (b:Sm (less x H1) H2) (n:H x=none) (li:vV u=true:=by rfl):Sm H H2:=⟨λc o q t=>b.s c o ((if_neg (wD q n)).trans (s.s c o q t)) t,λc o q t=>let ⟨o',e',t'⟩:=s.t c o q t; b.t c o' ((if_neg (wD q n)).trans e') t',λi=>b.k (yY.less (s.k i) e li)⟩
theorem x9 {H:Hp} {a:Addr} (h:H a=none) (o:HO):Sm H (za H a o):=.of (gw h o)
open Classical in
noncomputable def zP (Z:Addr->Prop) (H:Hp):Hp:=λb=>if Z b then none else (H b).filter λo=>!(jI o)
theorem vn {Z:Addr->Prop} {H:Hp} {b:Addr} {o:HO} (h:¬ Z b) (e:H b=some o) (n:jI o=false:=by rfl):zP Z H b=some o:=by
 unfold zP
 rw [if_neg h,e,Option.filter_some,n]
 rfl
theorem qK {Z:Addr->Prop} {H:Hp} {b:Addr} {o:HO} (h:zP Z H b=some o):jI o=false:=by
 unfold zP at h
 by_cases c:Z b
 ·rw [if_pos c] at h; cases h
 ·rw [if_neg c] at h
  have:=(iJ.mp h).2
  cases q:jI o with
  | false=>rfl
  | true=>rw [q] at this; cases this
theorem jc {Z:Addr->Prop} {H:Hp} {b:Addr} {o:HO} (h:zP Z H b=some o):¬ Z b/\H b=some o:=by
 unfold zP at h
 by_cases c:Z b
 ·rw [if_pos c] at h; cases h
 ·rw [if_neg c] at h; exact ⟨c,(iJ.mp h).1⟩
theorem yE {Z:Addr->Prop} {H:Hp}:zN (zP Z H) H:=λ_ _ h=>(jc h).2
theorem yZ {Z:Addr->Prop} {H H':Hp} (s:Sm H H'):zN (zP Z H) (zP Z H'):=λb o h=>by
 exact vn (jc h).1 (s.s _ _ (jc h).2 (qK h)) (qK h)
theorem WP {Z Z':Addr->Prop} {H:Hp} (s:∀ b,Z' b->Z b):zN (zP Z H) (zP Z' H):=λb o h=>by
 exact vn (λz=>(jc h).1 (s _ z)) (jc h).2 (qK h)
structure ZL (Z:Addr->Prop) (H:Hp):Prop where
 z:∀ b,Z b->∃ u,H b=some u/\∀ xs,u≠.tup xs
 i:yY.I H
theorem ZL.same {Z:Addr->Prop} {H H':Hp} (z:ZL Z H) (s:Sm H H'):ZL Z H':=⟨λb hb=>by
 obtain ⟨u,e,n⟩:=z.z b hb
 cases q:jI u with
 | false=>exact ⟨u,s.s _ _ e q,n⟩
 | true=>
  obtain ⟨u',e',n'⟩:=s.t _ _ e q
  exact ⟨u',e',λxs y=>by rw [y] at n'; cases n'⟩,s.k z.i⟩
theorem ZL.new {Z:Addr->Prop} {H:Hp} (z:ZL Z H) {p:Addr} (h:H p=none):¬ Z p:=λq=>by
 obtain ⟨u,e,_⟩:=z.z p q
 rw [h] at e
 cases e
inductive Sl where
 | no
 | sh (d:D)
 | ow (ds:List D)
 | ob (o c:Addr) (ns:List Str) (ds:List D)
def slot:List Sl->Nat->Sl
 | [],_=>.no
 | x :: _,0=>x
 | _ :: t,i + 1=>slot t i
def zz:List Sl->Nat->Sl->List Sl
 | [],_,_=>[]
 | _ :: t,0,y=>y :: t
 | x :: t,i + 1,y=>x :: zz t i y
theorem kI:∀ (Γ:List Sl) (i:Nat) (y:Sl),(zz Γ i y).length=Γ.length
 | [],_,_=>rfl
 | _ :: _,0,_=>rfl
 | _ :: t,i + 1,y=>by show (zz t i y).length + 1=_; rw [kI t i y]; rfl
theorem xw:∀ (Γ:List Sl) (i j:Nat) (y:Sl),slot (zz Γ i y) j=if j=i/\i < Γ.length then y else slot Γ j
 | [],i,j,y=>by rw [if_neg (λh=>absurd h.2 (e8 _))]; rfl
 | x :: t,0,0,y=>(if_pos ⟨rfl,mJ _⟩).symm
 | x :: t,0,j + 1,y=>(if_neg (λh=>nomatch h.1)).symm
 | x :: t,i + 1,0,y=>(if_neg (λh=>nomatch h.1)).symm
 | x :: t,i + 1,j + 1,y=>by
  show slot (zz t i y) j=if j + 1=i + 1/\i + 1 < t.length + 1 then y else slot t j
  rw [xw t i j y]
  by_cases c:j=i/\i < t.length
  ·rw [if_pos c,if_pos ⟨by omega,by omega⟩]
  ·rw [if_neg c,if_neg (λh=>c ⟨by omega,by omega⟩)]
theorem ul:∀ {Γ:List Sl} {i:Nat},slot Γ i≠.no->i < Γ.length
 | [],_,h=>absurd rfl h
 | _ :: _,0,_=>mJ _
 | _ :: _,_ + 1,h=>mI (ul (Γ:=_) h)
structure yV (Z:Addr->Prop) (Γ:List Sl) (σ:St) (H:Hp):Prop where
 sh:∀ i d,slot Γ i=.sh d->∃ v,σ[i]? = some (some v)/\DV (zP Z H) v d
 ow:∀ i ds,slot Γ i=.ow ds->∃ l xs,σ[i]? = some (some (.ref l))/\Z l/\H l=some (.lst xs)/\yK (zP Z H) xs ds
 ob:∀ i o c ns ds,slot Γ i=.ob o c ns ds->∃ dx xs,σ[i]? = some (some (.ref o))/\Z o/\H o=some (.ins c dx (ns.zip xs))/\ns.length=xs.length/\yK (zP Z H) xs ds
 ne:∀ i j as bs l,slot Γ i=.ow as->slot Γ j=.ow bs->σ[i]? = some (some (.ref l))->σ[j]? = some (some (.ref l))->i=j
 zd:ZL Z H
 len:Γ.length=σ.length
theorem yV.same {Z:Addr->Prop} {Γ:List Sl} {σ:St} {H H':Hp} (E:yV Z Γ σ H) (s:Sm H H'):yV Z Γ σ H' where
 sh:=λi d e=>let ⟨v,h1,h2⟩:=E.sh i d e; ⟨v,h1,h2.same (yZ s)⟩
 ow:=λi ds e=>let ⟨l,xs,h1,h2,h3,h4⟩:=E.ow i ds e; ⟨l,xs,h1,h2,s.at h3,xT (yZ s) h4⟩
 ob:=λi o c ns ds e=>let ⟨dx,xs,h1,h2,h3,h5,h4⟩:=E.ob i o c ns ds e; ⟨dx,xs,h1,h2,s.at h3,h5,xT (yZ s) h4⟩
 ne:=E.ne
 zd:=E.zd.same s
 len:=E.len
theorem yV.set {Z:Addr->Prop} {Γ:List Sl} {σ:St} {H:Hp} (E:yV Z Γ σ H) {v:V} {d:D} (h:DV (zP Z H) v d) (i:Nat):yV Z (zz Γ i (.sh d)) (σ.set i (some v)) H where
 sh:=λj e q=>by
  rw [xw] at q
  by_cases c:j=i/\i < Γ.length
  ·rw [if_pos c] at q
   cases q
   rw [c.1]
   exact ⟨v,by rw [eO (by have:=E.len; omega)],h⟩
  ·rw [if_neg c] at q
   obtain ⟨u,h1,h2⟩:=E.sh j e q
   have hj:=ul (Γ:=Γ) (i:=j) (by rw [q]; exact λz=>nomatch z)
   exact ⟨u,by rw [dF (λz=>c ⟨z.symm,by omega⟩)]; exact h1,h2⟩
 ow:=λj e q=>by
  rw [xw] at q
  by_cases c:j=i/\i < Γ.length
  ·rw [if_pos c] at q; cases q
  ·rw [if_neg c] at q
   obtain ⟨l,xs,h1,h2⟩:=E.ow j e q
   have hj:=ul (Γ:=Γ) (i:=j) (by rw [q]; exact λz=>nomatch z)
   exact ⟨l,xs,by rw [dF (λz=>c ⟨z.symm,by omega⟩)]; exact h1,h2⟩
 ob:=λj o0 c0 ns e q=>by
  rw [xw] at q
  by_cases c:j=i/\i < Γ.length
  ·rw [if_pos c] at q; cases q
  ·rw [if_neg c] at q
   obtain ⟨dx,xs,h1,h2⟩:=E.ob j o0 c0 ns e q
   have hj:=ul (Γ:=Γ) (i:=j) (by rw [q]; exact λz=>nomatch z)
   exact ⟨dx,xs,by rw [dF (λz=>c ⟨z.symm,by omega⟩)]; exact h1,h2⟩
 ne:=λj k as bs l q r e f=>by
  rw [xw] at q r
  by_cases c:j=i/\i < Γ.length
  ·rw [if_pos c] at q; cases q
  ·by_cases c':k=i/\i < Γ.length
   ·rw [if_pos c'] at r; cases r
   ·rw [if_neg c] at q
    rw [if_neg c'] at r
    have hj:=ul (Γ:=Γ) (i:=j) (by rw [q]; exact λz=>nomatch z)
    have hk:=ul (Γ:=Γ) (i:=k) (by rw [r]; exact λz=>nomatch z)
    rw [dF (λz=>c ⟨z.symm,by omega⟩)] at e
    rw [dF (λz=>c' ⟨z.symm,by omega⟩)] at f
    exact E.ne j k as bs l q r e f
 zd:=E.zd
 len:=by rw [kI,dq]; exact E.len
abbrev zn:=List Sl->(D->Prop)->Prop
abbrev wA:=List Sl->(Bool->Prop)->Prop
abbrev yo:=List Sl->(List D->Prop)->Prop
abbrev Zo:=List Sl->(Option Int->Prop)->Prop
inductive tP (p:zn) (σ:St) (H:Hp) (Q:VK):Prop
 | mk (Z:Addr->Prop) (Γ:List Sl) (R:D->Prop) (E:yV Z Γ σ H) (h:p Γ R) (q:∀ d v H',R d->Sm H H'->DV (zP Z H') v d->Q v H'):tP p σ H Q
inductive xA (p:wA) (σ:St) (H:Hp) (Q:Bool->Hp->Prop):Prop
 | mk (Z:Addr->Prop) (Γ:List Sl) (R:Bool->Prop) (E:yV Z Γ σ H) (h:p Γ R) (q:∀ b H',R b->Sm H H'->Q b H'):xA p σ H Q
inductive xk (p:yo) (σ:St) (H:Hp) (Q:List V->Hp->Prop):Prop
 | mk (Z:Addr->Prop) (Γ:List Sl) (R:List D->Prop) (E:yV Z Γ σ H) (h:p Γ R) (q:∀ ds vs H',R ds->Sm H H'->yK (zP Z H') vs ds->Q vs H'):xk p σ H Q
inductive Zq (p:Zo) (σ:St) (H:Hp) (Q:Option Int->Hp->Prop):Prop
 | mk (Z:Addr->Prop) (Γ:List Sl) (R:Option Int->Prop) (E:yV Z Γ σ H) (h:p Γ R) (q:∀ o H',R o->Sm H H'->Q o H'):Zq p σ H Q
section
variable {X:Cx} {a b e c:Expr} {es:List Expr} {pos:Pos} {pa pb pc:zn} {qa qb:wA} {pl:yo}
theorem yb {t t':TE} (h:PE X e t) (w:∀ σ H Q,t' σ H Q->t σ H Q):PE X e t':=λpins s σ H Q I q=>h pins s σ H Q I (w σ H Q q)
theorem JI {t t':TT} (h:PT X e t) (w:∀ σ H Q,t' σ H Q->t σ H Q):PT X e t':=λpins s σ H Q I q=>h pins s σ H Q I (w σ H Q q)
theorem pww {t t':TT} (h:PW X e t) (w:∀ σ H Q,t' σ H Q->t σ H Q):PW X e t':=λwh pins s σ H Q I q=>h wh pins s σ H Q I (w σ H Q q)
theorem paw {t t':TA} (h:PA X es t) (w:∀ σ H Q,t' σ H Q->t σ H Q):PA X es t':=λpos pins s σ H Q I q=>h pos pins s σ H Q I (w σ H Q q)
def qL (i:Nat):zn:=λΓ R=>match slot Γ i with | .sh d=>R d | _=>False
theorem zA (i:Nat) {x:Str} {pos:Pos} (hN:X.N[i]? = some x:=by rfl) (hv:j4 X.env.scope x:=by first | exact Or.inl rfl | exact Or.inr (Or.inl rfl) | exact Or.inr (Or.inr rfl)) (hd:(x == ("__debug__" : Str))=false:=by decide)
  (hcd:(x == ("__classdict__" : Str))=false:=by decide):PE X (.Name x pos) (tP (qL i)):=yb (UI hN hv hd hcd) λσ H Q ⟨Z,Γ,R,E,h,q⟩=>by
 unfold qL at h
 cases s:slot Γ i with
 | sh d=>
  rw [s] at h
  obtain ⟨v,e,k⟩:=E.sh i d s
  exact ⟨v,e,q d v H h (Sm.refl _) k⟩
 | _=>rw [s] at h; exact h.elim
def pC (d:D):zn:=λ_ R=>R d
theorem zD {i j pos}:PE X (.Constant (.int i) j pos) (tP (pC (.int i))):=yb zQ1 λ_ H _ ⟨_,_,_,_,h,q⟩=>q _ _ H h (Sm.refl _) (.int i)
theorem um {i j pos}:PE X (.Constant (.bool i) j pos) (tP (pC (.bool i))):=yb km λ_ H _ ⟨_,_,_,_,h,q⟩=>q _ _ H h (Sm.refl _) (.bool i)
theorem xx {j pos}:PE X (.Constant .none j pos) (tP (pC .non)):=yb zN3 λ_ H _ ⟨_,_,_,_,h,q⟩=>q _ _ H h (Sm.refl _) .non
theorem uo {i j pos}:PE X (.Constant (.str i) j pos) (tP (pC (.str i))):=yb zQx λ_ H _ ⟨_,_,_,_,h,q⟩=>q _ _ H h (Sm.refl _) (.str i)
theorem JJ {x:Str} {i:Int} {pos:Pos} (hg:Gl X x) (hm:∃ t,X.mg x=some (.int i t)) (hd:(x == ("__debug__" : Str))=false:=by decide):PE X (.Name x pos) (tP (pC (.int i))):=
 let ⟨_,e⟩:=hm
 yb (zKw (v:=.int i) hg e ⟨_,rfl⟩ hd) λ_ H _ ⟨_,_,_,_,h,q⟩=>q _ _ H h (Sm.refl _) (.int i)
abbrev F2:=D->D->(D->Prop)->Prop
def xM (f:F2) (pa pb:zn):zn:=λΓ R=>pa Γ λx=>pb Γ λy=>f x y R
def wH (r:R2) (f:F2):Prop:=∀ (Z:Addr->Prop) (H:Hp) (x y:V) (a b:D) (R:D->Prop) (Q:VK),ZL Z H->DV (zP Z H) x a->DV (zP Z H) y b->f a b R->(∀ d v H',R d->Sm H H'->DV (zP Z H') v d->Q v H')->r x y H Q
theorem WQ {r:R2} {f:F2} (o:wH r f) (σ:St) (H:Hp) (Q:VK):tP (xM f pa pb) σ H Q->qf r (tP pa) (tP pb) σ H Q:=λ⟨Z,Γ,R,E,h,q⟩=>
 ⟨Z,Γ,_,E,h,λd v H1 hd s1 hv=>⟨Z,Γ,_,E.same s1,hd,λd2 v2 H2 hd2 s2 hv2=>o Z H2 v v2 d d2 R Q (E.same (s1.trans s2)).zd (hv.same (yZ s2)) hv2 hd2 λd3 v3 H3 h3 s3 hv3=>q d3 v3 H3 h3 (s1.trans (s2.trans s3)) hv3⟩⟩
theorem kJ {op:Operator} {r:R2} {f:F2} (ho:y8 X (binaryOp op) r) (o:wH r f) (ha:PE X a (tP pa)) (hb:PE X b (tP pb)):PE X (.BinOp a op b pos) (tP (xM f pa pb)):=yb (zQy ho ha hb) (WQ o)
theorem gD {op:CmpOp} {r:R2} {f:F2} (ho:y8 X (compareOp op) r) (o:wH r f) (hm:behindInMarks op b=false) (ha:PE X a (tP pa)) (hb:PE X b (tP pb)):PE X (.Compare a [op] [b] pos) (tP (xM f pa pb)):=yb (zO1 ho ha hb hm) (WQ o)
theorem uq {Z:Addr->Prop} {H:Hp} {p:Addr} {xs:List V} {ds:List D} (zd:ZL Z H) (hp:H p=none) (h:yK (zP Z H) xs ds):DV (zP Z (za H p (.lst xs))) (.ref p) (.lst ds):=
 .lst (vn (zd.new hp) xh) (xT (yZ (x9 hp _)) h)
theorem WR {Z:Addr->Prop} {H:Hp} {p:Addr} {xs:List V} {ds:List D} (zd:ZL Z H) (hp:H p=none) (h:yK (zP Z H) xs ds):DV (zP Z (za H p (.tup xs))) (.ref p) (.tup ds):=
 .tup (vn (zd.new hp) xh) (xT (yZ (x9 hp _)) h)
theorem zK6 {Z:Addr->Prop} {H:Hp} {p:Addr} {xs:List V} {ds:List D} (zd:ZL Z H) (e:H p=some (.tup xs)) (h:yK (zP Z H) xs ds):DV (zP Z H) (.ref p) (.tup ds):=
 .tup (vn (λz=>by
  obtain ⟨u,e',n⟩:=zd.z p z
  rw [e] at e'
  cases e'
  exact n xs rfl) e) h
theorem DV.lst_inv {H:Hp} {v:V} {ds:List D} (h:DV H v (.lst ds)):∃ p xs,v=.ref p/\H p=some (.lst xs)/\yK H xs ds:=by cases h with | lst e h=>exact ⟨_,_,rfl,e,h⟩
theorem DV.tup_inv {H:Hp} {v:V} {ds:List D} (h:DV H v (.tup ds)):∃ p xs,v=.ref p/\H p=some (.tup xs)/\yK H xs ds:=by cases h with | tup e h=>exact ⟨_,_,rfl,e,h⟩
theorem few {n:Nat} (h:n<=1000):n<=sizeLine:=iz (Ul h)
def gE:F2
 | .int i,.int j,R=>R (.int (i + j))
 | .lst as,.lst bs,R=>as.length + bs.length<=1000/\R (.lst (as++bs))
 | .tup as,.tup bs,R=>as.length + bs.length<=1000/\R (.tup (as++bs))
 | _,_,_=>False
theorem zPH:wH (λx y H Q=>uK (λi j=>.int (i + j)) x y H Q\/(qp x y H Q\/U1 x y H Q)) gE:=λZ H x y a b R Q zd hx hy h q=>by
 unfold gE at h
 split at h
 ·cases hx; cases hy; exact .inl ⟨_,_,rfl,rfl,q _ _ H h (Sm.refl _) (.int _)⟩
 ·obtain ⟨p,xs,rfl,e1,h1⟩:=hx.lst_inv
  obtain ⟨r,ys,rfl,e2,h2⟩:=hy.lst_inv
  have l1:=Paired.length h1
  have l2:=Paired.length h2
  exact .inr (.inl ⟨p,r,xs,ys,rfl,rfl,yE _ _ e1,yE _ _ e2,few (by omega),λn hn=>q _ _ _ h.2 (x9 hn _) (uq zd hn (gz h1 h2))⟩)
 ·obtain ⟨p,xs,rfl,e1,h1⟩:=hx.tup_inv
  obtain ⟨r,ys,rfl,e2,h2⟩:=hy.tup_inv
  have l1:=Paired.length h1
  have l2:=Paired.length h2
  exact .inr (.inr ⟨p,r,xs,ys,rfl,rfl,yE _ _ e1,yE _ _ e2,few (by omega),λn H' s e=>have s:=Sm.of s; q _ _ _ h.2 s (zK6 (zd.same s) e (xT (yZ s) (gz h1 h2)))⟩)
 ·exact h.elim
def gF:F2
 | .int i,.int j,R=>R (.int (i - j))
 | _,_,_=>False
theorem zN9 {g:Int->Int->V} {k:Int->Int->D} {f:F2} (hg:∀ i j H,DV H (g i j) (k i j)) (hf:∀ a b R,f a b R->∃ i j,a=.int i/\b=.int j/\R (k i j)):wH (uK g) f:=λZ H x y a b R Q zd hx hy h q=>by
 obtain ⟨i,j,rfl,rfl,k⟩:=hf a b R h
 cases hx; cases hy
 exact ⟨_,_,rfl,rfl,q _ _ H k (Sm.refl _) (hg i j _)⟩
theorem JK {C:Int->Int->Prop} {g:Int->Int->V} {k:Int->Int->D} {f:F2} (hg:∀ i j H,DV H (g i j) (k i j)) (hf:∀ a b R,f a b R->∃ i j,a=.int i/\b=.int j/\C i j/\R (k i j)):wH (rI C g) f:=λZ H x y a b R Q zd hx hy h q=>by
 obtain ⟨i,j,rfl,rfl,c,k⟩:=hf a b R h
 cases hx; cases hy
 exact ⟨_,_,rfl,rfl,c,q _ _ H k (Sm.refl _) (hg i j _)⟩
theorem zO9:wH (uK λi j=>.int (i - j)) gF:=zN9 (k:=λi j=>.int (i - j)) (λ_ _ _=>.int _) λa b R h=>by
 unfold gF at h
 split at h
 ·exact ⟨_,_,rfl,rfl,h⟩
 ·exact h.elim
def gG:F2
 | .int i,.int j,R=>Bd 60000 i/\Bd 60000 j/\R (.int (i * j))
 | .lst [d],.int k,R=>0<=k/\k<=1000/\R (.lst (cG k.toNat d))
 | _,_,_=>False
theorem Zr {α:Type} (x:α):∀ n:Nat,(cG n [x]).flatten=cG n x
 | 0=>rfl
 | n + 1=>by rw [eI,fD,Zr x n]; rfl
theorem zFz {α β:Type} {R:α->β->Prop} {x:α} {y:β} (h:R x y):∀ n:Nat,Paired R (cG n x) (cG n y)
 | 0=>.nil
 | n + 1=>.cons h (zFz h n)
theorem zPC:wH (λx y H Q=>rI X6 (λi j=>.int (i * j)) x y H Q\/ZR x y H Q) gG:=λZ H x y a b R Q zd hx hy h q=>by
 unfold gG at h
 split at h
 ·cases hx; cases hy; exact .inl ⟨_,_,rfl,rfl,⟨h.1,h.2.1⟩,q _ _ H h.2.2 (Sm.refl _) (.int _)⟩
 ·rename_i d k
  obtain ⟨p,xs,rfl,e1,h1⟩:=hx.lst_inv
  cases hy
  cases h1 with
  | @cons x _ _ _ h1 h2=>
  cases h2
  refine .inr ⟨p,_,_,rfl,rfl,yE _ _ e1,by omega,by omega,few (by rw [fB]; omega),λn hn=>?_⟩
  rw [Zr]
  exact q _ _ _ h.2.2 (x9 hn _) (uq zd hn (zFz h1 _))
 ·exact h.elim
def JL:F2
 | .int i,.int j,R=>j≠0/\Bd 8000 j/\R (.int (i.fdiv j))
 | _,_,_=>False
theorem zMy:wH (rI zSD λi j=>.int (i.fdiv j)) JL:=JK (k:=λi j=>.int (i.fdiv j)) (λ_ _ _=>.int _) λa b R h=>by
 unfold JL at h
 split at h
 ·exact ⟨_,_,rfl,rfl,⟨h.1,h.2.1⟩,h.2.2⟩
 ·exact h.elim
def jd:F2
 | .int i,.int j,R=>j≠0/\R (.int (i.fmod j))
 | _,_,_=>False
theorem zPD:wH (rI (λ_ j=>j≠0) λi j=>.int (i.fmod j)) jd:=JK (k:=λi j=>.int (i.fmod j)) (λ_ _ _=>.int _) λa b R h=>by
 unfold jd at h
 split at h
 ·exact ⟨_,_,rfl,rfl,h.1,h.2⟩
 ·exact h.elim
def gH:F2
 | .int i,.int j,R=>qh i j/\R (.int (i ^ j.toNat))
 | _,_,_=>False
theorem zPA:wH (rI qh λi j=>.int (i ^ j.toNat)) gH:=JK (k:=λi j=>.int (i ^ j.toNat)) (λ_ _ _=>.int _) λa b R h=>by
 unfold gH at h
 split at h
 ·exact ⟨_,_,rfl,rfl,h.1,h.2⟩
 ·exact h.elim
def wY (g:Int->Int->Bool):F2
 | .int i,.int j,R=>R (.bool (g i j))
 | _,_,_=>False
theorem gJ {g:Int->Int->Bool}:wH (uK λi j=>.bl (g i j)) (wY g):=zN9 (k:=λi j=>.bool (g i j)) (λ_ _ _=>.bool _) λa b R h=>by
 unfold wY at h
 split at h
 ·exact ⟨_,_,rfl,rfl,h⟩
 ·exact h.elim
theorem zy (ha:PE X a (tP pa)) (hb:PE X b (tP pb)):PE X (.BinOp a .Add b pos) (tP (xM gE pa pb)):=kJ (zRL.or (zN7.or Zf)) zPH ha hb
theorem wI (ha:PE X a (tP pa)) (hb:PE X b (tP pb)):PE X (.BinOp a .Sub b pos) (tP (xM gF pa pb)):=kJ zRB zO9 ha hb
theorem yW (ha:PE X a (tP pa)) (hb:PE X b (tP pb)):PE X (.BinOp a .Mult b pos) (tP (xM gG pa pb)):=kJ (zO5.or zRC) zPC ha hb
theorem wj (ha:PE X a (tP pa)) (hb:PE X b (tP pb)):PE X (.BinOp a .FloorDiv b pos) (tP (xM JL pa pb)):=kJ zMw zMy ha hb
theorem xm (ha:PE X a (tP pa)) (hb:PE X b (tP pb)):PE X (.BinOp a .Mod b pos) (tP (xM jd pa pb)):=kJ zO6 zPD ha hb
theorem qM (ha:PE X a (tP pa)) (hb:PE X b (tP pb)):PE X (.BinOp a .Pow b pos) (tP (xM gH pa pb)):=kJ zRD zPA ha hb
theorem zQh (ha:PE X a (tP pa)) (hb:PE X b (tP pb)):PE X (.Compare a [.Lt] [b] pos) (tP (xM (wY λi j=>decide (i < j)) pa pb)):=gD zRF gJ (vE _) ha hb
theorem zQi (ha:PE X a (tP pa)) (hb:PE X b (tP pb)):PE X (.Compare a [.LtE] [b] pos) (tP (xM (wY λi j=>decide (i<=j)) pa pb)):=gD ZH gJ (vE _) ha hb
theorem Zs (ha:PE X a (tP pa)) (hb:PE X b (tP pb)):PE X (.Compare a [.Gt] [b] pos) (tP (xM (wY λi j=>decide (j < i)) pa pb)):=gD zRI gJ (vE _) ha hb
theorem JM (ha:PE X a (tP pa)) (hb:PE X b (tP pb)):PE X (.Compare a [.GtE] [b] pos) (tP (xM (wY λi j=>decide (j<=i)) pa pb)):=gD zRJ gJ (vE _) ha hb
def Zu:D->(D->Prop)->Prop
 | .int i,R=>R (.int (-i))
 | _,_=>False
def Zv (f:D->(D->Prop)->Prop) (pa:zn):zn:=λΓ R=>pa Γ λx=>f x R
theorem xU (ha:PE X a (tP pa)):PE X (.UnaryOp .USub a pos) (tP (Zv Zu pa)):=yb (ZE zQD ha) λσ H Q ⟨Z,Γ,R,E,h,q⟩=>
 ⟨Z,Γ,_,E,h,λd v H1 hd s1 hv=>by
  unfold Zu at hd
  split at hd
  ·cases hv; exact ⟨_,rfl,q _ _ H1 hd s1 (.int _)⟩
  ·exact hd.elim⟩
end
end Pu
namespace Pu
open PySem L2 Sh
variable [yY]
mutual
def D.py:D->PyData
 | .int i=>.int i
 | .bool b=>.bool b
 | .non=>.none
 | .str x=>.str x
 | .scr _=>.none
 | .lst ds=>.list (wB ds)
 | .tup ds=>.tuple (wB ds)
 | .obj _ _ _=>.none
def wB:List D->List PyData
 | []=>[]
 | d :: ds=>d.py :: wB ds
end
def D.pl:Nat->D->Bool
 | 0,_=>false
 | _ + 1,.int _=>true
 | _ + 1,.bool _=>true
 | _ + 1,.non=>true
 | _ + 1,.str x=>iC x
 | _ + 1,.scr _=>false
 | n + 1,.lst ds=>ds.all (D.pl n)
 | n + 1,.tup ds=>ds.all (D.pl n)
 | _ + 1,.obj ..=>false
structure DpO (n:Nat) (d:D):Prop where
 dp:∀ K H v,DV H v d->Dp K H v d.py
 lay:d.py.canLay0=true
 dep:d.py.depth<=n
theorem JN {n:Nat}:∀ {ds:List D},(∀ d∈ds,DpO n d)->(∀ K H xs,yK H xs ds->ud K H xs (wB ds))/\hJ (wB ds)=true/\i9 (wB ds)<=n
 | [],_=>⟨λK H xs h=>by cases h; exact .nil,by simp [wB,hJ],by simp [wB,i9]⟩
 | d :: ds,h=>by
  obtain ⟨h1,h2,h3⟩:=JN (ds:=ds) λx m=>h x (cB _ m)
  have g:=h d cD
  have l:=g.lay
  have p:=g.dep
  refine ⟨λK H xs q=>?_,by simp [wB,hJ,l,h2],by simp only [wB,i9]; omega⟩
  cases q with
  | cons q r=>exact .cons (g.dp K H _ q) (h1 K H _ r)
theorem vH:∀ (n:Nat) (d:D),D.pl n d=true->DpO n d
 | 0,_,h=>by cases h
 | n + 1,.int i,_=>⟨λK H v h=>by cases h; exact .int i,by simp [D.py,fq],by simp [D.py,h_]⟩
 | n + 1,.bool i,_=>⟨λK H v h=>by cases h; exact .bl i,by simp [D.py,fq],by simp [D.py,h_]⟩
 | n + 1,.non,_=>⟨λK H v h=>by cases h; exact .non,by simp [D.py,fq],by simp [D.py,h_]⟩
 | n + 1,.str i,h=>⟨λK H v h=>by cases h; exact .str i,by simp only [D.py,fq]; exact h,by simp [D.py,h_]⟩
 | n + 1,.scr _,h=>by cases h
 | n + 1,.obj ..,h=>by cases h
 | n + 1,.lst ds,h=>by
  obtain ⟨h1,h2,h3⟩:=JN (n:=n) (ds:=ds) λd m=>vH n d (de.mp h d m)
  refine ⟨λK H v q=>?_,by simp [D.py,fq,h2],by simp only [D.py,h_]; omega⟩
  obtain ⟨p,xs,rfl,e,q⟩:=q.lst_inv
  exact .lst (zl.of e) (h1 K H _ q)
 | n + 1,.tup ds,h=>by
  obtain ⟨h1,h2,h3⟩:=JN (n:=n) (ds:=ds) λd m=>vH n d (de.mp h d m)
  refine ⟨λK H v q=>?_,by simp [D.py,fq,h2],by simp only [D.py,h_]; omega⟩
  obtain ⟨p,xs,rfl,e,q⟩:=q.tup_inv
  exact .tup (ym.of e) (h1 K H _ q)
theorem Zw:∀ ns:List Int,wB (ns.map D.int)=ns.map PyData.int
 | []=>rfl
 | n :: t=>by rw [di,di,wB,Zw t,D.py]
theorem JO (n:Nat) (ns:List Int):(ns.map D.int).all (D.pl (n + 1))=true:=de.mpr λd m=>by
 obtain ⟨i,_,rfl⟩:=cH.mp m
 rfl
abbrev L (ns:List Int):D:=.lst (ns.map D.int)
abbrev U (ns:List Int):D:=.tup (ns.map D.int)
theorem Zx (ns ms:List Int):dP (L ns).py (L ms).py=decide (ns=ms):=by
 show eU (wB (ns.map D.int)) (wB (ms.map D.int))=_
 rw [Zw,Zw]
 exact Uu ns ms
section
variable {X:Cx} {a b e c:Expr} {es:List Expr} {pos:Pos} {pa pb pc:zn} {qa qb:wA} {pl:yo}
def WS:F2
 | .int i,.int j,R=>R (.bool (decide (i=j)))
 | .bool i,.bool j,R=>R (.bool (i == j))
 | .str i,.str j,R=>R (.bool (i == j))
 | .non,.non,R=>R (.bool true)
 | .lst as,.lst bs,R=>(D.lst as).pl 50=true/\(D.lst bs).pl 50=true/\R (.bool (dP (D.lst as).py (D.lst bs).py))
 | .tup as,.tup bs,R=>(D.tup as).pl 50=true/\(D.tup bs).pl 50=true/\R (.bool (dP (D.tup as).py (D.tup bs).py))
 | _,_,_=>False
theorem zOA {K:b'}:wH (λx y H Q=>rEq x y H Q\/qt K x y H Q) WS:=λZ H x y a b R Q zd hx hy h q=>by
 unfold WS at h
 split at h
 ·cases hx; cases hy
  refine .inl ⟨rfl,?_⟩
  rw [Xv,i_]
  exact q _ _ H h (Sm.refl _) (.bool _)
 ·cases hx; cases hy
  refine .inl ⟨rfl,?_⟩
  rw [Xw]
  exact q _ _ H h (Sm.refl _) (.bool _)
 ·cases hx; cases hy
  refine .inl ⟨rfl,?_⟩
  rw [Xx]
  exact q _ _ H h (Sm.refl _) (.bool _)
 ·cases hx; cases hy
  refine .inl ⟨rfl,?_⟩
  rw [show decide (V.non=V.non)=true from decide_eq_true rfl]
  exact q _ _ H h (Sm.refl _) (.bool _)
 ·have d1:=vH _ _ h.1
  have d2:=vH _ _ h.2.1
  have e1:=d1.dep
  have e2:=d2.dep
  exact .inr ⟨_,_,d1.dp K H _ (hx.same yE),d2.dp K H _ (hy.same yE),d1.lay,d2.lay,by omega,by omega,q _ _ H h.2.2 (Sm.refl _) (.bool _)⟩
 ·have d1:=vH _ _ h.1
  have d2:=vH _ _ h.2.1
  have e1:=d1.dep
  have e2:=d2.dep
  exact .inr ⟨_,_,d1.dp K H _ (hx.same yE),d2.dp K H _ (hy.same yE),d1.lay,d2.lay,by omega,by omega,q _ _ H h.2.2 (Sm.refl _) (.bool _)⟩
 ·exact h.elim
def qN:F2
 | .int i,.int j,R=>R (.bool (!decide (i=j)))
 | .bool i,.bool j,R=>R (.bool (i != j))
 | .str i,.str j,R=>R (.bool (i != j))
 | .lst as,.lst bs,R=>(D.lst as).pl 50=true/\(D.lst bs).pl 50=true/\R (.bool (!PyData.eqv (D.lst as).py (D.lst bs).py))
 | .tup as,.tup bs,R=>(D.tup as).pl 50=true/\(D.tup bs).pl 50=true/\R (.bool (!PyData.eqv (D.tup as).py (D.tup bs).py))
 | _,_,_=>False
theorem zN8 {K:b'}:wH (λx y H Q=>rNe x y H Q\/∃ d e:PyData,Dp K H x d/\Dp K H y e/\d.canLay0=true/\e.canLay0=true/\d.depth<=60/\e.depth<=60/\Q (.bl (!PyData.eqv d e)) H) qN:=λZ H x y a b R Q zd hx hy h q=>by
 unfold qN at h
 split at h
 ·cases hx; cases hy
  refine .inl ⟨rfl,?_⟩
  rw [Xv,i_]
  exact q _ _ H h (Sm.refl _) (.bool _)
 ·cases hx; cases hy
  refine .inl ⟨rfl,?_⟩
  rw [Xw]
  exact q _ _ H h (Sm.refl _) (.bool _)
 ·cases hx; cases hy
  refine .inl ⟨rfl,?_⟩
  rw [Xx]
  exact q _ _ H h (Sm.refl _) (.bool _)
 ·have d1:=vH _ _ h.1
  have d2:=vH _ _ h.2.1
  have e1:=d1.dep
  have e2:=d2.dep
  exact .inr ⟨_,_,d1.dp K H _ (hx.same yE),d2.dp K H _ (hy.same yE),d1.lay,d2.lay,by omega,by omega,q _ _ H h.2.2 (Sm.refl _) (.bool _)⟩
 ·have d1:=vH _ _ h.1
  have d2:=vH _ _ h.2.1
  have e1:=d1.dep
  have e2:=d2.dep
  exact .inr ⟨_,_,d1.dp K H _ (hx.same yE),d2.dp K H _ (hy.same yE),d1.lay,d2.lay,by omega,by omega,q _ _ H h.2.2 (Sm.refl _) (.bool _)⟩
 ·exact h.elim
theorem zQg (hu:X.A.units + 64 < cLine) (ha:PE X a (tP pa)) (hb:PE X b (tP pb)):PE X (.Compare a [.NotEq] [b] pos) (tP (xM qN pa pb)):=gD (zRE.or (Up hu)) zN8 (vE _) ha hb
theorem je (hu:X.A.units + 64 < cLine) (ha:PE X a (tP pa)) (hb:PE X b (tP pb)):PE X (.Compare a [.Eq] [b] pos) (tP (xM WS pa pb)):=gD (zRK.or (WB hu)) zOA (vE _) ha hb
def bD:D->(Bool->Prop)->Prop
 | .bool b,R=>R b
 | _,_=>False
def xQ (pa:zn):wA:=λΓ R=>pa Γ λd=>bD d R
theorem zNt {t:TE} (w:∀ σ H Q,tP pa σ H Q->t σ H Q) (σ:St) (H:Hp) (Q:Bool->Hp->Prop):xA (xQ pa) σ H Q->zQK t σ H Q:=λ⟨Z,Γ,R,E,h,q⟩=>
 w _ _ _ ⟨Z,Γ,_,E,h,λd v H1 hd s1 hv=>by
  unfold bD at hd
  split at hd
  ·cases hv; exact ⟨_,rfl,q _ H1 hd s1⟩
  ·exact hd.elim⟩
theorem xf (ha:PE X e (tP pa)) (he:∀ whole,isTrue e X.env whole=(do let v <- whole; standAt e.pos; holding [v] (truthy v)):=by intro _; rfl):PT X e (xA (xQ pa)):=JI (zQn ha he) (zNt λ_ _ _ h=>h)
theorem jJ {op:CmpOp} {r:R2} {f:F2} (ho:y8 X (compareOp op) r) (o:wH r f) (hm:behindInMarks op b=false) (ha:PE X a (tP pa)) (hb:PE X b (tP pb)):PT X (.Compare a [op] [b] pos) (xA (xQ (xM f pa pb))):=JI (zOs ho ha hb hm) (zNt (WQ o))
theorem ur (hu:X.A.units + 64 < cLine) (ha:PE X a (tP pa)) (hb:PE X b (tP pb)):PT X (.Compare a [.Eq] [b] pos) (xA (xQ (xM WS pa pb))):=jJ (zRK.or (WB hu)) zOA (vE _) ha hb
theorem gK (hu:X.A.units + 64 < cLine) (ha:PE X a (tP pa)) (hb:PE X b (tP pb)):PT X (.Compare a [.NotEq] [b] pos) (xA (xQ (xM qN pa pb))):=jJ (zRE.or (Up hu)) zN8 (vE _) ha hb
theorem Zy (ha:PE X a (tP pa)) (hb:PE X b (tP pb)):PT X (.Compare a [.Lt] [b] pos) (xA (xQ (xM (wY λi j=>decide (i < j)) pa pb))):=jJ zRF gJ (vE _) ha hb
theorem gL (ha:PE X a (tP pa)) (hb:PE X b (tP pb)):PT X (.Compare a [.Gt] [b] pos) (xA (xQ (xM (wY λi j=>decide (j < i)) pa pb))):=jJ zRI gJ (vE _) ha hb
theorem zQe (ha:PE X a (tP pa)) (hb:PE X b (tP pb)):PT X (.Compare a [.GtE] [b] pos) (xA (xQ (xM (wY λi j=>decide (j<=i)) pa pb))):=jJ zRJ gJ (vE _) ha hb
def wJ (b:Bool) (A B:Prop):Prop:=(b=true->A)/\(b=false->B)
theorem wT {b:Bool} {A B:Prop} (e:b=true) (h:A):wJ b A B:=⟨λ_=>h,λz=>nomatch e.symm.trans z⟩
theorem wF {b:Bool} {A B:Prop} (e:b=false) (h:B):wJ b A B:=⟨λz=>(nomatch e.symm.trans z),λ_=>h⟩
theorem w2 {b:Bool} {A B:Prop} (h1:b=true->A) (h2:b=false->B):wJ b A B:=⟨h1,h2⟩
def JP (p q:wA):wA:=λΓ R=>p Γ λc=>wJ c (q Γ R) (R false)
def pOr (p q:wA):wA:=λΓ R=>p Γ λc=>wJ c (R true) (q Γ R)
def JQ (p:wA):wA:=λΓ R=>p Γ λc=>R (!c)
theorem zIt (ha:PT X a (xA qa)):PW X (.BoolOp .And [a] pos) (xA qa):=zOm ha
theorem ut (ha:PT X a (xA qa)):PW X (.BoolOp .Or [a] pos) (xA qa):=zQc ha
theorem zKc {yJ:List Expr} (ha:PT X a (xA qa)) (hb:PW X (.BoolOp .And (b :: yJ) pos) (xA qb)):PW X (.BoolOp .And (a :: b :: yJ) pos) (xA (JP qa qb)):=pww (zQd ha hb) λσ H Q ⟨Z,Γ,R,E,h,q⟩=>
 ⟨Z,Γ,_,E,h,λc H1 hc s1=>by
  cases c with
  | true=>exact ⟨Z,Γ,R,E.same s1,hc.1 rfl,λb H2 hb s2=>q b H2 hb (s1.trans s2)⟩
  | false=>exact q _ H1 (hc.2 rfl) s1⟩
theorem uQ {yJ:List Expr} (ha:PT X a (xA qa)) (hb:PW X (.BoolOp .Or (b :: yJ) pos) (xA qb)):PW X (.BoolOp .Or (a :: b :: yJ) pos) (xA (pOr qa qb)):=pww (ko ha hb) λσ H Q ⟨Z,Γ,R,E,h,q⟩=>
 ⟨Z,Γ,_,E,h,λc H1 hc s1=>by
  cases c with
  | true=>exact q _ H1 (hc.1 rfl) s1
  | false=>exact ⟨Z,Γ,R,E.same s1,hc.2 rfl,λb H2 hb s2=>q b H2 hb (s1.trans s2)⟩⟩
theorem wl (ha:PT X a (xA qa)):PT X (.UnaryOp .Not a pos) (xA (JQ qa)):=JI (zQo ha) λσ H Q ⟨Z,Γ,R,E,h,q⟩=>⟨Z,Γ,_,E,h,λc H1 hc s1=>q _ H1 hc s1⟩
def Zz (p q:zn):zn:=λΓ R=>p Γ λd=>bD d λc=>wJ c (q Γ R) (R (.bool false))
def JR (p q:zn):zn:=λΓ R=>p Γ λd=>bD d λc=>wJ c (R (.bool true)) (q Γ R)
def Z3 (p:zn):zn:=λΓ R=>p Γ λd=>bD d λc=>R (.bool !c)
theorem jK {op} (ha:PE X a (tP pa)):PE X (.BoolOp op [a] pos) (tP pa):=zQz ha
theorem uD {yJ:List Expr} (ha:PE X a (tP pa)) (hb:PE X (.BoolOp .And (b :: yJ) pos) (tP pb)):PE X (.BoolOp .And (a :: b :: yJ) pos) (tP (Zz pa pb)):=yb (zQ4 ha hb) λσ H Q ⟨Z,Γ,R,E,h,q⟩=>
 ⟨Z,Γ,_,E,h,λd v H1 hd s1 hv=>by
  unfold bD at hd
  split at hd
  ·cases hv
   rename_i c
   refine ⟨c,rfl,?_⟩
   cases c with
   | true=>exact ⟨Z,Γ,R,E.same s1,hd.1 rfl,λb v H2 hb s2 k=>q b v H2 hb (s1.trans s2) k⟩
   | false=>exact q _ _ H1 (hd.2 rfl) s1 (.bool _)
  ·exact hd.elim⟩
theorem Z4 {yJ:List Expr} (ha:PE X a (tP pa)) (hb:PE X (.BoolOp .Or (b :: yJ) pos) (tP pb)):PE X (.BoolOp .Or (a :: b :: yJ) pos) (tP (JR pa pb)):=yb (ku ha hb) λσ H Q ⟨Z,Γ,R,E,h,q⟩=>
 ⟨Z,Γ,_,E,h,λd v H1 hd s1 hv=>by
  unfold bD at hd
  split at hd
  ·cases hv
   rename_i c
   refine ⟨c,rfl,?_⟩
   cases c with
   | true=>exact q _ _ H1 (hd.1 rfl) s1 (.bool _)
   | false=>exact ⟨Z,Γ,R,E.same s1,hd.2 rfl,λb v H2 hb s2 k=>q b v H2 hb (s1.trans s2) k⟩
  ·exact hd.elim⟩
theorem zQf (ha:PE X a (tP pa)):PE X (.UnaryOp .Not a pos) (tP (Z3 pa)):=yb (zQ0 ha) λσ H Q ⟨Z,Γ,R,E,h,q⟩=>
 ⟨Z,Γ,_,E,h,λd v H1 hd s1 hv=>by
  unfold bD at hd
  split at hd
  ·cases hv; exact ⟨_,rfl,q _ _ H1 hd s1 (.bool _)⟩
  ·exact hd.elim⟩
def JS (t:wA) (p q:zn):zn:=λΓ R=>t Γ λc=>wJ c (p Γ R) (q Γ R)
theorem Z5 (hc:PT X c (xA qa)) (ha:PE X a (tP pa)) (hb:PE X b (tP pb)):PE X (.IfExp c a b pos) (tP (JS qa pa pb)):=yb (zMu hc ha hb) λσ H Q ⟨Z,Γ,R,E,h,q⟩=>
 ⟨Z,Γ,_,E,h,λc H1 hd s1=>by
  cases c with
  | true=>exact ⟨Z,Γ,R,E.same s1,hd.1 rfl,λb v H2 hb s2 k=>q b v H2 hb (s1.trans s2) k⟩
  | false=>exact ⟨Z,Γ,R,E.same s1,hd.2 rfl,λb v H2 hb s2 k=>q b v H2 hb (s1.trans s2) k⟩⟩
def Z6:yo:=λ_ R=>R []
def zQ8 (pa:zn) (pl:yo):yo:=λΓ R=>pa Γ λd=>pl Γ λds=>R (d :: ds)
theorem zC:PA X [] (xk Z6):=paw yu λσ H Q ⟨_,_,_,_,h,q⟩=>q _ _ H h (Sm.refl _) .nil
theorem zB (ha:PE X e (tP pa)) (hr:PA X es (xk pl)) (hs:starEach (e :: es) X.env=(false,eval e X.env) :: starEach es X.env:=by rfl):PA X (e :: es) (xk (zQ8 pa pl)):=paw (yF ha hr hs) λσ H Q ⟨Z,Γ,R,E,h,q⟩=>
 ⟨Z,Γ,_,E,h,λd v H1 hd s1 hv=>⟨Z,Γ,_,E.same s1,hd,λds vs H2 hds s2 hvs=>q _ _ H2 hds (s1.trans s2) (.cons (hv.same (yZ s2)) hvs)⟩⟩
def JT (pl:yo):zn:=λΓ R=>pl Γ λds=>ds.length<=1000/\R (.tup ds)
def JU (pl:yo):zn:=λΓ R=>pl Γ λds=>ds.length<=1000/\R (.lst ds)
theorem xR {x1} (ha:PA X es (xk pl)):PE X (.Tuple es x1 pos) (tP (JT pl)):=yb (zQw ha) λσ H Q ⟨Z,Γ,R,E,h,q⟩=>
 ⟨Z,Γ,_,E,h,λds vs H1 hd s1 hv=>⟨few (by rw [Paired.length hv]; exact hd.1),λp hp=>q _ _ _ hd.2 (s1.trans (x9 hp _)) (WR (E.same s1).zd hp hv)⟩⟩
theorem w6 (ha:PA X es (xk pl)):PE X (.List es pos) (tP (JU pl)):=yb (zN4 ha) λσ H Q ⟨Z,Γ,R,E,h,q⟩=>
 ⟨Z,Γ,_,E,h,λds vs H1 hd s1 hv=>⟨few (by rw [Paired.length hv]; exact hd.1),λp hp=>q _ _ _ hd.2 (s1.trans (x9 hp _)) (uq (E.same s1).zd hp hv)⟩⟩
theorem WT {α β:Type} {R:α->β->Prop} {xs:List α} {ys:List β} (h:Paired R xs ys) {i:Int} {y:β} (e:y3 ys i=some y):∃ x,y3 xs i=some x/\R x y:=by
 unfold y3 at e |-
 rw [Paired.length h]
 cases k:xj ys.length i with
 | none=>rw [k] at e; cases e
 | some j=>
  rw [k] at e
  exact go h e
where
 go:∀ {xs:List α} {ys:List β} {j:Nat} {y:β},Paired R xs ys->ys[j]? = some y->∃ x,xs[j]? = some x/\R x y
  | _,_,_,_,.nil,e=>by simp at e
  | _,_,0,_,.cons r _,e=>by simp at e; subst e; exact ⟨_,rfl,r⟩
  | _,_,j + 1,y,.cons _ t,e=>by
   obtain ⟨x,h1,h2⟩:=go (j:=j) (y:=y) t (by simpa using e)
   exact ⟨x,by simpa using h1,h2⟩
def ixD:F2
 | .lst ds,.int i,R=>∃ d,y3 ds i=some d/\R d
 | .tup ds,.int i,R=>∃ d,y3 ds i=some d/\R d
 | .scr ns,.int i,R=>∃ n,y3 ns i=some n/\R (.int n)
 | _,_,_=>False
theorem Z7 {α β:Type} (f:α->β) (xs:List α) (i:Int):y3 (xs.map f) i=(y3 xs i).map f:=by
 unfold y3
 rw [a_]
 cases xj xs.length i with
 | none=>rfl
 | some j=>exact db ..
theorem zRM {K:b'}:wH (Zb K) ixD:=λZ H x y a b R Q zd hx hy h q=>by
 unfold ixD at h
 split at h
 ·obtain ⟨p,xs,rfl,e1,h1⟩:=hx.lst_inv
  cases hy
  obtain ⟨d,hd,hR⟩:=h
  obtain ⟨v,hv,hh⟩:=WT h1 hd
  exact ⟨p,xs,_,v,rfl,rfl,.inr (zl.of (yE _ _ e1)),hv,q _ _ H hR (Sm.refl _) hh⟩
 ·obtain ⟨p,xs,rfl,e1,h1⟩:=hx.tup_inv
  cases hy
  obtain ⟨d,hd,hR⟩:=h
  obtain ⟨v,hv,hh⟩:=WT h1 hd
  exact ⟨p,xs,_,v,rfl,rfl,.inl (ym.of (yE _ _ e1)),hv,q _ _ H hR (Sm.refl _) hh⟩
 ·cases hy
  cases hx with
  | scr e=>
  obtain ⟨n,hn,hR⟩:=h
  exact ⟨_,_,_,.int n,rfl,rfl,.inr (.inl (JH yE e)),by rw [Z7,hn]; rfl,q _ _ H hR (Sm.refl _) (.int n)⟩
 ·exact h.elim
theorem Z8 (ha:PE X a (tP pa)) (hb:PE X b (tP pb)) (hs:X3 b):PE X (.Subscript a b pos) (tP (xM ixD pa pb)):=yb (Ue zPX ha hb hs) (WQ zRM)
theorem Z9 {X:Cx} {e:Option Expr} {t t':TO} (h:PO X e t) (w:∀ σ H Q,t' σ H Q->t σ H Q):PO X e t':=λpins s σ H Q I q=>h pins s σ H Q I (w σ H Q q)
def zO2:Zo:=λ_ R=>R none
def iD:D->(Option Int->Prop)->Prop
 | .int i,R=>R (some i)
 | _,_=>False
def YA (pa:zn):Zo:=λΓ R=>pa Γ λd=>iD d R
theorem w8:PO X none (Zq zO2):=Z9 zOv λσ H Q ⟨_,_,_,_,h,q⟩=>q _ H h (Sm.refl _)
theorem wK (h:PE X e (tP pa)):PO X (some e) (Zq (YA pa)):=Z9 (zOu h) λσ H Q ⟨Z,Γ,R,E,h,q⟩=>
 ⟨Z,Γ,_,E,h,λd v H1 hd s1 hv=>by
  unfold iD at hd
  split at hd
  ·cases hv; exact ⟨_,rfl,q _ H1 hd s1⟩
  ·exact hd.elim⟩
def zq {α:Type} (xs:List α) (lo hi:Option Int):List α:=(xs.drop (HT.sIx xs.length 0 lo)).take (HT.sIx xs.length xs.length hi - HT.sIx xs.length 0 lo)
theorem zKy {α β:Type} {R:α->β->Prop}:∀ {xs:List α} {ys:List β} (n:Nat),Paired R xs ys->Paired R (xs.take n) (ys.take n)
 | _,_,0,_=>.nil
 | _,_,_ + 1,.nil=>.nil
 | _,_,n + 1,.cons h t=>.cons h (zKy n t)
theorem zKz {α β:Type} {R:α->β->Prop}:∀ {xs:List α} {ys:List β} (n:Nat),Paired R xs ys->Paired R (xs.drop n) (ys.drop n)
 | _,_,0,h=>h
 | _,_,_ + 1,.nil=>.nil
 | _,_,n + 1,.cons _ t=>zKz n t
theorem zF1 {α β:Type} {R:α->β->Prop} {xs:List α} {ys:List β} (h:Paired R xs ys) (lo hi:Option Int):Paired R (zq xs lo hi) (zq ys lo hi):=by
 unfold zq
 rw [Paired.length h]
 exact zKy _ (zKz _ h)
def slD:D->Option Int->Option Int->(D->Prop)->Prop
 | .lst ds,lo,hi,R=>R (.lst (zq ds lo hi))
 | .tup ds,lo,hi,R=>R (.tup (zq ds lo hi))
 | _,_,_,_=>False
def pSl (pa:zn) (po qo:Zo):zn:=λΓ R=>pa Γ λd=>po Γ λl=>qo Γ λu=>slD d l u R
theorem zQT {X:Cx} {r r':V->Option Int->Option Int->Hp->VK->Prop} (h:qm X r) (h':qm X r'):qm X (λx l u H Q=>r x l u H Q\/r' x l u H Q):=λpins s σ H x v vl vu lo hi sl Q I r1 r2 r3 r4 q=>
 q.elim (h pins s σ H x v vl vu lo hi sl Q I r1 r2 r3 r4) (h' pins s σ H x v vl vu lo hi sl Q I r1 r2 r3 r4)
theorem wZ {lo hi:Option Expr} {po qo:Zo} {p2:Pos} (ha:PE X a (tP pa)) (hl:PO X lo (Zq po)) (hu:PO X hi (Zq qo)):PE X (.Subscript a (.Slice lo hi none p2) pos) (tP (pSl pa po qo)):=yb (zMr (zQT zOg zNO) ha hl hu) λσ H Q ⟨Z,Γ,R,E,h,q⟩=>
 ⟨Z,Γ,_,E,h,λd v H1 hd s1 hv=>⟨Z,Γ,_,E.same s1,hd,λl H2 hl s2=>⟨Z,Γ,_,E.same (s1.trans s2),hl,λu H3 hu s3=>by
  have s:=s1.trans (s2.trans s3)
  have hv:=hv.same (yZ (s2.trans s3))
  have zd:=(E.same s).zd
  unfold slD at hu
  split at hu
  ·obtain ⟨p,xs,rfl,e1,h1⟩:=hv.lst_inv
   exact .inl ⟨p,xs,rfl,zl.of (yE _ _ e1),λn hn=>q _ _ _ hu (s.trans (x9 hn _)) (uq zd hn (zF1 h1 _ _))⟩
  ·obtain ⟨p,xs,rfl,e1,h1⟩:=hv.tup_inv
   exact .inr ⟨p,xs,rfl,yE _ _ e1,λn H' s' e=>have s':=Sm.of s'; q _ _ _ hu (s.trans s') (zK6 (zd.same s') e (xT (yZ s') (zF1 h1 _ _)))⟩
  ·exact hu.elim⟩⟩⟩
abbrev FL:=List D->(D->Prop)->Prop
def uR (r:List V->Hp->VK->Prop) (f:FL):Prop:=∀ (Z:Addr->Prop) (H:Hp) (vs:List V) (ds:List D) (R:D->Prop) (Q:VK),ZL Z H->yK (zP Z H) vs ds->f ds R->(∀ d v H',R d->Sm H H'->DV (zP Z H') v d->Q v H')->r vs H Q
def jf (f:FL) (pl:yo):zn:=λΓ R=>pl Γ λds=>f ds R
theorem zKQ {r:List V->Hp->VK->Prop} {f:FL} (o:uR r f) (σ:St) (H:Hp) (Q:VK):tP (jf f pl) σ H Q->ZM r (xk pl) σ H Q:=λ⟨Z,Γ,R,E,h,q⟩=>
 ⟨Z,Γ,_,E,h,λds vs H1 hd s1 hv=>o Z H1 vs ds R Q (E.same s1).zd hv hd λd v H2 h2 s2 hv2=>q d v H2 h2 (s1.trans s2) hv2⟩
theorem yr {x:Str} {id:String} {p:Pos} {r:List V->Hp->VK->Prop} {f:FL} (hc:wu X (.builtin id) r) (o:uR r f) (hg:Gl X x) (hm:X.mg x=none) (hv:bootBuiltins x=some (.builtin id)) (ha:PA X (e :: es) (xk pl)) (hn:x≠"__name__":=by decide) (hdb:(x == ("__debug__" : Str))=false:=by decide)
  (he:starEach (e :: es) X.env=(false,eval e X.env) :: starEach es X.env:=by rfl) (hpl:(backTo pos (starEach es X.env)).any (·.1)=false:=by rfl):PE X (.Call (.Name x p) (e :: es) [] pos) (tP (jf f pl)):=yb (vh hc hg hm hv ha hn hdb he hpl) (zKQ o)
theorem xa {x:Str} {T:String} {p:Pos} {r:List V->Hp->VK->Prop} {f:FL} (hc:wu X (.type T) r) (o:uR r f) (hg:Gl X x) (hm:X.mg x=none) (hv:bootBuiltins x=some (.type T)) (ha:PA X (e :: es) (xk pl)) (hn:x≠"__name__":=by decide) (hdb:(x == ("__debug__" : Str))=false:=by decide)
  (he:starEach (e :: es) X.env=(false,eval e X.env) :: starEach es X.env:=by rfl) (hpl:(backTo pos (starEach es X.env)).any (·.1)=false:=by rfl):PE X (.Call (.Name x p) (e :: es) [] pos) (tP (jf f pl)):=yb (X1 hc hg hm hv ha hn hdb he hpl) (zKQ o)
def YB:FL
 | [.lst ds],R=>R (.int ds.length)
 | [.tup ds],R=>R (.int ds.length)
 | [.scr ns],R=>R (.int ns.length)
 | _,_=>False
theorem xB {H:Hp} {vs:List V} {d:D} (h:yK H vs [d]):∃ v,vs=[v]/\DV H v d:=by
 cases h with
 | cons h t=>cases t; exact ⟨_,rfl,h⟩
theorem gM {H:Hp} {vs:List V} {d e:D} (h:yK H vs [d,e]):∃ v w,vs=[v,w]/\DV H v d/\DV H w e:=by
 cases h with
 | cons h t=>obtain ⟨w,rfl,k⟩:=xB t; exact ⟨_,_,rfl,h,k⟩
theorem wL {K:b'}:uR (λxs H Q=>∃ p ys,xs=[.ref p]/\(zl K H p ys\/ym K H p ys)/\Q (.int ys.length) H) YB:=λZ H vs ds R Q zd hv h q=>by
 unfold YB at h
 split at h
 ·obtain ⟨v,rfl,hw⟩:=xB hv
  obtain ⟨p,xs,rfl,e1,h1⟩:=hw.lst_inv
  exact ⟨p,xs,rfl,.inl (zl.of (yE _ _ e1)),by rw [Paired.length h1]; exact q _ _ H h (Sm.refl _) (.int _)⟩
 ·obtain ⟨v,rfl,hw⟩:=xB hv
  obtain ⟨p,xs,rfl,e1,h1⟩:=hw.tup_inv
  exact ⟨p,xs,rfl,.inr (ym.of (yE _ _ e1)),by rw [Paired.length h1]; exact q _ _ H h (Sm.refl _) (.int _)⟩
 ·obtain ⟨v,rfl,hw⟩:=xB hv
  cases hw with
  | scr e=>exact ⟨_,_,rfl,.inl (.inl (JH yE e)),by rw [a_]; exact q _ _ H h (Sm.refl _) (.int _)⟩
 ·exact h.elim
def zRY:FL
 | [.lst ds],R=>R (.lst ds)
 | [.tup ds],R=>R (.lst ds)
 | _,_=>False
theorem uu {K:b'}:uR (λxs H Q=>∃ p ys,xs=[.ref p]/\(zl K H p ys\/ym K H p ys)/\∀ l,H l=none->Q (.ref l) (za H l (.lst ys))) zRY:=λZ H vs ds R Q zd hv h q=>by
 unfold zRY at h
 split at h
 ·obtain ⟨v,rfl,hw⟩:=xB hv
  obtain ⟨p,xs,rfl,e1,h1⟩:=hw.lst_inv
  exact ⟨p,xs,rfl,.inl (zl.of (yE _ _ e1)),λl hl=>q _ _ _ h (x9 hl _) (uq zd hl h1)⟩
 ·obtain ⟨v,rfl,hw⟩:=xB hv
  obtain ⟨p,xs,rfl,e1,h1⟩:=hw.tup_inv
  exact ⟨p,xs,rfl,.inr (ym.of (yE _ _ e1)),λl hl=>q _ _ _ h (x9 hl _) (uq zd hl h1)⟩
 ·exact h.elim
def YD:FL
 | [.lst ds],R=>R (.tup ds)
 | [.tup ds],R=>R (.tup ds)
 | _,_=>False
theorem uS {K:b'}:uR (λxs H Q=>∃ p ys,xs=[.ref p]/\((zl K H p ys/\∀ l,H l=none->Q (.ref l) (za H l (.tup ys)))\/(ym K H p ys/\Q (.ref p) H))) YD:=λZ H vs ds R Q zd hv h q=>by
 unfold YD at h
 split at h
 ·obtain ⟨v,rfl,hw⟩:=xB hv
  obtain ⟨p,xs,rfl,e1,h1⟩:=hw.lst_inv
  exact ⟨p,xs,rfl,.inl ⟨zl.of (yE _ _ e1),λl hl=>q _ _ _ h (x9 hl _) (WR zd hl h1)⟩⟩
 ·obtain ⟨v,rfl,hw⟩:=xB hv
  obtain ⟨p,xs,rfl,e1,h1⟩:=hw.tup_inv
  exact ⟨p,xs,rfl,.inr ⟨ym.of (yE _ _ e1),q _ _ _ h (Sm.refl _) hw⟩⟩
 ·exact h.elim
def YE:FL
 | [.lst ds],R=>∃ ns:List Int,ds=ns.map D.int/\R (.int ns.sum)
 | _,_=>False
theorem YF {K:b'}:uR (λxs H Q=>∃ (p:Addr) (ns:List Int),xs=[.ref p]/\zl K H p (ns.map V.int)/\Q (.int ns.sum) H) YE:=λZ H vs ds R Q zd hv h q=>by
 unfold YE at h
 split at h
 ·obtain ⟨v,rfl,hw⟩:=xB hv
  obtain ⟨p,xs,rfl,e1,h1⟩:=hw.lst_inv
  obtain ⟨ns,rfl,h⟩:=h
  cases Zn h1
  exact ⟨p,ns,rfl,zl.of (yE _ _ e1),q _ _ H h (Sm.refl _) (.int _)⟩
 ·exact h.elim
def YG:FL
 | [.lst ds],R=>∃ bs:List Bool,ds=bs.map D.bool/\R (.bool (bs.all id))
 | _,_=>False
theorem qO {K:b'}:uR (λxs H Q=>∃ (p:Addr) (bs:List Bool),xs=[V.ref p]/\zl K H p (bs.map V.bl)/\Q (V.bl (bs.all id)) H) YG:=λZ H vs ds R Q zd hv h q=>by
 unfold YG at h
 split at h
 ·obtain ⟨v,rfl,hw⟩:=xB hv
  obtain ⟨p,xs,rfl,e1,h1⟩:=hw.lst_inv
  obtain ⟨ns,rfl,h⟩:=h
  cases zHh h1
  exact ⟨p,ns,rfl,zl.of (yE _ _ e1),q _ _ H h (Sm.refl _) (.bool _)⟩
 ·exact h.elim
def YH:FL
 | [.int i,.int j],R=>R (.int (max i j))
 | _,_=>False
theorem zL5:uR (λxs H Q=>∃ i j,xs=[.int i,.int j]/\Q (.int (if j > i then j else i)) H) YH:=λZ H vs ds R Q zd hv h q=>by
 unfold YH at h
 split at h
 ·rename_i i j
  obtain ⟨v,w,rfl,hx,hy⟩:=gM hv
  cases hx; cases hy
  refine ⟨_,_,rfl,?_⟩
  have e:(if j > i then j else i)=max i j:=by rw [Int.max_def]; split <;> split <;> omega
  rw [e]
  exact q _ _ H h (Sm.refl _) (.int _)
 ·exact h.elim
def YI:FL
 | [.int i],R=>R (.int i)
 | [.bool b],R=>R (.int (if b=true then 1 else 0))
 | _,_=>False
theorem JV:uR (λxs H Q=>(∃ i,xs=[.int i]/\Q (.int i) H)\/∃ k,xs=[.bl k]/\Q (.int (if k then 1 else 0)) H) YI:=λZ H vs ds R Q zd hv h q=>by
 unfold YI at h
 split at h
 ·obtain ⟨v,rfl,hw⟩:=xB hv
  cases hw
  exact .inl ⟨_,rfl,q _ _ H h (Sm.refl _) (.int _)⟩
 ·obtain ⟨v,rfl,hw⟩:=xB hv
  cases hw
  exact .inr ⟨_,rfl,q _ _ H h (Sm.refl _) (.int _)⟩
 ·exact h.elim
end
end Pu
namespace Pu
open PySem L2 Sh
variable [yY]
def setN:St->List Nat->List V->St
 | σ,j :: js,v :: vs=>setN (σ.set j (some v)) js vs
 | σ,_,_=>σ
def WU:List Sl->List Nat->List D->List Sl
 | Γ,j :: js,d :: ds=>WU (zz Γ j (.sh d)) js ds
 | Γ,_,_=>Γ
def uT:Option (List D)->(List D->Prop)->Prop
 | some os,k=>k os
 | none,_=>False
theorem YJ {o:Option (List D)} {k:List D->Prop} (h:uT o k):∃ os,o=some os/\k os:=by
 cases o with
 | none=>exact h.elim
 | some os=>exact ⟨os,rfl,h⟩
inductive tG (js:List Nat) (po:D->Option (List D)) (v:V) (σ:St) (H:Hp) (Q:St->Hp->Prop):Prop
 | mk (Z:Addr->Prop) (d:D) (os:List D) (hv:DV (zP Z H) v d) (ho:po d=some os) (q:∀ vs,yK (zP Z H) vs os->Q (setN σ js vs) H):tG js po v σ H Q
inductive tGs (js:List Nat) (po:List D->Option (List D)) (us:List V) (σ:St) (H:Hp) (Q:St->Hp->Prop):Prop
 | mk (Z:Addr->Prop) (ds os:List D) (hv:yK (zP Z H) us ds) (ho:po ds=some os) (q:∀ vs,yK (zP Z H) vs os->Q (setN σ js vs) H):tGs js po us σ H Q
structure kK (X:Cx) (es:List Expr) (js:List Nat) (po:List D->Option (List D)) (n:Nat):Prop where
 g:gq X es (tGs js po)
 l:∀ ds os,po ds=some os->ds.length=n
 k:∀ ds os,po ds=some os->os.length=js.length
section
variable {X:Cx} {pos:Pos}
def JW:D->Option (List D):=λd=>some [d]
theorem zMj (i:Nat) {x:Str} (hN:X.N.Nodup) (hi:X.N[i]? = some x) (hx:ve X.env.scope x) (hf:X.fn x=true\/X.env.scope.names.lookup x=some .local:=by first | exact .inl rfl | exact .inr rfl | assumption):PG X (.Name x pos) (tG [i] JW):=
 λpins s σ H v u Q I r ⟨_,_,_,hv,ho,q⟩=>zKs hN hi hx hf pins s σ H v u Q I r (by
  cases ho
  exact q [v] (.cons hv .nil))
def zQr:List D->Option (List D)
 | []=>some []
 | _=>none
def JX (po:List D->Option (List D)):List D->Option (List D)
 | d :: ds=>(po ds).map (d :: ·)
 | []=>none
def WV (po:List D->Option (List D)):D->Option (List D)
 | .tup ds=>po ds
 | .lst ds=>po ds
 | _=>none
theorem wm:kK X [] [] zQr 0 where
 g:=λpins s σ H vs us Q I r ⟨_,ds,os,hv,ho,q⟩=>by
  cases ds with
  | nil=>cases hv; exact zOy pins s σ H [] us Q I r ⟨rfl,q [] (by cases ho; exact .nil)⟩
  | cons=>cases ho
 l:=λds os h=>by cases ds with | nil=>rfl | cons=>cases h
 k:=λds os h=>by cases ds with | nil=>cases h; rfl | cons=>cases h
theorem zKh (i:Nat) {x:Str} {es:List Expr} {js:List Nat} {po:List D->Option (List D)} {n:Nat} (hN:X.N.Nodup) (hi:X.N[i]? = some x) (hx:ve X.env.scope x) (h:kK X es js po n)
  (hs:(assignEach (.Name x pos :: es) X.env).map (·.2)=assign (.Name x pos) X.env :: (assignEach es X.env).map (·.2):=by rfl) (hf:X.fn x=true\/X.env.scope.names.lookup x=some .local:=by first | exact .inl rfl | exact .inr rfl | assumption):kK X (.Name x pos :: es) (i :: js) (JX po) (n + 1) where
 g:=λpins s σ H vs us Q I r ⟨Z,ds,os,hv,ho,q⟩=>by
  cases hv with
  | nil=>cases ho
  | @cons v d vt dt hv ht=>
   change (po dt).map (d :: ·)=some os at ho
   cases e:po dt with
   | none=>rw [e] at ho; cases ho
   | some os'=>
    rw [e] at ho
    cases ho
    exact zMq (zKs hN hi hx hf) h.g hs pins s σ H _ us Q I r ⟨v,vt,rfl,Z,dt,os',ht,e,λvs hvs=>q (v :: vs) (.cons hv hvs)⟩
 l:=λds os q=>by
  cases ds with
  | nil=>cases q
  | cons d dt=>
   change (po dt).map (d :: ·)=some os at q
   cases e:po dt with
   | none=>rw [e] at q; cases q
   | some os'=>rw [dg,h.l dt os' e]
 k:=λds os q=>by
  cases ds with
  | nil=>cases q
  | cons d dt=>
   change (po dt).map (d :: ·)=some os at q
   cases e:po dt with
   | none=>rw [e] at q; cases q
   | some os'=>rw [e] at q; cases q; rw [dg,dg,h.k dt os' e]
theorem xg {H:Hp} {vs:List V} {ds:List D} (h:yK H vs ds):vs.length=ds.length:=Paired.length h
theorem qP {po:List D->Option (List D)} {js:List Nat} (h:∀ ds os,po ds=some os->os.length=js.length):∀ d os,WV po d=some os->os.length=js.length:=λd os q=>by
 unfold WV at q
 split at q
 ·exact h _ _ q
 ·exact h _ _ q
 ·cases q
theorem wn {es:List Expr} {js:List Nat} {po:List D->Option (List D)} {n k:Nat} (hc:X.calm=true) (h:kK X es js po n) (hn:(assignEach es X.env).length=n:=by rfl) (hst:(assignEach es X.env).findIdx? (·.1)=none:=by rfl):PG X (.Tuple es k pos) (tG js (WV po)):=
 λpins s σ H v u Q I r ⟨Z,d,os,hv,ho,q⟩=>by
  unfold WV at ho
  split at ho
  ·obtain ⟨p,xs,rfl,e,hx⟩:=hv.tup_inv
   exact zQu hc h.g hn hst pins s σ H _ u Q I r ⟨p,xs,rfl,ym.of (yE _ _ e),by rw [xg hx]; exact h.l _ _ ho,Z,_,os,hx,ho,q⟩
  ·obtain ⟨p,xs,rfl,e,hx⟩:=hv.lst_inv
   exact zQv hc h.g hn hst pins s σ H _ u Q I r ⟨p,xs,rfl,zl.of (yE _ _ e),by rw [xg hx]; exact h.l _ _ ho,Z,_,os,hx,ho,q⟩
  ·cases ho
end
def Wk (Z:Addr->Prop) (J:It) (H:Hp) (ds:List D):Prop:=∀ i Z' H',zN (zP Z H) (zP Z' H')->ZL Z' H'->(∀ d,ds[i]? = some d->J.go i H'/\∀ x H'',J.yld i H' x H''->Sm H' H''/\DV (zP Z' H'') x d)/\(i=ds.length->J.stop i H')
inductive uv (p:yo) (σ:St) (H:Hp) (Q:It->Hp->Prop):Prop
 | mk (Z:Addr->Prop) (Γ:List Sl) (R:List D->Prop) (E:yV Z Γ σ H) (h:p Γ R) (q:∀ ds J H',R ds->Sm H H'->Wk Z J H' ds->Q J H'):uv p σ H Q
theorem YK {α β:Type} {R:α->β->Prop} {xs:List α} {ys:List β} (h:Paired R xs ys) {j:Nat} {y:β} (e:ys[j]? = some y):∃ x,xs[j]? = some x/\R x y:=WT.go h e
section
variable {X:Cx} {tg e e1 e2:Expr} {pos:Pos} {pa:zn} {pl:yo}
theorem YL {w w':TI} (h:PI X tg e w) (k:∀ σ H R,w' σ H R->w σ H R):PI X tg e w':=λpins s σ H R I q=>h pins s σ H R I (k σ H R q)
def JY (K:b') (tl:TE):TI:=λσ H R=>tl σ H λx H1=>(∃ a,x=.ref a/\(∃ xs,zl K H1 a xs)/\R (UT K a) H1)\/∃ a,x=.ref a/\(∃ xs,ym K H1 a xs)/\R (UU K a) H1
theorem zQt {l:Expr} {tl:TE} (hl:PE X l tl):PI X tg l (JY X.K tl):=by
 intro pins s σ H R I h
 refine zj (hl pins s σ H _ I h) λv s1 ⟨x,H1,I1,r1,q1⟩=>?_
 rcases q1 with ⟨a,e,⟨xs,hq⟩,q⟩ | ⟨a,e,⟨xs,hq⟩,q⟩
 ·subst e
  cases r1
  obtain ⟨its,rv,p,hz⟩:=I1.list hq
  refine PySem.wpAny_pyIter_list p.isList ?_
  refine ⟨s1.heap.objs.size,[s1.heap.objs.size],_,_,H1,rfl,I1.kept (t':=s1.toks) λb o e=>cE _ e,zKM a _,⟨_,cW _ rfl,rfl,rfl⟩,λb hb=>?_,q⟩
  have e:b=s1.heap.objs.size:=by simpa using hb
  subst e
  exact I1.fpOk (cF _) (I1.hok.fresh (cF _))
 ·subst e
  cases r1
  obtain ⟨its,rv,p,hz⟩:=I1.tuple hq
  refine PySem.wpAny_pyIter_tuple (show s1.heap.IsTuple a its.toArray from p) ?_
  refine ⟨s1.heap.objs.size,[s1.heap.objs.size],_,_,H1,rfl,I1.kept (t':=s1.toks) λb o e=>cE _ e,zJd a _,⟨_,cW _ rfl,rfl,rfl⟩,λb hb=>?_,q⟩
  have e:b=s1.heap.objs.size:=by simpa using hb
  subst e
  exact I1.fpOk (cF _) (I1.hok.fresh (cF _))
def YM:D->(List D->Prop)->Prop
 | .lst ds,R=>R ds
 | .tup ds,R=>R ds
 | _,_=>False
def YN (pa:zn):yo:=λΓ R=>pa Γ λd=>YM d R
theorem zOW {K:b'} {Z:Addr->Prop} {H:Hp} {p:Addr} {xs:List V} {ds:List D} (e:zP Z H p=some (.lst xs)) (h:yK (zP Z H) xs ds):Wk Z (UT K p) H ds:=λi Z' H' s zd=>by
 have e1:=yE _ _ (s _ _ e)
 refine ⟨λd hd=>?_,λhi=>⟨xs,zl.of e1,by rw [xg h]; omega⟩⟩
 obtain ⟨x,hx,hh⟩:=YK h hd
 refine ⟨⟨xs,x,zl.of e1,hx⟩,λy H'' ⟨e2,hy⟩=>?_⟩
 subst e2
 have:=hy xs (zl.of e1)
 rw [hx] at this
 cases this
 exact ⟨Sm.refl _,hh.same s⟩
theorem zP9 {K:b'} {Z:Addr->Prop} {H:Hp} {p:Addr} {xs:List V} {ds:List D} (e:zP Z H p=some (.tup xs)) (h:yK (zP Z H) xs ds):Wk Z (UU K p) H ds:=λi Z' H' s zd=>by
 have e1:=yE _ _ (s _ _ e)
 refine ⟨λd hd=>?_,λhi=>⟨xs,ym.of e1,by rw [xg h]; omega⟩⟩
 obtain ⟨x,hx,hh⟩:=YK h hd
 refine ⟨⟨xs,x,ym.of e1,hx⟩,λy H'' ⟨e2,hy⟩=>?_⟩
 subst e2
 have:=hy xs (ym.of e1)
 rw [hx] at this
 cases this
 exact ⟨Sm.refl _,hh.same s⟩
theorem xN (ha:PE X e (tP pa)):PI X tg e (uv (YN pa)):=YL (zQt ha) λσ H Q ⟨Z,Γ,R,E,h,q⟩=>
 ⟨Z,Γ,_,E,h,λd v H1 hd s1 hv=>by
  unfold YM at hd
  split at hd
  ·obtain ⟨p,xs,rfl,e,hx⟩:=hv.lst_inv
   exact .inl ⟨p,rfl,⟨xs,zl.of (yE _ _ e)⟩,q _ _ H1 hd s1 (zOW e hx)⟩
  ·obtain ⟨p,xs,rfl,e,hx⟩:=hv.tup_inv
   exact .inr ⟨p,rfl,⟨xs,ym.of (yE _ _ e)⟩,q _ _ H1 hd s1 (zP9 e hx)⟩
  ·exact hd.elim⟩
def rng (lo:Int) (n:Nat):List D:=(cR n).map λk:Nat=>D.int (lo + (k:Int))
theorem zIe {Z:Addr->Prop} {H:Hp} {lo:Int} {n:Nat}:Wk Z (ZA lo n) H (rng lo n):=λi Z' H' s zd=>by
 refine ⟨λd hd=>?_,λhi=>?_⟩
 ·unfold rng at hd
  rw [db] at hd
  have hlt:i < n:=by
   apply cZ
   intro c
   rw [ez (by rw [cT]; omega)] at hd
   cases hd
  rw [dY hlt] at hd
  cases hd
  exact ⟨hlt,λx H'' ⟨e1,e2⟩=>by subst e1; subst e2; exact ⟨Sm.refl _,.int _⟩⟩
 ·show n<=i
  rw [hi]
  unfold rng
  rw [a_,cT]
  exact cF _
def rng0 (n:Nat):List D:=(cR n).map λk:Nat=>D.int (k:Int)
theorem JZ (n:Nat):rng0 n=rng 0 n:=eN λk _=>by rw [mz]
theorem vo {n k:Nat} {d:D} (h:(rng0 n)[k]? = some d):k < n/\d=.int (k:Int):=by
 unfold rng0 at h
 rw [db] at h
 by_cases c:k < n
 ·rw [dY c] at h
  exact ⟨c,(Option.some.inj h).symm⟩
 ·rw [ez (by rw [cT]; omega)] at h
  cases h
theorem vp (n:Nat):(rng0 n).length=n:=by unfold rng0; rw [a_,cT]
def zQZ:List D->(List D->Prop)->Prop
 | [.int j],R=>-1000<=j/\j<=1000/\R (rng0 j.toNat)
 | _,_=>False
def zQY:List D->(List D->Prop)->Prop
 | [.int i,.int j],R=>-1000<=i/\i<=1000/\-1000<=j/\j<=1000/\R (rng i (j - i).toNat)
 | _,_=>False
def Ja (f:List D->(List D->Prop)->Prop) (pl:yo):yo:=λΓ R=>pl Γ λds=>f ds R
theorem xO {p:Pos} (hg:Gl X "range") (hm:X.mg "range" = none) (ha:PA X [e] (xk pl)) (hs:starEach [e] X.env=[(false,eval e X.env)]:=by rfl):PI X tg (.Call (.Name "range" p) [e] [] pos) (uv (Ja zQZ pl)):=YL (zKq hg hm ha hs) λσ H Q ⟨Z,Γ,R,E,h,q⟩=>
 ⟨Z,Γ,_,E,h,λds vs H1 hd s1 hv=>by
  unfold zQZ at hd
  split at hd
  ·obtain ⟨h1,h2,hd⟩:=hd
   obtain ⟨v,rfl,hw⟩:=xB hv
   cases hw
   rw [JZ] at hd
   exact ⟨_,rfl,by omega,by omega,q _ _ H1 hd s1 zIe⟩
  ·exact hd.elim⟩
theorem zJk {p:Pos} (hg:Gl X "range") (hm:X.mg "range" = none) (ha:PA X [e1,e2] (xk pl)) (hs:starEach [e1,e2] X.env=[(false,eval e1 X.env),(false,eval e2 X.env)]:=by rfl) (hs2:starEach [e2] X.env=[(false,eval e2 X.env)]:=by rfl) :
  PI X tg (.Call (.Name "range" p) [e1,e2] [] pos) (uv (Ja zQY pl)):=YL (zKp hg hm ha hs hs2) λσ H Q ⟨Z,Γ,R,E,h,q⟩=>
 ⟨Z,Γ,_,E,h,λds vs H1 hd s1 hv=>by
  unfold zQY at hd
  split at hd
  ·obtain ⟨h1,h2,h3,h4,hd⟩:=hd
   obtain ⟨v,w,rfl,hx,hy⟩:=gM hv
   cases hx; cases hy
   exact ⟨_,_,rfl,⟨by omega,by omega,by omega,by omega⟩,q _ _ H1 hd s1 zIe⟩
  ·exact hd.elim⟩
abbrev xI (x y:D):D:=.tup [x,y]
theorem Jb {α β γ:Type} (f:α->β->γ):∀ {xs:List α} {ys:List β} {i:Nat} {z:γ},(dQ f xs ys)[i]? = some z->∃ x y,xs[i]? = some x/\ys[i]? = some y/\z=f x y
 | [],_,_,_,h=>by simp at h
 | _ :: _,[],_,_,h=>by simp at h
 | x :: _,y :: _,0,_,h=>by simp at h; exact ⟨x,y,rfl,rfl,h.symm⟩
 | _ :: xs,_ :: ys,i + 1,z,h=>by
  obtain ⟨x,y,h1,h2,h3⟩:=Jb f (xs:=xs) (ys:=ys) (i:=i) (z:=z) (by simpa using h)
  exact ⟨x,y,by simpa using h1,by simpa using h2,h3⟩
theorem zP8 {S1 S2:Hp->Addr->List V->Prop} {Z:Addr->Prop} {H:Hp} {p r:Addr} {xs ys:List V} {ds es:List D} (h1:∀ Z' H',zN (zP Z H) (zP Z' H')->S1 H' p xs) (h2:∀ Z' H',zN (zP Z H) (zP Z' H')->S2 H' r ys) (hx:yK (zP Z H) xs ds) (hy:yK (zP Z H) ys es) :
  Wk Z ⟨λi H=>∃ xs ys x y,S1 H p xs/\S2 H r ys/\xs[i]? = some x/\ys[i]? = some y,λi H v H'=>∃ T x y,v=.ref T/\H T=none/\H'=za H T (.tup [x,y])/\(∀ xs,S1 H p xs->xs[i]? = some x)/\∀ ys,S2 H r ys->ys[i]? = some y,
   λi H=>∃ xs ys,S1 H p xs/\S2 H r ys/\i<=xs.length/\i<=ys.length/\(i=xs.length\/i=ys.length)⟩ H (dQ xI ds es):=λi Z' H' s zd=>by
 have a1:=h1 Z' H' s
 have a2:=h2 Z' H' s
 have l1:=xg hx
 have l2:=xg hy
 refine ⟨λd hd=>?_,λhi=>?_⟩
 ·obtain ⟨a,b,ha,hb,rfl⟩:=Jb _ hd
  obtain ⟨x,gx,kx⟩:=YK hx ha
  obtain ⟨y,gy,ky⟩:=YK hy hb
  refine ⟨⟨xs,ys,x,y,a1,a2,gx,gy⟩,λv H'' ⟨T,x',y',ev,hT,eH,q1,q2⟩=>?_⟩
  have:=q1 xs a1
  rw [gx] at this
  cases this
  have:=q2 ys a2
  rw [gy] at this
  cases this
  subst ev
  subst eH
  exact ⟨x9 hT _,WR zd hT (.cons (kx.same s) (.cons (ky.same s) .nil))⟩
 ·rw [iw] at hi
  exact ⟨xs,ys,a1,a2,by omega,by omega,by omega⟩
def uw:List D->(List D->Prop)->Prop
 | [.lst ds,.lst es],R=>R (dQ xI ds es)
 | [.lst ds,.tup es],R=>R (dQ xI ds es)
 | [.tup ds,.lst es],R=>R (dQ xI ds es)
 | [.tup ds,.tup es],R=>R (dQ xI ds es)
 | _,_=>False
def kd (t:Bool) (ds:List D):D:=match t with
 | true=>.tup ds
 | false=>.lst ds
theorem zOD {K:b'} {Z:Addr->Prop} {H:Hp} {v:V} {ds:List D}:∀ {t:Bool},DV (zP Z H) v (kd t ds)->∃ a xs,v=.ref a/\(∀ Z' H',zN (zP Z H) (zP Z' H')->vk t K H' a xs)/\yK (zP Z H) xs ds
 | true,h=>let ⟨a,xs,e,ea,ha⟩:=h.tup_inv; ⟨a,xs,e,λ_ _ s=>ym.of (yE _ _ (s _ _ ea)),ha⟩
 | false,h=>let ⟨a,xs,e,ea,ha⟩:=h.lst_inv; ⟨a,xs,e,λ_ _ s=>zl.of (yE _ _ (s _ _ ea)),ha⟩
theorem jg {ts:List Expr} {kk:Nat} {tp p:Pos} (hg:Gl X "zip") (hm:X.mg "zip" = none) (ha:PA X [e1,e2] (xk pl)) (hs:starEach [e1,e2] X.env=[(false,eval e1 X.env),(false,eval e2 X.env)]:=by rfl) (hs2:starEach [e2] X.env=[(false,eval e2 X.env)]:=by rfl) :
  PI X (.Tuple ts kk tp) (.Call (.Name "zip" p) [e1,e2] [] pos) (uv (Ja uw pl)):=YL (zOw hg hm ha hs hs2) λσ H Q ⟨Z,Γ,R,E,h,q⟩=>
 ⟨Z,Γ,_,E,h,λds vs H1 hd s1 hv=>by
  have main:∀ (t u:Bool) (es fs:List D),yK (zP Z H1) vs [kd t es,kd u fs]->R (dQ xI es fs)->∃ a b t u,vs=[.ref a,.ref b]/\(∃ xs,vk t X.K H1 a xs)/\(∃ ys,vk u X.K H1 b ys)/\Q (JG t u X.K a b) H1:=λt u es fs hv hd=>by
   obtain ⟨v,w,rfl,hx,hy⟩:=gM hv
   obtain ⟨a,xs,rfl,ea,ha⟩:=zOD (K:=X.K) hx
   obtain ⟨b,ys,rfl,eb,hb⟩:=zOD (K:=X.K) hy
   exact ⟨a,b,t,u,rfl,⟨xs,ea Z H1 (zN.refl _)⟩,⟨ys,eb Z H1 (zN.refl _)⟩,q _ _ H1 hd s1 (zP8 ea eb ha hb)⟩
  unfold uw at hd
  split at hd
  ·exact main false false _ _ hv hd
  ·exact main false true _ _ hv hd
  ·exact main true false _ _ hv hd
  ·exact main true true _ _ hv hd
  ·exact hd.elim⟩
end
end Pu
namespace Pu
open PySem L2 Sh
variable [yY]
def un:Sl->Sl
 | .sh d=>.sh d
 | _=>.no
theorem zIn:∀ (Γ:List Sl) (i:Nat),slot Γ i=(Γ[i]?).getD .no
 | [],_=>rfl
 | _ :: _,0=>rfl
 | _ :: t,i + 1=>(zIn t i).trans (by rw [fb])
theorem YO {s:Sl} {d:D} (h:un s=.sh d):s=.sh d:=by cases s <;> first | exact h | cases h
theorem YQ {s:Sl} {ds:List D} (h:un s=.ow ds):False:=by cases s <;> cases h
theorem YR {s:Sl} {o c:Addr} {ns:List Str} {ds:List D} (h:un s=.ob o c ns ds):False:=by cases s <;> cases h
theorem YS {os:List D} {l:List Sl} (hl:∀ i o c ns ds,slot l i≠.ob o c ns ds):∀ i o c ns ds,slot (os.map Sl.sh++l) i≠.ob o c ns ds:=λi o c ns ds h=>by
 induction os generalizing i with
 | nil=>exact hl i o c ns ds h
 | cons d t ih=>
  cases i with
  | zero=>cases h
  | succ i=>exact ih i h
theorem YT {os:List D} {l:List Sl} (hl:∀ i ds,slot l i≠.ow ds):∀ i ds,slot (os.map Sl.sh++l) i≠.ow ds:=λi ds h=>by
 induction os generalizing i with
 | nil=>exact hl i ds h
 | cons d t ih=>
  cases i with
  | zero=>cases h
  | succ i=>exact ih i h
theorem WW (Γ:List Sl):∀ (js:List Nat) (i:Nat),slot (js.map λj=>un (slot Γ j)) i=match js[i]? with | some j=>un (slot Γ j) | none=>.no
 | [],_=>rfl
 | _ :: _,0=>rfl
 | _ :: js,i + 1=>by
  rw [fb]
  exact WW Γ js i
theorem zLt {Z:Addr->Prop} {Γ:List Sl} {σ:St} {H:Hp} (E:yV Z Γ σ H) {js:List Nat} {vs:List V} {os:List D} (h:yK (zP Z H) vs os):yV Z (os.map Sl.sh++js.map λj=>un (slot Γ j)) (vs.map some++js.map λj=>(σ[j]?).getD none) H:=by
 have no:∀ i ds,slot (os.map Sl.sh++js.map λj=>un (slot Γ j)) i≠.ow ds:=YT λi ds h=>by
  rw [WW] at h
  split at h
  ·exact YQ h
  ·cases h
 have nob:∀ i o c ns ds,slot (os.map Sl.sh++js.map λj=>un (slot Γ j)) i≠.ob o c ns ds:=YS λi o c ns ds h=>by
  rw [WW] at h
  split at h
  ·exact YR h
  ·cases h
 refine ⟨?_,λi ds e=>absurd e (no i ds),λi o c ns ds e=>absurd e (nob i o c ns ds),λi _ ds _ _ e=>absurd e (no i ds),E.zd,?_⟩
 clear nob
 ·induction h with
  | nil=>
   intro i d e
   change slot (js.map λj=>un (slot Γ j)) i=_ at e
   show ∃ v,(js.map λj=>(σ[j]?).getD none)[i]? = some (some v)/\_
   rw [WW] at e
   rw [db]
   cases k:js[i]? with
   | none=>rw [k] at e; cases e
   | some j=>
    rw [k] at e
    obtain ⟨v,h1,h2⟩:=E.sh j d (YO e)
    exact ⟨v,by show some ((σ[j]?).getD none)=_; rw [h1]; rfl,h2⟩
  | @cons v d vs ds hv _ ih=>
   intro i e q
   cases i with
   | zero=>cases q; exact ⟨v,rfl,hv⟩
   | succ i=>
    obtain ⟨u,h1,h2⟩:=ih (λi=>no (i + 1)) i e q
    exact ⟨u,by rw [di,mK,fb]; exact h1,h2⟩
 ·rw [cA,cA,a_,a_,a_,a_,xg h]
theorem zIo (c:St):∀ (pre o:St) (vs:List V),o.length=vs.length->setN (pre++(o++c)) (fH pre.length o.length) vs=pre++(vs.map some++c)
 | _,[],[],_=>rfl
 | _,[],_ :: _,h=>nomatch h
 | _,_ :: _,[],h=>nomatch h
 | pre,x :: o,v :: vs,h=>by
  rw [dg,List.range'_succ]
  show setN ((pre++((x :: o)++c)).set pre.length (some v)) (fH (pre.length + 1) o.length) vs=_
  rw [List.set_append_right _ _ (cF _),h7]
  have:=zIo c (pre++[some v]) o vs (Nat.succ.inj h)
  rw [cA,eZ] at this
  rw [eZ] at this
  exact this
inductive zr (ds:List D) (G:D->(D->Prop)->Prop) (R:D->Prop):Prop
 | mk (few:ds.length<=1000) (F:D->D->Prop) (h:∀ d,d∈ds->G d (F d)) (q:∀ es,Paired F ds es->R (.lst es)):zr ds G R
def YU (caps:List Nat) (pi:yo) (po:D->Option (List D)) (pe:zn):zn:=λΓ R=>pi Γ λds=>zr ds (λd S=>uT (po d) λos=>pe (os.map Sl.sh++caps.map λj=>un (slot Γ j)) S) R
theorem Jc {Z:Addr->Prop} {Γ:List Sl} {σ:St} {H:Hp} {own:List Str} {caps:List (Nat × Str)} {J:It} {ds:List D} {js:List Nat} {po:D->Option (List D)} {pt:wA} {pe:zn} {Q:VK} {f:D->Bool} {F:D->D->Prop} {Zt:Addr->Prop} {Γt:List Sl} (E:yV Z Γ σ H) (Et:yV Zt Γt σ H) (sub:∀ b,Zt b->Z b) (wk:Wk Z J H ds) (hj:js=fH 0 own.length) (hk:∀ d os,po d=some os->os.length=js.length) (few:ds.length<=1000)
  (hT:∀ d,d∈ds->uT (po d) λos=>pt (os.map Sl.sh++(caps.map (·.1)).map λj=>un (slot Γt j)) λb=>b=f d)
  (hF:∀ d,d∈ds->f d=true->uT (po d) λos=>pe (os.map Sl.sh++(caps.map (·.1)).map λj=>un (slot Γ j)) (F d))
  (q:∀ es ys H' p,Paired F (ds.filter f) es->Sm H H'->yK (zP Z H') ys es->H' p=none->Q (.ref p) (za H' p (.lst ys))):Uo J (tG js po) (xA pt) (tP pe) Q (v5 own caps σ) H:=by
 have hc:v5 own caps σ=own.map (λ_=>none)++(caps.map (·.1)).map λj=>(σ[j]?).getD none:=by
  unfold v5
  rw [c_]
  rfl
 refine ⟨λi m ys σ1 H1=>m + i=ds.length/\Sm H H1/\(∃ es,Paired F ((ds.take i).filter f) es/\yK (zP Z H1) ys es)/\∃ o:St,o.length=own.length/\σ1=o++(caps.map (·.1)).map λj=>(σ[j]?).getD none,⟨ds.length,rfl,Sm.refl _,⟨[],.nil,.nil⟩,_,a_ ..,hc⟩,?_⟩
 rintro i m ys σ1 H1 ⟨hm,s1,⟨es,he,hy⟩,o,lo,rfl⟩
 obtain ⟨w1,w2⟩:=wk i Z H1 (yZ s1) (E.zd.same s1)
 have le:es.length<=i:=by
  have h1:=Paired.length he
  have h2:=j' f (ds.take i)
  rw [cI] at h2
  omega
 by_cases hi:i < ds.length
 ·have tk:(ds.take (i + 1)).filter f=(ds.take i).filter f++(if f ds[i]=true then [ds[i]] else []):=by
   rw [f6 hi,lW,List.filter_cons,List.filter_nil]
  refine .inr ⟨(w1 _ (b_ hi)).1,by rw [xg hy]; exact Ul (by omega),λy σ' H'=>m - 1 + (i + 1)=ds.length/\Sm H H'/\(∃ es,Paired F ((ds.take (i + 1)).filter f) es/\yK (zP Z H') (ys++[y]) es)/\∃ o:St,o.length=own.length/\σ'=o++(caps.map (·.1)).map λj=>(σ[j]?).getD none,λσ' H'=>m - 1 + (i + 1)=ds.length/\Sm H H'/\(∃ es,Paired F ((ds.take (i + 1)).filter f) es/\yK (zP Z H') ys es)/\∃ o:St,o.length=own.length/\σ'=o++(caps.map (·.1)).map λj=>(σ[j]?).getD none,λy σ' H' k=>⟨m - 1,by omega,k⟩,λσ' H' k=>⟨m - 1,by omega,k⟩,λx H' yl=>?_⟩
  obtain ⟨s2,dv⟩:=(w1 _ (b_ hi)).2 x H' yl
  obtain ⟨os,ho,ht⟩:=YJ (hT _ (dX hi))
  have lo2:=hk _ _ ho
  refine ⟨Z,_,os,dv,ho,λvs hvs=>?_⟩
  have lv:=xg hvs
  have e1:setN (o++(caps.map (·.1)).map λj=>(σ[j]?).getD none) js vs=vs.map some++(caps.map (·.1)).map λj=>(σ[j]?).getD none:=by
   rw [hj,<- lo]
   exact zIo _ [] o vs (by rw [lv,lo2,hj,lX]; exact lo)
  rw [e1]
  have lw:(vs.map some).length=own.length:=by rw [a_,lv,lo2,hj,lX]
  refine ⟨Zt,_,_,zLt (Et.same (s1.trans s2)) (xT (WP sub) hvs),ht,λb H3 hb s3=>?_⟩
  subst hb
  by_cases c:f ds[i]=true
  ·rw [if_pos c]
   obtain ⟨os',ho',hp⟩:=YJ (hF _ (dX hi) c)
   cases ho.symm.trans ho'
   refine ⟨Z,_,_,zLt (E.same (s1.trans (s2.trans s3))) (xT (yZ s3) hvs),hp,λd v H4 hd s4 hv=>⟨by omega,s1.trans (s2.trans (s3.trans s4)),⟨es++[d],?_,ZY hv (xT (yZ (s2.trans (s3.trans s4))) hy)⟩,_,lw,rfl⟩⟩
   rw [tk,if_pos c]
   exact ZY hd he
  ·rw [if_neg c]
   refine ⟨by omega,s1.trans (s2.trans s3),⟨es,?_,xT (yZ (s2.trans s3)) hy⟩,_,lw,rfl⟩
   rw [tk,if_neg c,d5]
   exact he
 ·have ei:i=ds.length:=by omega
  refine .inl ⟨w2 ei,λp hp=>q es ys H1 p ?_ s1 hy hp⟩
  rw [cJ (by omega)] at he
  exact he
def pT1:wA:=λ_ R=>R true
theorem zQ6 {X:Cx}:Zm X [] (xA pT1):=λσ H Q ⟨_,_,_,_,h,q⟩=>q true H h (Sm.refl _)
theorem YV {ds:List D}:ds.filter (λ_=>true)=ds:=List.filter_eq_self.mpr λ_ _=>rfl
theorem zJP {Z:Addr->Prop} {Γ:List Sl} {σ:St} {H:Hp} {own:List Str} {caps:List (Nat × Str)} {J:It} {ds:List D} {js:List Nat} {po:D->Option (List D)} {pe:zn} {Q:VK} {F:D->D->Prop} (E:yV Z Γ σ H) (wk:Wk Z J H ds) (hj:js=fH 0 own.length) (hk:∀ d os,po d=some os->os.length=js.length) (few:ds.length<=1000)
  (hF:∀ d,d∈ds->uT (po d) λos=>pe (os.map Sl.sh++(caps.map (·.1)).map λj=>un (slot Γ j)) (F d))
  (q:∀ es ys H' p,Paired F ds es->Sm H H'->yK (zP Z H') ys es->H' p=none->Q (.ref p) (za H' p (.lst ys))):Uo J (tG js po) (xA pT1) (tP pe) Q (v5 own caps σ) H:=
 Jc (f:=λ_=>true) E E (λ_ z=>z) wk hj hk few (λd m=>by
  obtain ⟨os,ho,_⟩:=YJ (hF d m)
  rw [ho]
  exact rfl) (λd m _=>hF d m) λes ys H' p h=>q es ys H' p (by rw [YV] at h; exact h)
section
variable {X:Cx} {scope:Scope} {own:List Str} {caps:List (Nat × Str)} {tg iter elt:Expr} {pos:Pos} {pi:yo} {po:D->Option (List D)} {pe:zn} {js:List Nat}
theorem xE (B:vj X scope own caps) (hc:X.calm=true) (hj:js=fH 0 own.length) (hk:∀ d os,po d=some os->os.length=js.length) (hi:PI X tg iter (uv pi)) (hg:∀ C s₀ H₀ ex,PG (y4 X scope (zh own caps) C s₀ H₀ ex) tg (tG js po))
  (he:∀ C s₀ H₀ ex,PE (y4 X scope (zh own caps) C s₀ H₀ ex) elt (tP pe)) (hs:∀ x,foldedSetIterable iter X.env x=pure x:=by intro _; rfl):PE X (.ListComp elt [⟨tg,iter,[],0⟩] scope pos) (tP (YU (caps.map (·.1)) pi po pe)):=
 yb (zI2 B hc hi hg (.inl rfl) (λ_ _ _ _=>zQ6) he hs) λσ H Q ⟨Z,Γ,R,E,h,q⟩=>⟨Z,Γ,_,E,h,λds J H1 ⟨fw,F,hF,hR⟩ s1 wk=>zJP (E.same s1) wk hj hk fw hF λes ys H' p h1 s2 h2 hp=>q _ _ _ (hR es h1) (s1.trans (s2.trans (x9 hp _))) (uq ((E.same s1).zd.same s2) hp h2)⟩
end
theorem zr.map {ds:List D} {G:D->(D->Prop)->Prop} {R:D->Prop} (f:D->D) (few:ds.length<=1000) (h:∀ d,d∈ds->G d λe=>e=f d) (q:R (.lst (ds.map f))):zr ds G R:=⟨few,λd e=>e=f d,h,λes p=>by
 have:∀ {ds es:List D},Paired (λd e=>e=f d) ds es->es=ds.map f:=λ{ds es} p=>by
  induction p with
  | nil=>rfl
  | cons h _ ih=>rw [h,ih]; rfl
 rw [this p]
 exact q⟩
theorem zr.all {ds:List D} {G:D->(D->Prop)->Prop} {R:D->Prop} (P:D->Prop) (few:ds.length<=1000) (h:∀ d,d∈ds->G d P) (q:∀ es,es.length=ds.length->(∀ e∈es,P e)->R (.lst es)):zr ds G R:=⟨few,λ_=>P,h,λes p=>q es (Paired.length p).symm (by
 clear h few q
 induction p with
 | nil=>exact λ_ h=>nomatch h
 | cons h _ ih=>exact λe m=>(da.mp m).elim (λz=>z ▸ h) (ih e))⟩
def yD:D->Int
 | .int i=>i
 | _=>0
theorem zr.int {ns:List Int} {G:D->(D->Prop)->Prop} {R:D->Prop} (g:Int->Int) (few:ns.length<=1000) (h:∀ n,n∈ns->G (.int n) λe=>e=.int (g n)) (q:R (.lst ((ns.map g).map D.int))):zr (ns.map D.int) G R:=
 zr.map (λd=>.int (g (yD d))) (by rw [a_]; exact few) (λd m=>by
  obtain ⟨n,hn,rfl⟩:=cH.mp m
  exact h n hn) (by rw [c_] at q |-; exact q)
theorem zr.bool {ds:List D} {G:D->(D->Prop)->Prop} {R:D->Prop} (g:D->Bool) (few:ds.length<=1000) (h:∀ d,d∈ds->G d λe=>e=.bool (g d)) (q:R (.lst ((ds.map g).map D.bool))):zr ds G R:=
 zr.map (λd=>.bool (g d)) few h (by rw [c_] at q; exact q)
theorem zr.rng {lo:Int} {n:Nat} {G:D->(D->Prop)->Prop} {R:D->Prop} (g:Nat->D) (few:n<=1000) (h:∀ k,k < n->G (.int (lo + (k:Int))) λe=>e=g k) (q:R (.lst ((cR n).map g))):zr (Pu.rng lo n) G R:=
 zr.map (λd=>g (yD d - lo).toNat) (by unfold Pu.rng; rw [a_,cT]; exact few) (λd m=>by
  obtain ⟨k,hk,rfl⟩:=cH.mp m
  rw [show (yD (.int (lo + (k:Int))) - lo).toNat=k by show (lo + (k:Int) - lo).toNat=k; omega]
  exact h k (dz.mp hk)) (by
  have e:(Pu.rng lo n).map (λd=>g (yD d - lo).toNat)=(cR n).map g:=by
   unfold Pu.rng
   rw [c_]
   refine eN λk _=>?_
   show g (lo + (k:Int) - lo).toNat=g k
   rw [show (lo + (k:Int) - lo).toNat=k by omega]
  rw [e]
  exact q)
theorem zr.rngP {lo:Int} {n:Nat} {G:D->(D->Prop)->Prop} {R:D->Prop} (P:D->Prop) (few:n<=1000) (h:∀ k,k < n->G (.int (lo + (k:Int))) P) (q:∀ es,es.length=n->(∀ e∈es,P e)->R (.lst es)):zr (Pu.rng lo n) G R:=
 zr.all P (by unfold Pu.rng; rw [a_,cT]; exact few) (λd m=>by
  obtain ⟨k,hk,rfl⟩:=cH.mp m
  exact h k (dz.mp hk)) (λes l=>q es (by rw [l]; unfold Pu.rng; rw [a_,cT]))
theorem zr.rng0 {n:Nat} {G:D->(D->Prop)->Prop} {R:D->Prop} (g:Nat->D) (few:n<=1000) (h:∀ k,k < n->G (.int (k:Int)) λe=>e=g k) (q:R (.lst ((cR n).map g))):zr (Pu.rng0 n) G R:=by
 rw [JZ]
 exact zr.rng g few (λk hk=>by rw [mz]; exact h k hk) q
theorem zr.rng0P {n:Nat} {G:D->(D->Prop)->Prop} {R:D->Prop} (P:D->Prop) (few:n<=1000) (h:∀ k,k < n->G (.int (k:Int)) P) (q:∀ es,es.length=n->(∀ e∈es,P e)->R (.lst es)):zr (Pu.rng0 n) G R:=by
 rw [JZ]
 exact zr.rngP P few (λk hk=>by rw [mz]; exact h k hk) q
def jh (P:Int->Prop) (d:D):Prop:=∃ i,d=.int i/\P i
theorem zLJ {P:Int->Prop}:∀ {es:List D},(∀ e∈es,jh P e)->∃ ns:List Int,es=ns.map D.int/\∀ x∈ns,P x
 | [],_=>⟨[],rfl,λ_ h=>nomatch h⟩
 | e :: es,h=>by
  obtain ⟨ns,rfl,k⟩:=zLJ (es:=es) λx m=>h x (cB _ m)
  obtain ⟨i,rfl,p⟩:=h e cD
  exact ⟨i :: ns,rfl,λx m=>(da.mp m).elim (λz=>z ▸ p) (k x)⟩
theorem zr.nums {n:Nat} {G:D->(D->Prop)->Prop} {R:D->Prop} (P:Int->Prop) (few:n<=1000) (h:∀ k,k < n->G (.int (k:Int)) (jh P)) (q:∀ ns:List Int,ns.length=n->(∀ x∈ns,P x)->R (.lst (ns.map D.int))):zr (Pu.rng0 n) G R:=
 zr.rng0P (jh P) few h λes l k=>by
  obtain ⟨ns,rfl,p⟩:=zLJ k
  exact q ns (by rw [<- l,a_]) p
theorem yg {i:Nat}:∀ d os,JW d=some os->os.length=[i].length:=λd os h=>by cases h; rfl
theorem qQ:∀ ds os,zQr ds=some os->os.length=([]:List Nat).length:=λds os h=>by cases ds with | nil=>cases h; rfl | cons=>cases h
theorem vI {i:Nat} {js:List Nat} {po:List D->Option (List D)} (h:∀ ds os,po ds=some os->os.length=js.length):∀ ds os,JX po ds=some os->os.length=(i :: js).length:=λds os q=>by
 cases ds with
 | nil=>cases q
 | cons d dt=>
  change (po dt).map (d :: ·)=some os at q
  cases e:po dt with
  | none=>rw [e] at q; cases q
  | some os'=>rw [e] at q; cases q; rw [dg,dg,h dt os' e]
structure yt (Z0:Addr->Prop) (H0:Hp) (Z:Addr->Prop) (Γ:List Sl) (σ:St) (H:Hp):Prop where
 e:yV Z Γ σ H
 z0:∀ b,Z0 b->Z b
 z0d:ZL Z0 H0
 same:Sm H0 H
 own:∀ i ds l,slot Γ i=.ow ds->σ[i]? = some (some (.ref l))->H0 l=none
 owb:∀ i o c ns ds,slot Γ i=.ob o c ns ds->H0 o=none
structure WX where
 nx:List Sl->Prop
 rt:D->Prop
 bk:List Sl->Prop:=λ_=>False
 ct:List Sl->Prop:=λ_=>False
abbrev yc:=WX->List Sl->Prop
inductive yP (p:yc) (D0:yw) (σ:St) (H:Hp):Prop
 | mk (Z0:Addr->Prop) (H0:Hp) (Z:Addr->Prop) (Γ:List Sl) (Dp:WX) (E:yt Z0 H0 Z Γ σ H) (h:p Dp Γ) (nx:∀ Z' Γ' σ' H',yt Z0 H0 Z' Γ' σ' H'->zN (zP Z H) (zP Z' H')->Dp.nx Γ'->D0.nx σ' H')
  (rt:∀ d v H',Sm H0 H'->DV (zP Z0 H') v d->Dp.rt d->D0.rt v H') (bk:∀ Z' Γ' σ' H',yt Z0 H0 Z' Γ' σ' H'->zN (zP Z H) (zP Z' H')->Dp.bk Γ'->D0.bk σ' H') (ct:∀ Z' Γ' σ' H',yt Z0 H0 Z' Γ' σ' H'->zN (zP Z H) (zP Z' H')->Dp.ct Γ'->D0.ct σ' H'):yP p D0 σ H
theorem yt.mv {Z0:Addr->Prop} {H0:Hp} {Z:Addr->Prop} {Γ:List Sl} {σ:St} {H H':Hp} (E:yt Z0 H0 Z Γ σ H) (s:Sm H H'):yt Z0 H0 Z Γ σ H':=⟨E.e.same s,E.z0,E.z0d,E.same.trans s,E.own,E.owb⟩
theorem yt.set {Z0:Addr->Prop} {H0:Hp} {Z:Addr->Prop} {Γ:List Sl} {σ:St} {H:Hp} (E:yt Z0 H0 Z Γ σ H) {v:V} {d:D} (h:DV (zP Z H) v d) (i:Nat):yt Z0 H0 Z (zz Γ i (.sh d)) (σ.set i (some v)) H:=
 ⟨E.e.set h i,E.z0,E.z0d,E.same,λj ds l q r=>by
  rw [xw] at q
  by_cases c:j=i/\i < Γ.length
  ·rw [if_pos c] at q; cases q
  ·rw [if_neg c] at q
   have hj:=ul (Γ:=Γ) (i:=j) (by rw [q]; exact λz=>nomatch z)
   rw [dF (λz=>c ⟨z.symm,by omega⟩)] at r
   exact E.own j ds l q r,λj o0 c0 ns ds q=>by
  rw [xw] at q
  by_cases c:j=i/\i < Γ.length
  ·rw [if_pos c] at q; cases q
  ·rw [if_neg c] at q
   exact E.owb j o0 c0 ns ds q⟩
theorem yt.setN {Z0:Addr->Prop} {H0:Hp} {Z:Addr->Prop} {H:Hp}:∀ {js:List Nat} {vs:List V} {os:List D} {Γ:List Sl} {σ:St},yt Z0 H0 Z Γ σ H->yK (zP Z H) vs os->yt Z0 H0 Z (WU Γ js os) (Pu.setN σ js vs) H
 | [],_,_,_,_,E,_=>E
 | _ :: _,_,_,_,_,E,.nil=>E
 | _ :: js,_,_,_,_,E,.cons h t=>yt.setN (js:=js) (E.set h _) t
theorem kL {Z:Addr->Prop} {H:Hp} {l:Addr} {o:HO} (h:Z l):zN (zP Z H) (zP Z (za H l o)):=λb u e=>by
 obtain ⟨h1,h2⟩:=jc e
 have nb:b≠l:=λz=>h1 (by rw [z]; exact h)
 exact vn h1 ((zu nb).trans h2) (qK e)
theorem yt.put {Z0:Addr->Prop} {H0:Hp} {Z:Addr->Prop} {Γ:List Sl} {σ:St} {H:Hp} (E:yt Z0 H0 Z Γ σ H) {i:Nat} {ds ds':List D} {l:Addr} {xs:List V} (hs:slot Γ i=.ow ds) (hl:σ[i]? = some (some (.ref l))) (hz:Z l) (hx:yK (zP Z H) xs ds'):yt Z0 H0 Z (zz Γ i (.ow ds')) σ (za H l (.lst xs)):=by
 obtain ⟨l0,xs0,hl0,_,el,_⟩:=E.e.ow i ds hs
 have el0:l0=l:=by rw [hl] at hl0; cases hl0; rfl
 rw [el0] at el
 have keyb:∀ j o c ns d,slot (zz Γ i (.ow ds')) j=.ob o c ns d->slot Γ j=.ob o c ns d:=λj o0 c0 ns d q=>by
  rw [xw] at q
  by_cases c:j=i/\i < Γ.length
  ·rw [if_pos c] at q; cases q
  ·rw [if_neg c] at q; exact q
 have li:=ul (Γ:=Γ) (i:=i) (by rw [hs]; exact λz=>nomatch z)
 have hp:zN (zP Z H) (zP Z (za H l (.lst xs))):=kL hz
 have key:∀ j ds'',slot (zz Γ i (.ow ds')) j=.ow ds''->∃ q,slot Γ j=.ow q:=λj d q=>by
  rw [xw] at q
  by_cases c:j=i/\i < Γ.length
  ·rw [c.1]; exact ⟨ds,hs⟩
  ·rw [if_neg c] at q; exact ⟨d,q⟩
 refine ⟨⟨λj d q=>?_,λj d q=>?_,λj o c ns d q=>?_,λj k as bs m q r=>?_,⟨λb hb=>?_,yY.put E.e.zd.i el⟩,by rw [kI]; exact E.e.len⟩,E.z0,E.z0d,?_,λj d m q=>?_,λj o c ns d q=>E.owb j o c ns d (keyb j o c ns d q)⟩
 ·rw [xw] at q
  by_cases c:j=i/\i < Γ.length
  ·rw [if_pos c] at q; cases q
  ·rw [if_neg c] at q
   obtain ⟨v,h1,h2⟩:=E.e.sh j d q
   exact ⟨v,h1,h2.same hp⟩
 ·rw [xw] at q
  by_cases c:j=i/\i < Γ.length
  ·rw [if_pos c] at q
   cases q
   rw [c.1]
   exact ⟨l,xs,hl,hz,xh,xT hp hx⟩
  ·rw [if_neg c] at q
   obtain ⟨m,ys,h1,h2,h3,h4⟩:=E.e.ow j d q
   have nm:m≠l:=λz=>c ⟨E.e.ne j i d ds l q hs (by rw [h1,z]) hl,li⟩
   exact ⟨m,ys,h1,h2,by rw [zu nm]; exact h3,xT hp h4⟩
 ·obtain ⟨dx,ys,h1,h2,h3,h5,h4⟩:=E.e.ob j o c ns d (keyb j o c ns d q)
  have nm:o≠l:=λz=>by rw [z,el] at h3; cases h3
  exact ⟨dx,ys,h1,h2,by rw [zu nm]; exact h3,h5,xT hp h4⟩
 ·obtain ⟨q1,hq⟩:=key j as q
  obtain ⟨r1,hr⟩:=key k bs r
  exact E.e.ne j k q1 r1 m hq hr
 ·obtain ⟨u,e,n⟩:=E.e.zd.z b hb
  by_cases c:b=l
  ·rw [c]; exact ⟨_,xh,λ_ z=>nomatch z⟩
  ·exact ⟨u,by rw [zu c]; exact e,n⟩
 ·exact E.same.put (E.own i ds l hs hl) el
 ·obtain ⟨q1,hq⟩:=key j d q
  exact E.own j q1 m hq
theorem yt.make {Z0:Addr->Prop} {H0:Hp} {Z:Addr->Prop} {Γ:List Sl} {σ:St} {H:Hp} (E:yt Z0 H0 Z Γ σ H) {p:Addr} {xs:List V} {ds:List D} (hp:H p=none) (hx:yK (zP Z H) xs ds) (i:Nat) :
  yt Z0 H0 (λb=>Z b\/b=p) (zz Γ i (.ow ds)) (σ.set i (some (.ref p))) (za H p (.lst xs))/\zN (zP Z H) (zP (λb=>Z b\/b=p) (za H p (.lst xs))):=by
 have s:zN (zP Z H) (zP (λb=>Z b\/b=p) (za H p (.lst xs))):=λb o e=>by
  obtain ⟨h1,h2⟩:=jc e
  have nb:=wD h2 hp
  exact vn (λz=>z.elim h1 nb) ((zu nb).trans h2) (qK e)
 have old:∀ j d,slot Γ j=.ow d->∀ m,σ[j]? = some (some (.ref m))->m≠p:=λj d q m h z=>by
  obtain ⟨l,ys,h1,h2,h3,_⟩:=E.e.ow j d q
  rw [h] at h1
  cases h1
  rw [z,hp] at h3
  cases h3
 have get:∀ j,¬ (j=i/\i < Γ.length)->slot Γ j≠.no->(σ.set i (some (V.ref p)))[j]? = σ[j]?:=λj c q=>by
  have hj:=ul q
  exact dF (λz=>c ⟨z.symm,by omega⟩)
 have new:∀ j,j=i/\i < Γ.length->(σ.set i (some (V.ref p)))[j]? = some (some (.ref p)):=λj c=>by
  rw [c.1,eO (by have:=E.e.len; omega)]
 have keyb:∀ j o c ns d,slot (zz Γ i (.ow ds)) j=.ob o c ns d->slot Γ j=.ob o c ns d/\(σ.set i (some (V.ref p)))[j]? = σ[j]?:=λj o0 c0 ns d q=>by
  rw [xw] at q
  by_cases c:j=i/\i < Γ.length
  ·rw [if_pos c] at q; cases q
  ·rw [if_neg c] at q; exact ⟨q,get j c (by rw [q]; exact λz=>nomatch z)⟩
 refine ⟨⟨⟨λj d q=>?_,λj d q=>?_,λj o c ns d q=>?_,λj k as bs m q r e f=>?_,⟨λb hb=>?_,yY.same E.e.zd.i (gw hp _)⟩,by rw [kI,dq]; exact E.e.len⟩,λb hb=>.inl (E.z0 b hb),E.z0d,E.same.trans (x9 hp _),λj d m q e=>?_,λj o c ns d q=>E.owb j o c ns d (keyb j o c ns d q).1⟩,s⟩
 ·rw [xw] at q
  by_cases c:j=i/\i < Γ.length
  ·rw [if_pos c] at q; cases q
  ·rw [if_neg c] at q
   obtain ⟨v,h1,h2⟩:=E.e.sh j d q
   exact ⟨v,by rw [get j c (by rw [q]; exact λz=>nomatch z)]; exact h1,h2.same s⟩
 ·rw [xw] at q
  by_cases c:j=i/\i < Γ.length
  ·rw [if_pos c] at q
   cases q
   exact ⟨p,xs,new j c,.inr rfl,xh,xT s hx⟩
  ·rw [if_neg c] at q
   obtain ⟨m,ys,h1,h2,h3,h4⟩:=E.e.ow j d q
   exact ⟨m,ys,by rw [get j c (by rw [q]; exact λz=>nomatch z)]; exact h1,.inl h2,by rw [zu (old j d q m h1)]; exact h3,xT s h4⟩
 ·obtain ⟨q,g⟩:=keyb j o c ns d q
  obtain ⟨dx,ys,h1,h2,h3,h5,h4⟩:=E.e.ob j o c ns d q
  exact ⟨dx,ys,g.trans h1,.inl h2,by rw [zu (wD h3 hp)]; exact h3,h5,xT s h4⟩
 ·rw [xw] at q r
  by_cases c:j=i/\i < Γ.length
  ·by_cases c':k=i/\i < Γ.length
   ·omega
   ·rw [if_neg c'] at r
    rw [new j c] at e
    rw [get k c' (by rw [r]; exact λz=>nomatch z)] at f
    cases e
    exact absurd rfl (old k bs r p f)
  ·rw [if_neg c] at q
   rw [get j c (by rw [q]; exact λz=>nomatch z)] at e
   by_cases c':k=i/\i < Γ.length
   ·rw [new k c'] at f
    cases f
    exact absurd rfl (old j as q p e)
   ·rw [if_neg c'] at r
    rw [get k c' (by rw [r]; exact λz=>nomatch z)] at f
    exact E.e.ne j k as bs m q r e f
 ·by_cases c:b=p
  ·rw [c]; exact ⟨_,xh,λ_ z=>nomatch z⟩
  ·obtain ⟨u,e,n⟩:=E.e.zd.z b (hb.resolve_right c)
   exact ⟨u,by rw [zu c]; exact e,n⟩
 ·rw [xw] at q
  by_cases c:j=i/\i < Γ.length
  ·rw [new j c] at e
   cases e
   exact E.same.free hp
  ·rw [if_neg c] at q
   rw [get j c (by rw [q]; exact λz=>nomatch z)] at e
   exact E.own j d m q e
def frz (Γ:List Sl) (i:Nat):List Sl:=match slot Γ i with
 | .ow ds=>zz Γ i (.sh (.lst ds))
 | _=>Γ
theorem yt.frz {Z0:Addr->Prop} {H0:Hp} {Z:Addr->Prop} {Γ:List Sl} {σ:St} {H:Hp} (E:yt Z0 H0 Z Γ σ H) (i:Nat):∃ Z',yt Z0 H0 Z' (Pu.frz Γ i) σ H/\zN (zP Z H) (zP Z' H):=by
 unfold Pu.frz
 cases hs:slot Γ i with
 | no=>exact ⟨Z,E,zN.refl _⟩
 | sh _=>exact ⟨Z,E,zN.refl _⟩
 | ob _ _ _ _=>exact ⟨Z,E,zN.refl _⟩
 | ow ds=>
  obtain ⟨l,xs,hl,hz,el,hx⟩:=E.e.ow i ds hs
  have s:zN (zP Z H) (zP (λb=>Z b/\b≠l) H):=WP λb h=>h.1
  have key:∀ j d,slot (zz Γ i (.sh (.lst ds))) j=.ow d->slot Γ j=.ow d/\j≠i:=λj d q=>by
   rw [xw] at q
   by_cases c:j=i/\i < Γ.length
   ·rw [if_pos c] at q; cases q
   ·rw [if_neg c] at q
    have hj:=ul (Γ:=Γ) (i:=j) (by rw [q]; exact λz=>nomatch z)
    exact ⟨q,λz=>c ⟨z,by omega⟩⟩
  have keyb:∀ j o c ns d,slot (zz Γ i (.sh (.lst ds))) j=.ob o c ns d->slot Γ j=.ob o c ns d:=λj o0 c0 ns d q=>by
   rw [xw] at q
   by_cases c:j=i/\i < Γ.length
   ·rw [if_pos c] at q; cases q
   ·rw [if_neg c] at q; exact q
  refine ⟨λb=>Z b/\b≠l,⟨⟨λj d q=>?_,λj d q=>?_,λj o c ns d q=>?_,λj k as bs m q r=>?_,⟨λb hb=>E.e.zd.z b hb.1,E.e.zd.i⟩,by rw [kI]; exact E.e.len⟩,λb hb=>⟨E.z0 b hb,λz=>?_⟩,E.z0d,E.same,λj d m q=>E.own j d m (key j d q).1,λj o c ns d q=>E.owb j o c ns d (keyb j o c ns d q)⟩,s⟩
  ·rw [xw] at q
   by_cases c:j=i/\i < Γ.length
   ·rw [if_pos c] at q
    cases q
    rw [c.1]
    exact ⟨.ref l,hl,.lst (vn (λz=>z.2 rfl) el) (xT s hx)⟩
   ·rw [if_neg c] at q
    obtain ⟨v,h1,h2⟩:=E.e.sh j d q
    exact ⟨v,h1,h2.same s⟩
  ·obtain ⟨q1,q2⟩:=key j d q
   obtain ⟨m,ys,h1,h2,h3,h4⟩:=E.e.ow j d q1
   exact ⟨m,ys,h1,⟨h2,λz=>q2 (E.e.ne j i d ds l q1 hs (by rw [h1,z]) hl)⟩,h3,xT s h4⟩
  ·obtain ⟨dx,ys,h1,h2,h3,h5,h4⟩:=E.e.ob j o c ns d (keyb j o c ns d q)
   exact ⟨dx,ys,h1,⟨h2,λz=>by rw [z,el] at h3; cases h3⟩,h3,h5,xT s h4⟩
  ·exact E.e.ne j k as bs m (key j as q).1 (key k bs r).1
  ·obtain ⟨ys,e,_⟩:=E.z0d.z b hb
   rw [z,E.own i ds l hs hl] at e
   cases e
end Pu
namespace Pu
open PySem L2 Sh
variable [yY]
open PyProof.Rows (envOfC)
section
variable {X:Cx} {e:Expr} {es:List Expr} {st:Stmt} {sts:List Stmt} {pos:Pos} {pa pb:zn} {pl:yo} {p q:yc}
theorem yH {t t':TS} (h:PS X st t) (w:∀ D σ H,t' D σ H->t D σ H):PS X st t':=λpins s σ H D I k=>h pins s σ H D I (w D σ H k)
theorem ji {t t':TS} (h:yk X sts t) (w:∀ D σ H,t' D σ H->t D σ H):yk X sts t':=λpins s σ H D I k=>h pins s σ H D I (w D σ H k)
def YW:yc:=λD Γ=>D.nx Γ
def jj (p q:yc):yc:=λD Γ=>p { D with nx:=q D } Γ
theorem yM:yk X [] (yP YW):=ji Xp λD σ H ⟨Z0,H0,Z,Γ,Dp,E,h,nx,rt,bk,ct⟩=>nx Z Γ σ H E (zN.refl _) h
theorem zH (h1:PS X st (yP p)) (h2:yk X sts (yP q)):yk X (st :: sts) (yP (jj p q)):=ji (qc h1 h2) λD σ H ⟨Z0,H0,Z,Γ,Dp,E,h,nx,rt,bk,ct⟩=>
 ⟨Z0,H0,Z,Γ,{ Dp with nx:=q Dp },E,h,λZ' Γ' σ' H' E' s' h'=>⟨Z0,H0,Z',Γ',Dp,E',h',λZ2 Γ2 σ2 H2 E2 s2=>nx Z2 Γ2 σ2 H2 E2 (s'.trans s2),rt,λZ2 Γ2 σ2 H2 E2 s2=>bk Z2 Γ2 σ2 H2 E2 (s'.trans s2),λZ2 Γ2 σ2 H2 E2 s2=>ct Z2 Γ2 σ2 H2 E2 (s'.trans s2)⟩,rt,bk,ct⟩
def YX (p q:yc):yc:=λD Γ=>∃ M:List Sl->Prop,p { D with nx:=M } Γ/\∀ Γ',M Γ'->q D Γ'
theorem uU (h1:PS X st (yP p)) (h2:yk X sts (yP q)):yk X (st :: sts) (yP (YX p q)):=ji (qc h1 h2) λD σ H ⟨Z0,H0,Z,Γ,Dp,E,⟨M,h,k⟩,nx,rt,bk,ct⟩=>
 ⟨Z0,H0,Z,Γ,{ Dp with nx:=M },E,h,λZ' Γ' σ' H' E' s' h'=>⟨Z0,H0,Z',Γ',Dp,E',k Γ' h',λZ2 Γ2 σ2 H2 E2 s2=>nx Z2 Γ2 σ2 H2 E2 (s'.trans s2),rt,λZ2 Γ2 σ2 H2 E2 s2=>bk Z2 Γ2 σ2 H2 E2 (s'.trans s2),λZ2 Γ2 σ2 H2 E2 s2=>ct Z2 Γ2 σ2 H2 E2 (s'.trans s2)⟩,rt,bk,ct⟩
theorem zJ (h1:PS X st (yP p)):yk X [st] (yP p):=zKk h1
def Jd (i:Nat) (p:yc):yc:=λD Γ=>p D (frz Γ i)
theorem wa (i:Nat) (h1:PS X st (yP p)):PS X st (yP (Jd i p)):=yH h1 λD σ H ⟨Z0,H0,Z,Γ,Dp,E,h,nx,rt,bk,ct⟩=>by
 obtain ⟨Z',E',s⟩:=E.frz i
 exact ⟨Z0,H0,Z',_,Dp,E',h,λZ2 Γ2 σ2 H2 E2 s2=>nx Z2 Γ2 σ2 H2 E2 (s.trans s2),rt,λZ2 Γ2 σ2 H2 E2 s2=>bk Z2 Γ2 σ2 H2 E2 (s.trans s2),λZ2 Γ2 σ2 H2 E2 s2=>ct Z2 Γ2 σ2 H2 E2 (s.trans s2)⟩
def vW (i:Nat) (pa:zn):yc:=λD Γ=>pa Γ λd=>D.nx (zz Γ i (.sh d))
theorem zQG {i:Nat} (D:yw) (σ:St) (H:Hp):yP (vW i pa) D σ H->uZ (tP pa) (Xr i) D σ H:=λ⟨Z0,H0,Z,Γ,Dp,E,h,nx,rt,bk,ct⟩=>
 ⟨Z,Γ,_,E.e,h,λd v H1 hd s1 hv=>nx Z _ _ H1 ((E.mv s1).set hv i) (yZ s1) hd⟩
theorem zOp (i:Nat) {x:Str} {pos':Pos} (hN:X.N.Nodup) (hi:X.N[i]? = some x) (hx:ve X.env.scope x) (he:PE X e (tP pa)) (hs:swapsWith e (some (.Name x pos')) pos.line X.env=pure false:=by rfl) (hf:X.fn x=true\/X.env.scope.names.lookup x=some .local:=by first | exact .inl rfl | exact .inr rfl | assumption) :
  PS X (.Assign [.Name x pos'] e pos) (yP (vW i pa)):=yH (k9 hN hi hx he hs hf) zQG
def Je (js:List Nat) (po:D->Option (List D)) (pa:zn):yc:=λD Γ=>pa Γ λd=>uT (po d) λos=>D.nx (WU Γ js os)
theorem WY {tg:Expr} {js:List Nat} {po:D->Option (List D)} (he:PE X e (tP pa)) (hg:PG X tg (tG js po)) (hs:swapsWithSole [tg] e pos.line X.env=pure false:=by rfl) (hw:swappedStores [tg] e X.env=pure none:=by rfl)
  (h1:(assignEach [tg] X.env).map (·.2)=[assign tg X.env]:=by rfl):PS X (.Assign [tg] e pos) (yP (Je js po pa)):=yH (Xs he hg hs hw h1) λD σ H ⟨Z0,H0,Z,Γ,Dp,E,h,nx,rt,bk,ct⟩=>
 ⟨Z,Γ,_,E.e,h,λd v H1 hd s1 hv=>by
  obtain ⟨os,ho,hd⟩:=YJ hd
  exact ⟨Z,d,os,hv,ho,λvs hvs=>nx Z _ _ H1 ((E.mv s1).setN hvs) (yZ s1) hd⟩⟩
def Jf (i:Nat) (pl:yo):yc:=λD Γ=>pl Γ λds=>ds.length<=1000/\D.nx (zz Γ i (.ow ds))
theorem vX (i:Nat) {x:Str} {pos' lp:Pos} (hN:X.N.Nodup) (hi:X.N[i]? = some x) (hx:ve X.env.scope x) (he:PA X es (xk pl)) (hs:swapsWith (.List es lp) (some (.Name x pos')) pos.line X.env=pure false:=by rfl) (hf:X.fn x=true\/X.env.scope.names.lookup x=some .local:=by first | exact .inl rfl | exact .inr rfl | assumption) :
  PS X (.Assign [.Name x pos'] (.List es lp) pos) (yP (Jf i pl)):=yH (k9 hN hi hx (zN4 he) hs hf) λD σ H ⟨Z0,H0,Z,Γ,Dp,E,h,nx,rt,bk,ct⟩=>
 ⟨Z,Γ,_,E.e,h,λds vs H1 hd s1 hv=>⟨few (by rw [xg hv]; exact hd.1),λl hl=>by
  obtain ⟨E2,s2⟩:=(E.mv s1).make hl hv i
  exact nx _ _ _ _ E2 ((yZ s1).trans s2) hd.2⟩⟩
def uE:D->(List D->Prop)->Prop
 | .lst es,k=>k es
 | _,_=>False
def zQ9 (i:Nat) (ow:Bool) (caps:List Nat) (pi:yo) (po:D->Option (List D)) (pe:zn):yc:=λT Γ=>pi Γ λds=>zr ds (λd S=>uT (po d) λos=>pe (os.map Sl.sh++caps.map λj=>un (slot Γ j)) S) λd=>uE d λes=>T.nx (zz Γ i (match ow with | true=>.ow es | false=>.sh (.lst es)))
theorem vq (i:Nat) (ow:Bool) {scope:Scope} {own:List Str} {caps:List (Nat × Str)} {tg iter elt:Expr} {pi:yo} {po:D->Option (List D)} {pe:zn} {js:List Nat} {y:Str} {py spos:Pos} (hN:X.N.Nodup) (hy:X.N[i]? = some y) (hl:X.env.scope.names.lookup y=some .local) (B:vj X scope own caps) (hc:X.calm=true) (hj:js=fH 0 own.length) (hk:∀ d os,po d=some os->os.length=js.length)
  (hi:PI X tg iter (uv pi)) (hg:∀ C s₀ H₀ ex,PG (y4 X scope (zh own caps) C s₀ H₀ ex) tg (tG js po)) (he:∀ C s₀ H₀ ex,PE (y4 X scope (zh own caps) C s₀ H₀ ex) elt (tP pe)) (hsw:swapsWith (.ListComp elt [⟨tg,iter,[],0⟩] scope pos) (some (.Name y py)) spos.line X.env=pure true) (hs:∀ x,foldedSetIterable iter X.env x=pure x:=by intro _; rfl) :
  PS X (.Assign [.Name y py] (.ListComp elt [⟨tg,iter,[],0⟩] scope pos) spos) (yP (zQ9 i ow (caps.map (·.1)) pi po pe)):=yH (zI0 hN hy hl B hc hi hg (.inl rfl) (λ_ _ _ _=>zQ6) he hsw hs) λD σ H ⟨Z0,H0,Z,Γ,Dp,E,h,nx,rt,bk,ct⟩=>
 ⟨Z,Γ,_,E.e,h,λds J H1 ⟨fw,F,hF,hR⟩ s1 wk=>zJP (E.e.same s1) wk hj hk fw hF λes ys H' l h1 s2 h2 hp=>by
  have E1:=(E.mv s1).mv s2
  cases ow with
  | true=>
   obtain ⟨E2,s3⟩:=E1.make hp h2 i
   exact nx _ _ _ _ E2 ((yZ (s1.trans s2)).trans s3) (hR es h1)
  | false=>exact nx Z _ _ _ ((E1.mv (x9 hp _)).set (uq E1.e.zd hp h2) i) (yZ (s1.trans (s2.trans (x9 hp _)))) (hR es h1)⟩
def Jg (pa:zn):yc:=λD Γ=>pa Γ D.rt
theorem zZ (he:PE X e (tP pa)):PS X (.Return (some e) pos) (yP (Jg pa)):=yH (zN2 he) λD σ H ⟨Z0,H0,Z,Γ,Dp,E,h,nx,rt,bk,ct⟩=>
 ⟨Z,Γ,_,E.e,h,λd v H1 hd s1 hv=>rt d v H1 (E.same.trans s1) (hv.same (WP E.z0)) hd⟩
def pIf (t:wA) (p q:yc):yc:=λD Γ=>t Γ λc=>wJ c (p D Γ) (q D Γ)
theorem yN {c:Expr} {a b:List Stmt} {t:wA} (hc:PT X c (xA t)) (ha:yk X a (yP p)) (hb:yk X b (yP q)):PS X (.If c a b pos) (yP (pIf t p q)):=yH (zQp hc ha hb) λD σ H ⟨Z0,H0,Z,Γ,Dp,E,h,nx,rt,bk,ct⟩=>
 ⟨Z,Γ,_,E.e,h,λc H1 hd s1=>by
  have f:∀ {P:List Sl->Prop} {Q:St->Hp->Prop},(∀ Z' Γ' σ' H',yt Z0 H0 Z' Γ' σ' H'->zN (zP Z H) (zP Z' H')->P Γ'->Q σ' H')->∀ Z' Γ' σ' H',yt Z0 H0 Z' Γ' σ' H'->zN (zP Z H1) (zP Z' H')->P Γ'->Q σ' H':=λg Z2 Γ2 σ2 H2 E2 s2=>g Z2 Γ2 σ2 H2 E2 ((yZ s1).trans s2)
  cases c with
  | true=>exact ⟨Z0,H0,Z,Γ,Dp,E.mv s1,hd.1 rfl,f nx,rt,f bk,f ct⟩
  | false=>exact ⟨Z0,H0,Z,Γ,Dp,E.mv s1,hd.2 rfl,f nx,rt,f bk,f ct⟩⟩
def zQ7:yc:=λ_ _=>False
theorem YY:PS X st (yP zQ7):=yH zMn λD σ H ⟨Z0,H0,Z,Γ,Dp,E,h,nx,rt,bk,ct⟩=>h
def Jh (pi:yo) (js:List Nat) (po:D->Option (List D)) (pb:yc):yc:=λD Γ=>pi Γ λds=>∃ I:Nat->List Sl->Prop,I 0 Γ/\(∀ k d Γ',ds[k]? = some d->I k Γ'->uT (po d) λos=>pb ⟨I (k + 1),D.rt,D.nx,I (k + 1)⟩ (WU Γ' js os))/\∀ Γ',I ds.length Γ'->D.nx Γ'
theorem xX {tg iter:Expr} {body:List Stmt} {pi:yo} {js:List Nat} {po:D->Option (List D)} (hp:PassesOwn (model X.prog X.w) X.A X.env X.xe) (hc:X.calm=true) (hi:PI X tg iter (uv pi)) (hg:PG X tg (tG js po)) (hb:yk X body (yP p))
  (hs:∀ x,foldedSetIterable iter X.env x=pure x:=by intro _; rfl):PS X (.For tg iter body [] pos) (yP (Jh pi js po p)):=yH (zQq hp hc hi hg hb hs) λD σ H ⟨Z0,H0,Z,Γ,Dp,E,h,nx,rt,bk,ct⟩=>
 ⟨Z,Γ,_,E.e,h,λds J H1 ⟨I,h0,hst,hd⟩ s1 wk=>by
  have g:∀ {Q:List Sl->Prop} {T:St->Hp->Prop} {Z1 H2},zN (zP Z H1) (zP Z1 H2)->(∀ Z' Γ' σ' H',yt Z0 H0 Z' Γ' σ' H'->zN (zP Z H) (zP Z' H')->Q Γ'->T σ' H')->∀ Z' Γ' σ' H',yt Z0 H0 Z' Γ' σ' H'->zN (zP Z1 H2) (zP Z' H')->Q Γ'->T σ' H':=λs k Z2 Γ2 σ2 H2 E2 s2=>k Z2 Γ2 σ2 H2 E2 ((yZ s1).trans (s.trans s2))
  refine ⟨λi m σ' H'=>m + i=ds.length/\∃ Z' Γ',yt Z0 H0 Z' Γ' σ' H'/\zN (zP Z H1) (zP Z' H')/\I i Γ',⟨ds.length,rfl,Z,Γ,E.mv s1,zN.refl _,h0⟩,?_⟩
  rintro i m σ' H' ⟨hm,Z',Γ',E',s',hI⟩
  obtain ⟨w1,w2⟩:=wk i Z' H' s' E'.e.zd
  by_cases hi:i < ds.length
  ·refine .inr ⟨(w1 _ (b_ hi)).1,λσ' H'=>m - 1 + (i + 1)=ds.length/\∃ Z' Γ',yt Z0 H0 Z' Γ' σ' H'/\zN (zP Z H1) (zP Z' H')/\I (i + 1) Γ',λσ2 H2 k=>⟨m - 1,by omega,k⟩,λx H2 yl=>?_⟩
   obtain ⟨s2,dv⟩:=(w1 _ (b_ hi)).2 x H2 yl
   obtain ⟨os,ho,hb⟩:=YJ (hst i _ Γ' (b_ hi) hI)
   refine ⟨Z',_,os,dv,ho,λvs hvs=>?_⟩
   have s3:=s'.trans (yZ s2)
   have again:∀ Z2 Γ2 σ2 H3,yt Z0 H0 Z2 Γ2 σ2 H3->zN (zP Z' H2) (zP Z2 H3)->I (i + 1) Γ2->m - 1 + (i + 1)=ds.length/\∃ Z' Γ',yt Z0 H0 Z' Γ' σ2 H3/\zN (zP Z H1) (zP Z' H3)/\I (i + 1) Γ':=λZ2 Γ2 σ2 H3 E3 k hI=>⟨by omega,Z2,Γ2,E3,s3.trans k,hI⟩
   exact ⟨Z0,H0,Z',_,_,(E'.mv s2).setN hvs,hb,again,rt,g s3 nx,again⟩
  ·have ei:i=ds.length:=by omega
   rw [ei] at hI
   exact .inl ⟨w2 ei,nx Z' Γ' σ' H' E' ((yZ s1).trans s') (hd Γ' hI)⟩⟩
def gN:Sl->(List D->Prop)->Prop
 | .ow ds,R=>R ds
 | _,_=>False
theorem kM {s:Sl} {R:List D->Prop} (h:gN s R):∃ ds,s=.ow ds/\R ds:=by
 cases s with
 | ow ds=>exact ⟨ds,rfl,h⟩
 | _=>exact h.elim
def Ji (i:Nat) (pa:zn):yc:=λD Γ=>gN (slot Γ i) λds=>pa Γ λd=>ds.length < 1000/\D.nx (zz Γ i (.ow (ds++[d])))
theorem wc {i:Nat} {K:b'} (D:yw) (σ:St) (H:Hp):yP (Ji i pa) D σ H->Xq (Ui K "list" qu (vQ i) (qj (tP pa) vN)) D σ H:=λ⟨Z0,H0,Z,Γ,Dp,E,h,nx,rt,bk,ct⟩=>by
 obtain ⟨ds,hs,h⟩:=kM h
 obtain ⟨l,xs,hl,hz,el,hx⟩:=E.e.ow i ds hs
 refine ⟨.ref l,hl,.inl ⟨rfl,xs,zl.of el⟩,Z,Γ,_,E.e,h,λd v H1 hd s1 hv=>?_⟩
 have hx1:=xT (yZ s1) hx
 exact ⟨l,xs,v,rfl,rfl,s1.at el,Ul (by rw [xg hx]; omega),nx Z _ _ _ ((E.mv s1).put hs hl hz (ZY hv hx1)) ((yZ s1).trans (kL hz)) hd.2⟩
def Jj (i:Nat) (pa pb:zn):yc:=λD Γ=>pa Γ λd=>gN (slot Γ i) λds=>pb Γ λk=>iD k λo=>∃ z j,o=some z/\xj ds.length z=some j/\D.nx (zz Γ i (.ow (ds.set j d)))
theorem zN5 {α β:Type} {R:α->β->Prop} {x:α} {y:β} (r:R x y):∀ {xs:List α} {ys:List β} (i:Nat),Paired R xs ys->Paired R (xs.set i x) (ys.set i y)
 | _,_,_,.nil=>.nil
 | _,_,0,.cons _ t=>.cons r t
 | _,_,i + 1,.cons q t=>.cons q (zN5 r i t)
theorem Jk {i:Nat} (D:yw) (σ:St) (H:Hp):yP (Jj i pa pb) D σ H->uZ (tP pa) (k8 (vQ i) (tP pb) qv) D σ H:=λ⟨Z0,H0,Z,Γ,Dp,E,h,nx,rt,bk,ct⟩=>
 ⟨Z,Γ,_,E.e,h,λd v H1 hd s1 hv=>by
  obtain ⟨ds,hs,h⟩:=kM hd
  obtain ⟨l,xs,hl,hz,el,hx⟩:=(E.mv s1).e.ow i ds hs
  refine ⟨.ref l,hl,Z,Γ,_,(E.mv s1).e,h,λk u H2 hk s2 hu=>?_⟩
  unfold iD at hk
  split at hk
  ·obtain ⟨z,j,e1,e2,hd⟩:=hk
   cases e1
   cases hu
   have s:=s1.trans s2
   have hx1:=xT (yZ s2) hx
   exact ⟨l,xs,_,j,rfl,rfl,s2.at el,by rw [xg hx]; exact e2,nx Z _ _ _ ((E.mv s).put hs hl hz (zN5 (hv.same (yZ s2)) j hx1)) ((yZ s).trans (kL hz)) hd⟩
  ·exact hk.elim⟩
def ixL (ds:List D):D->(D->Prop)->Prop
 | .int i,R=>∃ d,y3 ds i=some d/\R d
 | _,_=>False
def Jl (i:Nat) (pb:zn):zn:=λΓ R=>gN (slot Γ i) λds=>pb Γ λk=>ixL ds k R
theorem zQj (i:Nat) {x:Str} {b:Expr} {xp:Pos} (hb:PE X b (tP pb)) (hs:X3 b) (hN:X.N[i]? = some x:=by rfl) (hv:j4 X.env.scope x:=by first | exact Or.inl rfl | exact Or.inr (Or.inl rfl) | exact Or.inr (Or.inr rfl)) (hd:(x == ("__debug__" : Str))=false:=by decide)
  (hcd:(x == ("__classdict__" : Str))=false:=by decide):PE X (.Subscript (.Name x xp) b pos) (tP (Jl i pb)):=yb (Ue Ug (y6 i hN hv hd hcd) hb hs) λσ H Q ⟨Z,Γ,R,E,h,q⟩=>by
 obtain ⟨ds,hs,h⟩:=kM h
 obtain ⟨l,xs,hl,hz,el,hx⟩:=E.ow i ds hs
 refine ⟨.ref l,hl,Z,Γ,_,E,h,λk u H2 hk s2 hu=>?_⟩
 unfold ixL at hk
 split at hk
 ·cases hu
  obtain ⟨d,hd,hR⟩:=hk
  obtain ⟨v,hv,hh⟩:=WT hx hd
  exact ⟨l,xs,_,v,rfl,rfl,zl.of (s2.at el),hv,q _ _ H2 hR s2 (hh.same (yZ s2))⟩
 ·exact hk.elim
def D.isInt:D->Bool
 | .int _=>true
 | .bool _=>true
 | _=>false
def D.isBool:D->Bool
 | .bool _=>true
 | _=>false
def D.isLst:D->Bool
 | .lst _=>true
 | .scr _=>true
 | _=>false
def D.isTup:D->Bool
 | .tup _=>true
 | _=>false
def D.isObj:D->Bool
 | .obj ..=>true
 | _=>false
def YZ (c:String) (f:D->Bool):D->(D->Prop)->Prop:=λd R=>d.isObj=false/\R (.bool (f d))
theorem WZ {K:b'} {H:Hp} {v:V} {d:D} (h:DV H v d) (o:d.isObj=false):∃ t,ya K H v t/\dl K t (.type "int")=some d.isInt/\dl K t (.type "bool")=some d.isBool/\dl K t (.type "list")=some d.isLst/\dl K t (.type "tuple")=some d.isTup:=by
 cases h with
 | int i=>exact ⟨_,.int i,j9 K .int,qA K .int,qC K .int,qB K .int⟩
 | bool b=>exact ⟨_,.bl b,j9 K .bool,qA K .bool,qC K .bool,qB K .bool⟩
 | non=>exact ⟨_,.non,j9 K .non,qA K .non,qC K .non,qB K .non⟩
 | str x=>exact ⟨_,.str x,j9 K .str,qA K .str,qC K .str,qB K .str⟩
 | scr e=>
  rcases e with e | ⟨o,e⟩
  ·exact ⟨_,.lst e,j9 K .lst,qA K .lst,qC K .lst,qB K .lst⟩
  ·exact ⟨_,.frz e,j9 K .lst,qA K .lst,qC K .lst,qB K .lst⟩
 | lst e _=>exact ⟨_,.lst e,j9 K .lst,qA K .lst,qC K .lst,qB K .lst⟩
 | tup e _=>exact ⟨_,.tup e,j9 K .tup,qA K .tup,qC K .tup,qB K .tup⟩
 | obj e _ _=>cases o
theorem ux {K:b'} {c:String} {f:D->Bool} (hf:∀ H v d,DV H v d->d.isObj=false->∃ t,ya K H v t/\dl K t (.type c)=some (f d)) (σ:St) (H:Hp) (Q:VK):tP (Zv (YZ c f) pa) σ H Q->ZM (zQa K) (qj (tP pa) (qj (tC (.ty c)) vN)) σ H Q:=λ⟨Z,Γ,R,E,h,q⟩=>
 ⟨Z,Γ,_,E,h,λd v H1 hd s1 hv=>by
  obtain ⟨t,h1,h2⟩:=hf H1 v d (hv.same yE) hd.1
  exact ⟨v,c,t,_,rfl,h1,h2,q _ _ H1 hd.2 s1 (.bool _)⟩⟩
theorem zRj {K:b'} (H:Hp) (v:V) (d:D) (h:DV H v d) (o:d.isObj=false):∃ t,ya K H v t/\dl K t (.type "int")=some d.isInt:=let ⟨t,h1,h2,_⟩:=WZ h o; ⟨t,h1,h2⟩
theorem zNP {K:b'} (H:Hp) (v:V) (d:D) (h:DV H v d) (o:d.isObj=false):∃ t,ya K H v t/\dl K t (.type "bool")=some d.isBool:=let ⟨t,h1,_,h2,_⟩:=WZ h o; ⟨t,h1,h2⟩
theorem kN {K:b'} (H:Hp) (v:V) (d:D) (h:DV H v d) (o:d.isObj=false):∃ t,ya K H v t/\dl K t (.type "list")=some d.isLst:=let ⟨t,h1,_,_,h2,_⟩:=WZ h o; ⟨t,h1,h2⟩
theorem Jm {K:b'} (H:Hp) (v:V) (d:D) (h:DV H v d) (o:d.isObj=false):∃ t,ya K H v t/\dl K t (.type "tuple")=some d.isTup:=let ⟨t,h1,_,_,_,h2⟩:=WZ h o; ⟨t,h1,h2⟩
end
inductive zG (F:FL) (vs:List V) (H:Hp) (Q:VK) (E:XK):Prop
 | mk (Z:Addr->Prop) (ds:List D) (R:D->Prop) (zd:ZL Z H) (hv:yK (zP Z H) vs ds) (h:F ds R) (q:∀ d v H',R d->Sm H H'->DV (zP Z H') v d->Q v H'):zG F vs H Q E
section
variable {P:Program} {w:World} {K:b'} {mg:Str->Option Value} {base:Heap}
theorem jk (n i:Nat):slot (cG n .no) i=.no:=by
 rw [zIn]
 cases h:(cG n Sl.no)[i]? with
 | none=>rfl
 | some x=>exact iQ (dm h)
theorem Wa {Z:Addr->Prop} {H:Hp} {vs:List V} {ds:List D} (zd:ZL Z H) (h:yK (zP Z H) vs ds) (n:Nat):yV Z (ds.map Sl.sh++cG n .no) (vs.map some++cG n none) H:=by
 have no:∀ i as,slot (ds.map Sl.sh++cG n .no) i≠.ow as:=YT λi as h=>by rw [jk] at h; cases h
 have nob:∀ i o c ns as,slot (ds.map Sl.sh++cG n .no) i≠.ob o c ns as:=YS λi o c ns as h=>by rw [jk] at h; cases h
 refine ⟨?_,λi as e=>absurd e (no i as),λi o c ns as e=>absurd e (nob i o c ns as),λi _ as _ _ e=>absurd e (no i as),zd,?_⟩
 clear nob
 ·induction h with
  | nil=>
   intro i d e
   change slot (cG n .no) i=_ at e
   rw [jk] at e
   cases e
  | @cons v d vs ds hv _ ih=>
   intro i e q
   cases i with
   | zero=>cases q; exact ⟨v,rfl,hv⟩
   | succ i=>
    obtain ⟨u,h1,h2⟩:=ih (λi=>no (i + 1)) i e q
    exact ⟨u,by rw [di,mK,fb]; exact h1,h2⟩
 ·rw [cA,cA,a_,a_,eS,eS,xg h]
theorem Jn {N ps:List Str} {F:FL} {p:yc} (len:∀ ds R,F ds R->ds.length=ps.length) (h2:∀ ds R,F ds R->p { nx:=λ_=>R .non,rt:=R } (ds.map Sl.sh++cG (N.length - ps.length) .no)) {H:Hp} {vs:List V} {Q:VK} {E:XK} (h:zG F vs H Q E):yP p { nx:=λ_ H'=>Q .non H',rt:=Q } (L2.yC N vs) H:=by
 obtain ⟨Z,ds,R,zd,hv,h,q⟩:=h
 have e:L2.yC N vs=vs.map some++cG (N.length - ps.length) none:=by
  unfold L2.yC
  rw [xg hv,len ds R h]
 refine ⟨Z,H,Z,_,_,⟨?_,λ_ h=>h,zd,Sm.refl _,?_,?_⟩,h2 ds R h,λZ' Γ' σ' H' E' _ hn=>q .non .non H' hn E'.same .non,λd v H' s' hv' hd=>q d v H' hd s' hv',λ_ _ _ _ _ _ h=>h.elim,λ_ _ _ _ _ _ h=>h.elim⟩
 ·rw [e]
  exact Wa zd hv _
 ·exact λi as l e=>absurd e (YT (λi as h=>by rw [jk] at h; cases h) i as)
 ·exact λi o c ns as e=>absurd e (YS (λi o c ns as h=>by rw [jk] at h; cases h) i o c ns as)
theorem Jo {ps:List Str} {F:FL} (len:∀ ds R,F ds R->ds.length=ps.length) (vs:List V) (H:Hp) (Q:VK) (E:XK):zG F vs H Q E->vs.length=ps.length:=λ⟨Z,ds,R,zd,hv,h,q⟩=>by rw [xg hv]; exact len ds R h
theorem okP {x qual:Str} {st:Stmt} {f:Addr} {fd:FuncData} {N ps:List Str} {k:Nat} {F:FL} (Fu:zf K x qual st f fd) (S:ze N ps (zR st)) (len:∀ ds R,F ds R->ds.length=ps.length)
  (hbody:∀ (cdv:Value) (A:Around) (outer:List Env) (s:Shared) (H:Hp) (E:XK),zU k (A.deeper (envOfC qual (zR st) s.heap.objs.size f cdv))->
   ∃ p,yk (zc zV P w K mg base N qual (zR st) f cdv A outer s H E).nox (xS st) (yP p)/\∀ ds R,F ds R->p { nx:=λ_=>R .non,rt:=R } (ds.map Sl.sh++cG (N.length - ps.length) .no)):zF P w K mg base zV (k + 1) f fd ps (zG F):=
 Fu.ok S (Jo len) λcdv A outer s H vs Q E hr h=>let ⟨p,h1,h2⟩:=hbody cdv A outer s H E hr; ⟨_,h1,Jn len h2 h⟩
theorem Jp {x qual:Str} {st:Stmt} {f:Addr} {fd:FuncData} {dv:Value} {N ps:List Str} {k:Nat} {F:FL} (Fu:xV K x qual st f fd dv) (S:ze N ps (zR st)) (len:∀ ds R,F ds R->ds.length=ps.length)
  (hbody:∀ (cdv:Value) (A:Around) (outer:List Env) (s:Shared) (H:Hp) (E:XK),zU k (A.deeper (envOfC qual (zR st) s.heap.objs.size f cdv))->
   ∃ p,yk (zc zV P w K mg base N qual (zR st) f cdv A outer s H E).nox (xS st) (yP p)/\∀ ds R,F ds R->p { nx:=λ_=>R .non,rt:=R } (ds.map Sl.sh++cG (N.length - ps.length) .no)):zF P w K mg base zV (k + 1) f fd ps (zG F):=
 Fu.ok S (Jo len) λcdv A outer s H vs Q E hr h=>let ⟨p,h1,h2⟩:=hbody cdv A outer s H E hr; ⟨_,h1,Jn len h2 h⟩
theorem zQ {X:Cx} {x:Str} {ps:List Str} {k:Nat} {F:FL} {e:Expr} {es:List Expr} {pl:yo} {p pos:Pos} (c:Fn X.prog X.w X.K X.mg X.base x ps k (zG F)) (hr:zU k X.A) (hg:Gl X x) (ha:PA X (e :: es) (xk pl))
  (hdb:(x == ("__debug__" : Str))=false:=by decide) (he:starEach (e :: es) X.env=(false,eval e X.env) :: starEach es X.env:=by rfl) (hpl:(backTo pos (starEach es X.env)).any (·.1)=false:=by rfl) :
  PE X (.Call (.Name x p) (e :: es) [] pos) (tP (jf F pl)):=yb (zI4 c hr hg ha hdb he hpl) λσ H Q ⟨Z,Γ,R,E,h,q⟩=>
 ⟨Z,Γ,_,E,h,λds vs H1 hd s1 hv=>⟨Z,ds,R,(E.same s1).zd,by rw [d5]; exact hv,hd,λd v H2 h2 s2 hv2=>q d v H2 h2 (s1.trans s2) hv2⟩⟩
end
end Pu
namespace Pu
open PySem L2 Sh
variable [yY]
open PyProof.Rows (envOfC)
theorem zIv {f:Str} {y:V}:∀ {ns:List Str} {xs:List V},ns.length=xs.length->f∉ns->yx f y (ns.zip xs)=(ns++[f]).zip (xs++[y])
 | [],[],_,_=>rfl
 | [],_ :: _,h,_=>nomatch h
 | _ :: _,[],h,_=>nomatch h
 | n :: ns,x :: xs,h,hf=>by
  show (if n=f then (n,y) :: ns.zip xs else (n,x) :: yx f y (ns.zip xs))=_
  rw [if_neg (λz=>hf (by rw [z]; exact cD)),zIv (Nat.succ.inj h) (λz=>hf (cB _ z))]
  rfl
theorem yt.putO {Z0:Addr->Prop} {H0:Hp} {Z:Addr->Prop} {Γ:List Sl} {σ:St} {H:Hp} (E:yt Z0 H0 Z Γ σ H) {i:Nat} {o c dx:Addr} {ns ns':List Str} {ds ds':List D} {xs:List V} (hs:slot Γ i=.ob o c ns ds) (he:∃ fs,H o=some (.ins c dx fs)) (hl:ns'.length=xs.length) (hx:yK (zP Z H) xs ds') (one:∀ j o' c' ns' ds',slot Γ j=.ob o' c' ns' ds'->j=i):yt Z0 H0 Z (zz Γ i (.ob o c ns' ds')) σ (za H o (.ins c dx (ns'.zip xs))):=by
 obtain ⟨dx0,xs0,hl0,hz,el,_⟩:=E.e.ob i o c ns ds hs
 have li:=ul (Γ:=Γ) (i:=i) (by rw [hs]; exact λz=>nomatch z)
 have hp:zN (zP Z H) (zP Z (za H o (.ins c dx (ns'.zip xs)))):=kL hz
 have keyw:∀ j d,slot (zz Γ i (.ob o c ns' ds')) j=.ow d->slot Γ j=.ow d:=λj d q=>by
  rw [xw] at q
  by_cases c:j=i/\i < Γ.length
  ·rw [if_pos c] at q; cases q
  ·rw [if_neg c] at q; exact q
 refine ⟨⟨λj d q=>?_,λj d q=>?_,λj o' c' ns1 d q=>?_,λj k as bs m q r=>E.e.ne j k as bs m (keyw j as q) (keyw k bs r),⟨λb hb=>?_,he.elim λ_ e=>yY.put E.e.zd.i e⟩,by rw [kI]; exact E.e.len⟩,E.z0,E.z0d,?_,λj d m q=>E.own j d m (keyw j d q),λj o' c' ns1 d q=>?_⟩
 ·rw [xw] at q
  by_cases c:j=i/\i < Γ.length
  ·rw [if_pos c] at q; cases q
  ·rw [if_neg c] at q
   obtain ⟨v,h1,h2⟩:=E.e.sh j d q
   exact ⟨v,h1,h2.same hp⟩
 ·obtain ⟨m,ys,h1,h2,h3,h4⟩:=E.e.ow j d (keyw j d q)
  have nm:m≠o:=λz=>by rw [z,el] at h3; cases h3
  exact ⟨m,ys,h1,h2,by rw [zu nm]; exact h3,xT hp h4⟩
 ·rw [xw] at q
  by_cases c:j=i/\i < Γ.length
  ·rw [if_pos c] at q
   cases q
   rw [c.1]
   exact ⟨dx,xs,hl0,hz,xh,hl,xT hp hx⟩
  ·rw [if_neg c] at q
   exact absurd ⟨one _ _ _ _ _ q,li⟩ c
 ·obtain ⟨u,e,n⟩:=E.e.zd.z b hb
  by_cases c:b=o
  ·rw [c]; exact ⟨_,xh,λ_ z=>nomatch z⟩
  ·exact ⟨u,by rw [zu c]; exact e,n⟩
 ·exact he.elim λ_ e=>E.same.put (E.owb i o c ns ds hs) e
 ·rw [xw] at q
  by_cases c:j=i/\i < Γ.length
  ·rw [if_pos c] at q
   cases q
   exact E.owb i o _ ns ds hs
  ·rw [if_neg c] at q
   exact E.owb j o' c' ns1 d q
def Wb:Sl->(Addr->Addr->List Str->List D->Prop)->Prop
 | .ob o c ns ds,R=>R o c ns ds
 | _,_=>False
theorem zLI {s:Sl} {R:Addr->Addr->List Str->List D->Prop} (h:Wb s R):∃ o c ns ds,s=.ob o c ns ds/\R o c ns ds:=by
 cases s with
 | ob o c ns ds=>exact ⟨o,c,ns,ds,rfl,h⟩
 | _=>exact h.elim
def gO:List Sl->Bool
 | []=>true
 | .ob _ _ _ _ :: _=>false
 | _ :: t=>gO t
theorem Wc:∀ {Γ:List Sl},gO Γ=true->∀ j o c ns ds,slot Γ j≠.ob o c ns ds
 | [],_,_,_,_,_,_,h=>nomatch h
 | .no :: _,_,0,_,_,_,_,h=>nomatch h
 | .sh _ :: _,_,0,_,_,_,_,h=>nomatch h
 | .ow _ :: _,_,0,_,_,_,_,h=>nomatch h
 | .ob .. :: _,g,_,_,_,_,_,_=>nomatch g
 | .no :: t,g,j + 1,o,c,ns,ds,h=>Wc (Γ:=t) g j o c ns ds h
 | .sh _ :: t,g,j + 1,o,c,ns,ds,h=>Wc (Γ:=t) g j o c ns ds h
 | .ow _ :: t,g,j + 1,o,c,ns,ds,h=>Wc (Γ:=t) g j o c ns ds h
def zSC (K:b') (c:Addr) (f:Str):Prop:=ua K c/\vF K c f
def Jq (K:b') (f:Str) (pa:zn):yc:=λT Γ=>pa Γ λd=>Wb (slot Γ 0) λo c ns ds=>zSC K c f/\f∉ns/\ns.length < 900/\gO (Γ.drop 1)=true/\T.nx (zz Γ 0 (.ob o c (ns++[f]) (ds++[d])))
section
variable {X:Cx} {e:Expr} {es:List Expr} {pos:Pos} {pa:zn} {pl:yo} {C:Addr}
theorem jm {K:b'} {f:Str} (D:yw) (σ:St) (H:Hp):yP (Jq K f pa) D σ H->ZK K (vQ 0) (tP pa) f D σ H:=λ⟨Z0,H0,Z,Γ,Dp,E,h,nx,rt,bk,ct⟩=>
 ⟨Z,Γ,_,E.e,h,λd v H1 hd s1 hv=>by
  obtain ⟨o,c,ns,ds,hs,hk,hf,hn,hn2,hd⟩:=zLI hd
  obtain ⟨dx,xs,hl,hz,el,ln,hx⟩:=(E.mv s1).e.ob 0 o c ns ds hs
  refine ⟨.ref o,hl,o,c,dx,_,rfl,el,hk.1,hk.2,by rw [d6]; omega,?_⟩
  rw [zIv ln hf]
  refine nx Z _ _ _ ((E.mv s1).putO hs ⟨_,el⟩ (by rw [cA,cA,ln]; rfl) (ZY hv hx) ?_) ((yZ s1).trans (kL hz)) hd
  intro j o' c' ns' ds' q
  cases j with
  | zero=>rfl
  | succ j=>
   cases Γ with
   | nil=>cases q
   | cons x t=>exact absurd q (Wc (Γ:=t) hn2 j o' c' ns' ds')⟩
inductive uz (C:Addr) (F:FL) (vs:List V) (H:Hp) (Q:VK) (E:XK):Prop
 | mk (Z:Addr->Prop) (ds:List D) (R:D->Prop) (o dx:Addr) (us:List V) (e:vs=.ref o :: us) (ho:H o=some (.ins C dx [])) (hz:¬ Z o) (zd:ZL Z H) (hv:yK (zP (λb=>Z b\/b=o) H) us ds) (h:F ds R) (q:∀ d H',R d->Sm (less o H) H'->DV (zP Z H') (.ref o) d->Q .non H'):uz C F vs H Q E
theorem zNA {N ps:List Str} {F:FL} {p:yc} (len:∀ ds R,F ds R->ds.length=ps.length) (h2:∀ o ds R,F ds R->p { nx:=λΓ=>Wb (slot Γ 0) λo' c ns es=>o'=o/\R (.obj c ns es),rt:=λ_=>False } (.ob o C [] [] :: (ds.map Sl.sh++cG (N.length - (ps.length + 1)) .no))) {H:Hp} {vs:List V} {Q:VK} {E:XK} (h:uz C F vs H Q E):yP p { nx:=λ_ H'=>Q .non H',rt:=Q } (L2.yC N vs) H:=by
 obtain ⟨Z,ds,R,o,dx,us,e,ho,hz,zd,hv,h,q⟩:=h
 subst e
 have e:L2.yC N (.ref o :: us)=some (.ref o) :: (us.map some++cG (N.length - (ps.length + 1)) none):=by
  unfold L2.yC
  rw [dg,xg hv,len ds R h]
  rfl
 have zd':ZL (λb=>Z b\/b=o) H:=⟨λb hb=>hb.elim (zd.z b) λz=>by rw [z]; exact ⟨_,ho,λ_ z=>nomatch z⟩,zd.i⟩
 have E0:=Wa zd' hv (N.length - (ps.length + 1))
 refine ⟨Z,less o H,λb=>Z b\/b=o,_,_,⟨?_,λ_ h=>.inl h,⟨λb hb=>?_,yY.less zd.i ho⟩,.of zJD,?_,?_⟩,h2 o ds R h,λZ' Γ' σ' H' E' _ hn=>?_,λ_ _ _ _ _ h=>h.elim,λ_ _ _ _ _ _ h=>h.elim,λ_ _ _ _ _ _ h=>h.elim⟩
 ·rw [e]
  refine ⟨λi d q=>?_,λi d q=>?_,λi o' c ns d q=>?_,λi j as bs l q r=>?_,zd',by rw [dg,dg,E0.len]⟩
  ·cases i with
   | zero=>cases q
   | succ i=>exact E0.sh i d q
  ·cases i with
   | zero=>cases q
   | succ i=>exact E0.ow i d q
  ·cases i with
   | zero=>cases q; exact ⟨dx,[],rfl,.inr rfl,ho,rfl,.nil⟩
   | succ i=>exact E0.ob i o' c ns d q
  ·cases i with
   | zero=>cases q
   | succ i=>
    cases j with
    | zero=>cases r
    | succ j=>exact λa b=>congrArg _ (E0.ne i j as bs l q r a b)
 ·obtain ⟨u,e1,n⟩:=zd.z b hb
  exact ⟨u,(if_neg λz=>hz (by rw [<- z]; exact hb)).trans e1,n⟩
 ·intro i as l q
  cases i with
  | zero=>cases q
  | succ i=>exact absurd q (YT (λi as h=>by rw [jk] at h; cases h) i as)
 ·intro i o' c ns as q
  cases i with
  | zero=>cases q; exact if_pos rfl
  | succ i=>exact absurd q (YS (λi o c ns as h=>by rw [jk] at h; cases h) i o' c ns as)
 ·obtain ⟨o',c,ns,es,hs,e2,hR⟩:=zLI hn
  subst e2
  obtain ⟨dx',xs,hl,hz',el,ln,hx⟩:=E'.e.ob 0 o' c ns es hs
  refine q _ H' hR E'.same (.obj (vn hz el) ln (xT (WP E'.z0) hx))
theorem zOe {ps:List Str} {p0:Str} {F:FL} (len:∀ ds R,F ds R->ds.length=ps.length) (vs:List V) (H:Hp) (Q:VK) (E:XK):uz C F vs H Q E->vs.length=(p0 :: ps).length:=λ⟨Z,ds,R,o,dx,us,e,ho,hz,zd,hv,h,q⟩=>by rw [e,dg,dg,xg hv,len ds R h]
theorem okI {P:Program} {w:World} {K:b'} {mg:Str->Option Value} {base:Heap} {x qual:Str} {st:Stmt} {f:Addr} {fd:FuncData} {N ps:List Str} {p0:Str} {k:Nat} {F:FL} (Fu:zf K x qual st f fd) (S:ze N (p0 :: ps) (zR st)) (len:∀ ds R,F ds R->ds.length=ps.length)
  (hbody:∀ (cdv:Value) (A:Around) (outer:List Env) (s:Shared) (H:Hp) (E:XK),zU k (A.deeper (envOfC qual (zR st) s.heap.objs.size f cdv))->
   ∃ p,yk (zc zV P w K mg base N qual (zR st) f cdv A outer s H E).nox (xS st) (yP p)/\∀ o ds R,F ds R->p { nx:=λΓ=>Wb (slot Γ 0) λo' c ns es=>o'=o/\R (.obj c ns es),rt:=λ_=>False } (.ob o C [] [] :: (ds.map Sl.sh++cG (N.length - (ps.length + 1)) .no))):zF P w K mg base zV (k + 1) f fd (p0 :: ps) (uz C F):=
 Fu.ok S (zOe len) λcdv A outer s H vs Q E hr h=>let ⟨p,h1,h2⟩:=hbody cdv A outer s H E hr; ⟨_,h1,zNA len h2 h⟩
theorem zMR {F:FL} {ev:List V} {ed:List D} (he:∀ H,yK H ev ed) (σ:St) (H:Hp) (Q:VK):tP (jf (λds=>F (ds++ed)) pl) σ H Q->Xz C (uz C F) ev E0 (xk pl) σ H Q:=λ⟨Z,Γ,R,E,h,q⟩=>
 ⟨Z,Γ,_,E,h,λds vs H1 hd s1 hv x dx hx hdx ne=>by
  have zd:=(E.same s1).zd
  have s2:Sm H1 (za (za H1 dx (.own x)) x (.ins C dx [])):=.of (zKX hx hdx ne _ _)
  refine ⟨Z,ds++ed,R,x,dx,vs++ev,rfl,xh,zd.new hx,zd.same s2,?_,hd,λd H' hR sb dv=>⟨rfl,q d _ H' hR (zQS (s1.trans s2) xh sb ?_) dv⟩⟩
  ·refine gz (xT ?_ hv) (he _)
   intro b o e
   obtain ⟨n1,n2⟩:=jc e
   exact vn (λz=>z.elim n1 (wD n2 hx)) (s2.at n2 (qK e)) (qK e)
  ·exact s1.free hx⟩
theorem zOY {F:FL} (σ:St) (H:Hp) (Q:VK) (h:tP (jf F pl) σ H Q):Xz C (uz C F) [] E0 (xk pl) σ H Q:=zMR (ed:=[]) (λ_=>.nil) σ H Q (by rw [show (λds=>F (ds++[]))=F from funext λds=>by rw [d5]]; exact h)
theorem zKj {x:Str} {ps:List Str} {k:Nat} {F:FL} {p:Pos} (c:qD X.prog X.w X.K X.mg X.base C ps k (uz C F)) (T:xq X.K X.mg x C) (hr:zU (k + 1) X.A) (hg:Gl X x) (ha:PA X (e :: es) (xk pl))
  (hdb:(x == ("__debug__" : Str))=false:=by decide) (he:starEach (e :: es) X.env=(false,eval e X.env) :: starEach es X.env:=by rfl) (hpl:(backTo pos (starEach es X.env)).any (·.1)=false:=by rfl) :
  PE X (.Call (.Name x p) (e :: es) [] pos) (tP (jf F pl)):=yb (zMt c T hr hg ha hdb he hpl) zOY
theorem jn {x:Str} {ps:List Str} {k:Nat} {F:FL} {p:Pos} {dv:V} (dd:D) (hd:∀ H,DV H dv dd) (c:wf X.prog X.w X.K X.mg X.base x ps k (zG F) dv) (hr:zU k X.A) (hg:Gl X x) (ha:PA X (e :: es) (xk pl))
  (hdb:(x == ("__debug__" : Str))=false:=by decide) (he:starEach (e :: es) X.env=(false,eval e X.env) :: starEach es X.env:=by rfl) (hpl:(backTo pos (starEach es X.env)).any (·.1)=false:=by rfl) :
  PE X (.Call (.Name x p) (e :: es) [] pos) (tP (jf (λds=>F (ds++[dd])) pl)):=yb (zKx c hr hg ha hdb he hpl) λσ H Q ⟨Z,Γ,R,E,h,q⟩=>
 ⟨Z,Γ,_,E,h,λds vs H1 hd' s1 hv=>⟨Z,ds++[dd],R,(E.same s1).zd,gz hv (.cons (hd _) .nil),hd',λd v H2 h2 s2 hv2=>q d v H2 h2 (s1.trans s2) hv2⟩⟩
def Yb (K:b') (f:Str):D->(D->Prop)->Prop
 | .obj c ns ds,R=>zSC K c f/\∃ d,(ns.zip ds).lookup f=some d/\R d
 | _,_=>False
theorem zHX {H:Hp} {f:Str} {d:D}:∀ {ns:List Str} {xs:List V} {ds:List D},ns.length=xs.length->yK H xs ds->(ns.zip ds).lookup f=some d->∃ v,(ns.zip xs).lookup f=some v/\DV H v d
 | [],_,_,_,_,h=>nomatch h
 | _ :: _,[],_,h,_,_=>nomatch h
 | n :: ns,x :: xs,_,h,.cons (b:=d') (l₂:=dt) k t,q=>by
  change (match f == n with | true=>some d' | false=>(ns.zip dt).lookup f)=some d at q
  show ∃ v,(match f == n with | true=>some x | false=>(ns.zip xs).lookup f)=some v/\_
  cases e:f == n with
  | true=>rw [e] at q; cases q; exact ⟨x,rfl,k⟩
  | false=>rw [e] at q; exact zHX (Nat.succ.inj h) t q
theorem wM (K:b') {f:Str} (ha:PE X e (tP pa)) (hb:attributeBase e f X.env (eval e X.env)=eval e X.env) (hK:X.K=K:=by rfl):PE X (.Attribute e f pos) (tP (Zv (Yb K f) pa)):=yb (zQ2 ha hb) λσ H Q ⟨Z,Γ,R,E,h,q⟩=>
 ⟨Z,Γ,_,E,h,λd v H1 hd s1 hv=>by
  unfold Yb at hd
  split at hd
  ·obtain ⟨hk,d',hl,hR⟩:=hd
   cases hv with
   | obj e1 l1 h1=>
    obtain ⟨v,e2,dv⟩:=zHX l1 h1 hl
    exact ⟨_,_,_,_,v,rfl,yE _ _ e1,by rw [hK]; exact hk.1,by rw [hK]; exact hk.2,e2,q _ _ H1 hR s1 dv⟩
  ·exact hd.elim⟩
def zRV (C:Addr) (m:Str) (F:FL):D->(D->Prop)->Prop
 | .obj c ns ds,R=>c=C/\m∉ns/\F [.obj c ns ds] R
 | _,_=>False
theorem zHY {f:Str}:∀ {ns:List Str} {xs:List V},f∉ns->(ns.zip xs).lookup f=none
 | [],_,_=>rfl
 | _ :: _,[],_=>rfl
 | n :: ns,x :: xs,h=>by
  show (match f == n with | true=>some x | false=>(ns.zip xs).lookup f)=none
  have e:(f == n)=false:=beq_eq_false_iff_ne.mpr λz=>h (by rw [z]; exact cD)
  rw [e]
  exact zHY λz=>h (cB _ z)
theorem Yc {x m:Str} {ps:List Str} {k:Nat} {F:FL} {apos:Pos} {pl:Sem Bool} (c:ue X.prog X.w X.K X.mg X.base C m ps k (zG F)) (T:xq X.K X.mg x C) (hr:zU k X.A) (ha:PE X e (tP pa))
  (ht:eval (.Call (.Attribute e m apos) [] [] pos) X.env=(do
   let ov <- eval e X.env
   standAt apos.atName
   let (f,first) <- holding [ov] (getMethod ov m pl)
   callWith pos f first (backTo pos (starEach [] X.env)) (backToKw pos (keywordEach [] X.env))):=by rfl) :
  PE X (.Call (.Attribute e m apos) [] [] pos) (tP (Zv (zRV C m F) pa)):=yb (zKv c T hr ha ht) λσ H Q ⟨Z,Γ,R,E,h,q⟩=>
 ⟨Z,Γ,_,E,h,λd v H1 hd s1 hv=>by
  unfold zRV at hd
  split at hd
  ·obtain ⟨rfl,hm,hR⟩:=hd
   have hv0:=hv
   cases hv with
   | obj e1 l1 h1=>exact ⟨_,_,_,rfl,yE _ _ e1,zHY hm,Z,_,R,(E.same s1).zd,.cons hv0 .nil,hR,λd v H2 h2 s2 hv2=>q d v H2 h2 (s1.trans s2) hv2⟩
  ·exact hd.elim⟩
def zRm (K:b') (C:Addr):D->(D->Prop)->Prop
 | .obj c _ _,R=>(∃ mg x,xq K mg x c)/\∃ b,dl K (.ref c) (.ref C)=some b/\R (.bool b)
 | _,_=>False
theorem zMS {K:b'} (σ:St) (H:Hp) (Q:VK):tP (Zv (zRm K C) pa) σ H Q->ZM (zN1 K) (qj (tP pa) (qj (tC (.ref C)) vN)) σ H Q:=λ⟨Z,Γ,R,E,h,q⟩=>
 ⟨Z,Γ,_,E,h,λd v H1 hd s1 hv=>by
  unfold zRm at hd
  split at hd
  ·obtain ⟨⟨mg,x,T⟩,b,hk,hR⟩:=hd
   cases hv with
   | obj e1 l1 h1=>exact ⟨_,_,_,b,rfl,T.ty (yE _ _ e1),hk,q _ _ H1 hR s1 (.bool _)⟩
  ·exact hd.elim⟩
def Yd (pa:zn):yc:=λT Γ=>pa Γ λ_=>T.nx Γ
theorem zIw (he:PE X e (tP pa)) (hs:swapsWith e none pos.line X.env=pure false:=by rfl):PS X (.Expr e pos) (yP (Yd pa)):=yH (xi he hs) λD σ H ⟨Z0,H0,Z,Γ,Dp,E,h,nx,rt,bk,ct⟩=>
 ⟨Z,Γ,_,E.e,h,λd v H1 hd s1 hv=>nx Z Γ σ H1 (E.mv s1) (yZ s1) hd⟩
end
end Pu
namespace Pu
open PySem L2 Sh
variable [yY]
def jL (k:Nat):List D->List D
 | []=>[]
 | d :: t=>xI (.int (k:Int)) d :: jL (k + 1) t
theorem gQ:∀ (k:Nat) (ds:List D),(jL k ds).length=ds.length
 | _,[]=>rfl
 | k,_ :: t=>congrArg (· + 1) (gQ (k + 1) t)
theorem kO:∀ {k:Nat} {ds:List D} {i:Nat} {e:D},(jL k ds)[i]? = some e->∃ d,ds[i]? = some d/\e=xI (.int ((k + i:Nat):Int)) d
 | _,[],_,_,h=>by simp [jL] at h
 | k,d :: t,0,e,h=>⟨d,rfl,by simp [jL] at h; exact h.symm⟩
 | k,d :: t,i + 1,e,h=>by
  obtain ⟨d',h1,h2⟩:=kO (k:=k + 1) (ds:=t) (i:=i) (e:=e) (by simpa [jL] using h)
  exact ⟨d',by simpa using h1,by rw [h2,show k + 1 + i=k + (i + 1) by omega]⟩
def jo:List D->(List D->Prop)->Prop
 | [.lst ds],R=>R ds
 | _,_=>False
end Pu
namespace L2
open PySem PySem.Spec PyProof.Rows
theorem zL6:bootBuiltins "min" = some (.builtin "min"):=by decide +kernel
end L2
namespace Pu
open PySem L2 Sh
variable [yY]
open PyProof.Rows (envOfC)
theorem zNK {l:Addr} {H:Hp} {o:HO} (e:H l=some o):za (less l H) l o=H:=funext λb=>by
 by_cases c:b=l
 ·rw [c,xh,e]
 ·rw [zu c]
  exact if_neg c
theorem zLV {l:Addr} {H H':Hp} {u:HO} (s:Sm H H') (n:H l=none) (e:H' l=some u) (li:vV u=true:=by rfl):Sm H (less l H'):=⟨λb o q t=>(if_neg (wD q n)).trans (s.s b o q t),λb o q t=>let ⟨o',e',t'⟩:=s.t b o q t; ⟨o',(if_neg (wD q n)).trans e',t'⟩,λi=>yY.less (s.k i) e li⟩
def jp (F:FL):Sp:=λvs H Q _=>∃ Z ds R,ZL Z H/\yK (zP Z H) vs ds/\F ds R/\∀ es l xs H',R (.lst es)->Sm H H'->H l=none->H' l=some (.lst xs)->yK (zP Z (less l H')) xs es->Q (.ref l) H'
theorem zOd {ps:List Str} {F:FL} (len:∀ ds R,F ds R->ds.length=ps.length) (vs:List V) (H:Hp) (Q:VK) (E:XK):jp F vs H Q E->vs.length=ps.length:=λ⟨Z,ds,R,zd,hv,h,q⟩=>by rw [xg hv]; exact len ds R h
section
variable {X:Cx} {e a b:Expr} {es:List Expr} {st:Stmt} {sts:List Stmt} {pos:Pos} {pa pb:zn} {pl:yo} {p q:yc}
def Ye (i:Nat) (F:FL) (pl:yo):yc:=λD Γ=>pl Γ λds=>F ds λd=>uE d λes=>D.nx (zz Γ i (.ow es))
theorem zJB {d:D} {k:List D->Prop} (h:uE d k):∃ es,d=.lst es/\k es:=by
 cases d with
 | lst es=>exact ⟨es,rfl,h⟩
 | _=>exact h.elim
theorem zMg (i:Nat) {x y:Str} {ps:List Str} {k:Nat} {F:FL} {pos' pp p2:Pos} (hN:X.N.Nodup) (hi:X.N[i]? = some x) (hx:ve X.env.scope x) (c:Fn X.prog X.w X.K X.mg X.base y ps k (jp F)) (hr:zU k X.A) (hg:Gl X y) (ha:PA X (e :: es) (xk pl))
  (hdb:(y == ("__debug__" : Str))=false:=by decide) (he:starEach (e :: es) X.env=(false,eval e X.env) :: starEach es X.env:=by rfl) (hpl:(backTo p2 (starEach es X.env)).any (·.1)=false:=by rfl)
  (hs:swapsWith (.Call (.Name y pp) (e :: es) [] p2) (some (.Name x pos')) pos.line X.env=pure false:=by rfl) (hf:X.fn x=true\/X.env.scope.names.lookup x=some .local:=by first | exact .inl rfl | exact .inr rfl | assumption) :
  PS X (.Assign [.Name x pos'] (.Call (.Name y pp) (e :: es) [] p2) pos) (yP (Ye i F pl)):=yH (k9 hN hi hx (zI4 c hr hg ha hdb he hpl) hs hf) λD σ H ⟨Z0,H0,Z,Γ,Dp,E,h,nx,rt,bk,ct⟩=>
 ⟨Z,Γ,_,E.e,h,λds vs H1 hd s1 hv=>⟨Z,ds,_,(E.e.same s1).zd,by rw [d5]; exact hv,hd,λes l xs H' hR s2 hl el hx=>by
  have s3:=s1.trans (zLV s2 hl el)
  obtain ⟨E2,s4⟩:=(E.mv s3).make (p:=l) (if_pos rfl) hx i
  rw [zNK el] at E2 s4
  exact nx _ _ _ _ E2 ((yZ s3).trans s4) hR⟩⟩
inductive vA (p:yc) (D0:yw) (σ:St) (H:Hp):Prop
 | mk (Z0:Addr->Prop) (H0:Hp) (Z:Addr->Prop) (Γ:List Sl) (Dp:WX) (E:yt Z0 H0 Z Γ σ H) (h:p Dp Γ)
  (rt:∀ es l xs H',Sm H0 H'->H0 l=none->H' l=some (.lst xs)->yK (zP Z0 (less l H')) xs es->Dp.rt (.lst es)->D0.rt (.ref l) H'):vA p D0 σ H
def Yg (p q:yc):yc:=λD Γ=>p { nx:=q D,rt:=λ_=>False } Γ
theorem zHH (h1:PS X st (yP p)) (h2:yk X sts (vA q)):yk X (st :: sts) (vA (Yg p q)):=ji (qc h1 h2) λD σ H ⟨Z0,H0,Z,Γ,Dp,E,h,rt⟩=>
 ⟨Z0,H0,Z,Γ,{ nx:=q Dp,rt:=λ_=>False },E,h,λZ' Γ' σ' H' E' s' h'=>⟨Z0,H0,Z',Γ',Dp,E',h',rt⟩,λ_ _ _ _ _ h=>h.elim,λ_ _ _ _ _ _ h=>h.elim,λ_ _ _ _ _ _ h=>h.elim⟩
theorem zMf (h:PS X st (vA q)):yk X [st] (vA q):=zKk h
end
theorem zM9 {N ps:List Str} {F:FL} {p:yc} (len:∀ ds R,F ds R->ds.length=ps.length) (h2:∀ ds R,F ds R->p { nx:=λ_=>False,rt:=R } (ds.map Sl.sh++cG (N.length - ps.length) .no)) {H:Hp} {vs:List V} {Q:VK} {E:XK} (h:jp F vs H Q E):vA p { nx:=λ_ H'=>Q .non H',rt:=Q } (L2.yC N vs) H:=by
 obtain ⟨Z,ds,R,zd,hv,h,q⟩:=h
 have e:L2.yC N vs=vs.map some++cG (N.length - ps.length) none:=by
  unfold L2.yC
  rw [xg hv,len ds R h]
 refine ⟨Z,H,Z,_,_,⟨?_,λ_ h=>h,zd,Sm.refl _,?_,?_⟩,h2 ds R h,λes l xs H' s n e hx hR=>q es l xs H' hR s n e hx⟩
 ·rw [e]
  exact Wa zd hv _
 ·exact λi as l e=>absurd e (YT (λi as h=>by rw [jk] at h; cases h) i as)
 ·exact λi o c ns as e=>absurd e (YS (λi o c ns as h=>by rw [jk] at h; cases h) i o c ns as)
variable {P:Program} {w:World} {K:b'} {mg:Str->Option Value} {base:Heap}
theorem okN {x qual:Str} {st:Stmt} {f:Addr} {fd:FuncData} {N ps:List Str} {k:Nat} {F:FL} (Fu:zf K x qual st f fd) (S:ze N ps (zR st)) (len:∀ ds R,F ds R->ds.length=ps.length)
  (hbody:∀ (cdv:Value) (A:Around) (outer:List Env) (s:Shared) (H:Hp) (E:XK),zU k (A.deeper (envOfC qual (zR st) s.heap.objs.size f cdv))->
   ∃ p,yk (zc zV P w K mg base N qual (zR st) f cdv A outer s H E).nox (xS st) (vA p)/\∀ ds R,F ds R->p { nx:=λ_=>False,rt:=R } (ds.map Sl.sh++cG (N.length - ps.length) .no)):zF P w K mg base zV (k + 1) f fd ps (jp F):=
 Fu.ok S (zOd len) λcdv A outer s H vs Q E hr h=>let ⟨p,h1,h2⟩:=hbody cdv A outer s H E hr; ⟨_,h1,zM9 len h2 h⟩
theorem Yh {F:FL} (vs:List V) (H:Hp) (Q:VK) (E:XK):zG F vs H Q E->jp F vs H Q E:=λ⟨Z,ds,R,zd,hv,h,q⟩=>⟨Z,ds,R,zd,hv,h,λes l xs H' hR s n e hx=>q _ _ H' hR s (.lst (vn (zd.new n) e) (xT (yZ (.of zJD)) hx))⟩
theorem zF.impN {CX:vg} {k:Nat} {f:Addr} {fd:FuncData} {ps:List Str} {sp sq:Sp} (i:∀ vs H Q E,sq vs H Q E->sp vs H Q E) (o:zF P w K mg base CX k f fd ps sp):zF P w K mg base CX k f fd ps sq:=
 ⟨λvs H Q E h=>o.1 vs H Q E (i vs H Q E h),λa b c d e f g h j k l m n z=>o.2 a b c d e f g h j k l m n (i _ _ _ _ z)⟩
theorem Jr {x:Str} {ps:List Str} {k:Nat} {F:FL} (c:Fn P w K mg base x ps k (jp F)):Fn P w K mg base x ps k (zG F):=by
 obtain ⟨f,fd,a,b⟩:=c.ex
 exact ⟨f,fd,zF.impN Yh a,b⟩
end Pu
namespace Pu
open PySem L2 Sh
variable [yY]
inductive gR (ds:List D) (T:D->(Bool->Prop)->Prop) (G:D->(D->Prop)->Prop) (R:D->Prop):Prop
 | mk (few:ds.length<=1000) (f:D->Bool) (F:D->D->Prop) (t:∀ d,d∈ds->T d λb=>b=f d) (h:∀ d,d∈ds->f d=true->G d (F d)) (q:∀ es,Paired F (ds.filter f) es->R (.lst es)):gR ds T G R
def zRA (caps:List Nat) (pi:yo) (po:D->Option (List D)) (pt:wA) (pe:zn):zn:=λΓ R=>pi Γ λds=>gR ds (λd S=>uT (po d) λos=>pt (os.map Sl.sh++caps.map λj=>un (slot Γ j)) S) (λd S=>uT (po d) λos=>pe (os.map Sl.sh++caps.map λj=>un (slot Γ j)) S) R
section
variable {X:Cx} {scope:Scope} {own:List Str} {caps:List (Nat × Str)} {tg iter elt cond:Expr} {pos:Pos} {pi:yo} {po:D->Option (List D)} {pt:wA} {pe:zn} {js:List Nat}
theorem zMk (B:vj X scope own caps) (hc:X.calm=true) (hj:js=fH 0 own.length) (hk:∀ d os,po d=some os->os.length=js.length) (hi:PI X tg iter (uv pi)) (hg:∀ C s₀ H₀ ex,PG (y4 X scope (zh own caps) C s₀ H₀ ex) tg (tG js po))
  (ht:∀ C s₀ H₀ ex,PT (y4 X scope (zh own caps) C s₀ H₀ ex) cond (xA pt)) (he:∀ C s₀ H₀ ex,PE (y4 X scope (zh own caps) C s₀ H₀ ex) elt (tP pe)) (hs:∀ x,foldedSetIterable iter X.env x=pure x:=by intro _; rfl):PE X (.ListComp elt [⟨tg,iter,[cond],0⟩] scope pos) (tP (zRA (caps.map (·.1)) pi po pt pe)):=
 yb (zI2 B hc hi hg (.inr ⟨_,rfl⟩) ht he hs) λσ H Q ⟨Z,Γ,R,E,h,q⟩=>⟨Z,Γ,_,E,h,λds J H1 ⟨fw,f,F,hT,hF,hR⟩ s1 wk=>Jc (E.same s1) (E.same s1) (λ_ z=>z) wk hj hk fw hT hF λes ys H' p h1 s2 h2 hp=>q _ _ _ (hR es h1) (s1.trans (s2.trans (x9 hp _))) (uq ((E.same s1).zd.same s2) hp h2)⟩
end
def zO3 (i:Nat) (ow:Bool) (caps:List Nat) (pi:yo) (po:D->Option (List D)) (pt:wA) (pe:zn):yc:=λT Γ=>pi Γ λds=>gR ds (λd S=>uT (po d) λos=>pt (os.map Sl.sh++caps.map λj=>un (slot Γ j)) S) (λd S=>uT (po d) λos=>pe (os.map Sl.sh++caps.map λj=>un (slot Γ j)) S) λd=>uE d λes=>T.nx (zz Γ i (match ow with | true=>.ow es | false=>.sh (.lst es)))
theorem zKg {X:Cx} {pos:Pos} (i:Nat) (ow:Bool) {scope:Scope} {own:List Str} {caps:List (Nat × Str)} {tg iter elt cond:Expr} {pi:yo} {po:D->Option (List D)} {pt:wA} {pe:zn} {js:List Nat} {y:Str} {py spos:Pos} (hN:X.N.Nodup) (hy:X.N[i]? = some y) (hl:X.env.scope.names.lookup y=some .local) (B:vj X scope own caps) (hc:X.calm=true) (hj:js=fH 0 own.length) (hk:∀ d os,po d=some os->os.length=js.length)
  (hi:PI X tg iter (uv pi)) (hg:∀ C s₀ H₀ ex,PG (y4 X scope (zh own caps) C s₀ H₀ ex) tg (tG js po)) (ht:∀ C s₀ H₀ ex,PT (y4 X scope (zh own caps) C s₀ H₀ ex) cond (xA pt)) (he:∀ C s₀ H₀ ex,PE (y4 X scope (zh own caps) C s₀ H₀ ex) elt (tP pe)) (hsw:swapsWith (.ListComp elt [⟨tg,iter,[cond],0⟩] scope pos) (some (.Name y py)) spos.line X.env=pure true) (hs:∀ x,foldedSetIterable iter X.env x=pure x:=by intro _; rfl) :
  PS X (.Assign [.Name y py] (.ListComp elt [⟨tg,iter,[cond],0⟩] scope pos) spos) (yP (zO3 i ow (caps.map (·.1)) pi po pt pe)):=yH (zI0 hN hy hl B hc hi hg (.inr ⟨_,rfl⟩) ht he hsw hs) λD σ H ⟨Z0,H0,Z,Γ,Dp,E,h,nx,rt,bk,ct⟩=>
 ⟨Z,Γ,_,E.e,h,λds J H1 ⟨fw,f,F,hT,hF,hR⟩ s1 wk=>Jc (E.e.same s1) (E.e.same s1) (λ_ z=>z) wk hj hk fw hT hF λes ys H' l h1 s2 h2 hp=>by
  have E1:=(E.mv s1).mv s2
  cases ow with
  | true=>
   obtain ⟨E2,s3⟩:=E1.make hp h2 i
   exact nx _ _ _ _ E2 ((yZ (s1.trans s2)).trans s3) (hR es h1)
  | false=>exact nx Z _ _ _ ((E1.mv (x9 hp _)).set (uq E1.e.zd hp h2) i) (yZ (s1.trans (s2.trans (x9 hp _)))) (hR es h1)⟩
theorem zK2 {α:Type} {ds es:List α} (p:Paired (λd e=>e=d) ds es):es=ds:=by
 induction p with
 | nil=>rfl
 | cons h _ ih=>rw [h,ih]
theorem gR.keep {ds:List D} {T:D->(Bool->Prop)->Prop} {G:D->(D->Prop)->Prop} {R:D->Prop} (f:D->Bool) (few:ds.length<=1000) (t:∀ d,d∈ds->T d λb=>b=f d) (h:∀ d,d∈ds->G d λe=>e=d) (q:R (.lst (ds.filter f))):gR ds T G R:=⟨few,f,λd e=>e=d,t,λd m _=>h d m,λes p=>by rw [zK2 p]; exact q⟩
end Pu
namespace L2
open PySem PySem.Spec PyProof.Rows
structure Zt (z TI TO i1 i2 i3:Addr) (f1 f2 f3:List Addr):Prop where
 zI:TI≠z
 zO:TO≠z
 z1:i1≠z
 z2:i2≠z
 z3:i3≠z
 IO:TI≠TO
 I1:TI≠i1
 I2:TI≠i2
 I3:TI≠i3
 O1:TO≠i1
 O2:TO≠i2
 O3:TO≠i3
 n1:z∉f1
 n2:z∉f2
 n3:z∉f3
 o1:TO∉f1
 o2:TO∉f2
 o3:TO∉f3
 e12:i1∉f2
 e13:i1∉f3
 e21:i2∉f1
 e23:i2∉f3
 e31:i3∉f1
 e32:i3∉f2
end L2
namespace Pu
open PySem L2 Sh
variable [yY]
def zRW:FL
 | [.lst ds],R=>∃ ns:List Int,ds=ns.map D.int/\0 < ns.length/\∀ M,M∈ns->(∀ a∈ns,a<=M)->R (.int M)
 | _,_=>False
theorem zJV {K:b'}:uR (λxs H Q=>∃ (p:Addr) (ns:List Int),xs=[.ref p]/\zl K H p (ns.map V.int)/\0 < ns.length/\∀ M,M∈ns->(∀ a∈ns,a<=M)->Q (.int M) H) zRW:=λZ H vs ds R Q zd hv h q=>by
 unfold zRW at h
 split at h
 ·obtain ⟨v,rfl,hw⟩:=xB hv
  obtain ⟨p,xs,rfl,e1,h1⟩:=hw.lst_inv
  obtain ⟨ns,rfl,l0,h⟩:=h
  cases Zn h1
  exact ⟨p,ns,rfl,zl.of (yE _ _ e1),l0,λM m1 m2=>q _ _ H (h M m1 m2) (Sm.refl _) (.int _)⟩
 ·exact h.elim
end Pu
namespace L2
open PySem PySem.Spec PyProof.Rows
def Js (P:Program) (w:World) (K:b') (mg:Str->Option Value) (base:Heap) (x y qual:Str) (scope:Scope) (q:Addr) (cd:Value) (clos:List (Str × Addr)) (A:Around) (outer:List Env) (s:Shared) (H:Hp):Cx where
 prog:=P
 w:=w
 K:=K
 mg:=mg
 base:=base
 A:=A.deeper (j_ qual scope s.heap.objs.size q cd clos)
 N:=[x,y]
 s₀:=s
 H₀:=H
 env:=j_ qual scope s.heap.objs.size q cd clos
 outer:=outer
 stack:=j_ qual scope s.heap.objs.size q cd clos :: outer
 ex:=[]
 fn:=λ_=>false
 calm:=true
 pn:=[]
 xe:=λ_ _=>False
theorem We {x y z:Str} {c cy:Addr} (h:[(y,cy)].lookup z=some c):z=y/\c=cy:=by
 rw [dk] at h
 split at h
 ·rename_i e
  exact ⟨eq_of_beq e,(Option.some.inj h).symm⟩
 ·cases h
theorem zPV {P:Program} {w:World} {K:b'} {mg:Str->Option Value} {base:Heap} {A:Around} {outer:List Env} {s:Shared} {H:Hp} {k:Nat} {x y name qual:Str} {params:Arguments} {body:Expr} {scope:Scope} {cy q c':Addr} {pm ctv u uy:Value}
  {v vy:V} {t:TE} {Q:VK} (hsc:scope.names=[(x,.local),(y,.free)]) (hxy:x≠y) (hk:scope.kind=.function) (hco:scope.isCoroutine=false) (hgen:scope.isGenerator=false) (hr:zU (k + 1) A) (e0:xo P w K mg base A outer s H)
  (hq:s.heap.get? q=some (fV name qual params body scope [(y,cy)] pm c' ctv)) (hcd:s.heap.CodeRec (.ref c') qual)
  (hbind:bindArgs (lF name qual params body scope [(y,cy)] pm (.ref c') ctv) ⟨[u],[]⟩=pure [(x,u)]) (hc:s.heap.IsCell cy (some uy)) (hn:H cy=none) (ru:zT v u) (ry:zT vy uy)
  (hb:PE (Js P w K mg base x y qual scope q (.ref c') [(y,cy)] A outer s H) body t) (ht:t [some v,some vy] H Q):wpAny (model P w) A (call (.ref q) [u]) (CE outer P w H s Q) (λ_ _=>False) s:=by
 have lx:scope.names.lookup x=some .local:=by rw [hsc,dk,beq_self_eq_true]
 have ly:scope.names.lookup y=some .free:=by
  rw [hsc,dk,(by simpa using hxy.symm:(y == x)=false),dk,beq_self_eq_true]
 refine wpAny_call (PySem.W.kla_callFunE hr.depth hq rfl hco hgen rfl hcd ?_)
 rw [hbind]
 refine wpAny_pure (wpAny_newFunctionEnv (λz hz=>?_) (λz hz=>?_) (λh1 hns hsb=>?_) hk)
 ·have hz':z∈scope.names:=hz
  rw [hsc] at hz'
  rcases da.mp hz' with rfl | hz'
  ·exact λe=>by cases e
  ·rw [df.mp hz']; exact λe=>by cases e
 ·rw [df.mp hz]
  exact lx
 have k1:∀ b o,s.heap.get? b=some o->h1.get? b=some o:=λb o e=>hsb.extBut b o (dA (cS e)) (cE _ e)
 refine ⟨(e0.mod.nolimit.keeps λb o e=>(e0.bs b o e).1).keeps k1,?_⟩
 show codeAny _ _ (.expr body (j_ qual scope s.heap.objs.size q (.ref c') [(y,cy)])) _ _
 refine PySem.W.kla_codeExpr ?_
 have noA:∀ b:Addr,b∉(Js P w K mg base x y qual scope q (.ref c') [(y,cy)] A outer s H).ex:=λb z=>absurd (show b∈([]:List Addr) from z) (by simp)
 have I:zE (Js P w K mg base x y qual scope q (.ref c') [(y,cy)] A outer s H) [] [some v,some vy] H { s with heap:=h1,toks:=s.toks + [(x,u)].length }:=by
  refine ⟨⟨e0.mod,hk,rfl,rfl,cF _,λa b c h1 h2=>?_,λa ha=>?_,λa c h _=>(by cases h),λ_=>hr.hd,Around.frames_deeper e0.frames,.inr ⟨rfl,rfl⟩,λb z=>absurd z (noA b),e0.bs,e0.bsz,λb _ _=>noA b,λb z=>absurd z (noA b),e0.funs,e0.frf⟩,
   rfl,e0.bare,Un.kept k1,⟨_,hns,λi a v' h1 h2 h3=>?_⟩,λa c h=>?_,e0.hok.fresh (cF _),λa c h=>?_,λp hp=>absurd (show p∈([]:List (Addr × Obj)) from hp) (by simp),e0.hok.kept k1,rfl⟩
  ·rw [(We (x:=x) h1).1,(We (x:=x) h2).1]
  ·have ha':scope.names.lookup a=some .cell\/scope.names.lookup a=some .free:=ha
   rw [hsc] at ha'
   have:a=y:=by
    rw [dk] at ha'
    split at ha'
    ·rcases ha' with z | z <;> cases z
    ·rw [dk] at ha'
     split at ha'
     ·rename_i e
      exact eq_of_beq e
     ·rcases ha' with z | z <;> cases z
   exact ⟨cy,by show [(y,cy)].lookup a=some cy; rw [this,dk,beq_self_eq_true]⟩
  ·match i,h1,h2 with
   | 0,h1,h2=>
    cases h1
    cases h2
    exact ⟨u,ru,.inl ⟨lx,by show fG x [(x,u)]=some u; rw [dk,beq_self_eq_true]⟩⟩
   | 1,h1,h2=>
    cases h1
    cases h2
    refine ⟨uy,ry,.inr ⟨.inr ly,cy,?_,?_⟩⟩
    ·show [(y,cy)].lookup y=some cy
     rw [dk,beq_self_eq_true]
    ·obtain ⟨o,ho,hd⟩:=hc
     exact ⟨o,k1 _ _ ho,hd⟩
   | i + 2,h1,h2=>cases h1
  ·obtain ⟨_,rfl⟩:=We (x:=x) h
   obtain ⟨o,ho,hd⟩:=hc
   exact ⟨_,o,k1 _ _ ho,hd⟩
  ·obtain ⟨_,rfl⟩:=We (x:=x) h
   exact hn
 exact wpAny_mono (hb [] _ _ H Q I ht) (λu' s' ⟨v',H',J,rv,q'⟩=>⟨v',H',J.os,J.bare,J.base,J.hok,rv,q'⟩) λ_ _ z=>z.elim
structure wd (base:Heap) (mg:Str->Option Value) (c P:Addr):Prop where
 hd:lG base c P
 bm:∃ bm o,mg "__builtins__" = some (.ref bm)/\bm≠builtinsNs/\bm≠mainGlobals/\base.get? bm=some o/\o.cls=.type "module"/\o.dict=some builtinsNs/\o.data=.plain
def kP (q:Str) (c':Addr):HO:=.ext λh=>h.CodeRec (.ref c') q
def yL (P:Addr) (q:Str) (pos:Pos) (H:Hp):Prop:=H P=some (.tbl #[])\/∃ c',H P=some (.tbl #[rawInt pos.line,rawInt pos.col,.ref c'])/\H c'=some (kP q c')
theorem yL.same {P:Addr} {q:Str} {pos:Pos} {H H':Hp} (h:yL P q pos H) (s:zN H H'):yL P q pos H':=by
 rcases h with h | ⟨c',h1,h2⟩
 ·exact .inl (s _ _ h)
 ·exact .inr ⟨c',s _ _ h1,s _ _ h2⟩
theorem zSA (pos:Pos) (c:Value):codeAmong pos [rawInt pos.line,rawInt pos.col,c]=some c:=by
 have z:=codeAmong_snoc (pos:=pos) (c:=c) [] trivial rfl
 exact z
theorem zNM {X:Cx} {pins:List (Addr × Obj)} {σ:St} {H:Hp} {s:Shared} {params:Arguments} {body:Expr} {scope:Scope} {lpos:Pos} {c P:Addr} {clos:List (Str × Addr)} {R:Value->Shared->Prop} {E:Value->Shared->Prop}
  (hcl:closureFor scope X.env=pure clos) (hdef:defaultsOf params X.env=([],[])) (hcode:X.env.code=.ref c) (T:wd X.base X.mg c P) (I:zE X pins σ H s) (hH:yL P (X.env.qual++"<lambda>") lpos H)
  (h:∀ (q c':Addr) (pm ctv:Value) (H':Hp) (s':Shared),Sh.uf [P] H H'->yL P (X.env.qual++"<lambda>") lpos H'->H' c'=some (kP (X.env.qual++"<lambda>") c')->
   zE X ((q,fV "<lambda>" (X.env.qual++"<lambda>") params body scope clos pm c' ctv) :: pins) σ H' s'->R (.ref q) s') :
  wpAny (model X.prog X.w) X.A (eval (.Lambda params body scope lpos) X.env) R E s:=by
 have hPn:H P≠none:=by
  rcases hH with z | ⟨_,z,_⟩ <;> rw [z] <;> exact λe=>by cases e
 have nP:∀ b o,X.base.get? b=some o->b≠P:=λb o e z=>hPn (by rw [<- z]; exact (I.bs b o e).2)
 obtain ⟨bm,ob,b1,b2,b3,b4,b5⟩:=T.bm
 have hgs:=I.mod.glob.keeps I.bk
 have gP:mainGlobals≠P:=by
  obtain ⟨o,_,_,e,_⟩:=I.mod.glob
  exact nP _ o e
 have hb:s.heap.BuiltinsAt X.mg P:=⟨bm,ob,b1,b2,b3,nP _ _ b4,I.bk _ _ b4,b5⟩
 have C:lG s.heap c P:=T.hd.keeps I.bk
 refine PySem.W.kla_eval hdef ?_
 have fin:∀ (H':Hp) (h':Heap) (tk:Nat) (c':Addr) (ctv:Value),Sh.uf [P] H H'->yL P (X.env.qual++"<lambda>") lpos H'->H' c'=some (kP (X.env.qual++"<lambda>") c')->
   zE X pins σ H' { s with heap:=h',toks:=tk }->R (.ref h'.objs.size) { s with heap:=h'.push (fV "<lambda>" (X.env.qual++"<lambda>") params body scope clos ((X.mg "__name__").getD .none) c' ctv),toks:=tk }:=λH' h' tk c' ctv z1 z2 z3 J=>by
  have J2:zE X pins σ H' { s with heap:=h'.push (fV "<lambda>" (X.env.qual++"<lambda>") params body scope clos ((X.mg "__name__").getD .none) c' ctv),toks:=tk }:=J.kept λb u e=>cE _ e
  refine h _ c' ((X.mg "__name__").getD .none) ctv H' _ z1 z2 z3 (J2.pins_of λp hp=>?_)
  rcases da.mp hp with rfl | hp
  ·have F:=J.fpOk (b:=h'.objs.size) (cF _) (J.hok.fresh (cF _))
   exact ⟨cW _ rfl,F.1,F.2.1,F.2.2.1,λv e=>by cases e⟩
  ·exact J2.pin p (cQ _ hp)
 rcases hH with hH | ⟨c',hH,hc'⟩
 ·have hP:s.heap.get? P=some (iK #[]):=I.hok P _ hH
  refine PySem.W.kla_makeFunction (mg:=X.mg) hcl I.ok.glob hgs hcode C hP trivial rfl gP hb λc' ctv h' tk hx hge hlt hrec htb=>?_
  have hcP:c'≠P:=λz=>absurd (cS hP) (by rw [<- z]; exact Nat.not_lt.mpr hge)
  have hcn:H c'=none:=I.hok.fresh hge
  have hT:∀ b u,b≠P->b≠c'->(za (za H P (.tbl #[rawInt lpos.line,rawInt lpos.col,.ref c'])) c' (kP (X.env.qual++"<lambda>") c') b=u ↔ H b=u):=λb u n1 n2=>by rw [zu n2,zu n1]
  have hTP:za (za H P (.tbl #[rawInt lpos.line,rawInt lpos.col,.ref c'])) c' (kP (X.env.qual++"<lambda>") c') P=some (.tbl #[rawInt lpos.line,rawInt lpos.col,.ref c']):=by rw [zu (Ne.symm hcP),xh]
  have ne1:∀ b,H b=none->b≠P:=λb e z=>hPn (by rw [<- z]; exact e)
  have ne2:∀ b o,s.heap.get? b=some o->b≠c':=λb o e=>dA (cU (cS e) hge)
  have ne3:∀ b u,H b=some u->b≠c':=λb u e z=>by rw [z,hcn] at e; cases e
  have ne4:∀ b u,H b=some u->u≠.tbl #[]->b≠P:=λb u e n z=>by rw [z,hH] at e; cases e; exact n rfl
  refine fin _ h' tk c' ctv ?_ (.inr ⟨c',hTP,xh⟩) xh (I.un (H':=za (za H P (.tbl #[rawInt lpos.line,rawInt lpos.col,.ref c'])) c' (kP (X.env.qual++"<lambda>") c')) ⟨λb o e n _ _=>hx b o (ne1 b n) e,λb o e n _ _=>⟨o.slots,hx b o (ne1 b n) e⟩,λb o e n _=>(hT b _ (ne1 b n) (ne2 b o e)).mpr n,λb o e _=>?_,λb xs e=>(hT b _ (ne4 b _ e (by intro z; cases z)) (ne3 b _ e)).mpr e,λb o u e=>(hT b _ (ne4 b _ e (by intro z; cases z)) (ne3 b _ e)).mpr e,λb ps e=>?_⟩ λb u e=>?_)
  ·intro b u e nb
   exact (hT b _ (λz=>nb (by rw [z]; exact df.mpr rfl)) (ne3 b _ e)).mpr e
  ·by_cases z:b=P
   ·exact ⟨_,by rw [z]; exact htb⟩
   ·exact ⟨o,hx b o z e⟩
  ·by_cases z:b=P
   ·rw [z,hH] at e
    cases e
    exact ⟨_,by rw [z,hTP,lY]⟩
   ·exact ⟨#[],by rw [(hT b _ z (ne3 b _ e)).mpr e,Array.append_empty]⟩
  ·by_cases z:b=c'
   ·rw [z,xh] at e
    cases e
    obtain ⟨c2,o,vs,t,e2,ho,hd⟩:=id hrec
    cases e2
    rw [z]
    exact ⟨hrec,⟨o,ho⟩,λh1 h2 ⟨c3,o3,vs3,t3,e3,ho3,hd3⟩ k=>by cases e3; exact ⟨_,o3,vs3,t3,rfl,k _ ho3,hd3⟩⟩
   ·by_cases z2:b=P
    ·rw [z2,hTP] at e
     cases e
     rw [z2]
     exact htb
    ·have e':=(hT b _ z2 z).mp e
     refine (I.hok b u e').stay (λa v ha q=>hx a v ?_ q) (λa q=>(hT a _ (ne4 a _ q (by intro z; cases z)) (ne3 a _ q)).mpr q) λa xs q=>(hT a _ (ne4 a _ q (by intro z; cases z)) (ne3 a _ q)).mpr q
     rcases ha with ha | ha
     ·rw [ha]; exact z2
     ·exact ne4 a _ ha (by intro z; cases z)
 ·have hP:s.heap.get? P=some (iK #[rawInt lpos.line,rawInt lpos.col,.ref c']):=I.hok P _ hH
  refine PySem.W.kla_makeFunctionHit (mg:=X.mg) hcl I.ok.glob hgs hcode C hP (by simp [TriplesOk,rawInt]) (zSA lpos _) hb λctv h' tk hk hsz=>?_
  exact fin H h' tk c' ctv (Sh.uf.refl _ _) (.inr ⟨c',hH,hc'⟩) hc' (I.kept hk)
abbrev Yi (X:Cx) (σ:St) (H:Hp) (q:Addr) (qo:Obj) (ns:List Int) (kf:Int->Int):Prop:=
 ∀ n∈ns,∀ (t:Tok) (pins:List (Addr × Obj)) (s:Shared),(q,qo)∈pins->zE X pins σ H s->
  wpAny (model X.prog X.w) X.A.in1 (call (.ref q) [.int n t]) (λu s'=>(∃ t',u=.int (kf n) t')/\zE X pins σ H s') (λ_ _=>False) s
section
variable {X:Cx} {σ:St} {H:Hp} {pins:List (Addr × Obj)} {q l It S:Addr} {qo:Obj} {ns:List Int} {kf:Int->Int} {R:Result->Shared->Prop}
theorem zHV {s:Shared} {oI oS:Obj} (I:zE X pins σ H s) (FI:yQ X pins H It) (FS:yQ X pins H S) (hI:s.heap.get? It=some oI) (dI:∀ v,oI.data≠.cell v) (hS:s.heap.get? S=some oS) (dS:∀ v,oS.data≠.cell v):zE X ((It,oI) :: (S,oS) :: pins) σ H s:=
 I.pins_of λp hp=>by
  rcases da.mp hp with rfl | hp
  ·exact ⟨hI,FI.1,FI.2.1,FI.2.2.1,dI⟩
  ·rcases da.mp hp with rfl | hp
   ·exact ⟨hS,FS.1,FS.2.1,FS.2.2.1,dS⟩
   ·exact I.pin p (cQ _ hp)
theorem zHW {s:Shared} {a b:Addr × Obj} (I:zE X (a :: b :: pins) σ H s):zE X pins σ H s:=I.pins_of λp hp=>I.pin p (cQ _ (.tail _ (.tail _ hp)))
theorem zLO (hc:X.calm=true) (hl:zl X.K H l (ns.map V.int)) (hlI:l≠It) (hSI:S≠It) (FI:yQ X pins H It) (FS:yQ X pins H S) (hq:(q,qo)∈pins) (yz:Yi X σ H q qo ns kf)
  (hR:∀ n∈ns,(∀ m∈ns,kf n<=kf m)->∀ t s',zE X pins σ H s'->R (.ok (.ret (.int n t))) s') :
  ∀ (r j:Nat) (n:Int) (tn tb:Tok) (c:Nat) (s:Shared),ns.length - j=r->j<=ns.length->n∈ns->(∀ i m,i < j->ns[i]? = some m->kf n<=kf m)->zE X pins σ H s->s.heap.IsListIter It l j->s.heap.get? S=some (seqObj "list" #[.int n tn,.int (kf n) tb] c)->
   codeAny (model X.prog X.w) X.A (.builtin "min.loop" ⟨[.ref It,.ref q,.ref S],[(dD "default",.none)]⟩) R s:=by
 have hname:(toString "min"++toString ".loop" : String) = "min.loop":=by decide
 intro r
 induction r with
 | zero=>
  intro j n tn tb c s hr hj hn hbest I hit hS
  obtain ⟨its,rv,pl,hz⟩:=I.list hl
  have hsz:its.toArray.size=ns.length:=by rw [cM,<- rv.length,a_]
  have W:=Walks.list (prog:=X.prog) (w:=X.w) (A:=X.A.in1) (I.ok.hd hc) It l hlI its.toArray
  refine codeAny_builtin f8 ?_
  rw [Around.under_plainId dU _]
  show wpAny _ X.A.in1 (seqItems? (.ref S) >>= _) _ _ _
  refine wpAny_bind (wpAny_seqItems hS rfl ?_)
  show wpAny _ X.A.in1 (tryCatch (pyNext (.ref It)) _ >>= _) _ _ _
  refine wpAny_bind (wpAny_tryCatch (W.done _ _ _ ⟨by rw [hsz,show ns.length=j by omega]; exact hit,pl.isList⟩ λh' tk' hk'=>?_))
  have I1:zE X pins σ H { s with heap:=h',toks:=tk' }:=I.turned (it:=It) (λb o hb e=>hk' b o (by simpa using hb) e) FI.1 FI.2.1 FI.2.2.2.1 FI.2.2.2.2.1 FI.2.2.2.2.2
  have hS':h'.get? S=_:=hk' S _ (by simpa using hSI) hS
  have s1:=Heap.SameBut.update h' S (Obj.mapSeq λ_=>(#[]:Array Value))
  show wpAny _ X.A.in1 (updateSeq S (λ_=>#[]) >>= _) _ _ _
  refine wpAny_bind ?_
  refine wpAny_updateSeq hS' rfl (wpAny_bind (wpAny_letGo (wpAny_pure ?_)))
  exact hR n hn (λm hm=>by
   obtain ⟨i,hi,e⟩:=ef hm
   exact hbest i m (by omega) (by rw [<- e]; exact b_ hi)) tn _ (I1.turned (it:=S) (λb o hb e=>(s1.2 b hb).trans e) FS.1 FS.2.1 FS.2.2.2.1 FS.2.2.2.2.1 FS.2.2.2.2.2)
 | succ r ih=>
  intro j n tn tb c s hr hj hn hbest I hit hS
  obtain ⟨its,rv,pl,hz⟩:=I.list hl
  have hsz:its.toArray.size=ns.length:=by rw [cM,<- rv.length,a_]
  have hlt:j < ns.length:=by omega
  have W:=Walks.list (prog:=X.prog) (w:=X.w) (A:=X.A.in1) (I.ok.hd hc) It l hlI its.toArray
  refine codeAny_builtin f8 ?_
  rw [Around.under_plainId dU _]
  show wpAny _ X.A.in1 (seqItems? (.ref S) >>= _) _ _ _
  refine wpAny_bind (wpAny_seqItems hS rfl ?_)
  show wpAny _ X.A.in1 (tryCatch (pyNext (.ref It)) _ >>= _) _ _ _
  refine wpAny_bind (wpAny_tryCatch (W.item j _ _ _ (by rw [hsz]; exact hlt) ⟨hit,pl.isList⟩ λv h' tk' hP hst' hk'=>?_))
  have em:ns[j]? = some (ns[j]'hlt):=b_ hlt
  generalize ns[j]'hlt=m at em
  obtain ⟨w',ew,t,rfl⟩:=rv.get (show (ns.map V.int)[j]? = some (.int m) by rw [db,em]; rfl)
  obtain rfl:v=.int m t:=by
   have:its[j]? = some v:=by simpa using hP
   rw [ew] at this
   exact (Option.some.inj this).symm
  have hm:m∈ns:=dm em
  have I1:zE X pins σ H { s with heap:=h',toks:=tk' }:=I.turned (it:=It) (λb o hb e=>hk' b o (by simpa using hb) e) FI.1 FI.2.1 FI.2.2.2.1 FI.2.2.2.2.1 FI.2.2.2.2.2
  obtain ⟨oI',hoI',hoc,hod⟩:=id hst'.1
  have J:=zHV I1 FI FS hoI' (λv e=>by rw [hod] at e; cases e) (hk' S _ (by simpa using hSI) hS) (λv e=>by cases e)
  show wpAny _ X.A.in1 (tryCatch (holding [.int m t] (call (.ref q) [.int m t])) _ >>= _) _ _ _
  refine wpAny_bind (wpAny_tryCatch (wpAny_holding (wpAny_mono (yz m hm t _ _ (.tail _ (.tail _ hq)) J) (λx s2 he=>?_) λ_ _ hF=>hF.elim)))
  obtain ⟨⟨t2,rfl⟩,J2⟩:=he
  have nI2:=(J2.pin _ (cQ _ (.head _))).1
  have nS2:=(J2.pin _ (cQ _ (.tail _ (.head _)))).1
  have J3:=zHW J2
  have hit2:s2.heap.IsListIter It l (j + 1):=⟨oI',nI2,hoc,hod⟩
  show wpAny _ X.A.in1 (tryCatch (holding [.int m t,.int (kf m) t2] (richCompare .Lt (.int (kf m) t2) (.int (kf n) tb) >>= _)) _ >>= _) _ _ _
  refine wpAny_bind (wpAny_tryCatch (wpAny_holding (wpAny_bind (CmpOf.ints_lt (prog:=X.prog) (w:=X.w) (A:=X.A.in1) (P:=λi v=>∃ t,v=.int (if i=0 then kf m else kf n) t) (λi=>if i=0 then kf m else kf n) (λi v h=>h) 0 1 _ _ _ _ _ ⟨t2,rfl⟩ ⟨tb,rfl⟩ ?_))))
  refine wpAny_bind (wpAny_holding (wpAny_truthy_bool ?_))
  refine wpAny_bind (wpAny_letGo (wpAny_pure ?_))
  show wpAny _ X.A.in1 (if decide (kf m < kf n)=true then _ else _) _ _ _
  by_cases hb':kf m < kf n
  ·have s1:=Heap.SameBut.update s2.heap S (Obj.mapSeq λ_=>#[Value.int m t,.int (kf m) t2])
   obtain ⟨c2,hc2⟩:∃ c2,(s2.heap.update S (Obj.mapSeq λ_=>#[Value.int m t,.int (kf m) t2])).get? S=some (seqObj "list" #[.int m t,.int (kf m) t2] c2):=⟨_,get?_update_seq nS2 λ_=>#[Value.int m t,.int (kf m) t2]⟩
   rw [if_pos (decide_eq_true hb')]
   refine wpAny_bind ?_
   refine wpAny_updateSeq nS2 rfl (wpAny_bind (wpAny_letGo ?_))
   rw [hname]
   refine wpAny_pure ⟨plainId_quiet dU _,ih (j + 1) m t t2 c2 _ (by omega) hlt hm (λi m' hi em'=>?_) (J3.turned (it:=S) (λb o hb e=>(s1.2 b hb).trans e) FS.1 FS.2.1 FS.2.2.2.1 FS.2.2.2.2.1 FS.2.2.2.2.2) ⟨oI',(s1.2 It hSI.symm).trans nI2,hoc,hod⟩ hc2⟩
   by_cases e:i=j
   ·rw [e,em] at em'
    cases em'
    exact mV _
   ·have:=hbest i m' (by omega) em'
    omega
  ·rw [if_neg (by rw [decide_eq_false hb']; exact dh)]
   refine wpAny_bind (wpAny_letGo ?_)
   rw [hname]
   refine wpAny_pure ⟨plainId_quiet dU _,ih (j + 1) n tn tb c _ (by omega) hlt hn (λi m' hi em'=>?_) J3 hit2 nS2⟩
   by_cases e:i=j
   ·rw [e,em] at em'
    cases em'
    omega
   ·exact hbest i m' (by omega) em'
theorem zNE (a v d:Value):argsOk "min" ⟨[a],[(dD "key",v),(dD "default",d)]⟩:=by unfold argsOk; kernel_rfl
theorem zPQ {s:Shared} {Q:Value->Shared->Prop} {E:Value->Shared->Prop} (hc:X.calm=true) (I:zE X pins σ H s) (hl:zl X.K H l (ns.map V.int)) (hq:(q,qo)∈pins) (yz:Yi X σ H q qo ns kf)
  (h0:ns=[]->∀ s',zE X pins σ H s'->Q .none s') (h1:∀ n∈ns,(∀ m∈ns,kf n<=kf m)->∀ t s',zE X pins σ H s'->Q (.int n t) s') :
  wpAny (model X.prog X.w) X.A (call (.builtin "min") [.ref l] [(dD "key",.ref q),(dD "default",.none)]) Q E s:=by
 have hname:(toString "min"++toString ".loop" : String) = "min.loop":=by decide
 obtain ⟨its,rv,pl,hz⟩:=I.list hl
 have hls:=pl.isList
 obtain ⟨ol,hol,_⟩:=id hls
 have hll:l < s.heap.objs.size:=cS hol
 refine PyProof.Rows.kmk_tree PySem.F.kind_min PySem.F.plain_min PySem.F.entry_min (zNE _ _ _) ?_
 show wpAny _ X.A.in1 (Builtin.Builtins.bindParams "min" ["key","default"] 0 ⟨[],[(dD "key",.ref q),(dD "default",.none)]⟩ >>= _) _ _ s
 refine wpAny_bind (wpAny_of_eq (show Builtin.Builtins.bindParams "min" ["key","default"] 0 ⟨[],[(dD "key",.ref q),(dD "default",.none)]⟩=pure [some (.ref q),some .none] from rfl) ?_)
 refine wpAny_bind (wpAny_pure ?_)
 refine wpAny_bind (wpAny_pyIter_list hls ?_)
 refine wpAny_bind (wpAny_newList ?_ (ik _))
 rw [hname]
 have I1:zE X pins σ H { s with heap:=s.heap.push { cls:=.type "list_iterator",data:=.fields #[.ref l,.int 0 0] } }:=I.kept (t':=s.toks) λb u e=>cE _ e
 have FI:yQ X pins H s.heap.objs.size:=I.fpOk (cF _) (I.hok.fresh (cF _))
 have FS:yQ X pins H (s.heap.push { cls:=.type "list_iterator",data:=.fields #[.ref l,.int 0 0] }).objs.size:=I1.fpOk (cF _) (I1.hok.fresh (cF _))
 have I2:zE X pins σ H { s with heap:=(s.heap.push { cls:=.type "list_iterator",data:=.fields #[.ref l,.int 0 0] }).push (seqObj "list" #[] 0) }:=I1.kept (t':=s.toks) λb u e=>cE _ e
 have gI:((s.heap.push { cls:=.type "list_iterator",data:=.fields #[.ref l,.int 0 0] }).push (seqObj "list" #[] 0)).get? s.heap.objs.size=some { cls:=.type "list_iterator",data:=.fields #[.ref l,.int 0 0] }:=
  cE _ (cW _ rfl)
 have gS:((s.heap.push { cls:=.type "list_iterator",data:=.fields #[.ref l,.int 0 0] }).push (seqObj "list" #[] 0)).get? (s.heap.push { cls:=.type "list_iterator",data:=.fields #[.ref l,.int 0 0] }).objs.size=some (seqObj "list" #[] 0):=cW _ rfl
 have hS:(s.heap.push { cls:=.type "list_iterator",data:=.fields #[.ref l,.int 0 0] }).objs.size=s.heap.objs.size + 1:=size_push' ..
 have hlI:l≠s.heap.objs.size:=dA hll
 have hSI:(s.heap.push { cls:=.type "list_iterator",data:=.fields #[.ref l,.int 0 0] }).objs.size≠s.heap.objs.size:=by rw [hS]; exact fJ (dC _)
 refine wpAny_pure ⟨plainId_quiet dU _,?_⟩
 generalize (s.heap.push { cls:=.type "list_iterator",data:=.fields #[.ref l,.int 0 0] }).objs.size=S at FS gS hS hSI |-
 generalize s.heap.objs.size=It at FI gI hlI hSI |-
 have hit:((s.heap.push { cls:=.type "list_iterator",data:=.fields #[.ref l,.int 0 0] }).push (seqObj "list" #[] 0)).IsListIter It l 0:=⟨_,gI,rfl,rfl⟩
 generalize (s.heap.push { cls:=.type "list_iterator",data:=.fields #[.ref l,.int 0 0] }).push (seqObj "list" #[] 0)=g at I2 gI gS hit |-
 obtain ⟨its,rv,pl,hz⟩:=I2.list hl
 have hsz:its.toArray.size=ns.length:=by rw [cM,<- rv.length,a_]
 have W:=Walks.list (prog:=X.prog) (w:=X.w) (A:=X.A.in1) (I.ok.hd hc) It l hlI its.toArray
 refine codeAny_builtin f8 ?_
 rw [Around.under_plainId dU _]
 show wpAny _ X.A.in1 (seqItems? (.ref _) >>= _) _ _ _
 refine wpAny_bind (wpAny_seqItems gS rfl ?_)
 show wpAny _ X.A.in1 (tryCatch (pyNext (.ref It)) _ >>= _) _ _ _
 by_cases hne:0 < ns.length
 ·refine wpAny_bind (wpAny_tryCatch (W.item 0 _ _ _ (by rw [hsz]; exact hne) ⟨hit,pl.isList⟩ λv h' tk' hP hst' hk'=>?_))
  have em:ns[0]? = some (ns[0]'hne):=b_ hne
  generalize ns[0]'hne=m at em
  obtain ⟨w',ew,t,rfl⟩:=rv.get (show (ns.map V.int)[0]? = some (.int m) by rw [db,em]; rfl)
  obtain rfl:v=.int m t:=by
   have:its[0]? = some v:=by simpa using hP
   rw [ew] at this
   exact (Option.some.inj this).symm
  have hm:m∈ns:=dm em
  have I3:zE X pins σ H { s with heap:=h',toks:=tk' }:=zE.turned (s:={ s with heap:=g }) (h':=h') (t':=tk') I2 (it:=It) (λb o hb e=>hk' b o (by simpa using hb) e) FI.1 FI.2.1 FI.2.2.2.1 FI.2.2.2.2.1 FI.2.2.2.2.2
  obtain ⟨oI',hoI',hoc,hod⟩:=id hst'.1
  have J:=zHV I3 FI FS hoI' (λv e=>by rw [hod] at e; cases e) (hk' S _ (by simpa using hSI) gS) (λv e=>by cases e)
  show wpAny _ X.A.in1 (tryCatch (holding [.int m t] (call (.ref q) [.int m t])) _ >>= _) _ _ _
  refine wpAny_bind (wpAny_tryCatch (wpAny_holding (wpAny_mono (yz m hm t _ _ (.tail _ (.tail _ hq)) J) (λx s2 he=>?_) λ_ _ hF=>hF.elim)))
  obtain ⟨⟨t2,rfl⟩,J2⟩:=he
  have nI2:=(J2.pin _ (cQ _ (.head _))).1
  have nS2:=(J2.pin _ (cQ _ (.tail _ (.head _)))).1
  have J3:=zHW J2
  have s1:=Heap.SameBut.update s2.heap S (Obj.mapSeq λ_=>#[Value.int m t,.int (kf m) t2])
  obtain ⟨c2,hc2⟩:∃ c2,(s2.heap.update S (Obj.mapSeq λ_=>#[Value.int m t,.int (kf m) t2])).get? S=some (seqObj "list" #[.int m t,.int (kf m) t2] c2):=⟨_,get?_update_seq nS2 λ_=>#[Value.int m t,.int (kf m) t2]⟩
  show wpAny _ X.A.in1 (updateSeq S (λ_=>#[.int m t,.int (kf m) t2]) >>= _) _ _ _
  refine wpAny_bind ?_
  refine wpAny_updateSeq nS2 rfl ?_
  rw [hname]
  refine wpAny_pure ⟨plainId_quiet dU _,zLO hc hl hlI hSI FI FS hq yz h1 _ 1 m t t2 c2 _ rfl hne hm (λi m' hi em'=>?_) (J3.turned (it:=S) (λb o hb e=>(s1.2 b hb).trans e) FS.1 FS.2.1 FS.2.2.2.1 FS.2.2.2.2.1 FS.2.2.2.2.2) ⟨oI',(s1.2 It hSI.symm).trans nI2,hoc,hod⟩ hc2⟩
  rw [show i=0 by omega,em] at em'
  cases em'
  exact mV _
 ·have hn0:ns=[]:=List.length_eq_zero_iff.mp (by omega)
  refine wpAny_bind (wpAny_tryCatch (W.done _ _ _ ⟨by rw [hsz,show ns.length=0 by omega]; exact hit,pl.isList⟩ λh' tk' hk'=>?_))
  refine wpAny_bind (wpAny_rule (wpAny_pure ?_))
  exact h0 hn0 _ (I2.turned (it:=It) (λb o hb e=>hk' b o (by simpa using hb) e) FI.1 FI.2.1 FI.2.2.2.1 FI.2.2.2.2.1 FI.2.2.2.2.2)
end
theorem yL.ne {P:Addr} {q:Str} {pos:Pos} {H H':Hp} (h:yL P q pos H) (s:Sh.uf [P] H H') {a:Addr} {o:HO} (e:H a=some o) (n:∀ ps,o≠.tbl ps):H' a=some o:=s a o e λz=>by
 rw [df.mp z] at e
 rcases h with h | ⟨_,h,_⟩ <;> rw [h] at e <;> cases e <;> exact n _ rfl
theorem yL.list {P:Addr} {q:Str} {pos:Pos} {H H':Hp} {K:b'} {a:Addr} {xs:List V} (h:yL P q pos H) (s:Sh.uf [P] H H') (e:zl K H a xs):zl K H' a xs:=by
 rcases e with (e | ⟨o,e⟩) | e
 ·exact .inl (.inl (h.ne s e λ_ z=>by cases z))
 ·exact .inl (.inr ⟨o,h.ne s e λ_ z=>by cases z⟩)
 ·exact .inr e
def Jt (K:b') (P:Addr) (qual:Str) (pos:Pos) (te:TE) (iy:Nat):TE:=λσ H Q=>te σ H λx H1=>∃ (l ca:Addr) (ns cs:List Int),x=.ref l/\σ[iy]? = some (some (.ref ca))/\zl K H1 l (ns.map V.int)/\zl K H1 ca (cs.map V.int)/\(∀ n∈ns,0<=n/\n < cs.length)/\yL P qual pos H1∧
 ∀ H2,Sh.uf [P] H1 H2->yL P qual pos H2->(ns=[]->Q .non H2)/\∀ n∈ns,(∀ m∈ns,cs.getD n.toNat 0<=cs.getD m.toNat 0)->Q (.int n) H2
theorem zKu {X:Cx} {e:Expr} {te:TE} {p pos kp kp2 lpos yp xp bp dp:Pos} {zk} {x y:Str} {params:Arguments} {scope:Scope} {cy c P:Addr} {iy:Nat} (T:wd X.base X.mg c P) (he:PE X e te) (hc:X.calm=true) (hr:zU 2 X.A) (hg:Gl X "min") (hm:X.mg "min" = none) (hv:bootBuiltins "min" = some (.builtin "min"))
  (hcode:X.env.code=.ref c) (hN:X.N[iy]? = some y) (hky:X.env.kindOf y=some .cell) (hcl:closureFor scope X.env=pure [(y,cy)]) (hcy:X.env.cells.lookup y=some cy) (hdef:defaultsOf params X.env=([],[]))
  (hsc:scope.names=[(x,.local),(y,.free)]) (hxy:x≠y) (hk:scope.kind=.function) (hco:scope.isCoroutine=false) (hgen:scope.isGenerator=false)
  (hbind:∀ (pm ctv u:Value) (c':Addr),bindArgs (lF "<lambda>" (X.env.qual++"<lambda>") params (.Subscript (.Name y yp) (.Name x xp) bp) scope [(y,cy)] pm (.ref c') ctv) ⟨[u],[]⟩=pure [(x,u)])
  (hdx:(x == ("__debug__" : Str))=false) (hdx2:(x == ("__classdict__" : Str))=false) (hdy:(y == ("__debug__" : Str))=false) (hdy2:(y == ("__classdict__" : Str))=false)
  (hs:starEach [e] X.env=(false,eval e X.env) :: starEach [] X.env:=by rfl) :
  PE X (.Call (.Name "min" p) [e] [⟨some "key",.Lambda params (.Subscript (.Name y yp) (.Name x xp) bp) scope lpos,kp⟩,⟨some "default",.Constant .none zk dp,kp2⟩] pos) (Jt X.K P (X.env.qual++"<lambda>") lpos te iy):=by
 intro pins s σ H Q I h
 have lx:scope.names.lookup x=some .local:=by rw [hsc,dk,beq_self_eq_true]
 have ly:scope.names.lookup y=some .free:=by
  rw [hsc,dk,(by simpa using hxy.symm:(y == x)=false),dk,beq_self_eq_true]
 refine wpAny_Call_Name_kw (j5 I hg hm hv ?_ (by decide) (by decide))
 refine PyProof.Rows.callWith_kw (zj ((yF he yu hs) pos pins s σ H (λvs H1=>∃ (l ca:Addr) (ns cs:List Int),vs=[.ref l]/\σ[iy]? = some (some (.ref ca))/\zl X.K H1 l (ns.map V.int)/\zl X.K H1 ca (cs.map V.int)/\(∀ n∈ns,0<=n/\n < cs.length)/\yL P (X.env.qual++"<lambda>") lpos H1∧
  ∀ H2,Sh.uf [P] H1 H2->yL P (X.env.qual++"<lambda>") lpos H2->(ns=[]->Q .non H2)/\∀ n∈ns,(∀ m∈ns,cs.getD n.toNat 0<=cs.getD m.toNat 0)->Q (.int n) H2) I ?h) λus s1 ⟨vs,H1,I1,r,l,ca,ns,cs,e1,hσ,hl,hca,hb,hT,q⟩=>?_) (by rw [hs]; rfl) (by rw [hs]; rfl)
 case h=>
  have z:Jt X.K P (X.env.qual++"<lambda>") lpos te iy σ H Q=te σ H λx H1=>∃ (l ca:Addr) (ns cs:List Int),[x]=[.ref l]/\σ[iy]? = some (some (.ref ca))/\zl X.K H1 l (ns.map V.int)/\zl X.K H1 ca (cs.map V.int)/\(∀ n∈ns,0<=n/\n < cs.length)/\yL P (X.env.qual++"<lambda>") lpos H1∧
    ∀ H2,Sh.uf [P] H1 H2->yL P (X.env.qual++"<lambda>") lpos H2->(ns=[]->Q .non H2)/\∀ n∈ns,(∀ m∈ns,cs.getD n.toNat 0<=cs.getD m.toNat 0)->Q (.int n) H2:=by
   unfold Jt
   simp only [List.cons.injEq,and_true]
  exact cast z h
 subst e1
 obtain ⟨u,rfl,ru⟩:=uL r
 obtain rfl:u=.ref l:=ru
 refine PyProof.Rows.kws_cons (zNM hcl hdef hcode T I1 hT λf c' pm ctv H' s' o1 hT' hc' J=>?_)
 refine PyProof.Rows.kws_cons (zj (zN3 _ _ _ _ (λv H2=>v=.non/\H2=H') J ⟨rfl,rfl⟩) λu s2 ⟨v,H2,J2,rv,ev,eH⟩=>PyProof.Rows.kws_nil ?_)
 subst ev eH
 obtain rfl:u=.none:=rv
 have hl':=hT.list o1 hl
 have hca':=hT.list o1 hca
 obtain ⟨q0,q1⟩:=q _ o1 hT'
 have drop:∀ s',zE X ((f,fV "<lambda>" (X.env.qual++"<lambda>") params (.Subscript (.Name y yp) (.Name x xp) bp) scope [(y,cy)] pm c' ctv) :: pins) σ H2 s'->zE X pins σ H2 s':=λs' J=>J.pins_of λp hp=>J.pin p (cQ _ (.tail _ hp))
 refine zPQ (kf:=λn=>cs.getD n.toNat 0) hc J2 hl' (.head _) (λn hn t pins' s3 hq3 J3=>?_) (λz s3 J3=>⟨.non,H2,drop _ J3,rfl,q0 z⟩) λn hn hmin t s3 J3=>⟨.int n,H2,drop _ J3,⟨_,rfl⟩,q1 n hn hmin⟩
 obtain ⟨m,hns,hlo⟩:=J3.loc
 obtain ⟨uy,ry,lk⟩:=hlo iy y (.ref ca) hN hσ (.inr (.inl hky))
 have hcell:s3.heap.IsCell cy (some uy):=by
  rcases lk with ⟨k,_⟩ | ⟨_,c2,e2,z⟩
  ·rw [hky] at k; cases k
  ·rw [hcy] at e2; cases e2; exact z
 have hcd:s3.heap.CodeRec (.ref c') (X.env.qual++"<lambda>"):=(J3.hok c' _ hc').1
 have bn:=hb n hn
 refine wpAny_mono (zPV (k:=0) (v:=.int n) (vy:=.ref ca) (t:=qf (ZP X.K) (jQ 1) (jQ 0)) (Q:=λv H3=>v=.int (cs.getD n.toNat 0)/\H3=H2) hsc hxy hk hco hgen hr.in1 J3.env0.in1 (J3.pin _ (cQ _ hq3)).1 hcd (hbind pm ctv _ c') hcell (J3.freeC y cy hcy) ⟨t,rfl⟩ ry
  (Ue Ug (pv 1 rfl (.inr (.inr ly)) hdy hdy2) (pv 0 rfl (.inl lx) hdx hdx2) λ_ _=>rfl) ?_) (λu s4 hce=>?_) λ_ _ z=>z
 ·refine ⟨_,rfl,_,rfl,ca,_,n,_,rfl,rfl,hca',?_,rfl,rfl⟩
  rw [show n=((n.toNat:Nat):Int) by omega]
  refine zP0 ?_
  rw [db,f_,cz,b_ (by omega)]
  rfl
 ·obtain ⟨v,H4,J4,rv4,ev,eH⟩:=J3.after hce
  subst ev eH
  obtain ⟨t',rfl⟩:=rv4
  exact ⟨⟨t',rfl⟩,J4⟩
end L2
namespace L2
open PySem PySem.Spec PyProof.Rows
section
variable {P:Program} {w:World} {K:b'} {mg:Str->Option Value} {base:Heap}
theorem zf.okC {x qual:Str} {st:Stmt} {f c:Addr} {fd:FuncData} {N ps:List Str} {k:Nat} {sp:Sp} (F:zf K x qual st f fd) (hc:fd.code=.ref c) (S:ze N ps (zR st)) (len:∀ vs H Q E,sp vs H Q E->vs.length=ps.length)
  (hbody:∀ (A:Around) (outer:List Env) (s:Shared) (H:Hp) (vs:List V) (Q:VK) (E:XK),zU k (A.deeper (envOfC qual (zR st) s.heap.objs.size f (.ref c)))->sp vs H Q E->
   ∃ t,yk (zc zV P w K mg base N qual (zR st) f (.ref c) A outer s H E).nox (xS st) t/\t { nx:=λ_ H'=>Q .non H',rt:=Q } (yC N vs) H):zF P w K mg base zV (k + 1) f fd ps sp:=by
 obtain ⟨oc,od,kV,doc,pm,an,cdv,ct,osl,rfl,lk,hcd⟩:=F.ex
 obtain rfl:cdv=.ref c:=hc
 refine X0 lk hcd S len λA outer s H vs Q E hr hsp=>?_
 obtain ⟨t,h,q⟩:=hbody A outer s H vs Q E hr hsp
 exact ⟨t,h.nox,q⟩
def Ju (Pt:Addr) (H:Hp):Prop:=H Pt=some (.tbl #[])/\∀ b,b≠Pt->H b=none\/∃ o xs,H b=some (.frz o (.lst xs))
theorem zLW {mb:Str->Option Value} {CX:vg} {k:Nat} {fa a c Pt:Addr} {fd:FuncData} {x:Str} {sp:Sp} {s₁:Shared} {vs:List Value} {ns:List Int}
  (C:lG s₁.heap c Pt) (hP:s₁.heap.get? Pt=some (iK #[])) (hKP:K.lookup Pt=none)
  (bm:∃ bm ob,mg "__builtins__" = some (.ref bm)/\bm≠builtinsNs/\s₁.heap.get? bm=some ob/\ob.cls=.type "module"/\ob.dict=some builtinsNs/\ob.data=.plain)
  (KX:K.In s₁.heap) (hns:s₁.heap.Ns mainGlobals mg) (hb:s₁.heap.Ns builtinsNs mb) (hbb:∀ x:Str,x≠"__name__"->mb x=bootBuiltins x) (hlim:s₁.heap.NoLimit) (hg:s₁.gens=#[])
  (ha:s₁.heap.get? a=some { cls:=.type "list",data:=.seq vs.toArray }) (hi:IntsAre vs ns) (hl:ns.length<=sizeLine) (hr:zU k callerA)
  (F:∀ base:Heap,K.In base->base.Ns mainGlobals mg->wd base mg c Pt->zF P w K mg base CX k fa fd [x] sp) (hbind:∀ (s:Shared) (u:Value),BindsTo s fd ⟨[u],[]⟩ [(x,u)])
  (hsp:∀ H:Hp,Ju Pt H->zl K H a (ns.map V.int)->sp [.ref a] H (λv _=>v=.bl true) λ_ _ _=>False)
  (hCX:∀ H e s',CX [] H s₁ (λ_ _ _=>False) e s'->False) :
  codeAny (model P w) callerA (.call (.ref fa) ⟨[.ref a],[]⟩) (λr s'=>r=.ok (.ret (.bool true))/\OldK s₁.heap s'.heap/\s'.os=s₁.os/\AllBare s'.gens) s₁:=by
 have rv:=zG8 hi
 have lenV:=hi.length
 have aP:a≠Pt:=λz=>by rw [z,hP] at ha; cases ha
 have core:∀ H:Hp,Ju Pt H->zl K H a (ns.map V.int)->xG P w H s₁.heap->(∀ b,b≠Pt->H b≠none->b=a)->(H a≠none->K.lookup a=none)->
   codeAny (model P w) callerA (.call (.ref fa) ⟨[.ref a],[]⟩) (λr s'=>r=.ok (.ret (.bool true))/\OldK s₁.heap s'.heap/\s'.os=s₁.os/\AllBare s'.gens) s₁:=by
  intro H hO hS hok hA hK
  have bo:∀ {b:Addr} {o:Obj},s₁.heap.get? b=some o->H b=none->(wE s₁.heap H).get? b=some o:=λe n=>zNS e n
  have noA:∀ {b:Addr} {o:Obj},s₁.heap.get? b=some o->(∀ z n,o.data≠.seq z n)->(∀ z,o.data≠.fields z)->H b=none:=λ{b o} e d1 d2=>by
   by_cases z:b=Pt
   ·rw [z,hP] at e; cases e; exact absurd rfl (d2 _)
   cases q:H b with
   | none=>rfl
   | some u=>
    have e':b=a:=hA b z (by rw [q]; exact λz=>by cases z)
    rw [e',ha] at e
    cases e
    exact absurd rfl (d1 _ _)
  have nsK:∀ {b:Addr} {m:Str->Option Value},s₁.heap.Ns b m->(wE s₁.heap H).Ns b m:=λ{b m} ⟨o,es,ep,e,d,r⟩=>⟨o,es,ep,bo e (noA e (λz n q=>by rw [d] at q; cases q) λz q=>by rw [d] at q; cases q),d,r⟩
  have hKb:K.In (wE s₁.heap H):=λb o e=>bo (KX b o e) (by
   cases q:H b with
   | none=>rfl
   | some u=>
    by_cases z:b=Pt
    ·rw [z,hKP] at e; cases e
    have e':b=a:=hA b z (by rw [q]; exact λz=>by cases z)
    subst e'
    rw [hK (by rw [q]; exact λz=>by cases z)] at e; cases e)
  have hM:Mod K mg (wE s₁.heap H):=⟨hKb,nsK hns,⟨mb,nsK hb,hbb⟩,let ⟨mc,h1,h2⟩:=hlim; ⟨mc,nsK h1,h2⟩⟩
  have hTB:wd (wE s₁.heap H) mg c Pt:=by
   obtain ⟨o,v0,file,tf,flags,tg,inF,text,tt,e1,r1,r2,r3,r4,r5,r6,r7,r8,hne⟩:=C
   obtain ⟨bm,ob,b1,b2,b3,b4,b5,b6⟩:=bm
   refine ⟨⟨o,v0,file,tf,flags,tg,inF,text,tt,bo e1 ?_,r1,r2,r3,r4,r5,r6,r7,r8,hne⟩,bm,ob,b1,b2,λz=>?_,bo b3 (noA b3 (λz n q=>by rw [b6] at q; cases q) λz q=>by rw [b6] at q; cases q),b4,b5,b6⟩
   ·cases q:H c with
    | none=>rfl
    | some u=>
     have e':c=a:=hA c hne (by rw [q]; exact λz=>by cases z)
     rw [e',ha] at e1
     cases e1
     cases r2
   ·obtain ⟨o2,es,ep,q1,q2,_⟩:=hns
    rw [z,q1] at b3
    cases b3
    rw [q2] at b6
    cases b6
  have e0:xo P w K mg (wE s₁.heap H) callerA [] s₁ H:=⟨rfl,hM,λb o e=>zPN e,Nat.le_of_eq (zLa _ _),trivial,λb hb=>absurd (show b∈([]:List Addr) from hb) (by simp),hok,.of_eq hg⟩
  refine codeAny_mono ((F _ hKb (nsK hns) hTB).run callerA [] s₁ H ⟨[.ref a],[]⟩ [.ref a] [.ref a] _ _ hr e0 (hbind s₁ (.ref a)) (.cons rfl .nil) (hsp H hO hS)) λr s' h=>?_
  cases r with
  | error e=>exact (hCX H e s' h).elim
  | ok fl=>
   cases fl with
   | next=>exact False.elim h
   | brk=>exact False.elim h
   | cont=>exact False.elim h
   | ret u=>
    obtain ⟨v,H',os,bare,un,hok',r',q⟩:=h
    have q':v=.bl true:=q
    subst q'
    obtain rfl:u=Value.bool true:=r'
    obtain ⟨more,hm⟩:=un.tbls Pt _ hO.1
    have hPm:s'.heap.get? Pt=some (iK (#[]++more)):=hok' Pt _ hm
    have kp:∀ b o,b≠Pt->s₁.heap.get? b=some o->s'.heap.get? b=some o:=λb o z e=>by
     cases q:H b with
     | none=>exact un.keep b o e q (by intro z; exact absurd (show b∈([]:List Addr) from z) (by simp)) (by simp)
     | some u=>
      rcases hO.2 b z with z | ⟨ob,xs,z⟩
      ·rw [q] at z; cases z
      ·have z2:=un.frzs b ob _ z
       obtain ⟨e1,_⟩:=hok b _ z
       obtain ⟨e2,_⟩:=hok' b _ z2
       rw [e] at e1; cases e1
       exact e2
    refine ⟨rfl,⟨λb o e=>?_,λb o e=>?_⟩,os,bare⟩
    ·by_cases z:b=Pt
     ·subst z
      rw [hP] at e
      cases e
      exact .inr (.inl ⟨(C.tab hP).isCodeTable,rfl,#[],_,rfl,by rw [lY]; exact hPm⟩)
     ·exact .inl (kp b o z e)
    ·by_cases z:b=Pt
     ·exact ⟨_,by rw [z]; exact hPm⟩
     ·exact ⟨o,kp b o z e⟩
 cases hk:K.lookup a with
 | some o=>
  have e:=KX a o hk
  rw [ha] at e
  cases e
  refine core (λb=>if b=Pt then some (.tbl #[]) else none) ⟨if_pos rfl,λb z=>.inl (if_neg z)⟩ (.inr ⟨_,vs.toArray,_,hk,rfl,rfl,rfl,by rw [cM,lenV]; exact hl,by simpa using rv⟩) (λb u z=>?_) (λb z1 z=>absurd (if_neg z1) z) λz=>absurd (if_neg aP) z
  by_cases hb:b=Pt
  ·have z':=(if_pos hb).symm.trans z
   cases z'
   subst hb
   exact hP
  ·have z':=(if_neg hb).symm.trans z
   cases z'
 | none=>
  refine core (λb=>if b=Pt then some (.tbl #[]) else if b=a then some (.frz { cls:=.type "list",data:=.seq vs.toArray } (.lst (ns.map V.int))) else none) ⟨if_pos rfl,λb z=>?_⟩ (.inl (.inr ⟨{ cls:=.type "list",data:=.seq vs.toArray },(if_neg aP).trans (if_pos rfl)⟩)) (λb u z=>?_) (λb z1 z=>?_) λ_=>hk
  ·by_cases hb:b=a
   ·exact .inr ⟨_,_,(if_neg z).trans (if_pos hb)⟩
   ·exact .inl ((if_neg z).trans (if_neg hb))
  ·by_cases hp:b=Pt
   ·have z':=(if_pos hp).symm.trans z
    cases z'
    subst hp
    exact hP
   by_cases hb:b=a
   ·have z':=((if_neg hp).trans (if_pos hb)).symm.trans z
    cases z'
    subst hb
    exact ⟨ha,by rw [a_]; exact hl,vs,_,rv,ha⟩
   ·have z':=((if_neg hp).trans (if_neg hb)).symm.trans z
    cases z'
  ·by_cases hb:b=a
   ·exact hb
   ·exact absurd ((if_neg z1).trans (if_neg hb)) z
end
theorem zMK {l:mW} {n k:Nat} {q:Program} {loose:List Str} {XP:(Str->Option Value)->Heap->Prop} {YP:World->Heap->Prop} {d d2:DefRec} {K:Params->b'} {sp:World->Sp} {x x2:Str} {c Pt:Addr}
  (hn:l.most=some n) (hn2:n<=sizeLine) (hdf:d.params.defaults=[]) (hr:zU k callerA)
  (hY:∀ (w:World) (h:Heap),YP w h->(K w.params).In h) (hrec:(recsOf q).find? (λe=>e.name == x2)=some d2) (htab:∀ w:World,ni (K w.params) x2=some (c,Pt)) (hKP:∀ w:World,(K w.params).lookup Pt=none)
  (F:∀ (w:World) (mg:Str->Option Value) (fa:Addr) (h:Heap),(K w.params).In h->h.Ns mainGlobals mg->mg d.name=some (.ref fa)->
   ∃ fd:FuncData,(∀ (s:Shared) (u:Value),BindsTo s fd ⟨[u],[]⟩ [(x,u)])∧
    ∀ base:Heap,(K w.params).In base->base.Ns mainGlobals mg->wd base mg c Pt->zF l.prog w (K w.params) mg base zV k fa fd [x] (sp w))
  (hsp:∀ (w:World) (H:Hp) (a:Addr) (ns:List Int),ns.length<=n->Ju Pt H->zl (K w.params) H a (ns.map V.int)->sp w [.ref a] H (λv _=>v=.bl true) λ_ _ _=>False) :
  nj q loose XP YP l.row.toRowW d [] (λf vs=>PySem.call f vs):=by
 refine Att.attach_call hn hdf λw s₀ s₁ mg mb fa o pm cd doc a vs ns G Y ho hd hcd hmg hobj hints hlen hg=>?_
 have KX:=hY w _ Y
 obtain ⟨fd,hb,hF⟩:=F w mg fa _ KX G.T.g hmg
 obtain ⟨C,hP⟩:=PySem.W.tab_of G.T KX hrec (htab w)
 exact zLW C hP (hKP w) G.T.bmain KX G.T.g G.T.b G.T.builtins G.T.nolimit hg hobj hints (dM hlen hn2) hr hF hb (λH hO hS=>hsp w H a ns hlen hO hS) λH e s' z=>z
end L2
namespace L2
open PySem PySem.Spec PyProof.Rows
theorem zHO {α β:Type} {R:α->β->Prop}:∀ {xs:List α} {ys:List β},xs.length=ys.length->(∀ (k:Nat) x y,xs[k]? = some x->ys[k]? = some y->R x y)->Paired R xs ys
 | [],[],_,_=>.nil
 | [],_ :: _,h,_=>by cases h
 | _ :: _,[],h,_=>by cases h
 | x :: xs,y :: ys,h,g=>.cons (g 0 x y rfl rfl) (zHO (Nat.succ.inj h) λk a b h1 h2=>g (k + 1) a b h1 h2)
section
variable {X:Cx}
theorem zL4:wu X (.type "range") (λxs H Q=>∃ i j:Int,xs=[.int i,.int j]/\∀ p,H p=none->Q (.ref p) (za H p (.rng i j))):=by
 intro pins s σ H xs us Q I r h
 obtain ⟨i,j,rfl,q⟩:=h
 obtain ⟨u,w',rfl,⟨t,rfl⟩,⟨t',rfl⟩⟩:=ZJ r
 refine call_range_2 ⟨.ref s.heap.objs.size,_,I.laid (o:=.rng i j) (λb u e=>cE _ e) (cF _) ?_,rfl,q _ (I.hok.fresh (cF _))⟩
 exact ⟨_,_,_,cW _ rfl⟩
theorem zG4 (hc:X.calm=true):wu X (.type "list") (λxs H Q=>∃ (p:Addr) (i j:Int),xs=[.ref p]/\H p=some (.rng i j)/\(-(2 ^ 62)<=i/\i < 2 ^ 62/\-(2 ^ 62)<=j/\j < 2 ^ 62)/\(j - i).toNat<=1000∧
  ∀ l,H l=none->Q (.ref l) (za H l (.lst ((cR (j - i).toNat).map λ(k:Nat)=>V.int (i + (k:Int)))))):=by
 intro pins s σ H xs us Q I r h
 obtain ⟨p,i,j,rfl,hp,⟨q1,q2,q3,q4⟩,hz,q⟩:=h
 obtain ⟨u,rfl,rx⟩:=uL r
 obtain rfl:u=.ref p:=rx
 obtain ⟨t,u,v,hr⟩:=I.hok p _ hp
 have hs:(2 ^ 24:Nat)=16777216:=by decide
 refine call_list_range (n:=(j - i).toNat) (I.ok.hd hc) (show IsRange s.heap p i j 1 t u v from hr) (small_one q1 q2 q3 q4) (by rw [rangeSize_one]; split <;> omega) (by omega) λh' tk acc' c' hk hS' hacc=>?_
 refine ⟨.ref s.heap.objs.size,_,I.laid (t':=tk) (o:=.lst ((cR (j - i).toNat).map λ(k:Nat)=>V.int (i + (k:Int)))) hk (cF _) ⟨?_,acc'.toList,c',?_,by rw [hS']⟩,rfl,q _ (I.hok.fresh (cF _))⟩
 ·rw [a_,cT]
  exact dM hz (by decide)
 ·have la:acc'.toList.length=(j - i).toNat:=by rw [d_]; exact hacc.1
  refine zHO (by rw [a_,cT,la]) λk x y hx hy=>?_
  have hk2:k < (j - i).toNat:=by
   have:=(cK.mp hy).1
   omega
  rw [db,dY hk2] at hx
  cases hx
  obtain ⟨t,e⟩:=hacc.2 k y (by simpa using hy)
  exact ⟨t,by rw [e,Int.mul_one]⟩
theorem zHk (hc:X.calm=true):wu X (.builtin "max") (λxs H Q=>∃ (p:Addr) (ns:List Int),xs=[.ref p]/\zl X.K H p (ns.map V.int)/\0 < ns.length/\∀ M,M∈ns->(∀ a∈ns,a<=M)->Q (.int M) H):=by
 intro pins s σ H xs us Q I r h
 obtain ⟨p,ns,rfl,hl,h0,q⟩:=h
 obtain ⟨u,rfl,rx⟩:=uL r
 obtain rfl:u=.ref p:=rx
 obtain ⟨its,rv,pl,hz⟩:=I.list hl
 have hi:∀ {xs:List Int} {ys:List Value},zK (xs.map V.int) ys->IntsAre ys xs:=by
  intro xs
  induction xs with
  | nil=>intro ys h; cases h; exact .nil
  | cons x xs ih=>
   intro ys h
   cases h with
   | cons h1 h2=>
    obtain ⟨t,rfl⟩:=h1
    exact .cons x t (ih h2)
 have hA:=hi rv
 obtain ⟨xs,e⟩:=hA.allInts.items
 have hns:ns=xs.toList.map (·.1):=by rw [<- hA.numsOf,<- nums_intItems,<- e]
 have hsz:0 < xs.size:=by
  have h3:=h0
  rw [hns,a_,d_] at h3
  exact h3
 have hl2:=pl.isList
 rw [e] at hl2
 refine max_intList (I.ok.hd hc) hl2 hsz λv h' tk hv hk=>?_
 obtain ⟨t,rfl⟩:=intItems_at hv
 obtain ⟨h1,h2⟩:=argBest_gt (numAt xs) (xs.size - 1)
 refine ⟨.int _,H,I.kept hk,⟨t,rfl⟩,q _ ?_ λa ha=>?_⟩
 ·rw [hns,numAt_eq]
  rw [cz,b_ (by rw [a_,d_]; omega)]
  exact dX _
 ·rw [hns] at ha
  obtain ⟨j,hj,rfl⟩:=mem_getD ha
  rw [a_,d_] at hj
  have:=h2 j (by omega)
  rw [numAt_eq] at this
  exact this
end
end L2
namespace Pu
open PySem L2 Sh
open PyProof.Rows (envOfC)
variable [yY]
def Yj (pa:zn) (iy:Nat):zn:=λΓ R=>pa Γ λd=>∃ ns cs:List Int,d=.lst (ns.map D.int)/\slot Γ iy=.sh (.lst (cs.map D.int))/\(∀ n∈ns,0<=n/\n < cs.length)/\(ns=[]->R .non)/\∀ n∈ns,(∀ m∈ns,cs.getD n.toNat 0<=cs.getD m.toNat 0)->R (.int n)
theorem zQR {P:Addr} {q:Str} {pos:Pos} {H H':Hp} (hI:∀ H,yY.I H ↔ yL P q pos H) (i:yL P q pos H) (o:uf [P] H H') (i':yL P q pos H'):Sm H H':=by
 refine ⟨λb u e n=>i.ne o e λps z=>(by rw [z] at n; cases n),λb u e n=>?_,λ_=>(hI H').mpr i'⟩
 by_cases c:b=P
 ·rw [c]
  rcases i' with h | ⟨_,h,_⟩
  ·exact ⟨_,h,rfl⟩
  ·exact ⟨_,h,rfl⟩
 ·exact ⟨u,o b u e (λz=>c (df.mp z)),n⟩
theorem zKi {X:Cx} {e:Expr} {pa:zn} {p pos kp kp2 lpos yp xp bp dp:Pos} {zk} {x y:Str} {params:Arguments} {scope:Scope} {cy c P:Addr} {iy:Nat} (hI:∀ H,yY.I H ↔ yL P (X.env.qual++"<lambda>") lpos H) (T:wd X.base X.mg c P) (he:PE X e (tP pa)) (hc:X.calm=true) (hr:zU 2 X.A) (hg:Gl X "min") (hm:X.mg "min" = none) (hv:bootBuiltins "min" = some (.builtin "min"))
  (hcode:X.env.code=.ref c) (hN:X.N[iy]? = some y) (hky:X.env.kindOf y=some .cell) (hcl:closureFor scope X.env=pure [(y,cy)]) (hcy:X.env.cells.lookup y=some cy) (hdef:defaultsOf params X.env=([],[]))
  (hsc:scope.names=[(x,.local),(y,.free)]) (hxy:x≠y) (hk:scope.kind=.function) (hco:scope.isCoroutine=false) (hgen:scope.isGenerator=false)
  (hbind:∀ (pm ctv u:Value) (c':Addr),bindArgs (lF "<lambda>" (X.env.qual++"<lambda>") params (.Subscript (.Name y yp) (.Name x xp) bp) scope [(y,cy)] pm (.ref c') ctv) ⟨[u],[]⟩=pure [(x,u)])
  (hdx:(x == ("__debug__" : Str))=false) (hdx2:(x == ("__classdict__" : Str))=false) (hdy:(y == ("__debug__" : Str))=false) (hdy2:(y == ("__classdict__" : Str))=false)
  (hs:starEach [e] X.env=(false,eval e X.env) :: starEach [] X.env:=by rfl) :
  PE X (.Call (.Name "min" p) [e] [⟨some "key",.Lambda params (.Subscript (.Name y yp) (.Name x xp) bp) scope lpos,kp⟩,⟨some "default",.Constant .none zk dp,kp2⟩] pos) (tP (Yj pa iy)):=
 yb (zKu T he hc hr hg hm hv hcode hN hky hcl hcy hdef hsc hxy hk hco hgen hbind hdx hdx2 hdy hdy2 hs) λσ H Q ⟨Z,Γ,R,E,h,q⟩=>⟨Z,Γ,_,E,h,λd v H1 hd s1 hv=>by
  obtain ⟨ns,cs,rfl,hsl,hb,q0,q1⟩:=hd
  obtain ⟨l,xs,rfl,el,hx⟩:=hv.lst_inv
  cases Zn hx
  obtain ⟨vc,hvc,hdc⟩:=E.sh iy _ hsl
  obtain ⟨ca,ys,rfl,ec,hy⟩:=hdc.lst_inv
  cases Zn hy
  have i1:=(hI H1).mp (E.same s1).zd.i
  refine ⟨l,ca,ns,cs,rfl,hvc,zl.of (yE _ _ el),zl.of (s1.at (yE _ _ ec)),hb,i1,λH2 o i2=>?_⟩
  have s2:=s1.trans (zQR hI i1 o i2)
  exact ⟨λz=>q _ _ H2 (q0 z) s2 .non,λn hn hm=>q _ _ H2 (q1 n hn hm) s2 (.int n)⟩⟩
theorem Jv {P:Program} {w:World} {K:b'} {mg:Str->Option Value} {base:Heap} {x qual:Str} {st:Stmt} {f c:Addr} {fd:FuncData} {N ps:List Str} {k:Nat} {F:FL} (Fu:zf K x qual st f fd) (hc:fd.code=.ref c) (S:ze N ps (zR st)) (len:∀ ds R,F ds R->ds.length=ps.length)
  (hbody:∀ (A:Around) (outer:List Env) (s:Shared) (H:Hp) (E:XK),zU k (A.deeper (envOfC qual (zR st) s.heap.objs.size f (.ref c)))->
   ∃ p,yk (zc zV P w K mg base N qual (zR st) f (.ref c) A outer s H E).nox (xS st) (yP p)/\∀ ds R,F ds R->p { nx:=λ_=>R .non,rt:=R } (ds.map Sl.sh++cG (N.length - ps.length) .no)):zF P w K mg base zV (k + 1) f fd ps (zG F):=
 Fu.okC hc S (Jo len) λA outer s H vs Q E hr h=>let ⟨p,h1,h2⟩:=hbody A outer s H E hr; ⟨_,h1,Jn len h2 h⟩
def tbI (P:Addr) (q:Str) (pos:Pos):yY where
 I:=yL P q pos
 same:=λh s=>h.same s
 but:=λ{H H' l o} h e li k=>by
  have ne:∀ b u,H b=some u->vV u=false->H' b=some u:=λb u eb n=>by
   rw [k b λz=>by rw [z,e] at eb; cases eb; rw [n] at li; cases li]
   exact eb
  rcases h with h | ⟨c',h1,h2⟩
  ·exact .inl (ne _ _ h rfl)
  ·exact .inr ⟨c',ne _ _ h1 rfl,ne _ _ h2 rfl⟩
end Pu
namespace Pu
open PySem L2 Sh
variable [yY]
section
variable {X:Cx} {e a b c:Expr} {es:List Expr} {pos:Pos} {pa pb:zn} {pl:yo} {p:yc} {t:wA}
def zN6 (t:wA) (p:yc):yc:=λD Γ=>∃ I:Nat->List Sl->Prop,(∃ m,I m Γ)/\∀ m Γ',I m Γ'->t Γ' λb=>wJ b (p { D with nx:=λΓ2=>∃ m',m' < m/\I m' Γ2,ct:=λΓ2=>∃ m',m' < m/\I m' Γ2,bk:=D.nx } Γ') (D.nx Γ')
theorem Jw {body:List Stmt} (hp:PassesOwn (model X.prog X.w) X.A X.env X.xe) (hc:PT X c (xA t)) (hb:yk X body (yP p)):PS X (.While c body [] pos) (yP (zN6 t p)):=yH (zMl hp hc hb) λD σ H ⟨Z0,H0,Z,Γ,Dp,E,⟨I,⟨m0,h0⟩,hst⟩,nx,rt,bk,ct⟩=>by
 refine ⟨λm σ' H'=>∃ Z' Γ',yt Z0 H0 Z' Γ' σ' H'/\zN (zP Z H) (zP Z' H')/\I m Γ',⟨m0,Z,Γ,E,zN.refl _,h0⟩,?_⟩
 rintro m σ' H' ⟨Z',Γ',E',s',hI⟩
 refine ⟨Z',Γ',_,E'.e,hst m Γ' hI,λb H1 hd s1=>?_⟩
 have s2:=s'.trans (yZ s1)
 cases b with
 | false=>exact nx Z' Γ' σ' H1 (E'.mv s1) s2 (hd.2 rfl)
 | true=>
  refine ⟨λσ2 H2=>∃ m',m' < m/\∃ Z2 Γ2,yt Z0 H0 Z2 Γ2 σ2 H2/\zN (zP Z H) (zP Z2 H2)/\I m' Γ2,λ_ _ h=>h,?_⟩
  have again:∀ Z2 Γ2 σ2 H2,yt Z0 H0 Z2 Γ2 σ2 H2->zN (zP Z' H1) (zP Z2 H2)->(∃ m',m' < m/\I m' Γ2)->∃ m',m' < m/\∃ Z2 Γ2,yt Z0 H0 Z2 Γ2 σ2 H2/\zN (zP Z H) (zP Z2 H2)/\I m' Γ2:=λZ2 Γ2 σ2 H2 E2 k ⟨m',l,h⟩=>⟨m',l,Z2,Γ2,E2,s2.trans k,h⟩
  exact ⟨Z0,H0,Z',Γ',_,E'.mv s1,hd.1 rfl,again,rt,λZ2 Γ2 σ2 H2 E2 k h=>nx Z2 Γ2 σ2 H2 E2 (s2.trans k) h,again⟩
def gT:FL
 | [.int i],R=>R (.int (if i < 0 then -i else i))
 | _,_=>False
theorem zPv:uR (λxs H Q=>∃ i,xs=[.int i]/\Q (.int (if i < 0 then -i else i)) H) gT:=λZ H vs ds R Q zd hv h q=>by
 unfold gT at h
 split at h
 ·obtain ⟨v,rfl,hx⟩:=xB hv
  cases hx
  exact ⟨_,rfl,q _ _ H h (Sm.refl _) (.int _)⟩
 ·exact h.elim
def Jx:F2
 | d,.non,R=>R (.bool (match d with | .non=>true | _=>false))
 | _,_,_=>False
def gU:F2
 | d,.non,R=>R (.bool (match d with | .non=>false | _=>true))
 | _,_,_=>False
theorem zPE:wH (λx y H Q=>y=.non/\Q (.bl (decide (x=.non))) H) Jx:=λZ H x y a b R Q zd hx hy h q=>by
 unfold Jx at h
 split at h
 ·cases hy
  refine ⟨rfl,?_⟩
  cases hx <;> exact q _ _ H h (Sm.refl _) (.bool _)
 ·exact h.elim
theorem zMx:wH (λx y H Q=>y=.non/\Q (.bl (!decide (x=.non))) H) gU:=λZ H x y a b R Q zd hx hy h q=>by
 unfold gU at h
 split at h
 ·cases hy
  refine ⟨rfl,?_⟩
  cases hx <;> exact q _ _ H h (Sm.refl _) (.bool _)
 ·exact h.elim
theorem jq (ha:PE X a (tP pa)) (hb:PE X b (tP pb)):PT X (.Compare a [.Is] [b] pos) (xA (xQ (xM Jx pa pb))):=jJ L2.zRG zPE (vE _) ha hb
theorem zIu (ha:PE X a (tP pa)) (hb:PE X b (tP pb)):PT X (.Compare a [.IsNot] [b] pos) (xA (xQ (xM gU pa pb))):=jJ zO4 zMx (vE _) ha hb
theorem zOX {K:b'} {Z:Addr->Prop} {H:Hp} {p:Addr} {xs:List V} {ds:List D} (e:zP Z H p=some (.lst xs)) (h:yK (zP Z H) xs ds):Wk Z (Uw K p) H (jL 0 ds):=λi Z' H' s zd=>by
 have e1:=yE _ _ (s _ _ e)
 refine ⟨λd hd=>?_,λhi=>⟨xs,zl.of e1,by rw [gQ] at hi; rw [xg h]; omega⟩⟩
 obtain ⟨d',hd',rfl⟩:=kO hd
 obtain ⟨x,hx,hh⟩:=YK h hd'
 refine ⟨⟨xs,x,zl.of e1,hx⟩,λy H'' ⟨T,x',ev,hT,eH,q⟩=>?_⟩
 have:=q xs (zl.of e1)
 rw [hx] at this
 cases this
 subst ev
 subst eH
 rw [fC]
 exact ⟨x9 hT _,WR zd hT (.cons (.int _) (.cons (hh.same s) .nil))⟩
def pEn (pl:yo):yo:=λΓ R=>pl Γ λds=>jo ds λes=>R (jL 0 es)
theorem Wf {ts:List Expr} {kk:Nat} {tp p:Pos} (hg:Gl X "enumerate") (hm:X.mg "enumerate" = none) (ha:PA X [e] (xk pl)) (hs:starEach [e] X.env=[(false,eval e X.env)]:=by rfl) (hs2:starEach [] X.env=[]:=by rfl) :
  PI X (.Tuple ts kk tp) (.Call (.Name "enumerate" p) [e] [] pos) (uv (pEn pl)):=YL (zOx hg hm ha hs hs2) λσ H Q ⟨Z,Γ,R,E,h,q⟩=>
 ⟨Z,Γ,_,E,h,λds vs H1 hd s1 hv=>by
  unfold jo at hd
  split at hd
  ·obtain ⟨v,rfl,hw⟩:=xB hv
   obtain ⟨a,xs,rfl,ea,hx⟩:=hw.lst_inv
   exact ⟨a,rfl,⟨xs,zl.of (yE _ _ ea)⟩,q _ _ H1 hd s1 (zOX ea hx)⟩
  ·exact hd.elim⟩
def Yk (pa pb:zn):zn:=λΓ R=>pa Γ λd=>pb Γ λe=>∃ i j:Int,d=.int i/\e=.int j/\0<=i/\i<=1000/\0<=j/\j<=1000/\R (.lst ((cR (j - i).toNat).map λ(k:Nat)=>.int (i + (k:Int))))
theorem zPp {H:Hp} {i:Int} (ks:List Nat):yK H (ks.map λ(k:Nat)=>V.int (i + (k:Int))) (ks.map λ(k:Nat)=>D.int (i + (k:Int))):=by
 induction ks with
 | nil=>exact .nil
 | cons k ks ih=>exact .cons (.int _) ih
theorem zOq {lp rp:Pos} {p2:Pos} (hc:X.calm=true) (hgl:Gl X "list") (hml:X.mg "list" = none) (hgr:Gl X "range") (hmr:X.mg "range" = none) (ha:PE X a (tP pa)) (hb:PE X b (tP pb))
  (he:starEach [Expr.Call (.Name "range" rp) [a,b] [] p2] X.env=(false,eval (Expr.Call (.Name "range" rp) [a,b] [] p2) X.env) :: starEach [] X.env:=by rfl) (hpl:(backTo pos (starEach [] X.env)).any (·.1)=false:=by rfl)
  (he2:starEach [a,b] X.env=(false,eval a X.env) :: starEach [b] X.env:=by rfl) (he3:starEach [b] X.env=(false,eval b X.env) :: starEach [] X.env:=by rfl) (hpl2:(backTo p2 (starEach [b] X.env)).any (·.1)=false:=by rfl):PE X (.Call (.Name "list" lp) [.Call (.Name "range" rp) [a,b] [] p2] [] pos) (tP (Yk pa pb)):=
 yb (X1 (zG4 hc) hgl hml wV (yF (X1 zL4 hgr hmr zIZ (yF ha (yF hb yu he3) he2) (by decide) (by decide) he2 hpl2) yu he) (by decide) (by decide) he hpl) λσ H Q ⟨Z,Γ,R,E,h,q⟩=>
  ⟨Z,Γ,_,E,h,λd v H1 hd s1 hv=>⟨Z,Γ,_,E.same s1,hd,λd2 v2 H2 hd2 s2 hv2=>by
   obtain ⟨i,j,rfl,rfl,i0,i1,j0,j1,hR⟩:=hd2
   cases hv
   cases hv2
   refine ⟨i,j,rfl,λr hr=>⟨r,i,j,rfl,xh,⟨by omega,by omega,by omega,by omega⟩,by omega,λl hl=>?_⟩⟩
   have s3:=s1.trans (s2.trans (x9 hr (HO.rng i j)))
   exact q _ _ _ hR (s3.trans (x9 hl _)) (uq (E.same s3).zd hl (zPp _))⟩⟩
def Yl (i:Nat) (pl:yo):yc:=λD Γ=>pl Γ λds=>jo ds λes=>D.nx (zz Γ i (.ow es))
theorem zMi (i:Nat) {x:Str} {pos' lp p2:Pos} (hN:X.N.Nodup) (hi:X.N[i]? = some x) (hx:ve X.env.scope x) (hg:Gl X "list") (hm:X.mg "list" = none) (ha:PA X (e :: es) (xk pl)) (he:starEach (e :: es) X.env=(false,eval e X.env) :: starEach es X.env:=by rfl) (hpl:(backTo p2 (starEach es X.env)).any (·.1)=false:=by rfl)
  (hs:swapsWith (.Call (.Name "list" lp) (e :: es) [] p2) (some (.Name x pos')) pos.line X.env=pure false:=by rfl) (hf:X.fn x=true\/X.env.scope.names.lookup x=some .local:=by first | exact .inl rfl | exact .inr rfl | assumption) :
  PS X (.Assign [.Name x pos'] (.Call (.Name "list" lp) (e :: es) [] p2) pos) (yP (Yl i pl)):=yH (k9 hN hi hx (X1 uM hg hm wV ha (by decide) (by decide) he hpl) hs hf) λD σ H ⟨Z0,H0,Z,Γ,Dp,E,h,nx,rt,bk,ct⟩=>
 ⟨Z,Γ,_,E.e,h,λds vs H1 hd s1 hv=>by
  unfold jo at hd
  split at hd
  ·obtain ⟨v,rfl,hw⟩:=xB hv
   obtain ⟨r,xs,rfl,er,hx⟩:=hw.lst_inv
   refine ⟨r,xs,rfl,.inl (zl.of (yE _ _ er)),λl hl=>?_⟩
   obtain ⟨E2,s2⟩:=(E.mv s1).make hl hx i
   exact nx _ _ _ _ E2 ((yZ s1).trans s2) hd
  ·exact hd.elim⟩
end
end Pu
namespace L2
open PySem PySem.Spec PyProof.Rows
theorem zIz {X:Cx} {ss:List Stmt}:yk X ss (λ_ _ _=>False):=λ_ _ _ _ _ _ h=>h.elim
end L2
namespace Pu
open PySem L2 Sh
variable [yY]
open PyProof.Rows (envOfC)
inductive u3 (F:Addr->List D->Prop) (vs:List V) (H:Hp) (Q:VK) (E:XK):Prop
 | mk (Z:Addr->Prop) (ds:List D) (C:Addr) (zd:ZL Z H) (hv:yK (zP Z H) vs ds) (h:F C ds) (q:∀ H',Sm H H'->E (.ref C) none H'):u3 F vs H Q E
theorem Jy {ps:List Str} {F:Addr->List D->Prop} (len:∀ C ds,F C ds->ds.length=ps.length) (vs:List V) (H:Hp) (Q:VK) (E:XK):u3 F vs H Q E->vs.length=ps.length:=λ⟨_,ds,C,_,hv,h,_⟩=>by rw [xg hv]; exact len C ds h
theorem Jz {N ps:List Str} {Z:Addr->Prop} {H:Hp} {vs:List V} {ds:List D} (zd:ZL Z H) (hv:yK (zP Z H) vs ds) (l:ds.length=ps.length):yV Z (ds.map Sl.sh++cG (N.length - ps.length) .no) (L2.yC N vs) H:=by
 have e:L2.yC N vs=vs.map some++cG (N.length - ps.length) none:=by
  unfold L2.yC
  rw [xg hv,l]
 rw [e]
 exact Wa zd hv _
theorem Ym {p:wA} {pl:yo} {u:TS} {C:Addr} {E:XK} {D0:yw} {σ:St} {H:Hp} {Z:Addr->Prop} {Γ:List Sl} (e:yV Z Γ σ H) (h:p Γ λc=>c=true) (ha:pl Γ λds=>ds.length<=1000) (q:∀ H',Sm H H'->E (.ref C) none H'):jR (kz (xA p) (jR (zNw C E (xk pl)) UN) u) UN D0 σ H:=
 ⟨Z,Γ,_,e,h,λc H1 hc s1=>by
  subst hc
  rw [if_pos rfl]
  exact ⟨Z,Γ,_,e.same s1,ha,λds vs H2 hd s2 hv=>⟨few (by rw [xg hv]; exact hd),q H2 (s1.trans s2)⟩⟩⟩
theorem zKK {F:Addr->List D->Prop} {pl:yo} {E:XK} {D0:yw} {σ:St} {H:Hp} {Z:Addr->Prop} {Γ:List Sl} {C:Addr} {u:TS} (e:yV Z Γ σ H) (h:pl Γ λds=>F C ds) (q:∀ H',Sm H H'->E (.ref C) none H'):jR (Xq (qk (u3 F) [] E (xk pl))) u D0 σ H:=
 ⟨Z,Γ,_,e,h,λds vs H1 hd s1 hv=>⟨Z,ds,C,(e.same s1).zd,by rw [d5]; exact hv,hd,λH2 s2=>q H2 (s1.trans s2)⟩⟩
end Pu
namespace Pu
open PySem L2 Sh
variable [yY]
open PyProof.Rows (envOfC)
abbrev Yn (F:FL) (n:Nat):Prop:=∀ ds R,F ds R->ds.length=n
section
variable {P:Program} {w:World} {K:b'} {mg:Str->Option Value} {base:Heap} {x qual:Str} {st:Stmt} {f c C:Addr} {fd:FuncData} {dv:Value} {N ps:List Str} {p0:Str} {k:Nat} {F:FL}
theorem zv (Fu:zf K x qual st f fd) (S:ze N ps (zR st)) (hbody:∀ (cdv:Value) (A:Around) (outer:List Env) (s:Shared) (H:Hp) (E:XK),zU k (A.deeper (envOfC qual (zR st) s.heap.objs.size f cdv))->
   ∃ p,yk (zc zV P w K mg base N qual (zR st) f cdv A outer s H E).nox (xS st) (yP p)/\∀ ds R,F ds R->p { nx:=λ_=>R .non,rt:=R } (ds.map Sl.sh++cG (N.length - ps.length) .no)) (len:Yn F ps.length:=by intro _ _ h; first | (obtain ⟨rfl,_⟩:=h; rfl) | (obtain ⟨_,rfl,_⟩:=h; rfl) | (obtain ⟨_,_,rfl,_⟩:=h; rfl) | (obtain ⟨_,_,_,rfl,_⟩:=h; rfl) | (obtain ⟨_,_,_,_,rfl,_⟩:=h; rfl) | (obtain ⟨_,_,_,_,_,rfl,_⟩:=h; rfl) | (obtain ⟨_,_,_,_,_,_,rfl,_⟩:=h; rfl) | (obtain ⟨_,_,_,_,_,_,_,rfl,_⟩:=h; rfl) | (obtain ⟨_,_,_,_,_,_,_,_,rfl,_⟩:=h; rfl) | (obtain ⟨_,_,_,_,_,_,_,_,_,rfl,_⟩:=h; rfl) | (obtain ⟨_,_,_,_,_,_,_,_,_,_,rfl,_⟩:=h; rfl) | (obtain ⟨_,_,_,_,_,_,_,_,_,_,_,rfl,_⟩:=h; rfl) | (obtain ⟨_,_,_,_,_,_,_,_,_,_,_,_,rfl,_⟩:=h; rfl) | (obtain ⟨_,_,_,_,_,_,_,_,_,_,_,_,_,rfl,_⟩:=h; rfl)):zF P w K mg base zV (k + 1) f fd ps (zG F):=okP Fu S len hbody
theorem gW (Fu:xV K x qual st f fd dv) (S:ze N ps (zR st)) (hbody:∀ (cdv:Value) (A:Around) (outer:List Env) (s:Shared) (H:Hp) (E:XK),zU k (A.deeper (envOfC qual (zR st) s.heap.objs.size f cdv))->
   ∃ p,yk (zc zV P w K mg base N qual (zR st) f cdv A outer s H E).nox (xS st) (yP p)/\∀ ds R,F ds R->p { nx:=λ_=>R .non,rt:=R } (ds.map Sl.sh++cG (N.length - ps.length) .no)) (len:Yn F ps.length:=by intro _ _ h; first | (obtain ⟨rfl,_⟩:=h; rfl) | (obtain ⟨_,rfl,_⟩:=h; rfl) | (obtain ⟨_,_,rfl,_⟩:=h; rfl) | (obtain ⟨_,_,_,rfl,_⟩:=h; rfl) | (obtain ⟨_,_,_,_,rfl,_⟩:=h; rfl) | (obtain ⟨_,_,_,_,_,rfl,_⟩:=h; rfl) | (obtain ⟨_,_,_,_,_,_,rfl,_⟩:=h; rfl) | (obtain ⟨_,_,_,_,_,_,_,rfl,_⟩:=h; rfl) | (obtain ⟨_,_,_,_,_,_,_,_,rfl,_⟩:=h; rfl) | (obtain ⟨_,_,_,_,_,_,_,_,_,rfl,_⟩:=h; rfl) | (obtain ⟨_,_,_,_,_,_,_,_,_,_,rfl,_⟩:=h; rfl) | (obtain ⟨_,_,_,_,_,_,_,_,_,_,_,rfl,_⟩:=h; rfl) | (obtain ⟨_,_,_,_,_,_,_,_,_,_,_,_,rfl,_⟩:=h; rfl) | (obtain ⟨_,_,_,_,_,_,_,_,_,_,_,_,_,rfl,_⟩:=h; rfl)):zF P w K mg base zV (k + 1) f fd ps (zG F):=Jp Fu S len hbody
end
section
variable {X:Cx} {a b e:Expr} {es:List Expr} {pos pos':Pos} {pa pb:zn} {pl:yo} {x:Str}
theorem zL (ha:PE X a (tP pa)) (hb:PE X b (tP pb)) (hs:X3 b:=by exact λ_ _=>rfl):PE X (.Subscript a b pos) (tP (xM ixD pa pb)):=Z8 ha hb hs
theorem zb (i:Nat) (hN:X.N.Nodup) (he:PE X e (tP pa)) (hi:X.N[i]? = some x:=by rfl) (hx:ve X.env.scope x:=by first | exact Or.inl rfl | exact Or.inr rfl) (hs:swapsWith e (some (.Name x pos')) pos.line X.env=pure false:=by rfl) (hf:X.fn x=true\/X.env.scope.names.lookup x=some .local:=by first | exact .inl rfl | exact .inr rfl | assumption):PS X (.Assign [.Name x pos'] e pos) (yP (vW i pa)):=zOp i hN hi hx he hs hf
theorem zw (i:Nat) (hN:X.N.Nodup) (hi:X.N[i]? = some x:=by rfl) (hx:ve X.env.scope x:=by first | exact Or.inl rfl | exact Or.inr rfl) (hf:X.fn x=true\/X.env.scope.names.lookup x=some .local:=by first | exact .inl rfl | exact .inr rfl | assumption):PG X (.Name x pos) (tG [i] JW):=zMj i hN hi hx hf
theorem yI {js:List Nat} {po:List D->Option (List D)} {n:Nat} (i:Nat) (hN:X.N.Nodup) (h:kK X es js po n) (hi:X.N[i]? = some x:=by rfl) (hx:ve X.env.scope x:=by first | exact Or.inl rfl | exact Or.inr rfl)
  (hs:(assignEach (.Name x pos :: es) X.env).map (·.2)=assign (.Name x pos) X.env :: (assignEach es X.env).map (·.2):=by rfl) (hf:X.fn x=true\/X.env.scope.names.lookup x=some .local:=by first | exact .inl rfl | exact .inr rfl | assumption):kK X (.Name x pos :: es) (i :: js) (JX po) (n + 1):=zKh i hN hi hx h hs hf
theorem yB (l:List Str) (h:l.Nodup:=by decide +kernel):l.Nodup:=h
theorem yX {scope S:Scope} {own N ps:List Str} {caps:List (Nat × Str)} (_:ze N ps S) (k:scope.kind=.function:=by rfl) (nd:(scope.names.map (·.1)).Nodup:=by decide +kernel) (hS:X.env.scope=S:=by rfl) (hc:∃ n,X.env.cells=cellsFrom n S.names []:=by first | exact ⟨0,rfl⟩ | exact ⟨_,rfl⟩) (hN:X.N=N:=by rfl) (fr:scope.names.all (λy=>y.2 != .free || S.names.lookup y.1 == some .cell)=true:=by decide +kernel)
  (cp:caps.all (λp=>N[p.1]? == some p.2 && scope.names.lookup p.2 == some .free && S.names.lookup p.2 == some .cell)=true:=by decide +kernel):vj X scope own caps:=zNl k nd hS hc hN fr cp
theorem Wg {Y:Cx} {scope S:Scope} {own own0:List Str} {caps caps0:List (Nat × Str)} {C:Addr} {s₀:Shared} {H₀:Hp} {ex:List Addr} (k:scope.kind=.function:=by rfl) (nd:(scope.names.map (·.1)).Nodup:=by decide +kernel)
  (ndS:(S.names.map (·.1)).Nodup:=by decide +kernel) (fr:scope.names.all (λy=>y.2 != .free || S.names.lookup y.1 == some .cell || S.names.lookup y.1 == some .free)=true:=by decide +kernel)
  (cp:caps.all (λp=>(zh own0 caps0)[p.1]? == some p.2 && scope.names.lookup p.2 == some .free)=true:=by decide +kernel):vj (y4 Y S (zh own0 caps0) C s₀ H₀ ex) scope own caps:=zR4 k nd ndS fr cp
end
end Pu
namespace L2
open PySem PySem.Spec PyProof.Rows
section
variable {X:Cx}
def Yo (K:b'):R2:=λx y H Q=>∃ (d:PyData) (xs:List PyData),Dp K H x d/\Dp K H y (.list xs)/\d.canLay0=true/\hJ xs=true/\d.depth<=60/\Q (.bl (xs.any λy=>dP y d)) H
theorem zRH (hu:X.A.units + 64 < cLine):y8 X (compareOp .In) (Yo X.K):=by
 intro pins s σ H x y v u Q I rx ry h
 obtain ⟨d,xs,hx,hy,hc,hxs,hd,q⟩:=h
 obtain ⟨_,r1⟩:=hx.reads I rx
 obtain ⟨_,r2⟩:=hy.reads I ry
 exact SeqAt.in_list_reads r2 r1 hxs hc (by omega) ⟨.bl _,H,I,rfl,q⟩
inductive gX (x:V) (vs:List V) (H:Hp) (Q:VK):Prop
 | mk (l:Addr) (xs:List V) (i:Int) (k:Nat) (y:V) (_:x=.ref l) (_:vs=[.int i]) (_:H l=some (.lst xs)) (_:xj xs.length i=some k) (_:xs[k]? = some y) (_:Q y (za H l (.lst (xs.eraseIdx k)))):gX x vs H Q
theorem J0 {α β:Type} {R:α->β->Prop}:∀ {xs:List α} {ys:List β} (i:Nat),Paired R xs ys->Paired R (xs.eraseIdx i) (ys.eraseIdx i)
 | _,_,_,.nil=>.nil
 | _,_,0,.cons _ t=>t
 | _,_,i + 1,.cons q t=>.cons q (J0 i t)
theorem zQ5 {α β:Type} {R:α->β->Prop}:∀ {xs:List α} {ys:List β} {i:Nat} {x:α},Paired R xs ys->xs[i]? = some x->∃ y,ys[i]? = some y/\R x y
 | _,_,_,_,.nil,h=>nomatch h
 | _,_,0,_,.cons q t,h=>⟨_,rfl,by cases h; exact q⟩
 | _,_,i + 1,_,.cons q t,h=>zQ5 (i:=i) t h
theorem Yp:Uj X "list.pop" gX:=by
 intro pins s σ H x vs v us Q I rx rv h
 obtain ⟨l,xs,i,k,y,rfl,rfl,hH,hk,hy,q⟩:=h
 cases rx
 obtain ⟨u,rfl,ru⟩:=rv.one
 obtain ⟨t,rfl⟩:=ru
 obtain ⟨its,n,r,e,hz⟩:=I.lst hH
 obtain ⟨h1,h2,h3,h4⟩:=X2 hk
 have hl:=r.length
 have hn:=ZI
 obtain ⟨z,hz',rz⟩:=zQ5 r hy
 have hf:Builtin.List.listFitsIndex i=true:=by
  unfold Builtin.List.listFitsIndex
  rw [eQ,decide_eq_true_iff,decide_eq_true_iff]
  omega
 refine call_meets F.slot_list_pop ⟨_,e,rfl⟩ F.entry_list_pop (F.args_list_pop_2 _ _) (m9 l its.toArray n i t k z hf (by rw [cM,<- hl]; exact h1) (by rw [i8]; exact hz') (by rw [cM]; omega)) ⟨e,?_⟩
 refine ⟨y,_,I.lstUpd (its':=its.eraseIdx k) (n':=n + 1) hH e ?_ (J0 k r) ?_ s.toks,rz,q⟩
 ·have kl:k < its.length:=by omega
  have:¬ (its.eraseIdx k).length=its.length:=by rw [lC,if_pos kl]; omega
  simp [Obj.mapSeq,Array.eraseIdxIfInBounds,kl,List.eraseIdx_toArray,this]
 ·rw [lC]
  split <;> omega
end
end L2
namespace Pu
open PySem L2 Sh
variable [yY]
section
variable {X:Cx} {a b e:Expr} {pos:Pos} {pa pb:zn}
def Yq (neg:Bool):F2:=λa b R=>a.pl 50=true/\b.pl 50=true/\R (.bool (neg != dP a.py b.py))
theorem zK4 {K:b'}:wH (qt K) (Yq false):=λZ H x y a b R Q zd hx hy ⟨h1,h2,h⟩ q=>by
 have d1:=vH _ _ h1
 have d2:=vH _ _ h2
 have e1:=d1.dep
 have e2:=d2.dep
 refine ⟨_,_,d1.dp K H _ (hx.same yE),d2.dp K H _ (hy.same yE),d1.lay,d2.lay,by omega,by omega,q _ _ H ?_ (Sm.refl _) (.bool _)⟩
 rw [iL] at h
 exact h
theorem zPB {K:b'}:wH (λx y H Q=>∃ d e:PyData,Dp K H x d/\Dp K H y e/\d.canLay0=true/\e.canLay0=true/\d.depth<=60/\e.depth<=60/\Q (.bl (!PyData.eqv d e)) H) (Yq true):=λZ H x y a b R Q zd hx hy ⟨h1,h2,h⟩ q=>by
 have d1:=vH _ _ h1
 have d2:=vH _ _ h2
 have e1:=d1.dep
 have e2:=d2.dep
 refine ⟨_,_,d1.dp K H _ (hx.same yE),d2.dp K H _ (hy.same yE),d1.lay,d2.lay,by omega,by omega,q _ _ H ?_ (Sm.refl _) (.bool _)⟩
 rw [Bool.true_bne] at h
 exact h
theorem zQk (hu:X.A.units + 64 < cLine) (ha:PE X a (tP pa)) (hb:PE X b (tP pb)):PE X (.Compare a [.Eq] [b] pos) (tP (xM (Yq false) pa pb)):=gD (WB hu) zK4 (vE _) ha hb
theorem zKe (hu:X.A.units + 64 < cLine) (ha:PE X a (tP pa)) (hb:PE X b (tP pb)):PT X (.Compare a [.Eq] [b] pos) (xA (xQ (xM (Yq false) pa pb))):=jJ (WB hu) zK4 (vE _) ha hb
theorem J1 (hu:X.A.units + 64 < cLine) (ha:PE X a (tP pa)) (hb:PE X b (tP pb)):PT X (.Compare a [.NotEq] [b] pos) (xA (xQ (xM (Yq true) pa pb))):=jJ (Up hu) zPB (vE _) ha hb
def J5:F2
 | x,.lst ds,R=>x.pl 50=true/\(D.lst ds).pl 50=true/\R (.bool ((wB ds).any λy=>dP y x.py))
 | _,_,_=>False
theorem zPF {K:b'}:wH (Yo K) J5:=λZ H x y a b R Q zd hx hy h q=>by
 unfold J5 at h
 split at h
 ·have d1:=vH _ _ h.1
  have d2:=vH _ _ h.2.1
  have e1:=d1.dep
  have l2:=d2.lay
  exact ⟨_,_,d1.dp K H _ (hx.same yE),d2.dp K H _ (hy.same yE),d1.lay,by simpa [D.py,fq] using l2,by omega,q _ _ H h.2.2 (Sm.refl _) (.bool _)⟩
 ·exact h.elim
theorem zOo (hu:X.A.units + 64 < cLine) (ha:PE X a (tP pa)) (hb:PE X b (tP pb)) (hm:behindInMarks .In b=false:=by rfl):PT X (.Compare a [.In] [b] pos) (xA (xQ (xM J5 pa pb))):=jJ (zRH hu) zPF hm ha hb
end
def J7 (i:Nat) (pa:zn):yc:=λD Γ=>gN (slot Γ i) λds=>pa Γ λk=>iD k λo=>∃ z j,o=some z/\xj ds.length z=some j/\D.nx (zz Γ i (.ow (ds.eraseIdx j)))
theorem zNu {pa:zn} {i:Nat} {K:b'} (D:yw) (σ:St) (H:Hp):yP (J7 i pa) D σ H->Xq (Ui K "list" gX (vQ i) (qj (tP pa) vN)) D σ H:=λ⟨Z0,H0,Z,Γ,Dp,E,h,nx,rt,bk,ct⟩=>by
 obtain ⟨ds,hs,h⟩:=kM h
 obtain ⟨l,xs,hl,hz,el,hx⟩:=E.e.ow i ds hs
 refine ⟨.ref l,hl,.inl ⟨rfl,xs,zl.of el⟩,Z,Γ,_,E.e,h,λd v H1 hd s1 hv=>?_⟩
 have hx1:=xT (yZ s1) hx
 have hlx:=xg hx1
 unfold iD at hd
 split at hd
 ·obtain ⟨z,j,e1,hj,hd⟩:=hd
  cases e1
  cases hv
  obtain ⟨_,hjl,_,_⟩:=X2 hj
  exact ⟨l,xs,_,j,xs[j],rfl,rfl,s1.at el,by rw [hlx]; exact hj,b_ (by omega),nx Z _ _ _ ((E.mv s1).put hs hl hz (J0 j hx1)) ((yZ s1).trans (kL hz)) hd⟩
 ·exact hd.elim
def Yr (K:b') (Cb:Addr) (F:Addr->List D->Prop) (pl:yo) (p:yc):yc:=λD Γ=>pl Γ λds=>∃ C,F C ds/\lE K (.ref C) (.ref Cb)=some true/\p D Γ
theorem zKO {K:b'} {Cb:Addr} {F:Addr->List D->Prop} {pl:yo} {p:yc} (D:yw) (σ:St) (H:Hp):yP (Yr K Cb F pl p) D σ H->zQJ K Cb (λ(ES:St->XK) (D:yw) (σ:St) (H:Hp)=>qk (u3 F) [] (ES σ) (xk pl) σ H λ_ H1=>D.nx σ H1) (yP p) D σ H:=λ⟨Z0,H0,Z,Γ,Dp,E,h,nx,rt,bk,ct⟩=>
 ⟨Z,Γ,_,E.e,h,λds vs H1 ⟨C,hF,hx,hp⟩ s1 hv=>⟨Z,ds,C,(E.e.same s1).zd,by rw [d5]; exact hv,hF,λH2 s2=>⟨C,rfl,hx,λe he=>by
  have s3:=(s1.trans s2).trans (x9 he (qy e C))
  exact ⟨Z0,H0,Z,Γ,Dp,E.mv s3,hp,λZ' Γ' σ' H' E' s'=>nx Z' Γ' σ' H' E' ((yZ s3).trans s'),rt,λZ' Γ' σ' H' E' s'=>bk Z' Γ' σ' H' E' ((yZ s3).trans s'),λZ' Γ' σ' H' E' s'=>ct Z' Γ' σ' H' E' ((yZ s3).trans s')⟩⟩⟩⟩
theorem zNL {Z Z0:Addr->Prop} {H:Hp} {l:Addr} (z:∀ b,Z0 b->Z b) (hl:Z l):zN (zP Z H) (zP Z0 (less l H)):=λb o e=>by
 obtain ⟨h1,h2⟩:=jc e
 exact vn (λk=>h1 (z _ k)) ((if_neg λk=>h1 (by rw [k]; exact hl)).trans h2) (qK e)
section
variable {X:Cx} {e a b:Expr} {es:List Expr} {pos:Pos} {pa pb:zn}
def Ys (i:Nat):yc:=λD Γ=>gN (slot Γ i) λds=>D.rt (.lst ds)
theorem zKf {i:Nat} (he:PE X e (vQ i)):PS X (.Return (some e) pos) (vA (Ys i)):=yH (zN2 he) λD σ H ⟨Z0,H0,Z,Γ,Dp,E,h,rt⟩=>by
 obtain ⟨ds,hs,hR⟩:=kM h
 obtain ⟨l,xs,hl,hz,el,hx⟩:=E.e.ow i ds hs
 exact ⟨_,hl,rt ds l xs _ E.same (E.own i ds l hs hl) el (xT (zNL E.z0 hz) hx) hR⟩
def Yt (d e:D) (R:List D->Prop):Prop:=uE d λds=>uE e λes=>ds.length + es.length<=1000/\R (ds++es)
theorem zQH {Z:Addr->Prop} {Γ:List Sl} {σ:St} {H:Hp} {Q:VK} {S:List D->Prop} (E:yV Z Γ σ H) (h:pa Γ λd=>pb Γ λe=>Yt d e S) (q:∀ es xs H1 n,S es->Sm H H1->H1 n=none->yK (zP Z H1) xs es->Q (.ref n) (za H1 n (.lst xs))):qf qp (tP pa) (tP pb) σ H Q:=
 ⟨Z,Γ,_,E,h,λd v H1 hd s1 hv=>⟨Z,Γ,_,E.same s1,hd,λd2 v2 H2 hd2 s2 hv2=>by
  obtain ⟨ds,rfl,k⟩:=zJB hd2
  obtain ⟨es,rfl,l,hd2⟩:=zJB k
  have hv:=hv.same (yZ s2)
  obtain ⟨p,xs,rfl,e1,h1⟩:=hv.lst_inv
  obtain ⟨r,ys,rfl,e2,h2⟩:=hv2.lst_inv
  have l1:=Paired.length h1
  have l2:=Paired.length h2
  exact ⟨p,r,xs,ys,rfl,rfl,yE _ _ e1,yE _ _ e2,few (by omega),λn hn=>q _ _ H2 n hd2 (s1.trans s2) hn (gz h1 h2)⟩⟩⟩
def Yu (i:Nat) (pa pb:zn):yc:=λD Γ=>pa Γ λd=>pb Γ λe=>Yt d e λes=>D.nx (zz Γ i (.ow es))
theorem zMh (i:Nat) {x:Str} {pos' bp:Pos} (hN:X.N.Nodup) (hi:X.N[i]? = some x) (hx:ve X.env.scope x) (ha:PE X a (tP pa)) (hb:PE X b (tP pb)) (hs:swapsWith (.BinOp a .Add b bp) (some (.Name x pos')) pos.line X.env=pure false:=by rfl) (hf:X.fn x=true\/X.env.scope.names.lookup x=some .local:=by first | exact .inl rfl | exact .inr rfl | assumption) :
  PS X (.Assign [.Name x pos'] (.BinOp a .Add b bp) pos) (yP (Yu i pa pb)):=yH (k9 hN hi hx (zQy zN7 ha hb) hs hf) λD σ H ⟨Z0,H0,Z,Γ,Dp,E,h,nx,rt,bk,ct⟩=>
 zQH E.e h λes xs H1 n hR s1 hn hx=>by
  obtain ⟨E2,s2⟩:=(E.mv s1).make hn hx i
  exact nx _ _ _ _ E2 ((yZ s1).trans s2) hR
def Yv (i:Nat):zn:=λΓ R=>gN (slot Γ i) λds=>R (.int ds.length)
theorem J8 (i:Nat) {f x:Str} {fp xp:Pos} (hg:Gl X f) (hm:X.mg f=none) (hf:f = "len":=by rfl) (hN:X.N[i]? = some x:=by rfl) (hv:j4 X.env.scope x:=by first | exact Or.inl rfl | exact Or.inr (Or.inl rfl) | exact Or.inr (Or.inr rfl)) (hd:(x == ("__debug__" : Str))=false:=by decide)
  (hcd:(x == ("__classdict__" : Str))=false:=by decide) (he:starEach [Expr.Name x xp] X.env=(false,eval (.Name x xp) X.env) :: starEach [] X.env:=by rfl) (hpl:(backTo pos (starEach [] X.env)).any (·.1)=false:=by rfl):PE X (.Call (.Name f fp) [.Name x xp] [] pos) (tP (Yv i)):=by
 subst hf
 refine yb (vh xz hg hm x8 (yF (y6 i hN hv hd hcd) yu) (by decide) (by decide) he hpl) λσ H Q ⟨Z,Γ,R,E,h,q⟩=>?_
 obtain ⟨ds,hs,h⟩:=kM h
 obtain ⟨l,xs,hl,hz,el,hx⟩:=E.ow i ds hs
 exact ⟨_,hl,l,xs,rfl,.inl (zl.of el),q _ _ H h (Sm.refl _) (by rw [xg hx]; exact .int _)⟩
end
end Pu
namespace K77
open PySem L2 Sh Pu
def zi (i:Nat):Stmt:=PySem.Challenge.pw_steadyhand_k77_rooms_grown_by_modes.main.body.getD i (.Pass ⟨0,0,0,0⟩)
structure Bl (mg:Str->Option Value):Prop where
 isinstance_:mg "isinstance" = none
 int_:mg "int" = none
 bool_:mg "bool" = none
 tuple_:mg "tuple" = none
 len_:mg "len" = none
 all_:mg "all" = none
 list_:mg "list" = none
 range_:mg "range" = none
 zip_:mg "zip" = none
 sum_:mg "sum" = none
 max_:mg "max" = none
 enumerate_:mg "enumerate" = none
 min_:mg "min" = none
 abs_:mg "abs" = none
 MOST_NUMBERS_:∃ t,mg "MOST_NUMBERS" = some (.int 3 t)
 MOST_PUSHES_:∃ t,mg "MOST_PUSHES" = some (.int 6 t)
 MOST_MODES_:∃ t,mg "MOST_MODES" = some (.int 40 t)
structure zOT (K:b') (C:Addr):Prop where
 n_rows:vF K C "rows"
 n_nexts:vF K C "nexts"
 n_steer:vF K C "steer"
 n_push:vF K C "push"
 n_add:vF K C "add"
 n_divisor:vF K C "divisor"
structure zMF (K:b') (C:Addr):Prop where
 n_many:vF K C "many"
 n_kept_pushes:vF K C "kept_pushes"
 n_kept_modes:vF K C "kept_modes"
variable [iT:yY]
inductive Fw:Nat->D->Prop
 | int {k:Nat} (i:Int):Fw (k + 1) (.int i)
 | bool {k:Nat} (b:Bool):Fw (k + 1) (.bool b)
 | non {k:Nat}:Fw (k + 1) .non
 | str {k:Nat} (x:Str):Fw (k + 1) (.str x)
 | lst {k:Nat} {ds:List D} (l:ds.length<=900) (h:∀ d∈ds,Fw k d):Fw (k + 1) (.lst ds)
 | tup {k:Nat} {ds:List D} (l:ds.length<=900) (h:∀ d∈ds,Fw k d):Fw (k + 1) (.tup ds)
theorem Fw.no {k:Nat} {d:D} (h:Fw k d):d.isObj=false:=by cases h <;> rfl
theorem Fw.lst_inv {k:Nat} {d:D} (h:Fw k d) (e:d.isLst=true):∃ ds,d=.lst ds/\ds.length<=900/\∃ j,k=j + 1/\∀ d∈ds,Fw j d:=by
 cases h with
 | lst l h=>exact ⟨_,rfl,l,_,rfl,h⟩
 | _=>cases e
theorem Fw.tup_inv {k:Nat} {d:D} (h:Fw k d) (e:d.isTup=true):∃ ds,d=.tup ds/\ds.length<=900/\∃ j,k=j + 1/\∀ d∈ds,Fw j d:=by
 cases h with
 | tup l h=>exact ⟨_,rfl,l,_,rfl,h⟩
 | _=>cases e
theorem zLe {k:Nat} {ns:List Int}:∀ d∈ns.map D.int,Fw (k + 1) d:=λd m=>by
 obtain ⟨i,_,rfl⟩:=cH.mp m
 exact .int i
theorem k0 {n:Nat} (h:n.ble 1000=true:=by rfl):n<=1000:=Nat.le_of_ble_eq_true h
theorem bR {R:D->Prop} {a b:Bool} (q:R (.bool a)) (e:a=b):R (.bool b):=e ▸ q
def qR (d:D):Bool:=d.isInt && !d.isBool
def Wi (n:Int):D->Bool
 | .lst ds=>decide ((ds.length:Int)=n) && ds.all qR
 | _=>false
def Yx (h w:Int):D->Bool
 | .lst ds=>decide ((ds.length:Int)=h) && ds.all (Wi w)
 | _=>false
def jr (n:Int):D->Bool
 | .tup ds=>decide ((ds.length:Int)=n + 1) && ds.all qR
 | _=>false
def zQX (n:Int):D->Bool
 | .lst ds=>ds.all (jr n)
 | _=>false
theorem kQ {α:Type} (f:α->Bool) (xs:List α):(xs.map f).all id=xs.all f:=by rw [List.all_map]; rfl
def gY:FL:=λds R=>∃ d,ds=[d]/\d.isObj=false/\R (.bool (qR d))
def J9:FL:=λds R=>∃ d n k,ds=[d,.int n]/\Fw k d/\R (.bool (Wi n d))
def Yy:FL:=λds R=>∃ d h w k,ds=[d,.int h,.int w]/\Fw k d/\R (.bool (Yx h w d))
def Yz:FL:=λds R=>∃ d n k,ds=[d,.int n]/\Fw k d/\R (.bool (jr n d))
def zRs:FL:=λds R=>∃ d n k,ds=[d,.int n]/\Fw k d/\R (.bool (zQX n d))
def Y0 (j:Nat):FL:=λds R=>∃ d n,ds=[d,.int n]/\Fw j d/\R d
def zRq:FL:=λds R=>∃ p w n:Int,ds=[.int p,.int w,.int n]/\0<=w/\w<=900/\R (L (xZ p w.toNat n))
def IS (d:D) (ns:List Int):Prop:=d=L ns\/d=U ns
def Wj:FL:=λds R=>∃ (d e:D) (ns os:List Int),ds=[d,e]/\IS d ns/\IS e os/\ns.length<=900/\(∀ x∈ns,Bd 9000 x)/\(∀ x∈os,Bd 9000 x)/\R (.int (yG ns os))
theorem zIc:∀ ns os:List Int,dQ xI (ns.map D.int) (os.map D.int)=(ns.zip os).map λq=>xI (.int q.1) (.int q.2)
 | [],_=>rfl
 | _ :: _,[]=>rfl
 | _ :: ns,_ :: os=>by rw [di,di,f9,zIc ns os]; rfl
theorem IS.zip {d e:D} {ns os:List Int} (h:IS d ns) (k:IS e os) {R:List D->Prop} (q:R ((ns.zip os).map λq=>xI (.int q.1) (.int q.2))):uw [d,e] R:=by
 rw [<- zIc] at q
 rcases h with rfl | rfl <;> rcases k with rfl | rfl <;> exact q
theorem zRy {qs:List (Int × Int)} {G:D->(D->Prop)->Prop} {R:D->Prop} (g:Int × Int->Int) (few:qs.length<=1000) (h:∀ q,q∈qs->G (xI (.int q.1) (.int q.2)) λe=>e=.int (g q)) (k:R (.lst ((qs.map g).map D.int))):zr (qs.map λq=>xI (.int q.1) (.int q.2)) G R:=
 zr.map (λd=>match d with | .tup [x,y]=>.int (g (yD x,yD y)) | _=>.non) (by rw [a_]; exact few) (λd m=>by
  obtain ⟨q,hq,rfl⟩:=cH.mp m
  exact h q hq) (by rw [c_] at k |-; exact k)
theorem zIk:∀ ns os:List Int,((ns.zip os).map λq=>q.1 * q.2).sum=yG ns os
 | [],_=>rfl
 | _ :: _,[]=>rfl
 | n :: ns,o :: os=>by rw [lV,di,iU,zIk ns os]; rfl
abbrev Tb (t:List (List Int)):D:=.lst (t.map L)
abbrev Rm (t:List (List Int)):D:=.lst (t.map U)
def yA:D->List Int
 | .lst ds=>ds.map yD
 | .tup ds=>ds.map yD
 | _=>[]
theorem zI6 (ns:List Int):(ns.map D.int).map yD=ns:=by rw [c_]; exact fI _
theorem gZ (ns:List Int):yA (L ns)=ns:=zI6 ns
theorem QA (ns:List Int):yA (U ns)=ns:=zI6 ns
theorem vv {α:Type} {xs:List α} {G:D->(D->Prop)->Prop} {R:D->Prop} (u:α->D) (v:D->α) (hv:∀ x,v (u x)=x) (g:α->D) (few:xs.length<=1000) (h:∀ x,x∈xs->G (u x) λe=>e=g x) (q:R (.lst (xs.map g))):zr (xs.map u) G R:=
 zr.map (λd=>g (v d)) (by rw [a_]; exact few) (λd m=>by
  obtain ⟨x,hx,rfl⟩:=cH.mp m
  rw [hv]
  exact h x hx) (by
  rw [c_,show ((λd=>g (v d)) ∘ u)=g from funext λx=>congrArg g (hv x)]
  exact q)
def IT (e:D) (ls:List (List Int)):Prop:=e=Tb ls\/e=Rm ls
theorem QB {α:Type} (u:α->D):∀ (ns:List Int) (ls:List α),dQ xI (ns.map D.int) (ls.map u)=(ns.zip ls).map λq=>xI (.int q.1) (u q.2)
 | [],_=>rfl
 | _ :: _,[]=>rfl
 | _ :: ns,_ :: ls=>by rw [di,di,f9,QB u ns ls]; rfl
def v2 (d:D):Int × List Int:=match d with
 | .tup [x,y]=>(yD x,yA y)
 | _=>(0,[])
theorem wN {ns:List Int} {j:Nat} (h:j < ns.length) {i:Int} (e:i=(j:Int)):y3 (ns.map D.int) i=some (.int (ns.getD j 0)):=by
 rw [Z7,e]
 unfold y3 xj
 rw [if_pos (by omega),if_pos (by omega)]
 show fM D.int ns[((j:Nat):Int).toNat]? = _
 rw [show ((j:Nat):Int).toNat=j by omega,b_ h,cz,b_ h]
 rfl
theorem IS.zipT {d e:D} {ns:List Int} {ls:List (List Int)} (h:IS d ns) (k:IT e ls) {R:List D->Prop} (q:∀ u:List Int->D,u=L\/u=U->R ((ns.zip ls).map λq=>xI (.int q.1) (u q.2))):uw [d,e] R:=by
 have q1:=q L (.inl rfl)
 have q2:=q U (.inr rfl)
 rw [<- QB] at q1 q2
 rcases h with rfl | rfl <;> rcases k with rfl | rfl <;> first | exact q1 | exact q2
theorem Y1 {u:List Int->D} (hu:u=L\/u=U) (q:Int × List Int):v2 (xI (.int q.1) (u q.2))=q:=by
 rcases hu with rfl | rfl
 ·show (q.1,yA (L q.2))=q
  rw [gZ]
 ·show (q.1,yA (U q.2))=q
  rw [QA]
def zON:FL:=λds R=>∃ (d e:D) (ns:List Int) (ls:List (List Int)) (w:Nat),ds=[d,e,.int (w:Int)]/\IS d ns/\IT e ls/\w<=900/\ns.length<=900/\(∀ x∈ns,Bd 9000 x)/\(∀ r∈ls,w<=r.length/\∀ x∈r,Bd 9000 x)/\R (L ((cR w).map (zx ns ls)))
def zLo:FL:=λds R=>∃ p w n b:Int,ds=[.int p,.int w,.int n,.int b]/\0<=w/\w<=900/\R (U (xZ p w.toNat n++[b]))
theorem vx {e:Nat} {r:List Int} (h:∀ x∈r,Bd e x) (j:Nat):Bd e (r.getD j 0):=by
 rw [cz]
 cases hj:r[j]? with
 | none=>show (0:Int).natAbs < 2 ^ e; exact io e
 | some x=>exact h x (dm hj)
abbrev zOB:List Str:=["rows","nexts","steer","push","add","divisor"]
abbrev zOZ:List Str:=["many","kept_pushes","kept_modes"]
abbrev u4 (C:Addr) (m:MD):D:=.obj C zOB [Rm m.rows,Tb m.nexts,L m.steer,Tb m.push,L m.add,.int m.div]
abbrev zo (b:Int × Int):D:=.tup [.int b.1,.int b.2]
abbrev wS (C CM:Addr) (n:Nat) (bs:List (Int × Int)) (ms:List MD):D:=.obj C zOZ [.int (n:Int),.lst (bs.map zo),.lst (ms.map (u4 CM))]
theorem u5 {k:Nat} {ns:List Int} (h:ns.length<=900):Fw (k + 2) (L ns):=.lst (by rw [a_]; exact h) zLe
theorem QC {k:Nat} {ns:List Int} (h:ns.length<=900):Fw (k + 2) (U ns):=.tup (by rw [a_]; exact h) zLe
theorem Wl {k:Nat} {t:List (List Int)} (h:t.length<=900) (h2:∀ r∈t,r.length<=900):Fw (k + 3) (Tb t):=.lst (by rw [a_]; exact h) λd m=>by
 obtain ⟨r,hr,rfl⟩:=cH.mp m
 exact u5 (h2 r hr)
theorem zRn {k:Nat} {t:List (List Int)} (h:t.length<=900) (h2:∀ r∈t,r.length<=900):Fw (k + 3) (Rm t):=.lst (by rw [a_]; exact h) λd m=>by
 obtain ⟨r,hr,rfl⟩:=cH.mp m
 exact QC (h2 r hr)
theorem zHu (ns:List Int):(ns.map D.int).all qR=true:=de.mpr λd m=>by
 obtain ⟨i,_,rfl⟩:=cH.mp m
 rfl
theorem QD {n:Int} {ns:List Int} (h:(ns.length:Int)=n):Wi n (L ns)=true:=by
 show (decide _ && _)=true
 rw [a_,decide_eq_true h,zHu]
 rfl
theorem zNv {h w:Int} {t:List (List Int)} (e:(t.length:Int)=h) (k:∀ r∈t,(r.length:Int)=w):Yx h w (Tb t)=true:=by
 show (decide _ && _)=true
 rw [a_,decide_eq_true e]
 exact de.mpr λd m=>by
  obtain ⟨r,hr,rfl⟩:=cH.mp m
  exact QD (k r hr)
theorem zQW {n:Int} {ns:List Int} (h:(ns.length:Int)=n + 1):jr n (U ns)=true:=by
 show (decide _ && _)=true
 rw [a_,decide_eq_true h,zHu]
 rfl
theorem zOk {n:Int} {t:List (List Int)} (k:∀ r∈t,(r.length:Int)=n + 1):zQX n (Rm t)=true:=de.mpr λd m=>by
 obtain ⟨r,hr,rfl⟩:=cH.mp m
 exact zQW (k r hr)
def zOM (C:Addr):FL:=λds R=>∃ r n s p a d,ds=[r,n,s,p,a,d]/\Fw 5 r/\Fw 5 n/\Fw 5 s/\Fw 5 p/\Fw 5 a/\R (.obj C zOB [r,n,s,p,a,d])
def zLp:FL:=λds R=>∃ b:Int × Int,ds=[zo b]/\b.1<=b.2/\R (.bool true)
def zLq (C:Addr):FL:=λds R=>∃ (m:MD) (n p:Nat),ds=[u4 C m,.int (n:Int),.int (p:Int)]/\jV m n p/\R (.bool true)
def zJK (C:Addr):FL:=λds R=>∃ (n:Nat) (bs:List (Int × Int)) (ms:List MD),ds=[.int (n:Int),.lst (bs.map zo),.lst (ms.map (u4 C))]/\wW n bs ms/\R (.bool true)
def zLn (C CM:Addr):FL:=λds R=>∃ (n:Nat) (bs:List (Int × Int)) (ms:List MD),ds=[.int (n:Int),.lst (bs.map zo),.lst (ms.map (u4 CM))]/\wW n bs ms/\R (wS C CM n bs ms)
def QE (C CM:Addr):FL:=λds R=>∃ n bs ms,ds=[wS C CM n bs ms]/\R (.lst (bs.map zo))
def zOL (C CM:Addr):FL:=λds R=>∃ n bs ms,ds=[wS C CM n bs ms]/\R (.lst (ms.map (u4 CM)))
def Y2 (ms:List MD):Bool:=ms.all λm=>m.steer.all λx=>decide (x=0)
def zF5 (C:Addr):FL:=λds R=>∃ m,ds=[u4 C m]/\m.steer.length<=900/\R (.bool (m.steer.all λx=>decide (x=0)))
def QF (C CM:Addr):FL:=λds R=>∃ n bs ms,ds=[wS C CM n bs ms]/\wW n bs ms/\R (.bool (Y2 ms))
def QG (C CM:Addr):FL:=λds R=>∃ n bs ms,ds=[wS C CM n bs ms]/\wW n bs ms/\Y2 ms=true/\R .non
theorem Y3 {ns:List Int} {G:D->(D->Prop)->Prop} {R:D->Prop} (g:Int->Bool) (few:ns.length<=1000) (h:∀ n,n∈ns->G (.int n) λe=>e=.bool (g n)) (q:R (.lst ((ns.map g).map D.bool))):zr (ns.map D.int) G R:=
 vv D.int yD (λ_=>rfl) (λn=>.bool (g n)) few h (by rw [c_] at q; exact q)
def xr (d:D):MD:=match d with
 | .obj _ _ [.lst r,.lst n,s,.lst p,a,d]=>⟨r.map yA,n.map yA,yA s,p.map yA,yA a,yD d⟩
 | _=>⟨[],[],[],[],[],0⟩
theorem zNs (t:List (List Int)):(t.map L).map yA=t:=by
 rw [c_,show (yA ∘ L)=id from funext λr=>gZ r]
 exact fI _
theorem zQB (t:List (List Int)):(t.map U).map yA=t:=by
 rw [c_,show (yA ∘ U)=id from funext λr=>QA r]
 exact fI _
theorem zKI (C:Addr) (m:MD):xr (u4 C m)=m:=by
 show MD.mk ((m.rows.map U).map yA) ((m.nexts.map L).map yA) (yA (L m.steer)) ((m.push.map L).map yA) (yA (L m.add)) m.div=m
 rw [zQB,zNs,zNs,gZ,gZ]
def QH (d:D):Int × Int:=match d with
 | .tup [x,y]=>(yD x,yD y)
 | _=>(0,0)
def Wm (n p:Nat) (ws:List Int) (b:Int) (m:MD):List Int:=((cR n).map (zx ws m.nexts)++(cR p).map (zx ws m.push))++[m.div * b - yG ws m.add]
theorem vJ {e:Nat}:Bd e (0:Int):=by
 show (0:Int).natAbs < 2 ^ e
 exact io e
theorem zPx {e:Nat} {r:List Int} (h:∀ x∈r,Bd e x) (j:Nat):Bd e (r.getD j 0):=by
 rw [cz]
 cases hj:r[j]? with
 | none=>exact vJ
 | some x=>exact h x (dm hj)
theorem QI {a b:Nat}:∀ {ns os:List Int},(∀ x∈ns,Bd a x)->(∀ x∈os,Bd b x)->Bd (a + b + ns.length + 1) (yG ns os)
 | [],_,_,_=>by unfold yG; exact vJ
 | _ :: _,[],_,_=>by unfold yG; exact vJ
 | n :: ns,o :: os,hn,ho=>by
  have i:=QI (a:=a) (b:=b) (ns:=ns) (os:=os) (λq m=>hn q (cB _ m)) (λq m=>ho q (cB _ m))
  rw [dg]
  show Bd _ (n * o + yG ns os)
  exact (((hn n cD).mul (ho o cD)).mono (show a + b<=a + b + ns.length + 1 by omega) |>.add i).mono (by omega)
theorem zMA {a b j:Nat} {ns:List Int} {N:List (List Int)} (h:∀ x∈ns,Bd a x) (hN:∀ r∈N,∀ x∈r,Bd b x):Bd (a + b + ns.length + 1) (zx ns N j):=by
 rw [zHK]
 refine QI h λx hx=>?_
 obtain ⟨r,hr,rfl⟩:=cH.mp hx
 exact zPx (hN r hr) j
structure MS (m:MD):Prop where
 nexts:∀ r∈m.nexts,∀ x∈r,Bd 300 x
 push:∀ r∈m.push,∀ x∈r,Bd 300 x
 add:∀ x∈m.add,Bd 300 x
 div:Bd 300 m.div
 rows:∀ r∈m.rows,∀ x∈r,Bd 300 x
 few:m.rows.length<=100
theorem Wn {e n:Nat} {pl nu:Int} (h:Bd e nu):∀ x∈xZ pl n nu,Bd e x:=λx hx=>by
 obtain ⟨i,_,rfl⟩:=cH.mp hx
 show Bd e (if (i:Int)=pl then nu else 0)
 split
 ·exact h
 ·exact vJ
structure ThS (n:Nat) (bs:List (Int × Int)) (ms:List MD):Prop where
 ok:wW n bs ms
 ms:∀ m∈ms,MS m
 bs:∀ b∈bs,Bd 300 b.1/\Bd 300 b.2
theorem uF {r:List Int} {n:Nat} (h:r.length=n + 1):zq (r.map D.int) none (some (-1))=(r.take n).map D.int:=by
 have e1:HT.sIx (r.map D.int).length 0 none=0:=HT.sIx_none _ _
 have e2:HT.sIx (r.map D.int).length (r.map D.int).length (some (-1))=n:=by
  rw [a_,h]
  show (if (-1:Int) < 0 then ((-1:Int) + ((n + 1:Nat):Int)).toNat else min (-1:Int).toNat (n + 1))=n
  rw [if_pos (by decide)]
  omega
 unfold zq
 rw [e1,e2,fo,hZ,fW]
theorem Wo (ws:List Int) (b:Int):zq ((ws++[b]).map D.int) none (some (-1))=ws.map D.int:=by
 rw [uF (n:=ws.length) (by rw [cA]; rfl),dj (cF _),cJ (cF _)]
theorem kR {r:List Int} {n:Nat} (h:r.length=n + 1):y3 (r.map D.int) (-1)=some (.int (r.getD n 0)):=by
 rw [Z7]
 unfold y3 xj
 rw [if_neg (by decide),if_pos (by omega)]
 show fM D.int r[((-1:Int) + (r.length:Int)).toNat]? = _
 rw [show ((-1:Int) + (r.length:Int)).toNat=n by omega,b_ (by omega),cz,b_ (by omega)]
 rfl
theorem Wp (ws:List Int) (b:Int):y3 ((ws++[b]).map D.int) (-1)=some (.int b):=by
 rw [kR (n:=ws.length) (by rw [cA]; rfl),cz,dB (cF _),h7]
 rfl
theorem Y4 {α:Type} (u:α->D):∀ (xs:List α) (ys:List D),dQ xI (xs.map u) ys=(xs.zip ys).map λq=>xI (u q.1) q.2
 | [],_=>rfl
 | _ :: _,[]=>rfl
 | _ :: xs,_ :: ys=>by rw [di,f9,Y4 u xs ys]; rfl
theorem zRz {α:Type} {xs:List α} {ys:List D} {G:D->(D->Prop)->Prop} {R:D->Prop} (u:α->D) (v:D->α) (hv:∀ x,v (u x)=x) (g:α->D->Bool) (few:xs.length<=1000) (h:∀ x y,(x,y)∈xs.zip ys->G (xI (u x) y) λe=>e=.bool (g x y)) (q:R (.lst (((xs.zip ys).map λp=>g p.1 p.2).map D.bool))):zr (dQ xI (xs.map u) ys) G R:=by
 rw [Y4]
 refine vv (λp:α × D=>xI (u p.1) p.2) (λd=>match d with | .tup [a,b]=>(v a,b) | _=>(v .non,.non)) (λp=>?_) (λp=>.bool (g p.1 p.2)) (by rw [d6]; omega) (λp hp=>h p.1 p.2 hp) (by rw [c_] at q; exact q)
 show (v (u p.1),p.2)=p
 rw [hv]
structure MBd (m:MD):Prop where
 nexts:∀ r∈m.nexts,∀ x∈r,Bd 9000 x
 push:∀ r∈m.push,∀ x∈r,Bd 9000 x
 add:∀ x∈m.add,Bd 9000 x
 div:Bd 9000 m.div
theorem MS.mbd {m:MD} (h:MS m):MBd m:=⟨λr hr x hx=>(h.nexts r hr x hx).mono,λr hr x hx=>(h.push r hr x hx).mono,λx hx=>(h.add x hx).mono,h.div.mono⟩
theorem zRS {b:Bool} (h:(!b)=true):b=false:=by cases b <;> first | rfl | cases h
theorem QJ {b:Bool} (h:(!b)=false):b=true:=by cases b <;> first | rfl | cases h
def zOK (C CM:Addr):FL:=λds R=>∃ n bs ms m r,ds=[wS C CM n bs ms,u4 CM m,U r]/\n<=3/\bs.length<=6/\jV m n bs.length/\MBd m/\r.length=n + 1/\(∀ x∈r,Bd 9000 x)/\R (U (Wm n bs.length (r.take n) (r.getD n 0) m))
def gI (t b:Int):Int:=if b < 0 then -((lK t.natAbs b.natAbs:Nat):Int) else ((lK t.natAbs b.natAbs:Nat):Int)
def QK:FL:=λds R=>∃ a b:Int,ds=[.tup [.int a,.int b]]/\R (.int ((lK a.natAbs b.natAbs:Nat):Int))
def qS:FL:=λds R=>∃ t b:Int,ds=[.int t,.int b]/\b≠0/\Bd 7000 b/\R (.tup [.int (t.fdiv (gI t b)),.int (b.fdiv (gI t b))])
theorem zP4 (x:Int):(if x < 0 then -x else x)=((x.natAbs:Nat):Int):=by split <;> omega
theorem zNX (a b:Nat):((a:Nat):Int).fmod ((b:Nat):Int)=((a % b:Nat):Int):=by
 rw [Int.fmod_eq_emod_of_nonneg _ (Int.natCast_nonneg b)]
 rfl
theorem Y5 {t b:Int} (h:b≠0):gI t b≠0:=by
 have:0 < lK t.natAbs b.natAbs:=Nat.gcd_pos_of_pos_right _ (by omega)
 unfold gI
 split <;> omega
theorem Y6 {t b:Int} {e:Nat} (h:b≠0) (hb:Bd e b):Bd e (gI t b):=by
 have:=Nat.gcd_le_right t.natAbs (show 0 < b.natAbs by omega)
 refine hb.of_le ?_
 unfold gI
 split <;> omega
theorem IS.zipL {d:D} {ns:List Int} {es:List D} (h:IS d ns) {R:List D->Prop} (q:R (dQ xI (ns.map D.int) es)):uw [d,.lst es] R:=by
 rcases h with rfl | rfl <;> exact q
theorem zwq {α β:Type} {u:α->D} {v:β->D} {xs:List α} {ys:List β} {k:Nat} {d:D} (h:(dQ xI (xs.map u) (ys.map v))[k]? = some d):∃ x y,xs[k]? = some x/\ys[k]? = some y/\d=xI (u x) (v y):=by
 rw [List.getElem?_zipWith,db,db] at h
 cases h1:xs[k]? with
 | none=>rw [h1] at h; cases h
 | some x=>
  cases h2:ys[k]? with
  | none=>rw [h1,h2] at h; cases h
  | some y=>rw [h1,h2] at h; cases h; exact ⟨x,y,rfl,rfl,rfl⟩
theorem xY {n:Nat} (h:1<=n):Bd n 1:=(Bd.lit (i:=1) (n:=1)).mono h
abbrev zS (t b:Int):Int × Int:=(zY t b,zM t b)
abbrev xD (pts:List (Int × Int)):D:=.lst (pts.map zo)
theorem u6 {n:Nat} {t b:Int} (h:Bd n t):Bd n (zY t b):=h.fdiv _
theorem uV {n:Nat} {t b:Int} (h:Bd n b):Bd n (zM t b):=h.fdiv _
def ga:FL:=λds R=>∃ p q:Int × Int,ds=[zo p,zo q]/\0 < p.2/\0 < q.2/\Bd 9000 p.1/\Bd 9000 p.2/\Bd 9000 q.1/\Bd 9000 q.2/\Bd 7000 (p.2 * q.2)/\R (zo (zS (p.1 * q.2 - q.1 * p.2) (p.2 * q.2)))
def gc:FL:=λds R=>∃ p q:Int × Int,ds=[zo p,zo q]/\0 < p.2/\0 < q.2/\Bd 9000 p.1/\Bd 9000 p.2/\Bd 9000 q.1/\Bd 9000 q.2/\Bd 7000 (p.2 * q.2)/\R (zo (zS (p.1 * q.1) (p.2 * q.2)))
def Y7:FL:=λds R=>∃ p q:Int × Int,ds=[zo p,zo q]/\Bd 9000 p.1/\Bd 9000 p.2/\Bd 9000 q.1/\Bd 9000 q.2/\R (.bool (decide (p.1 * q.2 < q.1 * p.2)))
def gd:FL:=λds R=>∃ p:Int × Int,ds=[zo p]/\0 < p.2/\Bd 7000 p.2/\R (.int (-((-p.1).fdiv p.2)))
def uW (n:Nat) (pts:List (Int × Int)):Prop:=pts.length=n/\n<=2/\∀ p∈pts,0 < p.2/\Bd 900 p.1/\Bd 900 p.2
def QL:FL:=λds R=>∃ d ns n pts,ds=[d,xD pts]/\IS d ns/\ns.length=n/\(∀ w∈ns,Bd 300 w)/\uW n pts/\(0 < (yR ns pts).2->Bd 4000 (yR ns pts).1->Bd 2800 (yR ns pts).2->R (zo (yR ns pts)))
def QM:FL:=λds R=>∃ us b n pts,ds=[U (us++[b]),xD pts]/\us.length=n/\(∀ w∈us,Bd 300 w)/\uW n pts/\(0 < (yR us pts).2->Bd 4000 (yR us pts).1->Bd 2800 (yR us pts).2->R (zo (zS (yR us pts).1 (yR us pts).2)))
def zRt:FL:=λds R=>∃ us b n pts,ds=[U (us++[b]),xD pts]/\us.length=n/\(∀ w∈us,Bd 300 w)/\Bd 300 b/\uW n pts/\R (.bool (Uv us b pts))
theorem zP2 {ns:List Int} {pts:List (Int × Int)} {k:Nat} {w:Int} {p:Int × Int} (hw:ns[k]? = some w) (hp:pts[k]? = some p):yR (ns.take (k + 1)) (pts.take (k + 1))=jF (yR (ns.take k) (pts.take k)) (w,p):=by
 have l1:=(cK.mp hw).1
 have l2:=(cK.mp hp).1
 unfold yR
 rw [v8 hw,v8 hp,List.zip_append (by rw [cI,cI]; omega),iR]
 rfl
theorem IS.ixD {d:D} {ns:List Int} (h:IS d ns) {j:Nat} (hj:j < ns.length) {R:D->Prop} (q:R (.int (ns.getD j 0))):Pu.ixD d (.int (j:Int)) R:=by
 rcases h with rfl | rfl <;> exact ⟨_,wN hj rfl,q⟩
theorem IS.ixL {d:D} {ns:List Int} {n:Nat} (h:IS d ns) (hj:ns.length=n + 1) {R:D->Prop} (q:R (.int (ns.getD n 0))):Pu.ixD d (.int (-1)) R:=by
 rcases h with rfl | rfl <;> exact ⟨_,kR hj,q⟩
theorem Wq {es:List D} {i:Nat} {d:D} (h:es[i]? = some d):y3 es (i:Int)=some d:=by
 have hl:=(cK.mp h).1
 unfold y3 xj
 rw [if_pos (by omega),if_pos (by omega)]
 show es[((i:Nat):Int).toNat]? = _
 rw [show ((i:Nat):Int).toNat=i by omega]
 exact h
theorem zr.enum {es:List D} {G:D->(D->Prop)->Prop} {R:D->Prop} (P:Nat->D->Prop) (few:es.length<=1000) (h:∀ (i:Nat) (x:D),es[i]? = some x->G (xI (.int (i:Int)) x) λe=>∃ (i':Nat) (x':D),xI (.int (i:Int)) x=xI (.int (i':Int)) x'/\P i' e) (q:∀ es',es'.length=es.length->(∀ (i:Nat) (e:D),es'[i]? = some e->P i e)->R (.lst es')):zr (jL 0 es) G R:=
 ⟨by rw [gQ]; exact few,λd e=>∃ (i':Nat) (x':D),d=xI (.int (i':Int)) x'/\P i' e,λd hd=>by
  obtain ⟨i,hi⟩:=k_.mp hd
  obtain ⟨x,hx,rfl⟩:=kO hi
  rw [fC]
  exact h i x hx,λes' p=>by
  have l:=Paired.length p
  rw [gQ] at l
  refine q es' l.symm λi e he=>?_
  have hl:=(cK.mp he).1
  have hi:i < (jL 0 es).length:=by rw [gQ]; omega
  obtain ⟨e',he',i',x',ed,hP⟩:=zF0 p (b_ hi)
  rw [he] at he'
  cases he'
  obtain ⟨x,hx,ex⟩:=kO (b_ hi)
  rw [ex,fC] at ed
  have:((i:Nat):Int)=((i':Nat):Int):=by injection ed with a; injection a with a b; injection a
  have:i=i':=by omega
  rw [this]
  exact hP⟩
def jt (es:List D) (L:List (List Int)):Prop:=es.length=L.length/\∀ i d,es[i]? = some d->IS d (L.getD i [])
theorem jt.at_ {es:List D} {L:List (List Int)} (h:jt es L) {i:Nat} (hi:i < L.length):∃ d,es[i]? = some d/\IS d (L.getD i []):=⟨_,b_ (by rw [h.1]; exact hi),h.2 i _ (b_ (by rw [h.1]; exact hi))⟩
def Y8:FL:=λds R=>∃ (es:List D) (L:List (List Int)) (p f:Nat),ds=[.lst es,.int (p:Int)]/\jt es L/\L.length<=100/\p<=L.length/\(∀ r∈L,p < r.length)/\wg (λk=>(L.getD k []).getD p 0) p (L.length - p)=some f/\R (.int (f:Int))
def Y9:FL:=λds R=>∃ (es:List D) (p f:Nat),ds=[.lst es,.int (p:Int),.int (f:Int)]/\p < es.length/\f < es.length/\es.length<=100/\R (.lst ((es.set p (es.getD f .non)).set f (es.getD p .non)))
def zRu:FL:=λds R=>∃ (d e:D) (ns ps:List Int) (p:Nat) (la:Int),ds=[d,e,.int (p:Int),.int la]/\IS d ns/\IS e ps/\ns.length=ps.length/\p < ns.length/\ns.length<=100/\la≠0/\Bd 1000 la/\(∀ x∈ns,Bd 1000 x)/\(∀ x∈ps,Bd 1000 x)/\R (L (v9 ns ps p la))
def Wr:FL:=λds R=>∃ (es:List D) (rows:List (List Int)) (n:Nat),ds=[.lst es]/\jt es rows/\Sq rows n/\n<=2/\xu rows≠0/\(∀ r∈rows,∀ x∈r,Bd 200 x)/\(uW n (yS rows n)->R (xD (yS rows n)))
theorem zJI {f:Nat->Int} {r:Nat}:∀ {m p:Nat},wg f p m=some r->p<=r/\r < p + m/\f r≠0
 | 0,_,h=>nomatch h
 | m + 1,p,h=>by
  unfold wg at h
  by_cases c:f p≠0
  ·rw [if_pos c] at h
   cases h
   exact ⟨cF _,by omega,c⟩
  ·rw [if_neg c] at h
   obtain ⟨a,b,d⟩:=zJI h
   exact ⟨by omega,by omega,d⟩
theorem zOj {rows:List (List Int)} {n k:Nat} {st:List (List Int) × Int} (h:yy rows n=some st) (hk:k < n):∃ L la f,yy rows k=some (L,la)/\wg (λi=>(L.getD i []).getD k 0) k (L.length - k)=some f/\yy rows (k + 1)=some (uh (ye L k f) k la,((ye L k f).getD k []).getD k 0):=by
 have up:∀ j,∃ s,k + 1 + j=n->yy rows (k + 1)=some s:=λj=>by
  induction j generalizing n st with
  | zero=>exact ⟨st,λe=>by rw [mw] at e; rw [e]; exact h⟩
  | succ j ih=>
   by_cases e:k + 1 + (j + 1)=n
   ·subst e
    have h':(yy rows (k + 1 + j)).bind (λst=>wx st (k + 1 + j))=some st:=h
    cases c:yy rows (k + 1 + j) with
    | none=>rw [c] at h'; cases h'
    | some s=>
     obtain ⟨s',hs'⟩:=ih c (by omega)
     exact ⟨s',λ_=>hs' rfl⟩
   ·exact ⟨st,λz=>absurd z e⟩
 obtain ⟨s,hs⟩:=up (n - k - 1)
 have hs:=hs (by omega)
 have hb:(yy rows k).bind (λst=>wx st k)=some s:=hs
 cases c:yy rows k with
 | none=>rw [c] at hb; cases hb
 | some t=>
  rw [c] at hb
  obtain ⟨L,la⟩:=t
  have hb:wx (L,la) k=some s:=hb
  unfold wx at hb
  cases d:wg (λi=>(L.getD i []).getD k 0) k (L.length - k) with
  | none=>rw [d] at hb; cases hb
  | some f=>
   rw [d] at hb
   refine ⟨L,la,f,rfl,d,?_⟩
   rw [hs,<- Option.some.inj hb]
theorem zKd {rows:List (List Int)} {p f:Nat}:(ye rows p f).length=rows.length:=by unfold ye; rw [dq,dq]
theorem zOn {rows:List (List Int)} {p f:Nat} (hp:p < rows.length) (hf:f < rows.length):∀ r∈ye rows p f,r∈rows:=λr hr=>by
 unfold ye at hr
 rcases fE hr with h | h
 ·rcases fE h with h | h
  ·exact h
  ·rw [h]; exact yf hf
 ·rw [h]; exact yf hp
theorem jt.put {es:List D} {L:List (List Int)} (h:jt es L) {p f:Nat} (hp:p < L.length) (hf:f < L.length):jt ((es.set p (es.getD f .non)).set f (es.getD p .non)) (ye L p f):=by
 have g:∀ k,k < L.length->IS (es.getD k .non) (L.getD k []):=λk hk=>by
  obtain ⟨d,hd,i⟩:=h.at_ hk
  rw [cz,hd]
  exact i
 refine ⟨by rw [dq,dq,zKd,h.1],λi d hd=>?_⟩
 have il:=(cK.mp hd).1
 rw [dq,dq,h.1] at il
 have le:=h.1
 unfold ye
 rw [kA (by rw [dq]; exact hf),kA hp]
 rw [mh] at hd
 by_cases c1:i=f
 ·rw [if_pos c1.symm,if_pos (by rw [dq]; omega)] at hd
  rw [if_pos c1,<- Option.some.inj hd]
  exact g p hp
 ·rw [if_neg (λz=>c1 z.symm),mh] at hd
  rw [if_neg c1]
  by_cases c2:i=p
  ·rw [if_pos c2.symm,if_pos (by omega)] at hd
   rw [if_pos c2,<- Option.some.inj hd]
   exact g f hf
  ·rw [if_neg (λz=>c2 z.symm)] at hd
   rw [if_neg c2]
   exact h.2 i d hd
def gf:Nat->Nat
 | 0=>200
 | 1=>401
 | _=>803
theorem zR1 {ns ps:List Int} {p e:Nat} {la:Int} (h1:∀ x∈ns,Bd e x) (h2:∀ x∈ps,Bd e x):∀ x∈v9 ns ps p la,Bd (2 * e + 1) x:=λx hx=>by
 obtain ⟨q,hq,rfl⟩:=cH.mp hx
 have a:=(vx h2 p).mul (h1 _ (dG hq).1)
 have b:=(vx h1 p).mul (h2 _ (dG hq).2)
 exact (((a.mono (show _<=2 * e by omega)).sub (b.mono (show _<=2 * e by omega))).fdiv _).mono (by omega)
theorem zPt {ns ps:List Int} {p:Nat} {la:Int} (h:ns.length=ps.length):(v9 ns ps p la).length=ns.length:=by unfold v9; rw [a_,d6,h,Nat.min_self]
theorem xy {α:Type} {f:α->D} {l:List α} {k:Nat} (z:α) (h:k < l.length):y3 (l.map f) (k:Int)=some (f (l.getD k z)):=by
 rw [cz,b_ h]
 exact Wq (by rw [db,b_ h]; rfl)
theorem Ws {α:Type} {l:List α} {k:Nat} {z:α} (h:k < l.length):l.getD k z∈l:=by
 rw [cz,b_ h]
 exact dX h
abbrev cN (cs:List Nat):D:=.lst (cs.map λx=>.int ((x:Nat):Int))
def uG (d:D):Nat:=(yD d).toNat
theorem Wt (x:Nat):uG (.int ((x:Nat):Int))=x:=by show (((x:Nat):Int)).toNat=x; omega
theorem QN {cs:List Nat} {G:D->(D->Prop)->Prop} {R:D->Prop} (g:Nat->D) (few:cs.length<=1000) (h:∀ c∈cs,G (.int ((c:Nat):Int)) λe=>e=g c) (q:R (.lst (cs.map g))):zr (cs.map λx=>D.int ((x:Nat):Int)) G R:=vv (λx=>D.int ((x:Nat):Int)) uG Wt g few h q
theorem gt {α β:Type} {f:α->β} {l:List α} {i:Nat} {d:β} (z:α) (h:(l.map f)[i]? = some d):i < l.length/\d=f (l.getD i z):=by
 have hl:=(cK.mp h).1
 rw [a_] at hl
 rw [db,b_ hl] at h
 refine ⟨hl,?_⟩
 rw [cz,b_ hl]
 exact (Option.some.inj h).symm
def ju:FL:=λds R=>∃ (cs:List Nat) (p x:Nat),ds=[cN cs,.int ((p:Nat):Int),.int ((x:Nat):Int)]/\p < cs.length/\cs.length<=100/\R (cN (cs.set p x))
theorem QO (L:List (List Int)):jt (L.map U) L:=⟨a_ ..,λi d h=>by
 obtain ⟨_,rfl⟩:=gt [] h
 exact .inr rfl⟩
def zg (n:Nat):List (List Int):=(cR n).map λ(k:Nat)=>xZ (k:Int) n 1++[0]
structure Wu (rows:List (List Int)) (cs:List Nat) (n:Nat):Prop where
 C:Cr rows n cs
 bd:∀ r∈rows,∀ x∈r,Bd 200 x
 few:rows.length<=100
 n2:n<=2
def XA:FL:=λds R=>∃ n:Nat,ds=[.int (n:Int)]/\n<=3/\R (Rm (zg n))
def gg:FL:=λds R=>∃ rows cs n,ds=[Rm rows,cN cs]/\Wu rows cs n/\(uW n (zm rows cs n)->R (xD (zm rows cs n)))
def jv:FL:=λds R=>∃ rows cs n us,ds=[Rm rows,cN cs,U us]/\Wu rows cs n/\us.length=n + 1/\(∀ x∈us.take n,Bd 200 x)/\(uW n (zp rows cs us n)->R (xD (zp rows cs us n)))
def QP:FL:=λds R=>∃ pts:List (Int × Int),ds=[xD pts]/\pts.length<=4/\(∀ p∈pts,0 < p.2/\Bd 900 p.1/\Bd 900 p.2)/\R (.tup [.int (yO pts),L (yU pts)])
def zRp:FL:=λds R=>∃ rows cs n pl nu,ds=[Rm rows,cN cs,.int ((pl:Nat):Int),.int nu]/\Wu rows cs n/\pl < n/\(nu=1\/nu = -1)/\(uW n (yS (xL rows cs pl nu n) n)->R (L (yU (yS (xL rows cs pl nu n) n))))
theorem QQ:∀ (pts:List (Int × Int)) (D:Int) (e:Nat),Bd e D->(∀ p∈pts,Bd 900 p.2)->Bd (e + 900 * pts.length) (pts.foldl (λD p=>(D * p.2).fdiv (e7 D p.2:Int)) D)
 | [],D,e,h,_=>h.mono (by simp)
 | p :: pts,D,e,h,hp=>by
  have z:=QQ pts ((D * p.2).fdiv (e7 D p.2:Int)) (e + 900) ((h.mul (hp p cD)).fdiv _) λq hq=>hp q (cB _ hq)
  exact z.mono (by rw [dg]; omega)
theorem zRN {pts:List (Int × Int)} (h:∀ p∈pts,0 < p.2/\Bd 900 p.1/\Bd 900 p.2) (h4:pts.length<=4):Bd 3700 (yO pts)/\∀ x∈yU pts,Bd 4600 x:=by
 have z:Bd 3700 (yO pts):=(QQ pts 1 1 Bd.lit λp hp=>(h p hp).2.2).mono (by omega)
 refine ⟨z,λx hx=>?_⟩
 obtain ⟨p,hp,e⟩:=cH.mp hx
 rw [<- e]
 exact ((h p hp).2.1.mul (z.fdiv _)).mono
theorem zMz {pts:List (Int × Int)} {k:Nat} {p:Int × Int} (hp:pts[k]? = some p):yO (pts.take (k + 1))=(yO (pts.take k) * p.2).fdiv (e7 (yO (pts.take k)) p.2:Int):=by
 unfold yO
 rw [v8 hp,iR]
 rfl
theorem zKF {r:List Int} {n:Nat} (z:Nat->Rat):vl n (r.take n) z=vl n r z:=by
 unfold vl
 exact wX λj hj=>by rw [qI hj]
theorem zNR {r:List Int} {n:Nat} {pts:List (Int × Int)} (h:r.length=n + 1) (lp:pts.length=n) (hp:∀ p∈pts,0 < p.2):Uv (r.take n) (r.getD n 0) pts=true ↔ vl n r (zt pts)<=bo n r:=by
 have lt:(r.take n).length=n:=by rw [cI]; omega
 obtain ⟨a1,a2⟩:=JD (us:=r.take n) (pts:=pts) (by omega) hp
 have q:=ui a1
 rw [JC lt,zKF] at a2
 unfold Uv bo
 rw [decide_eq_true_iff]
 constructor
 ·intro z
  have z':(((yR (r.take n) pts).1:Int):Rat)<=((r.getD n 0 * (yR (r.take n) pts).2:Int):Rat):=by exact_mod_cast z
  rw [a2,cO] at z'
  apply cZ
  intro c
  have:=dn (show ((r.getD n 0:Int):Rat) < vl n r (zt pts) by grind) q
  grind
 ·intro z
  have z':=dJ z (dN q)
  rw [<- a2,<- cO] at z'
  exact_mod_cast z'
theorem zQA {p q:Int × Int} (hp:0 < p.2) (hq:0 < q.2):(p.1 * q.2 < q.1 * p.2) ↔ zX p < zX q:=by
 have e1:=vR hp
 have e2:=vR hq
 have a:=ui hp
 have b:=ui hq
 constructor
 ·intro z
  have z':((p.1 * q.2:Int):Rat) < ((q.1 * p.2:Int):Rat):=by exact_mod_cast z
  rw [cO,cO,<- e1,<- e2] at z'
  apply cZ
  intro c
  have c1:=dJ (show zX q<=zX p by grind) (dN a)
  have c2:=dJ c1 (dN b)
  grind
 ·intro z
  have c1:=dn z a
  have c2:=dn c1 b
  have z':((p.1 * q.2:Int):Rat) < ((q.1 * p.2:Int):Rat):=by
   rw [cO,cO,<- e1,<- e2]
   grind
  exact_mod_cast z'
theorem zKH (t:Int):zX (t,1)=(t:Rat):=WJ (show (0:Int) < 1 by decide) (by show (t:Rat)=(t:Rat) * ((1:Int):Rat); rw [show ((1:Int):Rat)=1 from rfl,e_])
theorem XB {t b:Int} (h:b≠0) {x:Rat} (e:(t:Rat)=x * (b:Rat)):(t:Rat) / (b:Rat)=x:=by
 rw [e,eJ,eW,fy _ (λz=>h (by exact_mod_cast z)),e_]
theorem QR {p q:Int × Int} (hp:0 < p.2) (hq:0 < q.2):0 < zM ((p.1 * q.2 - q.1 * p.2)) (p.2 * q.2)/\zX (zY ((p.1 * q.2 - q.1 * p.2)) (p.2 * q.2),zM ((p.1 * q.2 - q.1 * p.2)) (p.2 * q.2))=zX p - zX q:=by
 have ne:p.2 * q.2≠0:=dR (eY hp hq)
 obtain ⟨a,b⟩:=qF (t:=p.1 * q.2 - q.1 * p.2) ne
 refine ⟨a,b.trans (XB ne ?_)⟩
 rw [eK,cO,cO,cO,<- vR hp,<- vR hq]
 grind
theorem QS {p q:Int × Int} (hp:0 < p.2) (hq:0 < q.2):0 < zM ((p.1 * q.1)) (p.2 * q.2)/\zX (zY ((p.1 * q.1)) (p.2 * q.2),zM ((p.1 * q.1)) (p.2 * q.2))=zX p * zX q:=by
 have ne:p.2 * q.2≠0:=dR (eY hp hq)
 obtain ⟨a,b⟩:=qF (t:=p.1 * q.1) ne
 refine ⟨a,b.trans (XB ne ?_)⟩
 rw [cO,cO,<- vR hp,<- vR hq]
 grind
section
variable {rows:List (List Int)} {n c r:Nat} {x d:Nat->Rat}
theorem zLQ (no:∀ k,k < c->¬ 0 < VA rows n k d) (p:0 < VA rows n c d):vS rows n (c + 1) x d c:=⟨dC c,p,λk hk z=>absurd z (no k hk),λk hk z=>by
 by_cases e:k=c
 ·rw [e]; exact iq
 ·exact absurd z (no k (by omega))⟩
theorem zNF (M:vS rows n c x d r) (p:0 < VA rows n c d) (lt:(BA rows n c - VA rows n c x) * VA rows n r d < (BA rows n r - VA rows n r x) * VA rows n c d):vS rows n (c + 1) x d c:=by
 have all:∀ k,k < c->0 < VA rows n k d->(BA rows n c - VA rows n c x) * VA rows n k d < (BA rows n k - VA rows n k x) * VA rows n c d:=λk hk z=>zJO p M.up z lt (M.all k hk z)
 exact ⟨dC c,p,all,λk hk z=>by
  by_cases e:k=c
  ·rw [e]; exact iq
  ·exact dN (all k (by omega) z)⟩
theorem zJA (M:vS rows n c x d r) (h:0 < VA rows n c d->¬ (BA rows n c - VA rows n c x) * VA rows n r d < (BA rows n r - VA rows n r x) * VA rows n c d):vS rows n (c + 1) x d r:=⟨g_ M.lt,M.up,M.first,λk hk z=>by
 by_cases e:k=c
 ·rw [e]
  have:=h (e ▸ z)
  grind
 ·exact M.all k (by omega) z⟩
end
theorem zMW {a1 a2 v1 v2 D:Rat} (p1:0 < v1) (p2:0 < v2) (pD:0 < D):(a1 / (D * v1) < a2 / (D * v2)) ↔ a1 * v2 < a2 * v1:=by
 have q1:=ir pD p1
 have q2:=ir pD p2
 have n1:D * v1≠0:=λz=>by rw [z] at q1; exact absurd q1 eV
 have n2:D * v2≠0:=λz=>by rw [z] at q2; exact absurd q2 eV
 have e1:a1 / (D * v1) * (D * v1)=a1:=by rw [eJ,eW,fu _ n1,e_]
 have e2:a2 / (D * v2) * (D * v2)=a2:=by rw [eJ,eW,fu _ n2,e_]
 generalize a1 / (D * v1)=s1 at *
 generalize a2 / (D * v2)=s2 at *
 have q3:=ir q1 p2
 subst e1 e2
 constructor
 ·intro z
  have:=dn z q3
  grind
 ·intro z
  apply cZ
  intro c
  have:=dJ (show s2<=s1 by grind) (dN q3)
  grind
theorem zK1 {ds es:List D} (p:Paired (λd e=>e=d) ds es):es=ds:=by
 induction p with
 | nil=>rfl
 | cons h _ ih=>rw [h,ih]
def kS (room:List (List Int)) (n:Nat):Prop:=room.length<=60/\∀ r∈room,r.length=n + 1/\∀ x∈r,Bd 200 x
def jw:FL:=λds R=>∃ (cs:List Nat) (fs:List Bool),ds=[cN cs,.lst (fs.map D.bool)]/\fs.length=cs.length/\cs.length<=100/\((∀ p,p < cs.length->fs.getD p false=false)->R .non)/\∀ p,p < cs.length->fs.getD p false=true->(∀ k,k < cs.length->fs.getD k false=true->cs.getD p 0<=cs.getD k 0)->R (.int ((p:Nat):Int))
def XD:FL:=λds R=>∃ room n pts,ds=[Rm room,xD pts]/\kS room n/\uW n pts/\((∀ i,i < room.length->VA room n i (zt pts)<=BA room n i)->R .non)/\∀ i,i < room.length->BA room n i < VA room n i (zt pts)->(∀ j,j < i->VA room n j (zt pts)<=BA room n j)->R (.int ((i:Nat):Int))
def XE:FL:=λds R=>∃ room n pts wp,ds=[Rm room,xD pts,L (yU wp)]/\kS room n/\n<=2/\uW n pts/\uW n wp/\((∀ k,k < room.length->¬ 0 < VA room n k (zt wp))->R .non)/\∀ r,vS room n room.length (zt pts) (zt wp) r->R (.int ((r:Nat):Int))
def QT:FL:=λds R=>∃ (m:Nat) (cs:List Nat) (pts:List (Int × Int)),ds=[.int (m:Int),cN cs,xD pts]/\m<=100/\cs.length<=100/\pts.length<=4/\(∀ p∈pts,0 < p.2/\Bd 900 p.1/\Bd 900 p.2)/\∀ zs:List Int,R (.tup [.int (yO pts),L zs])
theorem Wv {r:List Int} {n:Nat} (h:r.length=n + 1):r.take n++[r.getD n 0]=r:=by
 refine mi λi=>?_
 by_cases c:i < n
 ·rw [eh (by rw [cI]; omega),fK c]
 ·by_cases e:i=n
  ·subst e
   rw [dB (by rw [cI]; omega),cI,show i - min i r.length=0 by omega,cz,b_ (show i < r.length by omega)]
   rfl
  ·rw [ez (by rw [cA,cI]; show _ + 1<=i; omega),ez (by omega)]
theorem zQP {r:List Int} {n:Nat} {wp:List (Int × Int)} (rl:r.length=n + 1) (W:uW n wp):((yG (r.take n) (yU wp):Int):Rat)=(yO wp:Rat) * vl n r (zt wp):=by
 have lw:=W.1
 have lt:(r.take n).length=n:=by rw [cI]; omega
 rw [zHj (by rw [zK5]; omega),lt]
 unfold vl
 rw [<- kB]
 exact wX λj hj=>by
  rw [qI hj,zPI (λp hp=>(W.2.2 p hp).1) (by omega)]
  grind
theorem zRO {pts:List (Int × Int)} {n:Nat} (W:uW n pts) (n2:n<=2):∀ x∈yU pts,Bd 2701 x:=λx hx=>by
 have z:Bd 1801 (yO pts):=(QQ pts 1 1 Bd.lit λp hp=>(W.2.2 p hp).2.2).mono (by rw [W.1]; omega)
 obtain ⟨p,hp,e⟩:=cH.mp hx
 rw [<- e]
 exact ((W.2.2 p hp).2.1.mul (z.fdiv _)).mono
theorem zIl {a e:Nat}:∀ {us vs:List Int},(∀ x∈us,Bd a x)->(∀ x∈vs,Bd e x)->Bd (a + e + us.length) (yG us vs)
 | [],_,_,_=>vJ
 | _ :: _,[],_,_=>vJ
 | u :: us,v :: vs,hu,hv=>by
  have h1:=(hu u cD).mul (hv v cD)
  have h2:=zIl (us:=us) (vs:=vs) (λx h=>hu x (cB _ h)) λx h=>hv x (cB _ h)
  exact (h1.mono (eB _ _)).add h2
theorem zRX (t:Int):zS t 1=(t,1):=by
 have e:cm t 1=1:=by unfold cm; rw [if_neg (by decide),Int.gcd_one]; rfl
 unfold zS zY zM
 rw [e,Int.fdiv_one]
 rfl
theorem zPq {α:Type} (xs:List α) (k:Nat):zq xs none (some (k:Int))=xs.take k:=by
 unfold zq
 rw [HT.sIx_none,HT.sIx_nat,fo,hZ]
 exact List.take_eq_take_iff.mpr (by omega)
theorem Ww {p:Int × Int} (h:0 < p.2):(0 < zX p ↔ 0 < p.1)/\(zX p < 0 ↔ p.1 < 0)/\(zX p=0 ↔ p.1=0):=by
 have e:=vR h
 have q:=ui h
 have a:0 < zX p->0 < p.1:=λz=>by
  have:=ir z q
  rw [e] at this
  exact_mod_cast this
 have b:zX p < 0->p.1 < 0:=λz=>by
  have:=dn z q
  rw [e,my] at this
  exact_mod_cast this
 have c:zX p=0->p.1=0:=λz=>by
  rw [z,my] at e
  exact_mod_cast e.symm
 have t:zX p < 0\/zX p=0\/0 < zX p:=by grind
 refine ⟨⟨a,λz=>?_⟩,⟨b,λz=>?_⟩,⟨c,λz=>?_⟩⟩
 ·rcases t with y | y | y
  ·have:=b y; omega
  ·have:=c y; omega
  ·exact y
 ·rcases t with y | y | y
  ·exact y
  ·have:=c y; omega
  ·have:=a y; omega
 ·rcases t with y | y | y
  ·have:=b y; omega
  ·exact y
  ·have:=a y; omega
def gh (w:List (Int × Int)) (count:Nat) (cs:List Nat) (q:Nat):Bool:=decide (count<=cs.getD q 0) && decide ((w.getD q (0,1)).1≠0)
def jX (w:List (Int × Int)) (count:Nat) (cs:List Nat) (q:Nat):Bool:=decide ((w.getD q (0,1)).1 < 0) || (decide (count<=cs.getD q 0) && decide ((w.getD q (0,1)).1≠0))
def gi (w:List (Int × Int)) (q:Nat):Bool:=decide (0 < (w.getD q (0,1)).1)
section
variable {rows:List (List Int)} {n count:Nat} {cs:List Nat} {us:List Int}
theorem Wx (C:Cr rows n cs) (us:List Int) {k:Nat} (hk:k < n):0 < ((zp rows cs us n).getD k (0,1)).2:=(C.wLen us).2 _ (yf (by rw [(C.wLen us).1]; exact hk))
theorem QU (C:Cr rows n cs) {k:Nat} (hk:k < n):gh (zp rows cs us n) count cs k=true ↔ vU rows n count us cs k:=by
 have s:=Ww (Wx C us hk)
 unfold gh vU
 rw [eC,decide_eq_true_iff,decide_eq_true_iff]
 show _ ↔ _/\zX ((zp rows cs us n).getD k (0,1))≠0
 exact ⟨λ⟨a,b⟩=>⟨a,λz=>b (s.2.2.mp z)⟩,λ⟨a,b⟩=>⟨a,λz=>b (s.2.2.mpr z)⟩⟩
theorem QV (C:Cr rows n cs) {k:Nat} (hk:k < n):jX (zp rows cs us n) count cs k=true ↔ xv rows n count us cs k:=by
 have s:=Ww (Wx C us hk)
 unfold jX xv
 rw [Bool.or_eq_true_iff,eC,decide_eq_true_iff,decide_eq_true_iff,decide_eq_true_iff]
 show _ ↔ zX ((zp rows cs us n).getD k (0,1)) < 0\/_/\zX ((zp rows cs us n).getD k (0,1))≠0
 rw [s.2.1]
 exact or_congr Iff.rfl ⟨λ⟨a,b⟩=>⟨a,λz=>b (s.2.2.mp z)⟩,λ⟨a,b⟩=>⟨a,λz=>b (s.2.2.mpr z)⟩⟩
theorem QW (C:Cr rows n cs) {k:Nat} (hk:k < n):gi (zp rows cs us n) k=true ↔ 0 < YC rows n cs us k:=by
 have s:=Ww (Wx C us hk)
 unfold gi
 rw [decide_eq_true_iff]
 exact s.1.symm
end
theorem zNa {rows:List (List Int)} {cs:List Nat} {us:List Int} {b:Int} {n:Nat} (lu:us.length=n):xc rows cs (us++[b]) n=xc rows cs us n:=by
 unfold xc
 exact eN λj hj=>by rw [qH lu (dz.mp hj)]
theorem zOV {rows:List (List Int)} {cs:List Nat} {us:List Int} {b:Int} {n:Nat} (lu:us.length=n):zp rows cs (us++[b]) n=zp rows cs us n:=by
 unfold zp
 rw [zNa lu]
theorem zPR {rows:List (List Int)} {n c r s:Nat} {x d:Nat->Rat} (M:vS rows n c x d r) (N:vS rows n c x d s):r=s:=by
 rcases mj r s with h | h | h
 ·have a:=N.first r h M.up
  have b:=M.all s N.lt N.up
  grind
 ·exact h
 ·have a:=M.first s h N.up
  have b:=N.all r M.lt M.up
  grind
section
variable {room ax:List (List Int)} {n:Nat}
theorem zPz {i:Nat} (h:i < room.length):(room++ax).getD i []=room.getD i []:=by
 rw [cz,eh h,<- cz]
theorem qU {i:Nat} (h:i < room.length) (z:Nat->Rat):VA (room++ax) n i z=VA room n i z/\BA (room++ax) n i=BA room n i:=by
 show vl n ((room++ax).getD i []) z=vl n (room.getD i []) z/\bo n ((room++ax).getD i [])=bo n (room.getD i [])
 rw [zPz h]
 exact ⟨rfl,rfl⟩
theorem QX {x d:Nat->Rat} {r:Nat} (M:vS room n room.length x d r):vS (room++ax) n room.length x d r:=by
 have hr:=M.lt
 have e:=λk (hk:k < room.length) z=>qU (ax:=ax) (n:=n) hk z
 refine ⟨hr,by rw [(e r hr d).1]; exact M.up,λk hk z=>?_,λk hk z=>?_⟩
 ·have hk':k < room.length:=by omega
  rw [(e k hk' d).1] at z
  rw [(e r hr x).1,(e r hr x).2,(e k hk' d).1,(e k hk' x).1,(e k hk' x).2,(e r hr d).1]
  exact M.first k hk z
 ·rw [(e k hk d).1] at z
  rw [(e r hr x).1,(e r hr x).2,(e k hk d).1,(e k hk x).1,(e k hk x).2,(e r hr d).1]
  exact M.all k hk z
end
theorem zMO {n j:Nat} {p:Nat} {c:Int} (h:j < n):(xZ (p:Int) n c).getD j 0=if (j:Int)=(p:Int) then c else 0:=by
 unfold xZ
 rw [cz,db,dY h]
 rfl
theorem XF {n k:Nat} (h:k < n):(zg n).getD k []=xZ (k:Int) n 1++[0]:=kF h
theorem QY (n:Nat):(zg n).length=n:=by unfold zg; rw [a_,cT]
theorem XG {room:List (List Int)} {n:Nat} (n1:1<=n) (n3:n<=2) (h:∀ r∈room,r.length=n + 1):uk (room++zg n) n room.length:=by
 refine ⟨n1,n3,λr hr=>?_,by rw [cA,QY],λk hk j hj=>?_⟩
 ·rcases dr.mp hr with hr | hr
  ·exact h r hr
  ·obtain ⟨k,_,e⟩:=cH.mp hr
   rw [<- e,cA,ug]
   rfl
 ·have e0:(room++zg n).getD (room.length + k) []=xZ (k:Int) n 1++[0]:=by
   rw [cz,dB (eB _ _),Nat.add_sub_cancel_left,<- cz,XF hk]
  rw [e0,qH (ug _ _ _) hj,zMO hj]
  by_cases e:j=k
  ·rw [if_pos e,if_pos (by rw [e])]
  ·rw [if_neg e,if_neg (by omega)]
theorem QZ {rows:List (List Int)} {n count r s:Nat} {cs:List Nat} (h:gA rows n count cs r) (k:gA rows n count cs s):r=s:=by
 rcases mj r s with z | z | z
 ·have:=k.2.2 r z
  have:=h.2.1
  grind
 ·exact z
 ·have:=h.2.2 s z
  have:=k.2.1
  grind
theorem zId {cs:List Nat} {ys:List D} {g:Nat->D->Bool} {p:Nat} (h1:p < cs.length) (h2:p < ys.length):((cs.zip ys).map λq=>g q.1 q.2).getD p false=g (cs.getD p 0) (ys.getD p .non):=by
 rw [cz,b_ (by rw [a_,d6]; omega),List.getElem_map,List.getElem_zip,cz,cz,b_ h1,b_ h2]
 rfl
def u7:D->Int × Int
 | .tup [x,y]=>(yD x,yD y)
 | _=>(0,1)
theorem zQm {pts:List (Int × Int)} {p:Nat} (h:p < pts.length):(pts.map zo).getD p .non=zo (pts.getD p (0,1)):=by
 rw [cz,db,b_ h,cz,b_ h]
 rfl
structure jx (rows:List (List Int)) (n count:Nat):Prop where
 ok:uk rows n count
 bd:∀ r∈rows,∀ x∈r,Bd 200 x
 few:rows.length<=100
 n2:n<=2
theorem jx.co {rows:List (List Int)} {n count:Nat} {cs:List Nat} (h:jx rows n count) (C:Cr rows n cs):Wu rows cs n:=⟨C,h.bd,h.few,h.n2⟩
theorem Wy {room:List (List Int)} {n:Nat} (h:kS room n) (n1:1<=n) (n2:n<=2):jx (room++zg n) n room.length:=by
 have few:=h.1
 refine ⟨XG n1 (by omega) λr hr=>(h.2 r hr).1,λr hr x hx=>?_,by rw [cA,QY]; omega,n2⟩
 rcases dr.mp hr with hr | hr
 ·exact (h.2 r hr).2 x hx
 ·obtain ⟨k,_,rfl⟩:=cH.mp hr
  rcases dr.mp hx with hx | hx
  ·exact Wn (xY (by decide)) x hx
  ·rw [df.mp hx]
   exact vJ
def XH:FL:=λds R=>∃ rows n count,ds=[Rm rows,.int ((count:Nat):Int)]/\jx rows n count/\R (cN (FC rows n count count))
def jy (R:D->Prop):wR->Prop
 | .emp _=>∀ X,R (.tup [.str "empty",X])
 | .mst f _ _ _=>0 < f.2->Bd 4000 f.1->Bd 2800 f.2->∀ X Y,R (.tup [.str "most",zo f,X,Y])
 | .opn _ _=>∀ X Y,R (.tup [.str "open",X,Y])
def zRv:FL:=λds R=>∃ room n m cs us b R0,ds=[Rm (room++zg n),.int ((room.length:Nat):Int),cN cs,U (us++[b])]/\kS room n/\1<=n/\n<=2/\Cr (room++zg n) n cs/\us.length=n/\(∀ x∈us,Bd 200 x)/\jH (room++zg n) n room.length us m cs R0/\jy R R0
def kT:FL:=λds R=>∃ room n m us b R0,ds=[Rm room,U (us++[b])]/\kS room n/\1<=n/\n<=2/\us.length=n/\(∀ x∈us,Bd 200 x)/\uB (room++zg n) n room.length us m (FC (room++zg n) n room.length room.length) R0/\jy R R0
structure Qa (e:Nat) (m:MD):Prop where
 nexts:∀ r∈m.nexts,∀ x∈r,Bd e x
 steer:∀ x∈m.steer,Bd e x
 push:∀ r∈m.push,∀ x∈r,Bd e x
 add:∀ x∈m.add,Bd e x
 div:Bd e m.div
 rows:∀ r∈m.rows,∀ x∈r,Bd e x
 few:m.rows.length<=100
theorem Qa.ms {e:Nat} {m:MD} (h:Qa e m) (k:e<=300):MS m:=⟨λr hr x hx=>(h.nexts r hr x hx).mono k,λr hr x hx=>(h.push r hr x hx).mono k,λx hx=>(h.add x hx).mono k,h.div.mono k,λr hr x hx=>(h.rows r hr x hx).mono k,h.few⟩
theorem md (a:Int) {b:Int} (h:0 < b):0<=a.fmod b/\a.fmod b < b:=⟨Int.fmod_nonneg_of_pos a h,Int.fmod_lt_of_pos a h⟩
theorem uX {n:Nat} {a b:Int} (h:Bd n b) (p:0 < b):Bd n (a.fmod b):=by
 have:=md a p
 exact h.of_le (by omega)
theorem XI {n:Nat} (h:n<=3):Bd 2 (n:Int):=by
 show (n:Int).natAbs < 2 ^ 2
 omega
theorem Qb {α:Type} {xs:List α} {i:Int} (h0:0<=i) (h1:i < (xs.length:Int)):∃ x∈xs,y3 xs i=some x:=by
 obtain ⟨k,rfl⟩:=ff h0
 have hk:k < xs.length:=by omega
 refine ⟨xs[k],dX hk,?_⟩
 unfold y3 xj
 rw [if_pos (by omega),if_pos (by omega)]
 show xs[((k:Nat):Int).toNat]? = _
 rw [show ((k:Nat):Int).toNat=k by omega,b_ hk]
theorem zR8 {xs:List Int} {i:Int} (h0:0<=i) (h1:i < (xs.length:Int)):∃ x∈xs,y3 (xs.map D.int) i=some (.int x):=by
 obtain ⟨x,hx,e⟩:=Qb h0 h1
 exact ⟨x,hx,by rw [Z7,e]; rfl⟩
theorem vz {xs:List Int} {i:Int} {R:D->Prop} (h0:0<=i) (h1:i < (xs.length:Int)) (q:∀ x∈xs,R (.int x)):∃ d,y3 (xs.map D.int) i=some d/\R d:=by
 obtain ⟨x,hx,e⟩:=zR8 h0 h1
 exact ⟨_,e,q x hx⟩
theorem Qc {xs:List D} {i:Int} {R:D->Prop} (h0:0<=i) (h1:i < (xs.length:Int)) (q:∀ x∈xs,R x):∃ d,y3 xs i=some d/\R d:=by
 obtain ⟨x,hx,e⟩:=Qb h0 h1
 exact ⟨_,e,q x hx⟩
theorem zR6 {y f:Int} {n:Nat} (h:Bd n f) (h1 : -f<=y) (h2:y<=f):Bd n y:=h.of_le (by omega)
theorem v4 {α:Type} {P:α->Prop} {xs:List α} {y:α} (h:∀ x∈xs,P x) (k:P y):∀ x∈xs++[y],P x:=λx hx=>by
 rcases dr.mp hx with hx | hx
 ·exact h x hx
 ·rw [df.mp hx]; exact k
theorem zNb {xs:List D} {k:Nat}:zq xs (some (k:Int)) none=xs.drop k:=by
 unfold zq
 rw [HT.sIx_none,HT.sIx_nat,cJ (by rw [d8]; omega)]
 by_cases h:k<=xs.length
 ·rw [mX h]
 ·rw [mL (by omega),mM,i4 (by omega)]
abbrev Wz:Int:=10 ^ (45:Int).toNat
def Qd:FL:=λds R=>∃ ns k,ds=[.scr ns,.int k]/\0<=k/\∀ c,R (.int c)
def Qe (xs:List Int):Prop:=∀ x∈xs,0<=x/\Bd 150 x
def W0:FL:=λds R=>∃ (c:Int) (n:Nat),ds=[.int c,.int (n:Int)]/\n<=100/\∀ xs,xs.length=n->Qe xs->R (L xs)
def W1:FL:=λds R=>∃ x far:Int,ds=[.int x,.int far]/\0<=far/\Bd 9000 far/\∀ y,-far<=y->y<=far->R (.int y)
def XJ:FL:=λds R=>∃ (c:Int) (n:Nat) (u:Int),ds=[.int c,.int (n:Int),.int u]/\n<=3/\0<=u/\Bd 100 u/\∀ bs:List (Int × Int),bs.length=n->(∀ b∈bs,b.1<=b.2/\Bd 105 b.1/\Bd 105 b.2)->R (.lst (bs.map zo))
def wO (n i:Nat) (b:Int × Int):List (List Int):=[xZ (i:Int) n 1++[b.2],(xZ (i:Int) n 1).map (λx=>0 - x)++[0 - b.1]]
def wo (bs:List (Int × Int)):List (List Int):=(bs.mapIdx (wO bs.length)).flatten
def Qf:FL:=λds R=>∃ bs:List (Int × Int),ds=[.lst (bs.map zo)]/\bs.length<=100/\R (Rm (wo bs))
abbrev wq (m:MD):D:=.tup [Rm m.rows,Tb m.nexts,L m.steer,Tb m.push,L m.add,.int m.div]
abbrev vY (n:Nat) (bs:List (Int × Int)) (ms:List MD) (u:Int):D:=.tup [.int (n:Int),.lst (bs.map zo),.lst (ms.map wq),.int u]
def Qg (C CM:Addr):FL:=λds R=>∃ n bs ms u,ds=[vY n bs ms u]/\wW n bs ms/\R (wS C CM n bs ms)
theorem zOF (i j:Nat):(if decide ((j:Int)=(i:Int))=true then (1:Int) else 0)=if (j:Int)=(i:Int) then 1 else 0:=by
 by_cases c:(j:Int)=(i:Int)
 ·rw [if_pos c,if_pos (decide_eq_true c)]
 ·rw [if_neg c,if_neg (by rw [decide_eq_false c]; exact dh)]
theorem zJF {bs:List (Int × Int)} {k:Nat} (h:k < bs.length) {i:Int} (e:i=(k:Int)):y3 (bs.map zo) i=some (zo bs[k]):=by
 rw [Z7,e]
 unfold y3 xj
 rw [if_pos (by omega),if_pos (by omega)]
 show fM zo bs[((k:Nat):Int).toNat]? = _
 rw [show ((k:Nat):Int).toNat=k by omega,b_ h]
 rfl
theorem zMT {α:Type} {l:List (List α)} {k:Nat} {x:List α} (h:l[k]? = some x):(l.take (k + 1)).flatten=(l.take k).flatten++x:=by
 rw [v8 h,List.flatten_append,List.flatten_singleton]
theorem zR5 {e:Nat} {a b:Int} (h:Bd e a) (k:Bd e b):Bd e (max a b):=by
 rw [Int.max_def]
 split
 ·exact k
 ·exact h
theorem jM {y:Int} {f n:Nat} (h:f < 2 ^ n) (h1 : -(f:Int)<=y) (h2:y<=(f:Int)):Bd n y:=by
 show y.natAbs < 2 ^ n
 omega
theorem zJG {α β:Type} {f:α->β} {l:List α} {k:Nat} {y:β} (h:(l.map f)[k]? = some y):∃ x,l[k]? = some x/\f x=y:=by
 rw [db] at h
 cases c:l[k]? with
 | none=>rw [c] at h; cases h
 | some x=>rw [c] at h; cases h; exact ⟨x,rfl,rfl⟩
def yh:List Int->List (Int × Int)->Int
 | x :: xs,b :: bs=>max (x * b.1) (x * b.2) + yh xs bs
 | _,_=>0
theorem zIi:∀ {xs:List Int} {bs:List (Int × Int)} {x:Int} {b:Int × Int},xs.length=bs.length->yh (xs++[x]) (bs++[b])=yh xs bs + max (x * b.1) (x * b.2)
 | [],[],x,b,_=>by show max (x * b.1) (x * b.2) + 0=0 + max (x * b.1) (x * b.2); omega
 | [],_ :: _,_,_,h=>nomatch h
 | _ :: _,[],_,_,h=>nomatch h
 | y :: xs,c :: bs,x,b,h=>by
  show max (y * c.1) (y * c.2) + yh (xs++[x]) (bs++[b])=max (y * c.1) (y * c.2) + yh xs bs + max (x * b.1) (x * b.2)
  rw [zIi (Nat.succ.inj h)]
  omega
theorem zOR {e f:Nat}:∀ {xs:List Int} {bs:List (Int × Int)},(∀ x∈xs,Bd f x)->(∀ b∈bs,Bd e b.1/\Bd e b.2)->Bd (f + e + xs.length) (yh xs bs)
 | [],_,_,_=>vJ
 | _ :: _,[],_,_=>vJ
 | x :: xs,b :: bs,h,k=>by
  have h1:=zR5 ((h x cD).mul (k b cD).1) ((h x cD).mul (k b cD).2)
  have h2:=zOR (xs:=xs) (bs:=bs) (λy hy=>h y (cB _ hy)) λc hc=>k c (cB _ hc)
  exact (h1.mono (eB _ _)).add h2
theorem zIh:∀ (xs:List Int) (bs:List (Int × Int)),yh (xs.take (min xs.length bs.length)) (bs.take (min xs.length bs.length))=yh xs bs
 | [],bs=>by rw [mY,Nat.zero_min]; rfl
 | x :: xs,[]=>by rw [mY,Nat.min_zero]; rfl
 | x :: xs,b :: bs=>by
  rw [dg,dg,Nat.succ_min_succ,ip,ip]
  show _ + yh _ _=_ + yh _ _
  rw [zIh xs bs]
def zRr:FL:=λds R=>∃ (d:D) (ns:List Int) (bs:List (Int × Int)) (e:Nat),ds=[d,.lst (bs.map zo)]/\IS d ns/\ns.length<=3/\(∀ x∈ns,Bd 200 x)/\e<=500/\(∀ b∈bs,Bd e b.1/\Bd e b.2)/\R (.int (yh ns bs))
structure kU (n w:Nat) (m:MD):Prop where
 ok:jV m n w
 nx:∀ r∈m.nexts,∀ x∈r,Bd 4 x
 ps:∀ r∈m.push,∀ x∈r,Bd 4 x
 ad:∀ x∈m.add,Bd 110 x
 st:∀ x∈m.steer,x=0
 dv:Bd 3 m.div
 r1:m.rows.length<=1
 rb:∀ r∈m.rows,(∀ x∈r.take n,Bd 4 x)/\∀ x∈r,Bd 110 x
theorem kU.mse {n w:Nat} {m:MD} (h:kU n w m):Qa 200 m:=⟨λr hr x hx=>(h.nx r hr x hx).mono,λx hx=>by rw [h.st x hx]; exact vJ,λr hr x hx=>(h.ps r hr x hx).mono,λx hx=>(h.ad x hx).mono,h.dv.mono,λr hr x hx=>((h.rb r hr).2 x hx).mono,by have:=h.r1; omega⟩
def fMd:FL:=λds R=>∃ (c:Int) (n w:Nat) (u:Int) (sp:Bool),ds=[.int c,.int (n:Int),.int (w:Int),.int u,.bool sp]/\1<=n/\n<=3/\w<=2/\1<=u/\Bd 100 u/\∀ m,kU n w m->R (wq m)
structure we (n:Nat) (bs:List (Int × Int)) (ms:List MD) (u:Int):Prop where
 n1:1<=n
 n3:n<=3
 b2:bs.length<=2
 bb:∀ b∈bs,b.1<=b.2/\Bd 105 b.1/\Bd 105 b.2
 m1:1<=ms.length
 m3:ms.length<=3
 md:∀ m∈ms,kU n bs.length m
 u1:1<=u
 bu:Bd 100 u
theorem we.ok {n:Nat} {bs:List (Int × Int)} {ms:List MD} {u:Int} (h:we n bs ms u):wW n bs ms:=⟨h.n1,h.n3,λb hb=>(h.bb b hb).1,by have:=h.b2; omega,h.m1,by have:=h.m3; omega,λm hm=>(h.md m hm).ok⟩
theorem we.cl {n:Nat} {bs:List (Int × Int)} {ms:List MD} {u:Int} (h:we n bs ms u):Y2 ms=true:=de.mpr λm hm=>de.mpr λx hx=>decide_eq_true ((h.md m hm).st x hx)
theorem we.ths {n:Nat} {bs:List (Int × Int)} {ms:List MD} {u:Int} (h:we n bs ms u):ThS n bs ms:=⟨h.ok,λm hm=>(h.md m hm).mse.ms (by decide),λb hb=>⟨(h.bb b hb).2.1.mono,(h.bb b hb).2.2.mono⟩⟩
def XM:FL:=λds R=>∃ ns,ds=[.scr ns]/\∀ n bs ms u,we n bs ms u->n<=2->R (vY n bs ms u)
structure xJ (room:List (List Int)) (n b:Nat):Prop where
 few:room.length<=12
 row:∀ r∈room,r.length=n + 1
 co:∀ r∈room,∀ x∈r.take n,Bd 4 x
 bo:∀ r∈room,Bd b (r.getD n 0)
theorem xJ.wid {room:List (List Int)} {n b c:Nat} (h:xJ room n b) (k:b<=c):xJ room n c:=⟨h.few,h.row,h.co,λr hr=>(h.bo r hr).mono k⟩
theorem zPS {r:List Int} {n:Nat} (h:r.length=n + 1) {x:Int} (hx:x∈r):x∈r.take n\/x=r.getD n 0:=by
 rw [<- Wv h] at hx
 rcases dr.mp hx with hx | hx
 ·exact .inl hx
 ·exact .inr (df.mp hx)
theorem xJ.rw {room:List (List Int)} {n b:Nat} (h:xJ room n b) (hb:b<=200):kS room n:=⟨by have:=h.few; omega,λr hr=>⟨h.row r hr,λx hx=>by
 rcases zPS (h.row r hr) hx with z | z
 ·exact (h.co r hr x z).mono
 ·rw [z]; exact (h.bo r hr).mono hb⟩⟩
open Classical in
noncomputable def mR (room:List (List Int)) (n:Nat) (us:List Int):wR:=if h:∃ R m,uB (room++zg n) n room.length us m (FC (room++zg n) n room.length room.length) R then Classical.choose h else .emp []
theorem zOC {room:List (List Int)} {n b:Nat} {us:List Int} (h:xJ room n b) (hb:b<=200) (n1:1<=n) (n2:n<=2) (lu:us.length=n):∃ m,uB (room++zg n) n room.length us m (FC (room++zg n) n room.length room.length) (mR room n us):=by
 obtain ⟨m,R,z⟩:=zND (us:=us) (Wy (h.rw hb) n1 n2).ok
 have ex:∃ R m,uB (room++zg n) n room.length us m (FC (room++zg n) n room.length room.length) R:=⟨R,m,z⟩
 unfold mR
 rw [dif_pos ex]
 exact h9 ex
def AtC (rows:List (List Int)) (n:Nat) (us:List Int):wR->Prop
 | .mst f _ _ _=>∃ cs,Cr rows n cs/\f=zS (yR us (zm rows cs n)).1 (yR us (zm rows cs n)).2
 | _=>True
theorem zR2 {rows:List (List Int)} {n count:Nat} {us:List Int} (hc:count<=rows.length):∀ {m:Nat} {cs:List Nat} {R:wR},jH rows n count us m cs R->Cr rows n cs->AtC rows n us R
 | _,_,_,.mst _,C=>⟨_,C,rfl⟩
 | _,_,_,.opn _ _,_=>trivial
 | _,_,_,.go h M z,C=>zR2 hc z (WL C hc h.lt (C.wayIs h.lt) M.lt M.up).1
theorem zRU {rows:List (List Int)} {n count:Nat} {us:List Int} (hc:count<=rows.length):∀ {m:Nat} {cs:List Nat} {R:wR},uB rows n count us m cs R->Cr rows n cs->AtC rows n us R
 | _,_,_,.done _ z,C=>zR2 hc z C
 | _,_,_,.emp _ _,_=>trivial
 | _,_,_,.go h l z,C=>zRU hc z (C.exch l.lt (cU h.1 hc) λy=>by
  have:=l.fit
  have y:YC rows n _ (rows.getD _ []) _=0:=y
  rw [y] at this
  exact absurd this eV)
abbrev Aq (V x:Rat):Prop:=-V<=x/\x<=V
theorem Aq.mul {U X u x:Rat} (h:Aq U u) (k:Aq X x):Aq (U * X) (u * x):=by
 have a:=dH (show 0<=U - u by grind) (show 0<=X + x by grind)
 have b:=dH (show 0<=U + u by grind) (show 0<=X - x by grind)
 have c:=dH (show 0<=U - u by grind) (show 0<=X - x by grind)
 have d:=dH (show 0<=U + u by grind) (show 0<=X + x by grind)
 exact ⟨by grind,by grind⟩
theorem Qh {d N M:Int} {x:Rat} (d0:d≠0) (e:(d:Rat) * x=(N:Rat)) (h1 : -M<=N) (h2:N<=M):Aq (M:Rat) x:=by
 have k1 : -(M:Rat)<=(N:Rat):=by exact_mod_cast h1
 have k2:(N:Rat)<=(M:Rat):=by exact_mod_cast h2
 rcases (by omega:1<=d\/1<=-d) with z | z
 ·have z:(1:Rat)<=(d:Rat):=by exact_mod_cast z
  refine ⟨?_,?_⟩ <;> apply cZ <;> intro c
  ·have:=dH (show 0<=(d:Rat) - 1 by grind) (show 0<=-x by grind)
   grind
  ·have:=dH (show 0<=(d:Rat) - 1 by grind) (show 0<=x by grind)
   grind
 ·have z:(1:Rat)<=-(d:Rat):=by exact_mod_cast z
  refine ⟨?_,?_⟩ <;> apply cZ <;> intro c
  ·have:=dH (show 0<=-(d:Rat) - 1 by grind) (show 0<=-x by grind)
   grind
  ·have:=dH (show 0<=-(d:Rat) - 1 by grind) (show 0<=x by grind)
   grind
theorem XN {k:Nat} {x:Int} (h:Bd k x) : -(2:Int) ^ k<=x/\x<=(2:Int) ^ k:=by
 have h:x.natAbs < 2 ^ k:=h
 have e:(2:Int) ^ k=((2 ^ k:Nat):Int):=by rw [mZ]; rfl
 rw [e]
 omega
theorem cr2 {ra rb re sa sb se:Int} {x y:Rat} (p:0 + (ra:Rat) * x + (rb:Rat) * y=(re:Rat)) (q:0 + (sa:Rat) * x + (sb:Rat) * y=(se:Rat)):((ra * sb - rb * sa:Int):Rat) * x=((re * sb - se * rb:Int):Rat)/\((ra * sb - rb * sa:Int):Rat) * y=((se * ra - re * sa:Int):Rat):=by
 rw [eK,eK,eK,cO,cO,cO,cO,cO,cO]
 exact ⟨by grind,by grind⟩
theorem crd {rows:List (List Int)} {n b:Nat} {cs:List Nat} (C:Cr rows n cs) (n2:n<=2) (hc:∀ r∈rows,∀ x∈r.take n,Bd 4 x) (hb:∀ r∈rows,Bd b (r.getD n 0)) {j:Nat} (hj:j < n):Aq (((2:Int) ^ (b + 5):Int):Rat) (zt (zm rows cs n) j):=by
 have n1:=C.n1
 have D:=C.detC
 have row:∀ k,k < n->(∀ i,i < n->Bd 4 ((rows.getD (cs.getD k 0) []).getD i 0))/\Bd b ((rows.getD (cs.getD k 0) []).getD n 0):=λk hk=>by
  obtain ⟨c1,c2⟩:=C.at_ hk
  have hm:=yf (d:=[]) c1
  exact ⟨λi hi=>hc _ hm _ (by rw [<- qI hi]; exact yf (by rw [cI]; omega)),hb _ hm⟩
 rcases (by omega:n=1\/n=2) with rfl | rfl
 ·obtain rfl:j=0:=by omega
  have p:=C.pt (k:=0) (by omega)
  obtain ⟨a,e⟩:=row 0 (by omega)
  have D:(rows.getD (cs.getD 0 0) []).getD 0 0≠0:=D
  have p:(0:Rat) + _ * zt (zm rows cs 1) 0=_:=p
  obtain ⟨z1,z2⟩:=XN (e.mono (show b<=b + 5 by omega))
  exact Qh D ((Rat.zero_add _).symm.trans p) z1 z2
 ·have p:=C.pt (k:=0) (by omega)
  have q:=C.pt (k:=1) (by omega)
  obtain ⟨a,e⟩:=row 0 (by omega)
  obtain ⟨a',e'⟩:=row 1 (by omega)
  have p:(0:Rat) + _ * zt (zm rows cs 2) 0 + _ * zt (zm rows cs 2) 1=_:=p
  have q:(0:Rat) + _ * zt (zm rows cs 2) 0 + _ * zt (zm rows cs 2) 1=_:=q
  have D:(rows.getD (cs.getD 0 0) []).getD 0 0 * (rows.getD (cs.getD 1 0) []).getD 1 0 - (rows.getD (cs.getD 0 0) []).getD 1 0 * (rows.getD (cs.getD 1 0) []).getD 0 0≠0:=D
  obtain ⟨k1,k2⟩:=cr2 p q
  rcases (by omega:j=0\/j=1) with rfl | rfl
  ·obtain ⟨z1,z2⟩:=XN (((e.mul (a' 1 (by omega))).sub (e'.mul (a 1 (by omega)))).mono (show _<=b + 5 by omega))
   exact Qh D k1 z1 z2
  ·obtain ⟨z1,z2⟩:=XN (((e'.mul (a 0 (by omega))).sub (e.mul (a' 0 (by omega)))).mono (show _<=b + 5 by omega))
   exact Qh D k2 z1 z2
def RV (k:Nat) (f:Int × Int):Prop:=0 < f.2/\-((2:Int) ^ k * f.2)<=f.1/\f.1<=(2:Int) ^ k * f.2
theorem zR7 {room:List (List Int)} {n b:Nat} (h:xJ room n b):(∀ r∈room++zg n,∀ x∈r.take n,Bd 4 x)/\∀ r∈room++zg n,Bd b (r.getD n 0):=by
 refine ⟨λr hr x hx=>?_,λr hr=>?_⟩ <;> rcases dr.mp hr with hr | hr
 ·exact h.co r hr x hx
 ·obtain ⟨k,_,rfl⟩:=cH.mp hr
  rw [dj (by rw [ug]; exact cF _)] at hx
  exact Wn (xY (by decide)) x (d7 hx)
 ·exact h.bo r hr
 ·obtain ⟨k,_,rfl⟩:=cH.mp hr
  rw [jZ (ug ..)]
  exact vJ
theorem XO {room:List (List Int)} {n b:Nat} {us:List Int} {f:Int × Int} {D:Int} {ns:List Int} {pts:List (Int × Int)} (h:xJ room n b) (hb:b<=200) (n1:1<=n) (n2:n<=2) (lu:us.length=n) (bu:∀ x∈us,Bd 12 x) (e:mR room n us=.mst f D ns pts):RV (b + 18) f:=by
 obtain ⟨m,run⟩:=zOC h hb n1 n2 lu
 have X:=Wy (h.rw hb) n1 n2
 have ll:=X.ok.len
 have at_:=zRU (by omega) run (Zk X.ok room.length (cF _))
 rw [e] at at_
 obtain ⟨cs,C,rfl⟩:=at_
 obtain ⟨s1,s2,_⟩:=qG C.sqC C.det
 obtain ⟨a1,a2⟩:=JD (us:=us) (pts:=zm (room++zg n) cs n) (by rw [lu]; exact s1.symm) s2
 rw [JC lu] at a2
 have ane:(yR us (zm (room++zg n) cs n)).2≠0:=by omega
 obtain ⟨f0,v⟩:=qF (t:=(yR us (zm (room++zg n) cs n)).1) ane
 rw [XB ane a2] at v
 have hu:∀ j,j < n->Aq (((2:Int) ^ 12:Int):Rat) ((us.getD j 0:Int):Rat):=λj hj=>by
  obtain ⟨z1,z2⟩:=XN (bu _ (yf (d:=0) (show j < us.length by omega)))
  exact ⟨by exact_mod_cast z1,by exact_mod_cast z2⟩
 have hx:=λj (hj:j < n)=>(hu j hj).mul (crd C n2 (zR7 h).1 (zR7 h).2 hj)
 have pw:(2:Int) ^ (b + 18)=2 * ((2:Int) ^ 12 * (2:Int) ^ (b + 5)):=by
  rw [<- Int.pow_add,show b + 18=(12 + (b + 5)) + 1 by omega,mB]
  omega
 have W:Aq (((2:Int) ^ (b + 18):Int):Rat) (vl n us (zt (zm (room++zg n) cs n))):=by
  rw [pw,cO,cO]
  unfold vl
  rcases (by omega:n=1\/n=2) with rfl | rfl
  ·have x0:=hx 0 (by omega)
   show Aq _ (0 + _ * _)
   have:((2:Int):Rat)=2:=rfl
   rw [this]
   constructor <;> grind
  ·have x0:=hx 0 (by omega)
   have x1:=hx 1 (by omega)
   show Aq _ (0 + _ * _ + _ * _)
   have:((2:Int):Rat)=2:=rfl
   rw [this]
   constructor <;> grind
 show RV (b + 18) (zY (yR us (zm (room++zg n) cs n)).1 (yR us (zm (room++zg n) cs n)).2,zM (yR us (zm (room++zg n) cs n)).1 (yR us (zm (room++zg n) cs n)).2)
 generalize zY (yR us (zm (room++zg n) cs n)).1 (yR us (zm (room++zg n) cs n)).2=t at *
 generalize zM (yR us (zm (room++zg n) cs n)).1 (yR us (zm (room++zg n) cs n)).2=d at *
 have vm:=vR (p:=(t,d)) f0
 rw [v] at vm
 have d0:=ui f0
 refine ⟨f0,?_,?_⟩
 ·have:=dH (show 0<=vl n us (zt (zm (room++zg n) cs n)) + (((2:Int) ^ (b + 18):Int):Rat) by grind) (dN d0)
  have z : -((((2:Int) ^ (b + 18) * d:Int)):Rat)<=(t:Rat):=by rw [cO]; grind
  exact_mod_cast z
 ·have:=dH (show 0<=(((2:Int) ^ (b + 18):Int):Rat) - vl n us (zt (zm (room++zg n) cs n)) by grind) (dN d0)
  have z:(t:Rat)<=((((2:Int) ^ (b + 18) * d:Int)):Rat):=by rw [cO]; grind
  exact_mod_cast z
def vZ (x d:Int):Int:=-((-x).fdiv d)
theorem zNm {k:Nat} {x:Int} (h1 : -(2:Int) ^ k<=x) (h2:x<=(2:Int) ^ k):Bd (k + 1) x:=by
 have e:(2:Int) ^ k=((2 ^ k:Nat):Int):=by rw [mZ]; rfl
 have p:0 < 2 ^ k:=Nat.pow_pos (by decide)
 show x.natAbs < 2 ^ (k + 1)
 rw [mq]
 rw [e] at h1 h2
 omega
theorem zOQ {x d:Int} {k:Nat} (d0:0 < d) (h1 : -((2:Int) ^ k * d)<=x) (h2:x<=(2:Int) ^ k * d):Bd (k + 1) (vZ x d):=by
 unfold vZ
 rw [Int.fdiv_eq_ediv_of_nonneg _ (iE d0)]
 have a : -(2:Int) ^ k<=(-x) / d:=Int.le_ediv_of_mul_le d0 (by rw [Int.neg_mul]; omega)
 have b:(-x) / d<=(2:Int) ^ k:=Int.ediv_le_of_le_mul d0 (by omega)
 exact zNm (by omega) (by omega)
theorem zPu {p q:Int × Int} (p0:0 < p.2) (q0:0 < q.2) (h:zX p=zX q):vZ p.1 p.2=vZ q.1 q.2:=by
 have a:=vR p0
 have b:=vR q0
 have e:(p.1:Rat) * (q.2:Rat)=(q.1:Rat) * (p.2:Rat):=by rw [<- a,<- b,h]; grind
 have e:p.1 * q.2=q.1 * p.2:=by exact_mod_cast e
 unfold vZ
 rw [<- iW (-p.1) p.2 q0,<- iW (-q.1) q.2 p0,hX p.2 q.2]
 congr 2
 rw [Int.mul_neg,Int.mul_neg,hX q.2,e,hX p.2]
def wr:wR->Bool
 | .mst ..=>true
 | _=>false
def qV:wR->Bool
 | .opn ..=>true
 | _=>false
def wP:wR->Int × Int
 | .mst f _ _ _=>f
 | _=>(0,1)
theorem zN0 {room:List (List Int)} {n b:Nat} {us:List Int} (h:xJ room n b) (hb:b<=200) (n1:1<=n) (n2:n<=2) (lu:us.length=n) (bu:∀ x∈us,Bd 12 x):RV (b + 18) (wP (mR room n us)):=by
 have p:(0:Int) < (2:Int) ^ (b + 18):=Int.pow_pos (by decide)
 cases e:mR room n us with
 | mst f _ _ _=>exact XO h hb n1 n2 lu bu e
 | emp _=>exact ⟨hV,by show -(_ * (1:Int))<=0; omega,by show 0<=_ * (1:Int); omega⟩
 | opn _ _=>exact ⟨hV,by show -(_ * (1:Int))<=0; omega,by show 0<=_ * (1:Int); omega⟩
noncomputable def vb (room:List (List Int)) (n:Nat) (s:List Int):Int:=vZ (wP (mR room n s)).1 (wP (mR room n s)).2
noncomputable def yj (room:List (List Int)) (n:Nat) (S:List (List Int)):Option (List (List Int)):=if S.all (λs=>wr (mR room n s))=true then some (S.map λs=>s++[vb room n s]) else none
def dO:Option (List (List Int))->D
 | none=>.non
 | some T=>Rm T
structure kW (S:List (List Int)) (n:Nat):Prop where
 few:S.length<=8
 ok:∀ s∈S,s.length=n/\∀ x∈s,Bd 4 x
theorem zOH {room:List (List Int)} {n:Nat} {S:List (List Int)} (h:xJ room n 110) (n1:1<=n) (n2:n<=2) (hS:kW S n) {T:List (List Int)} (e:yj room n S=some T):xJ T n 132:=by
 unfold yj at e
 split at e
 ·cases e
  refine ⟨by rw [a_]; have:=hS.few; omega,λr hr=>?_,λr hr x hx=>?_,λr hr=>?_⟩ <;> obtain ⟨s,hs,rfl⟩:=cH.mp hr <;> obtain ⟨ls,bs⟩:=hS.ok s hs
  ·rw [cA,ls]; rfl
  ·rw [dj (by omega),cJ (by omega)] at hx
   exact bs x hx
  ·rw [jZ ls]
   obtain ⟨a,b,c⟩:=zN0 (us:=s) h (by decide) n1 n2 ls λx hx=>(bs x hx).mono
   exact (zOQ a b c).mono
 ·cases e
def uH (n:Nat) (m:MD) (s:List Int):List Int:=(cR n).map (zx s m.nexts)
def wU (bs:List (Int × Int)) (m:MD) (s:List Int):Int:=yh ((cR bs.length).map (zx s m.push)) bs + yG s m.add
noncomputable def xF (room:List (List Int)) (n:Nat) (m:MD) (s:List Int):wR:=mR (room++m.rows) n (uH n m s)
noncomputable def bV (room:List (List Int)) (n:Nat) (bs:List (Int × Int)) (m:MD) (s:List Int):Int:=vZ ((wP (xF room n m s)).1 + wU bs m s * (wP (xF room n m s)).2) ((wP (xF room n m s)).2 * m.div)
noncomputable def bL (room:List (List Int)) (n:Nat) (bs:List (Int × Int)) (ms:List MD) (s:List Int):List Int:=(ms.filter λm=>wr (xF room n m s)).map λm=>bV room n bs m s
noncomputable def vB (room:List (List Int)) (n:Nat) (bs:List (Int × Int)) (ms:List MD) (s:List Int) (v:Int):Option Int:=if ms.any (λm=>qV (xF room n m s))=true then none else some ((bL room n bs ms s).foldl max v)
noncomputable def vC (n:Nat) (bs:List (Int × Int)) (ms:List MD) (room:List (List Int)):Option (List (List Int)):=if room.all (λr=>(vB room n bs ms (r.take n) (r.getD n 0)).isSome)=true then some (room.map λr=>r.take n++[(vB room n bs ms (r.take n) (r.getD n 0)).getD 0]) else none
noncomputable def u8 (n:Nat) (bs:List (Int × Int)) (ms:List MD):Nat->Option (List (List Int))->Option (List (List Int))
 | 0,_=>none
 | _ + 1,none=>none
 | t + 1,some T=>if vC n bs ms T=some T then some T else u8 n bs ms t (vC n bs ms T)
theorem Qi {n:Nat} {bs:List (Int × Int)} {ms:List MD}:∀ t,u8 n bs ms t none=none
 | 0=>rfl
 | _ + 1=>rfl
theorem Qj:∀ {xs:List Int} {v:Int},xs.foldl max v∈v :: xs/\∀ x∈v :: xs,x<=xs.foldl max v
 | [],v=>⟨cD,λx hx=>by rw [df.mp hx]; exact mV _⟩
 | y :: xs,v=>by
  obtain ⟨a,b⟩:=Qj (xs:=xs) (v:=max v y)
  have c:=b (max v y) cD
  show xs.foldl max (max v y)∈v :: y :: xs/\∀ x∈v :: y :: xs,x<=xs.foldl max (max v y)
  refine ⟨?_,λx hx=>?_⟩
  ·rcases da.mp a with a | a
   ·rw [a]
    rcases Int.le_total v y with z | z
    ·rw [Int.max_eq_right z]; exact cB _ cD
    ·rw [Int.max_eq_left z]; exact cD
   ·exact cB _ (cB _ a)
  ·rcases da.mp hx with rfl | hx
   ·omega
   ·rcases da.mp hx with rfl | hx
    ·omega
    ·exact b x (cB _ hx)
theorem Qk {n w:Nat} {m:MD} {s:List Int} (M:kU n w m) (n2:n<=2) (ls:s.length=n) (bs:∀ x∈s,Bd 4 x):(uH n m s).length=n/\∀ x∈uH n m s,Bd 12 x:=by
 refine ⟨by unfold uH; rw [a_,cT],λx hx=>?_⟩
 obtain ⟨j,_,rfl⟩:=cH.mp hx
 exact (zMA bs M.nx).mono (by omega)
theorem Ql {n:Nat} {bs:List (Int × Int)} {ms:List MD} {u:Int} {m:MD} {s:List Int} (T:we n bs ms u) (hm:m∈ms) (n2:n<=2) (ls:s.length=n) (hs:∀ x∈s,Bd 4 x):(∀ x∈(cR bs.length).map (zx s m.push),Bd 12 x)/\Bd 121 (wU bs m s):=by
 have b2:=T.b2
 have a:∀ x∈(cR bs.length).map (zx s m.push),Bd 12 x:=λx hx=>by
  obtain ⟨j,_,rfl⟩:=cH.mp hx
  exact (zMA hs (T.md m hm).ps).mono (by omega)
 refine ⟨a,?_⟩
 have t:Bd 120 (yh ((cR bs.length).map (zx s m.push)) bs):=(zOR a λb hb=>(T.bb b hb).2).mono (by rw [a_,cT]; omega)
 exact t.add ((QI hs (T.md m hm).ad).mono (by omega))
theorem xJ.app {room:List (List Int)} {n b:Nat} {bs:List (Int × Int)} {ms:List MD} {u:Int} {m:MD} (h:xJ room n b) (hb:110<=b) (few:room.length<=8) (T:we n bs ms u) (hm:m∈ms):xJ (room++m.rows) n b:=by
 have M:=T.md m hm
 have r1:=M.r1
 refine ⟨by rw [cA]; omega,λr hr=>?_,λr hr=>?_,λr hr=>?_⟩ <;> rcases dr.mp hr with hr | hr
 ·exact h.row r hr
 ·exact M.ok.rows r hr
 ·exact h.co r hr
 ·exact (M.rb r hr).1
 ·exact h.bo r hr
 ·exact ((M.rb r hr).2 _ (yf (by rw [M.ok.rows r hr]; omega))).mono hb
theorem XQ {room:List (List Int)} {n b:Nat} {bs:List (Int × Int)} {ms:List MD} {u:Int} {m:MD} {s:List Int} (h:xJ room n b) (hb:110<=b) (hb2:b<=200) (few:room.length<=8) (T:we n bs ms u) (hm:m∈ms) (n2:n<=2) (ls:s.length=n) (hs:∀ x∈s,Bd 4 x):Bd (b + 22) (bV room n bs m s):=by
 have M:=T.md m hm
 obtain ⟨l1,l2⟩:=Qk M n2 ls hs
 obtain ⟨a,b1,b2⟩:=zN0 (h.app hb few T hm) hb2 T.n1 n2 l1 l2
 obtain ⟨m1,m2⟩:=XN ((Ql T hm n2 ls hs).2.mono (show 121<=b + 18 by omega))
 have d1:=M.ok.div
 unfold bV
 show Bd _ (vZ ((wP (mR (room++m.rows) n (uH n m s))).1 + wU bs m s * (wP (mR (room++m.rows) n (uH n m s))).2) ((wP (mR (room++m.rows) n (uH n m s))).2 * m.div))
 generalize wP (mR (room++m.rows) n (uH n m s))=f at *
 generalize wU bs m s=mo at *
 have p:(0:Int) < (2:Int) ^ (b + 18):=Int.pow_pos (by decide)
 have x1:=ia m1 (iE a)
 have x2:=ia m2 (iE a)
 rw [Int.neg_mul] at x1
 have y:=fg (show f.2<=f.2 * m.div by
  have:=fg d1 (iE a)
  omega) (show 0<=(2:Int) ^ (b + 19) by rw [mB]; omega)
 have e:(2:Int) ^ (b + 19) * f.2=2 * ((2:Int) ^ (b + 18) * f.2):=by rw [mB,hX _ 2,ng]
 exact (zOQ (k:=b + 19) (eY a (by omega)) (by omega) (by omega)).mono (by omega)
theorem XR {room:List (List Int)} {n b:Nat} {bs:List (Int × Int)} {ms:List MD} {u:Int} {s:List Int} {v:Int} (h:xJ room n b) (hb:110<=b) (hb2:b<=200) (few:room.length<=8) (T:we n bs ms u) (n2:n<=2) (ls:s.length=n) (hs:∀ x∈s,Bd 4 x) (bv:Bd b v):Bd (b + 22) ((vB room n bs ms s v).getD 0):=by
 unfold vB
 split
 ·exact vJ
 ·rcases da.mp (Qj (xs:=bL room n bs ms s) (v:=v)).1 with z | z
  ·show Bd _ (lj max v _)
   rw [z]
   exact bv.mono (by omega)
  ·obtain ⟨m,hm,e⟩:=cH.mp z
   show Bd _ (lj max v _)
   rw [<- e]
   exact XQ h hb hb2 few T (eF.mp hm).1 n2 ls hs
theorem zRP {room:List (List Int)} {n b:Nat} {bs:List (Int × Int)} {ms:List MD} {u:Int} (h:xJ room n b) (hb:110<=b) (hb2:b<=200) (few:room.length<=8) (T:we n bs ms u) (n2:n<=2) {T':List (List Int)} (e:vC n bs ms room=some T'):xJ T' n (b + 22)/\T'.length<=8:=by
 unfold vC at e
 split at e
 ·cases e
  refine ⟨⟨by rw [a_]; omega,λr hr=>?_,λr hr x hx=>?_,λr hr=>?_⟩,by rw [a_]; exact few⟩ <;> obtain ⟨s,hs,rfl⟩:=cH.mp hr <;> have ls:=h.row s hs <;> have lt:(s.take n).length=n:=by rw [cI]; omega
  ·rw [cA,lt]; rfl
  ·rw [dj (by omega),cJ (by omega)] at hx
   exact h.co s hs x hx
  ·rw [jZ lt]
   exact XR h hb hb2 few T n2 lt (h.co s hs) (h.bo s hs)
 ·cases e
theorem zLg {room:List (List Int)} {n:Nat} {S T:List (List Int)} (hS:kW S n) (e:yj room n S=some T):T.length<=8:=by
 unfold yj at e
 split at e
 ·cases e
  rw [a_]
  exact hS.few
 ·cases e
theorem zLc {n:Nat} {bs:List (Int × Int)} {ms:List MD} (t:Nat) (T:List (List Int)):u8 n bs ms (t + 1) (some T)=if vC n bs ms T=some T then some T else u8 n bs ms t (vC n bs ms T):=rfl
def XS:FL:=λds R=>∃ room n b us c,ds=[Rm room,U (us++[c])]/\xJ room n b/\b<=200/\1<=n/\n<=2/\us.length=n/\(∀ x∈us,Bd 12 x)/\jy R (mR room n us)
theorem W4 (ds:List D) (R:D->Prop) (h:XS ds R):kT ds R:=by
 obtain ⟨room,n,b,us,c,rfl,h,hb,n1,n2,lu,bu,q⟩:=h
 obtain ⟨m,run⟩:=zOC h hb n1 n2 lu
 exact ⟨room,n,m,us,c,_,rfl,h.rw hb,n1,n2,lu,λx hx=>(bu x hx).mono,run,q⟩
theorem W5 {P:Program} {w:World} {K:b'} {mg:Str->Option Value} {base:Heap} {x:Str} {ps:List Str} {k:Nat} {F G:FL} (i:∀ ds R,G ds R->F ds R) (c:Fn P w K mg base x ps k (zG F)):Fn P w K mg base x ps k (zG G):=by
 obtain ⟨f,fd,a,b⟩:=c.ex
 exact ⟨f,fd,zF.impN (λvs H Q E ⟨Z,ds,R,zd,hv,h,q⟩=>⟨Z,ds,R,zd,hv,i _ _ h,q⟩) a,b⟩
theorem zOO:∀ xs ys:List (List Int),eU (wB (xs.map U)) (wB (ys.map U))=decide (xs=ys)
 | [],[]=>rfl
 | [],_ :: _=>rfl
 | _ :: _,[]=>rfl
 | x :: xs,y :: ys=>by
  show (dP (U x).py (U y).py && eU (wB (xs.map U)) (wB (ys.map U)))=_
  rw [zOO xs ys]
  have:dP (U x).py (U y).py=decide (x=y):=by
   show eU (wB (x.map D.int)) (wB (y.map D.int))=_
   rw [Zw,Zw]
   exact Uu x y
  rw [this,fz,eQ,decide_eq_true_iff,decide_eq_true_iff,decide_eq_true_iff,List.cons.injEq]
def vD (q:Int × Int × Int):Int:=if 0 < q.1 then q.2.2 else q.2.1
theorem zKS:∀ {cs:List Int} {bs:List (Int × Int)},(∀ b∈bs,b.1<=b.2)->yG cs ((cs.zip bs).map vD)=yh cs bs
 | [],_,_=>rfl
 | _ :: _,[],_=>rfl
 | c :: cs,b :: bs,h=>by
  have hb:=h b cD
  show c * (if 0 < c then b.2 else b.1) + yG cs ((cs.zip bs).map vD)=max (c * b.1) (c * b.2) + yh cs bs
  rw [zKS λx hx=>h x (cB _ hx)]
  congr 1
  by_cases z:0 < c
  ·have:=fg hb (iE z)
   rw [if_pos z]; omega
  ·have:=Int.mul_le_mul_of_nonpos_left (a:=c) (by omega) hb
   rw [if_neg z]; omega
def zOJ (C CM:Addr):FL:=λds R=>∃ n bs ms a c e,ds=[wS C CM n bs ms,U (a++c++[e])]/\a.length=n/\c.length=bs.length/\bs.length<=6/\n<=3/\R (L ((c.zip bs).map vD))
def zJJ (C CM:Addr):FL:=λds R=>∃ n bs ms a c e,ds=[wS C CM n bs ms,U (a++c++[e])]/\a.length=n/\c.length=bs.length/\bs.length<=6/\n<=3/\(∀ b∈bs,b.1<=b.2/\Bd 110 b.1/\Bd 110 b.2)/\(∀ x∈c,Bd 400 x)/\R (U (a++[e - yh c bs]))
theorem Qm {a c:List Int} {e:Int} {n:Nat} (h:a.length=n):zq ((a++c++[e]).map D.int) none (some ((n:Nat):Int))=a.map D.int:=by
 unfold zq
 have e0:HT.sIx ((a++c++[e]).map D.int).length 0 none=0:=HT.sIx_none _ _
 have e1:HT.sIx ((a++c++[e]).map D.int).length ((a++c++[e]).map D.int).length (some ((n:Nat):Int))=n:=by rw [HT.sIx_nat,a_,cA,cA]; omega
 rw [e0,e1,fo,hZ,<- fW,eZ,dj (by omega),cJ (by omega)]
theorem XT {a c:List Int} {e:Int} {n:Nat} (h:a.length=n):zq ((a++c++[e]).map D.int) (some ((n:Nat):Int)) (some (-1))=c.map D.int:=by
 unfold zq
 have l:((a++c++[e]).map D.int).length=n + c.length + 1:=by rw [a_,cA,cA,h]; rfl
 have e0:HT.sIx ((a++c++[e]).map D.int).length 0 (some ((n:Nat):Int))=n:=by rw [HT.sIx_nat,l]; omega
 have e1:HT.sIx ((a++c++[e]).map D.int).length ((a++c++[e]).map D.int).length (some (-1))=n + c.length:=by
  rw [l]
  show (if (-1:Int) < 0 then ((-1:Int) + ((n + c.length + 1:Nat):Int)).toNat else min (-1:Int).toNat (n + c.length + 1))=_
  rw [if_pos (by decide)]
  omega
 rw [e0,e1,<- iX,<- fW,eZ,List.drop_append_of_le_length (by omega),List.drop_eq_nil_of_le (show a.length<=n by omega),mT,show n + c.length - n=c.length by omega,dj (cF _),cJ (cF _)]
theorem Qn {a c:List Int} {e:Int}:y3 ((a++c++[e]).map D.int) (-1)=some (.int e):=Wp (a++c) e
theorem XU {α β:Type} {f:α->β} {l:List α} {k:Nat} {d:β} (h:(l.map f)[k]? = some d):∃ x,l[k]? = some x/\d=f x:=by
 rw [db] at h
 cases e:l[k]? with
 | none=>rw [e] at h; cases h
 | some x=>rw [e] at h; exact ⟨x,rfl,(Option.some.inj h).symm⟩
def oI:Option Int->D
 | none=>.non
 | some x=>.int x
theorem kX:∀ a b:Option (List (List Int)),dP (dO a).py (dO b).py=decide (a=b)
 | none,none=>rfl
 | none,some _=>rfl
 | some _,none=>rfl
 | some a,some b=>(zOO a b).trans (decide_eq_decide.mpr (by rw [Option.some.injEq]))
theorem jN:∀ a:Option (List (List Int)),(dO a).pl 50=true
 | none=>rfl
 | some T=>de.mpr λd m=>by
  obtain ⟨r,_,rfl⟩:=cH.mp m
  exact JO 47 r
def u9:FL:=λds R=>∃ yC n S,ds=[Rm yC,.lst (S.map U)]/\xJ yC n 110/\1<=n/\n<=2/\kW S n/\R (dO (yj yC n S))
def XV (C CM:Addr):FL:=λds R=>∃ n bs ms u room b s v,ds=[wS C CM n bs ms,Rm room,U (s++[v])]/\we n bs ms u/\n<=2/\xJ room n b/\110<=b/\b<=200/\room.length<=8/\s.length=n/\(∀ x∈s,Bd 4 x)/\R (oI (vB room n bs ms s v))
def gj (C CM:Addr):FL:=λds R=>∃ n bs ms u room b,ds=[wS C CM n bs ms,Rm room]/\we n bs ms u/\n<=2/\xJ room n b/\110<=b/\b<=200/\room.length<=8/\R (dO (vC n bs ms room))
def XW (C CM:Addr):FL:=λds R=>∃ n bs ms u yC S t,ds=[wS C CM n bs ms,Rm yC,.lst (S.map U),.int ((t:Nat):Int)]/\t<=1/\we n bs ms u/\n<=2/\xJ yC n 110/\kW S n/\R (dO (u8 n bs ms (t + 1) (yj yC n S)))
theorem jz (s:List Int) (z:Int):D.tup (s.map D.int++[.int z])=U (s++[z]):=by unfold U; rw [cP]; rfl
theorem XX {α:Type} {P:α->Prop} {l:List α} {k:Nat} {x:α} (hx:l[k]? = some x) (h:∀ y∈l.take k,P y) (p:P x):∀ y∈l.take (k + 1),P y:=by
 rw [v8 hx]
 exact v4 h p
theorem zRZ {f:Int × Int} {mo d:Int} (f0:0 < f.2) (d0:0 < d):vZ (f.1 + mo * f.2) (f.2 * d)=vZ (zS ((zS (f.1 * 1 - (-mo) * f.2) (f.2 * 1)).1 * (zS 1 d).1) ((zS (f.1 * 1 - (-mo) * f.2) (f.2 * 1)).2 * (zS 1 d).2)).1 (zS ((zS (f.1 * 1 - (-mo) * f.2) (f.2 * 1)).1 * (zS 1 d).1) ((zS (f.1 * 1 - (-mo) * f.2) (f.2 * 1)).2 * (zS 1 d).2)).2:=by
 obtain ⟨m1,m2⟩:=QR (p:=f) (q:=(-mo,1)) f0 hV
 obtain ⟨w1,w2⟩:=qF (t:=1) (b:=d) (by omega)
 obtain ⟨k1,k2⟩:=QS (p:=zS (f.1 * 1 - (-mo) * f.2) (f.2 * 1)) (q:=zS 1 d) m1 w1
 refine zPu (p:=(f.1 + mo * f.2,f.2 * d)) (eY f0 d0) k1 ?_
 rw [show zX _=_ from k2,show zX (zS (f.1 * 1 - (-mo) * f.2) (f.2 * 1))=_ from m2,show zX (zS 1 d)=_ from w2,zKH]
 have a:=ui f0
 have b:=ui d0
 have c:=vR f0
 refine XB (by have:=eY f0 d0; omega) ?_
 rw [fU,cO,cO,Rat.intCast_neg,eJ,show ((1:Int):Rat)=1 from rfl,Rat.one_mul,<- c]
 have e:=fy (d:Rat) (by grind)
 grind
theorem zQN:∀ {us vs:List Int},us.length=vs.length->((cR us.length).map λi=>us.getD i 0 * vs.getD i 0).sum=yG us vs
 | [],[],_=>rfl
 | [],_ :: _,h=>nomatch h
 | _ :: _,[],h=>nomatch h
 | u :: us,v :: vs,h=>by
  rw [dg,i5,di,c_,iU]
  show u * v + ((cR us.length).map λi=>us.getD i 0 * vs.getD i 0).sum=u * v + yG us vs
  rw [zQN (Nat.succ.inj h)]
theorem Qo {j:Nat}:∀ {us:List Int} {ls:List (List Int)},us.length=ls.length->((cR us.length).map λi=>us.getD i 0 * (ls.getD i []).getD j 0).sum=zx us ls j
 | [],[],_=>rfl
 | [],_ :: _,h=>nomatch h
 | _ :: _,[],h=>nomatch h
 | u :: us,v :: vs,h=>by
  rw [dg,i5,di,c_,iU]
  show u * v.getD j 0 + ((cR us.length).map λi=>us.getD i 0 * (vs.getD i []).getD j 0).sum=u * v.getD j 0 + zx us vs j
  rw [Qo (Nat.succ.inj h)]
def XY (d:D):wR->Prop
 | .emp _=>∃ X,d=.tup [.str "empty",X]
 | .mst f _ _ _=>0 < f.2/\Bd 4000 f.1/\Bd 2800 f.2/\∃ X Y,d=.tup [.str "most",zo f,X,Y]
 | .opn _ _=>∃ X Y,d=.tup [.str "open",X,Y]
theorem Qp {R:D->Prop}:∀ r:wR,(∀ d,XY d r->R d)->jy R r
 | .emp _,h=>λX=>h _ ⟨X,rfl⟩
 | .mst _ _ _ _,h=>λa b c X Y=>h _ ⟨a,b,c,X,Y,rfl⟩
 | .opn _ _,h=>λX Y=>h _ ⟨X,Y,rfl⟩
def qW (room:List (List Int)) (n:Nat) (bs:List (Int × Int)) (m:MD) (s:List Int):wR->D
 | .emp _=>.str "empty"
 | .opn _ _=>.str "open"
 | .mst f _ _ _=>.int (vZ (f.1 + wU bs m s * f.2) (f.2 * m.div))
def XZ:FL:=λds R=>∃ n bs ms u m room b s,ds=[vY n bs ms u,wq m,Rm room,U s]/\m∈ms/\we n bs ms u/\n<=2/\xJ room n b/\110<=b/\b<=200/\room.length<=8/\s.length=n/\(∀ x∈s,Bd 4 x)/\R (qW room n bs m s (xF room n m s))
def Xa:FL:=λds R=>∃ n bs ms u room b,ds=[vY n bs ms u,Rm room]/\we n bs ms u/\n<=2/\xJ room n b/\110<=b/\b<=200/\room.length<=8/\R (dO (vC n bs ms room))
def zQC:D->MD
 | .tup [.lst r,.lst n,.lst s,.lst p,.lst a,.int d]=>⟨r.map yA,n.map yA,s.map yD,p.map yA,a.map yD,d⟩
 | _=>⟨[],[],[],[],[],0⟩
theorem zMN (m:MD):zQC (wq m)=m:=by
 show (⟨(m.rows.map U).map yA,(m.nexts.map L).map yA,(m.steer.map D.int).map yD,(m.push.map L).map yA,(m.add.map D.int).map yD,m.div⟩:MD)=m
 have e1:∀ t:List (List Int),(t.map U).map yA=t:=λt=>by rw [c_]; exact (eN λr _=>QA r).trans (fI _)
 have e2:∀ t:List (List Int),(t.map L).map yA=t:=λt=>by rw [c_]; exact (eN λr _=>gZ r).trans (fI _)
 have e3:∀ t:List Int,(t.map D.int).map yD=t:=λt=>by rw [c_]; exact fI _
 rw [e1,e2,e2,e3,e3]
theorem zQs (k:Nat) {room:List (List Int)} {n:Nat} {bs:List (Int × Int)} {m:MD} {s:List Int}:∀ r:wR,(qW room n bs m s r).pl (k + 1)=true
 | .emp _=>show iC "empty" = true by decide +kernel
 | .mst _ _ _ _=>rfl
 | .opn _ _=>show iC "open" = true by decide +kernel
theorem zPo {room:List (List Int)} {n:Nat} {bs:List (Int × Int)} {m:MD} {s:List Int}:∀ r:wR,dP (qW room n bs m s r).py (D.str "open").py=qV r
 | .emp _=>show dP (.str "empty") (.str "open")=false by decide +kernel
 | .mst _ _ _ _=>rfl
 | .opn _ _=>show dP (.str "open") (.str "open")=true by decide +kernel
theorem zRw {room:List (List Int)} {n:Nat} {bs:List (Int × Int)} {m:MD} {s:List Int}:∀ r:wR,qV r=false->(true != dP (qW room n bs m s r).py (D.str "empty").py)=wr r
 | .emp _,_=>show (true != dP (.str "empty") (.str "empty"))=false by decide +kernel
 | .mst _ _ _ _,_=>rfl
 | .opn _ _,h=>nomatch h
theorem zJa {room:List (List Int)} {n:Nat} {bs:List (Int × Int)} {s:List Int}:∀ ms:List MD,((wB (ms.map λm=>qW room n bs m s (xF room n m s))).any λy=>dP y (D.str "open").py)=ms.any λm=>qV (xF room n m s)
 | []=>rfl
 | m :: ms=>by
  show (dP (qW room n bs m s (xF room n m s)).py (D.str "open").py || _)=_
  rw [zPo,zJa ms]
  rfl
theorem zOI {room:List (List Int)} {n:Nat} {bs:List (Int × Int)} {s:List Int}:∀ ms:List MD,(∀ m∈ms,qV (xF room n m s)=false)->((ms.map λm=>qW room n bs m s (xF room n m s)).filter λd=>true != dP d.py (D.str "empty").py)=(bL room n bs ms s).map D.int
 | [],_=>rfl
 | m :: ms,h=>by
  have ih:=zOI (bs:=bs) ms λx hx=>h x (cB _ hx)
  have e:=zRw (room:=room) (n:=n) (bs:=bs) (m:=m) (s:=s) _ (h m cD)
  rw [di]
  unfold bL at ih |-
  cases c:wr (xF room n m s) with
  | true=>
   rw [fX (by rw [e]; exact c),fX (p:=λm=>wr (xF room n m s)) c,ih,di,di]
   congr 1
   unfold bV
   cases hr:xF room n m s with
   | mst f _ _ _=>rfl
   | emp _=>rw [hr] at c; cases c
   | opn _ _=>rw [hr] at c; cases c
  | false=>rw [fY (by rw [e,c]; exact dh),fY (p:=λm=>wr (xF room n m s)) (by rw [c]; exact dh),ih]
theorem zR3 {bx:List (Int × Int)} {n:Nat} (lb:bx.length=n) (n2:n<=2) (hb:∀ b∈bx,Bd 105 b.1/\Bd 105 b.2):xJ (wo bx) n 106/\(wo bx).length=2 * n:=by
 have len:(wo bx).length=2 * n:=by
  unfold wo
  rw [lM]
  have e:(bx.mapIdx (wO bx.length)).map im=cG n 2:=by
   refine mO (by simp; omega) λi h1 h2=>?_
   simp [wO]
  rw [e]
  simp
  omega
 have key:∀ r∈wo bx,∃ (us:List Int) (v:Int),r=us++[v]/\us.length=n/\(∀ x∈us,Bd 4 x)/\Bd 106 v:=λr hr=>by
  obtain ⟨l,hl,hr⟩:=List.mem_flatten.mp hr
  obtain ⟨i,hi,rfl⟩:=List.mem_mapIdx.mp hl
  obtain ⟨b1,b2⟩:=hb _ (dX hi)
  have bu:∀ x∈xZ (i:Int) bx.length 1,Bd 4 x:=Wn (xY (by decide))
  rcases da.mp hr with rfl | hr
  ·exact ⟨_,_,rfl,by rw [ug]; exact lb,bu,b2.mono⟩
  ·rw [df.mp hr]
   refine ⟨_,_,rfl,by rw [a_,ug]; exact lb,λx hx=>?_,by rw [e9]; exact b1.neg.mono⟩
   obtain ⟨y,hy,rfl⟩:=cH.mp hx
   rw [e9]
   exact (bu y hy).neg
 refine ⟨⟨by omega,λr hr=>?_,λr hr x hx=>?_,λr hr=>?_⟩,len⟩ <;> obtain ⟨us,v,rfl,lu,bu,bv⟩:=key r hr
 ·rw [cA,lu]; rfl
 ·rw [dj (by omega),cJ (by omega)] at hx
  exact bu x hx
 ·rw [jZ lu]; exact bv
def Xb:FL:=λds R=>∃ (bx:List (Int × Int)) (n:Nat) (c:Int),ds=[.lst (bx.map zo),.int c]/\bx.length=n/\1<=n/\n<=2/\(∀ b∈bx,Bd 105 b.1/\Bd 105 b.2)/\∀ T,xJ T n 110->R (Rm T)
def Xc:FL:=λds R=>∃ (n:Nat) (c:Int),ds=[.int (n:Int),.int c]/\1<=n/\n<=2/\∀ S,kW S n->R (.lst (S.map U))
theorem W6 {α:Type} {l:List α} {k:Nat} {x:α} (h:x∈l.eraseIdx k):x∈l:=List.mem_of_mem_eraseIdx h
theorem Qq {α β:Type} (f:α->β):∀ (l:List α) (k:Nat),(l.map f).eraseIdx k=(l.eraseIdx k).map f
 | [],_=>rfl
 | _ :: _,0=>rfl
 | _ :: l,k + 1=>congrArg _ (Qq f l k)
structure Er (K:b') (mg:Str->Option Value) (cC:Addr):Prop where
 mgC:mg "NotClosed" = some (.ref cC)
 excC:iS K cC bmV "ValueError.__new__" = true
 cc:lE K (.ref cC) (.ref cC)=some true
inductive qX (C CM cC:Addr) (k:Nat) (c:Addr) (ds:List D):Prop
 | mk (n:Nat) (bs:List (Int × Int)) (ms:List MD) (es:List D) (e:ds=wS C CM n bs ms :: es) (l:es.length=k) (h:wW n bs ms) (cl:Y2 ms=false) (hc:c=cC):qX C CM cC k c ds
def Xd:FL:=λds R=>∃ n bs ms u d1 d2 d3,ds=[vY n bs ms u,d1,d2,d3]/\we n bs ms u/\R (.bool true)
theorem zNn {n:Nat} {bs:List (Int × Int)} {ms:List MD} {u:Int} {m:MD} (T:we n bs (ms++[m]) u):wW n bs (ms++[{ m with steer:=m.steer.drop 1++[1] }])/\Y2 (ms++[{ m with steer:=m.steer.drop 1++[1] }])=false:=by
 have O:=T.ok
 have MO:=O.mok m (dr.mpr (.inr (df.mpr rfl)))
 have l1:=O.m1
 have l2:=O.m40
 rw [cA] at l1 l2
 have n1:=O.n1
 refine ⟨⟨n1,O.n3,O.bok,O.b6,by rw [cA]; exact l1,by rw [cA]; exact l2,λx hx=>?_⟩,?_⟩
 ·rcases dr.mp hx with hx | hx
  ·exact O.mok x (dr.mpr (.inl hx))
  ·rw [df.mp hx]
   exact ⟨MO.rows,MO.few,MO.nexts,by show (m.steer.drop 1++[1]).length=n; rw [cA,d8,MO.steer]; show n - 1 + 1=n; omega,MO.push,MO.add,MO.div,MO.n3,MO.p6⟩
 ·refine ml.mpr λc=>?_
  have k:=de.mp (de.mp c _ (dr.mpr (.inr (df.mpr rfl)))) 1 (dr.mpr (.inr (df.mpr rfl)))
  cases k
theorem zPr {α:Type} (xs:List α):zq xs (some 1) none=xs.drop 1:=by
 unfold zq
 rw [HT.sIx_none,show (1:Int)=((1:Nat):Int) from rfl,HT.sIx_nat,cJ (by rw [d8]; omega)]
 by_cases h:1<=xs.length
 ·rw [mX h]
 ·rw [mL (by omega),mM,i4 (by omega)]
theorem zNc {xs:List D} {y:D}:zq (xs++[y]) none (some (-1))=xs:=by
 unfold zq
 have l:(xs++[y]).length=xs.length + 1:=by rw [cA]; rfl
 have e1:HT.sIx (xs++[y]).length (xs++[y]).length (some (-1))=xs.length:=by
  rw [l]
  show (if (-1:Int) < 0 then ((-1:Int) + ((xs.length + 1:Nat):Int)).toNat else min (-1:Int).toNat (xs.length + 1))=_
  rw [if_pos (by decide)]
  omega
 rw [HT.sIx_none,e1,fo,hZ,dj (cF _),cJ (cF _)]
theorem zR9 {xs:List D} {y:D}:y3 (xs++[y]) (-1)=some y:=by
 unfold y3 xj
 rw [cA]
 show Option.bind (if (0:Int)<=-1 then _ else if -((xs.length + 1:Nat):Int)<=-1 then some (-1 + ((xs.length + 1:Nat):Int)).toNat else none) _=_
 rw [if_neg (by decide),if_pos (by omega)]
 show (xs++[y])[(-1 + ((xs.length + 1:Nat):Int)).toNat]? = _
 rw [show (-1 + ((xs.length + 1:Nat):Int)).toNat=xs.length by omega,dB (cF _),h7]
 rfl
def j2:FL:=λds R=>∃ ns,ds=[.scr ns]/\R (.bool true)
section
variable {P:Program} {w:World} {K:b'} {mg:Str->Option Value} {base:Heap}
abbrev Qr:Stmt:=zi 8
theorem zH1:ze ["thing"] ["thing"] (zR Qr):=.a
abbrev Qs:Stmt:=zi 16
theorem zDl:ze ["value","count"] ["value","count"] (zR Qs):=.a
abbrev Qt:Stmt:=zi 17
theorem zEz:ze ["value","tall","wide"] ["value","tall","wide"] (zR Qt):=.a
abbrev Qu:Stmt:=zi 18
theorem Qv:ze ["value","depth"] ["value","depth"] (zR Qu):=.a
abbrev Qw:Stmt:=zi 19
theorem zKU:ze ["place","wide","number"] ["place","wide","number"] (zR Qw):=.a
abbrev Qx:Stmt:=zi 20
theorem zHC:ze ["numbers","others"] ["numbers","others"] (zR Qx):=.a
abbrev Qy:Stmt:=zi 21
theorem zE1:ze ["numbers","lists","wide"] ["numbers","lists","wide"] (zR Qy):=.a
abbrev Qz:Stmt:=zi 23
theorem zHE:ze ["value","many"] ["value","many"] (zR Qz):=.a
abbrev Q0:Stmt:=zi 24
theorem zFw:ze ["value","many"] ["value","many"] (zR Q0):=.a
abbrev Q1:Stmt:=zi 25
theorem zKV:ze ["place","many","number","bound"] ["place","many","number","bound"] (zR Q1):=.a
abbrev Q2:Stmt:=ZS (zi 56) 0
theorem zEj:ze ["self","rows","nexts","steer","push","add","divisor"] ["self","rows","nexts","steer","push","add","divisor"] (zR Q2):=.a
abbrev Q3:Stmt:=zi 59
theorem zJg:ze ["value"] ["value"] (zR Q3):=.a
abbrev Q4:Stmt:=zi 60
theorem zJh:ze ["value","many","wide"] ["value","many","wide"] (zR Q4):=.a
abbrev Q5:Stmt:=zi 58
theorem Q6:ze ["many","pushes","modes"] ["many","pushes","modes"] (zR Q5):=.a
abbrev Q7:Stmt:=ZS (zi 57) 0
theorem zEB:ze ["self","many","pushes","modes"] ["self","many","pushes","modes"] (zR Q7):=.a
abbrev Q8:Stmt:=ZS (zi 57) 1
theorem zE2:ze ["self"] ["self"] (zR Q8):=.a
abbrev Q9:Stmt:=ZS (zi 57) 2
theorem zFm:ze ["self"] ["self"] (zR Q9):=.a
abbrev KA:Stmt:=zi 61
theorem zC4:ze ["mode"] ["mode"] (zR KA):=.a
abbrev KB:Stmt:=ZS (zi 57) 3
theorem zCP:ze ["self"] ["self"] (zR KB):=.a
abbrev W7:Stmt:=zi 62
theorem zDn:ze ["thing"] ["thing"] (zR W7):=.a
abbrev KC:Stmt:=zi 49
theorem KD:ze ["thing","mode","row","numbers","ahead"] ["thing","mode","row"] (zR KC):=.a
abbrev KE:Stmt:=zi 9
theorem gk:ze ["numbers","common","number","rest","left"] ["numbers"] (zR KE):=.a
abbrev KF:Stmt:=zi 10
theorem KG:ze ["top","bottom","common"] ["top","bottom"] (zR KF):=.a
abbrev KH:Stmt:=zi 11
theorem zMc:ze ["one","other"] ["one","other"] (zR KH):=.a
abbrev KI:Stmt:=zi 12
theorem zMb:ze ["one","other"] ["one","other"] (zR KI):=.a
abbrev KJ:Stmt:=zi 13
theorem zMa:ze ["one","other"] ["one","other"] (zR KJ):=.a
abbrev KL:Stmt:=zi 14
theorem zGG:ze ["value"] ["value"] (zR KL):=.a
abbrev KM:Stmt:=zi 26
theorem gl:ze ["numbers","point","top","bottom","number","part"] ["numbers","point"] (zR KM):=.a
abbrev KN:Stmt:=zi 27
theorem zIq:ze ["row","point","total"] ["row","point"] (zR KN):=.a
abbrev KO:Stmt:=zi 28
theorem zIp:ze ["row","point","total"] ["row","point"] (zR KO):=.a
abbrev KP:Stmt:=zi 31
theorem zDm:ze ["rows","place","number"] ["rows","place"] (zR KP):=.a
abbrev KQ:Stmt:=zi 32
theorem zEY:ze ["rows","place","found","told"] ["rows","place","found"] (zR KQ):=.a
abbrev KR:Stmt:=zi 33
theorem zFx:ze ["row","pivot","place","last"] ["row","pivot","place","last"] (zR KR):=.a
abbrev KS:Stmt:=zi 30
theorem jA:ze ["rows","left","last","place","found","pivot"] ["rows"] (zR KS):=.a
abbrev KT:Stmt:=zi 37
theorem zKW:ze ["many"] ["many"] (zR KT):=.a
abbrev KU:Stmt:=zi 39
theorem zC5:ze ["rows","corner"] ["rows","corner"] (zR KU):=.a
abbrev KW:Stmt:=zi 40
theorem zDi:ze ["rows","corner","row"] ["rows","corner","row"] (zR KW):=.a
abbrev KY:Stmt:=zi 46
theorem Xe:ze ["values","bottom","value"] ["values"] (zR KY):=.a
abbrev KZ:Stmt:=zi 43
theorem zHF:ze ["corner","place","number"] ["corner","place","number"] (zR KZ):=.a
abbrev Ka:Stmt:=zi 41
theorem Kb:ze ["rows","corner","place","number","equations"] ["rows","corner","place","number"] (zR Ka):=.a
abbrev Kc:Stmt:=zi 42
theorem Ke:ze ["corner","fit","places"] ["corner","fit"] (zR Kc):=.a
abbrev Kf:Stmt:=zi 44
theorem Kg:ze ["room","point","number","row"] ["room","point"] (zR Kf):=.a
abbrev Kh:Stmt:=zi 45
theorem j3:ze ["room","point","way","met","least","number","row","speed","spare"] ["room","point","way"] (zR Kh):=.a
abbrev Ki:Stmt:=zi 47
theorem kY:ze ["count","corner","weights","whole","numbers","number","share"] ["count","corner","weights"] (zR Ki):=.a
abbrev Kj:Stmt:=zi 38
theorem gm:ze ["rows","count","corner","number","weights","place"] ["rows","count"] (zR Kj):=.a
abbrev Kk:Stmt:=zi 36
theorem qY:ze ["rows","count","corner","row","point","weights","place","way","met"] ["rows","count","corner","row"] (zR Kk):=.a
abbrev Kl:Stmt:=zi 35
theorem jB:ze ["room","row","count","rows","corner","broken","weights","place","turned_about"] ["room","row"] (zR Kl):=.a
abbrev Km:Stmt:=zi 69
theorem zHD:ze ["_law_script","_law_k"] ["_law_script","_law_k"] (zR Km):=.a
abbrev Kn:Stmt:=zi 70
theorem qZ:ze ["_law_cell","_law_many","_law_found","_law_rest","_law_k","_law_number_here"] ["_law_cell","_law_many"] (zR Kn):=.a
abbrev Ko:Stmt:=zi 71
theorem zH0:ze ["_law_x","_law_far"] ["_law_x","_law_far"] (zR Ko):=.a
abbrev Kp:Stmt:=zi 75
theorem Xf:ze ["_law_cell","_law_many","_law_unit","_law_xs","_law_box_here","_law_i","_law_low"] ["_law_cell","_law_many","_law_unit"] (zR Kp):=.a
abbrev Kq:Stmt:=zi 76
theorem kZ:ze ["_law_box_here","_law_rows_here","_law_i","_law_ones"] ["_law_box_here"] (zR Kq):=.a
abbrev Kr:Stmt:=zi 74
theorem vd:ze ["_law_spec","_law_many","_law_pushes","_law_modes","_law_unit","_law_some","_law_rows_here","_law_nexts","_law_steer","_law_push","_law_add","_law_divisor","_law_lists"] ["_law_spec"] (zR Kr):=.a
abbrev Ks:Stmt:=zi 77
theorem Xg:ze ["_law_numbers","_law_box_here","_law_found","_law_number_here","_law_bounds"] ["_law_numbers","_law_box_here"] (zR Ks):=.a
abbrev Kt:Stmt:=zi 72
theorem uI:ze ["_law_cell","_law_many","_law_wide","_law_unit","_law_split","_law_xs","_law_divisor","_law_nexts","_law_push","_law_i","_law_add","_law_rows_here","_law_row"] ["_law_cell","_law_many","_law_wide","_law_unit","_law_split"] (zR Kt):=.a
abbrev Ku:Stmt:=zi 73
theorem jC:ze ["_law_script","_law_first_here","_law_second","_law_unit","_law_many","_law_pushes","_law_k","_law_x","_law_modes","_law_cell"] ["_law_script"] (zR Ku):=.a
abbrev Kv:Stmt:=zi 50
theorem zC3:ze ["thing","row"] ["thing","row"] (zR Kv):=.a
abbrev Kw:Stmt:=zi 51
theorem zD9:ze ["thing","row"] ["thing","row"] (zR Kw):=.a
abbrev Kx:Stmt:=zi 64
theorem W8:ze ["start","shape","told","numbers","found"] ["start","shape"] (zR Kx):=.a
abbrev Ky:Stmt:=zi 66
theorem gn:ze ["thing","room","row","bound","mode","ahead","found","least"] ["thing","room","row"] (zR Ky):=.a
abbrev W9:Stmt:=zi 65
theorem Xh:ze ["thing","room","told","row","bound"] ["thing","room"] (zR W9):=.a
abbrev UA:Stmt:=zi 67
theorem ka:ze ["thing","start","shape","tries","room","turn","larger"] ["thing","start","shape","tries"] (zR UA):=.a
abbrev Kz:Stmt:=zi 80
theorem UB:ze ["_law_start_here","_law_shape_here","_law_room","_law_numbers","_law_told"] ["_law_start_here","_law_shape_here"] (zR Kz):=.a
abbrev K0:Stmt:=zi 81
theorem vK:ze ["_law_spec","_law_mode_here","_law_room","_law_numbers","_law_rows_here","_law_nexts","_law_steer","_law_push","_law_add","_law_divisor","_law_ahead","_law_pushed","_law_told","_law_more","_law_top_here","_law_bottom"] ["_law_spec","_law_mode_here","_law_room","_law_numbers"] (zR K0):=.a
abbrev K1:Stmt:=zi 82
theorem kg:ze ["_law_spec","_law_room","_law_found","_law_row","_law_bounds"] ["_law_spec","_law_room"] (zR K1):=.a
abbrev K2:Stmt:=zi 78
theorem Xi:ze ["_law_box_here","_law_cell","_law_rows_here","_law_at","_law_far"] ["_law_box_here","_law_cell"] (zR K2):=.a
abbrev K3:Stmt:=zi 79
theorem jD:ze ["_law_many","_law_cell","_law_xs","_law_shape_here","_law_k","_law_ones","_law_numbers"] ["_law_many","_law_cell"] (zR K3):=.a
abbrev K4:Stmt:=zi 83
theorem jO:ze ["_law_spec","_law_start_here","_law_shape_here","_law_room","_law_rows_here","_law_nexts","_law_steer","_law_push","_law_add","_law_divisor","_law_modes","_law_free","_law_found"] ["_law_spec","_law_start_here","_law_shape_here","_law_room"] (zR K4):=.a
abbrev kh:Stmt:=zi 84
theorem uJ:ze ["_law_script","_law_spec","_law_thing_here","_law_box_here","_law_start_here","_law_shape_here","_law_room","_law_tries","_law_due","_law_turn","_law_after"] ["_law_script"] (zR kh):=.a
variable {ah ai:Addr} (aa:xq K mg "Mode" ah) (ae:zOT K ah) (af:xq K mg "Thing" ai) (ag:zMF K ai) {k:Nat} {f:Addr} {fd:FuncData} (B:Bl mg)
include aa ae af ag B
theorem zIJ (F:zf K "is_whole" "is_whole" Qr f fd):zF P w K mg base zV (k + 1) f fd ["thing"] (zG (gY)):=by
 refine zv F zH1 λ_ _ _ _ _ _ hr=>⟨_,(zJ (zZ (uD (yb (vh uc rfl B.isinstance_ uO (yF (zA 0) (yF (uY (v:=.ty "int") (u:=.type "int") rfl B.int_ X7 rfl) yu))) (ux zRj)) (jK (zQf (yb (vh uc rfl B.isinstance_ uO (yF (zA 0) (yF (uY (v:=.ty "bool") (u:=.type "bool") rfl B.bool_ zKB rfl) yu))) (ux zNP))))))),λds R h=>?_⟩
 obtain ⟨d,rfl,o,q⟩:=h
 refine ⟨o,λc=>⟨o,bR q ?_⟩,λc=>bR q ?_⟩
 ·unfold qR; rw [c]; rfl
 ·unfold qR; rw [c]; rfl
theorem zGc (F:zf K "is_numbers" "is_numbers" Qs f fd) (ak:Fn P w K mg base "is_whole" ["thing"] k (zG (gY))):zF P w K mg base zV (k + 1) f fd ["value","count"] (zG (J9)):=by
 refine zv F zDl λ_ _ _ _ _ _ hr=>⟨_,(zJ (zZ (uD (yb (vh uc rfl B.isinstance_ uO (yF (zA 0) (yF (uY (v:=.ty "list") (u:=.type "list") rfl B.list_ wV rfl) yu))) (ux kN)) (uD (je hr.units (yr xz wL rfl B.len_ x8 (zB (zA 0) zC)) (zA 1)) (jK (yr (j7 rfl) qO rfl B.all_ j8 (zB (xE (own:=["number"]) (caps:=[]) (yX zDl) rfl rfl yg (xN (zA 0)) (λ_ _ _ _=>(zw 0 (yB ["number"]))) (λ_ _ _ _=>(zQ ak hr rfl (zB (zA 0) zC)))) zC))))))),λds R h=>?_⟩
 obtain ⟨d,n,k,rfl,f,q⟩:=h
 refine ⟨f.no,λc=>?_,λc=>bR q ?_⟩
 ·obtain ⟨es,rfl,le,j,rfl,hj⟩:=f.lst_inv c
  refine ⟨λc2=>?_,λc2=>bR q ?_⟩
  ·refine zr.bool qR (by omega) (λd m=>⟨d,rfl,(hj d m).no,rfl⟩) ⟨_,rfl,bR q ?_⟩
   show (decide _ && _)=_
   rw [c2,kQ]
   rfl
  ·show (decide _ && _)=_
   rw [c2]
   rfl
 ·cases d <;> first | rfl | cases c
theorem zIK (F:zf K "is_table" "is_table" Qt f fd) (aA:Fn P w K mg base "is_numbers" ["value","count"] k (zG (J9))):zF P w K mg base zV (k + 1) f fd ["value","tall","wide"] (zG (Yy)):=by
 refine zv F zEz λ_ _ _ _ _ _ hr=>⟨_,(zJ (zZ (uD (yb (vh uc rfl B.isinstance_ uO (yF (zA 0) (yF (uY (v:=.ty "list") (u:=.type "list") rfl B.list_ wV rfl) yu))) (ux kN)) (uD (je hr.units (yr xz wL rfl B.len_ x8 (zB (zA 0) zC)) (zA 1)) (jK (yr (j7 rfl) qO rfl B.all_ j8 (zB (xE (own:=["part"]) (caps:=[(2,"wide")]) (yX zEz) rfl rfl yg (xN (zA 0)) (λ_ _ _ _=>(zw 0 (yB ["part","wide"]))) (λ_ _ _ _=>(zQ aA hr rfl (zB (zA 0) (zB (zA 1) zC))))) zC))))))),λds R h=>?_⟩
 obtain ⟨d,h,w,k,rfl,f,q⟩:=h
 refine ⟨f.no,λc=>?_,λc=>bR q ?_⟩
 ·obtain ⟨es,rfl,le,j,rfl,hj⟩:=f.lst_inv c
  refine ⟨λc2=>?_,λc2=>bR q ?_⟩
  ·refine zr.bool (Wi w) (by omega) (λd m=>⟨d,w,j,rfl,hj d m,rfl⟩) ⟨_,rfl,bR q ?_⟩
   show (decide _ && _)=_
   rw [c2,kQ]
   rfl
  ·show (decide _ && _)=_
   rw [c2]
   rfl
 ·cases d <;> first | rfl | cases c
theorem Xj {dv:Value} {j:Nat} (F:xV K "copied" "copied" Qu f fd dv) (ao:wf P w K mg base "copied" ["value","depth"] k (zG (Y0 j)) (.int 5)):zF P w K mg base zV (k + 1) f fd ["value","depth"] (zG (Y0 (j + 1))):=by
 refine gW F Qv λ_ _ _ _ _ _ hr=>⟨_,(zH (yN (ur hr.units (zA 1) zD) (zJ (zZ (zA 0))) yM)
  (zH (yN (xf (yb (vh uc rfl B.isinstance_ uO (yF (zA 0) (yF (uY (v:=.ty "list") (u:=.type "list") rfl B.list_ wV rfl) yu))) (ux kN))) (zJ (zZ (xE (own:=["part"]) (caps:=[(1,"depth")]) (yX Qv) rfl rfl yg (xN (zA 0)) (λ_ _ _ _=>(zw 0 (yB ["part","depth"]))) (λ_ _ _ _=>(zQ ao.fn hr rfl (zB (zA 0) (zB (wI (zA 1) zD) zC))))))) yM)
  (zH (yN (xf (yb (vh uc rfl B.isinstance_ uO (yF (zA 0) (yF (uY (v:=.ty "tuple") (u:=.type "tuple") rfl B.tuple_ vP rfl) yu))) (ux Jm))) (zJ (zZ (xa uN uS rfl B.tuple_ vP (zB (xE (own:=["part"]) (caps:=[(1,"depth")]) (yX Qv) rfl rfl yg (xN (zA 0)) (λ_ _ _ _=>(zw 0 (yB ["part","depth"]))) (λ_ _ _ _=>(zQ ao.fn hr rfl (zB (zA 0) (zB (wI (zA 1) zD) zC))))) zC)))) yM)
  (zJ (zZ (zA 0)))))),λds R h=>?_⟩
 obtain ⟨d,n,rfl,f,q⟩:=h
 refine ⟨λc=>q,λc=>?_⟩
 refine ⟨f.no,λc=>?_,λc=>?_⟩
 ·obtain ⟨es,rfl,le,i,e1,hj⟩:=f.lst_inv c
  cases e1
  refine zr.map id (by omega) (λd m=>⟨d,_,rfl,hj d m,rfl⟩) ?_
  rw [fI]
  exact q
 refine ⟨f.no,λc=>?_,λc=>q⟩
 obtain ⟨es,rfl,le,i,e1,hj⟩:=f.tup_inv c
 cases e1
 refine zr.map id (by omega) (λd m=>⟨d,_,rfl,hj d m,rfl⟩) ?_
 rw [fI]
 exact q
theorem zPK {dv:Value} (F:xV K "unit" "unit" Qw f fd dv):zF P w K mg base zV (k + 1) f fd ["place","wide","number"] (zG (zRq)):=by
 refine gW F zKU λ_ _ _ _ _ _ hr=>⟨_,(zJ (zZ (xE (own:=["other"]) (caps:=[(0,"place"),(2,"number")]) (yX zKU) rfl rfl yg (xO rfl B.range_ (zB (zA 1) zC)) (λ_ _ _ _=>(zw 0 (yB ["other","place","number"]))) (λ_ _ _ _=>(Z5 (ur hr.units (zA 0) (zA 1)) (zA 2) zD))))),λds R h=>?_⟩
 obtain ⟨p,w,n,rfl,w0,w1,q⟩:=h
 refine ⟨by omega,by omega,zr.rng0 (λi=>.int (if (i:Int)=p then n else 0)) (by omega) (λk hk=>?_) ?_⟩
 ·refine ⟨λc=>?_,λc=>?_⟩
  ·show D.int n=_
   rw [if_pos (of_decide_eq_true c)]
  ·show D.int 0=_
   rw [if_neg (of_decide_eq_false c)]
 ·unfold xZ L at q
  rw [c_] at q
  exact q
theorem zLB (F:zf K "paired" "paired" Qx f fd):zF P w K mg base zV (k + 1) f fd ["numbers","others"] (zG (Wj)):=by
 refine zv F zHC λ_ _ _ _ _ _ hr=>⟨_,(zJ (zZ (yr (ZW rfl) YF rfl B.sum_ ZV (zB (xE (own:=["number","other"]) (caps:=[]) (yX zHC) rfl rfl (qP (vI (vI qQ))) (jg rfl B.zip_ (zB (zA 0) (zB (zA 1) zC))) (λ_ _ _ _=>(wn rfl (yI 0 (yB ["number","other"]) (yI 1 (yB ["number","other"]) wm)))) (λ_ _ _ _=>(yW (zA 0) (zA 1)))) zC)))),λds R h=>?_⟩
 obtain ⟨d,e,ns,os,rfl,h,k,l,bn,bo,q⟩:=h
 refine h.zip k (zRy (λq=>q.1 * q.2) (by rw [d6]; omega) (λp hp=>⟨(bn _ (dG hp).1).mono,(bo _ (dG hp).2).mono,rfl⟩) ⟨_,rfl,?_⟩)
 rw [zIk]
 exact q
theorem zIN (F:zf K "added_up" "added_up" Qy f fd):zF P w K mg base zV (k + 1) f fd ["numbers","lists","wide"] (zG (zON)):=by
 refine zv F zE1 λ_ _ _ _ _ _ hr=>⟨_,(zJ (zZ (xE (own:=["place"]) (caps:=[(0,"numbers"),(1,"lists")]) (yX zE1) rfl rfl yg (xO rfl B.range_ (zB (zA 2) zC)) (λ_ _ _ _=>(zw 0 (yB ["place","numbers","lists"]))) (λ_ _ _ _=>(yr (ZW rfl) YF rfl B.sum_ ZV (zB (xE (own:=["number","part"]) (caps:=[(0,"place")]) Wg rfl rfl (qP (vI (vI qQ))) (jg rfl B.zip_ (zB (zA 1) (zB (zA 2) zC))) (λ_ _ _ _=>(wn rfl (yI 0 (yB ["number","part","place"]) (yI 1 (yB ["number","part","place"]) wm)))) (λ_ _ _ _=>(yW (zA 0) (zL (zA 1) (zA 2))))) zC)))))),λds R h=>?_⟩
 obtain ⟨d,e,ns,ls,w,rfl,h,k,lw,ln,bn,bl,q⟩:=h
 refine ⟨by omega,by omega,?_⟩
 rw [show ((w:Nat):Int).toNat=w by omega]
 refine zr.rng0 (λj=>.int (zx ns ls j)) (by omega) (λj hj=>?_) (by unfold L at q; rw [c_] at q; exact q)
 refine h.zipT k λu hu=>vv (λq=>xI (.int q.1) (u q.2)) v2 (Y1 hu) (λq=>.int (q.1 * q.2.getD j 0)) (by rw [d6]; omega) (λq hq=>?_) ⟨(ns.zip ls).map λq=>q.1 * q.2.getD j 0,by rw [c_]; rfl,rfl⟩
 have hb:=bl q.2 (dG hq).2
 rcases hu with rfl | rfl
 all_goals exact ⟨_,wN (j:=j) (by omega) (by omega),(bn _ (dG hq).1).mono,(vx hb.2 j).mono,rfl⟩
theorem zLG (F:zf K "is_row" "is_row" Qz f fd) (ak:Fn P w K mg base "is_whole" ["thing"] k (zG (gY))):zF P w K mg base zV (k + 1) f fd ["value","many"] (zG (Yz)):=by
 refine zv F zHE λ_ _ _ _ _ _ hr=>⟨_,(zJ (zZ (uD (yb (vh uc rfl B.isinstance_ uO (yF (zA 0) (yF (uY (v:=.ty "tuple") (u:=.type "tuple") rfl B.tuple_ vP rfl) yu))) (ux Jm)) (uD (je hr.units (yr xz wL rfl B.len_ x8 (zB (zA 0) zC)) (zy (zA 1) zD)) (jK (yr (j7 rfl) qO rfl B.all_ j8 (zB (xE (own:=["number"]) (caps:=[]) (yX zHE) rfl rfl yg (xN (zA 0)) (λ_ _ _ _=>(zw 0 (yB ["number"]))) (λ_ _ _ _=>(zQ ak hr rfl (zB (zA 0) zC)))) zC))))))),λds R h=>?_⟩
 obtain ⟨d,n,k,rfl,f,q⟩:=h
 refine ⟨f.no,λc=>?_,λc=>bR q ?_⟩
 ·obtain ⟨es,rfl,le,j,rfl,hj⟩:=f.tup_inv c
  refine ⟨λc2=>?_,λc2=>bR q ?_⟩
  ·refine zr.bool qR (by omega) (λd m=>⟨d,rfl,(hj d m).no,rfl⟩) ⟨_,rfl,bR q ?_⟩
   show (decide _ && _)=_
   rw [c2,kQ]
   rfl
  ·show (decide _ && _)=_
   rw [c2]
   rfl
 ·cases d <;> first | rfl | cases c
theorem zJv (F:zf K "is_room" "is_room" Q0 f fd) (aV:Fn P w K mg base "is_row" ["value","many"] k (zG (Yz))):zF P w K mg base zV (k + 1) f fd ["value","many"] (zG (zRs)):=by
 refine zv F zFw λ_ _ _ _ _ _ hr=>⟨_,(zJ (zZ (uD (yb (vh uc rfl B.isinstance_ uO (yF (zA 0) (yF (uY (v:=.ty "list") (u:=.type "list") rfl B.list_ wV rfl) yu))) (ux kN)) (jK (yr (j7 rfl) qO rfl B.all_ j8 (zB (xE (own:=["row"]) (caps:=[(1,"many")]) (yX zFw) rfl rfl yg (xN (zA 0)) (λ_ _ _ _=>(zw 0 (yB ["row","many"]))) (λ_ _ _ _=>(zQ aV hr rfl (zB (zA 0) (zB (zA 1) zC))))) zC)))))),λds R h=>?_⟩
 obtain ⟨d,n,k,rfl,f,q⟩:=h
 refine ⟨f.no,λc=>?_,λc=>bR q ?_⟩
 ·obtain ⟨es,rfl,le,j,rfl,hj⟩:=f.lst_inv c
  refine zr.bool (jr n) (by omega) (λd m=>⟨d,n,j,rfl,hj d m,rfl⟩) ⟨_,rfl,bR q ?_⟩
  rw [kQ]
  rfl
 ·cases d <;> first | rfl | cases c
theorem zLA (F:zf K "single" "single" Q1 f fd) (aW:wf P w K mg base "unit" ["place","wide","number"] k (zG (zRq)) (.int 1)):zF P w K mg base zV (k + 1) f fd ["place","many","number","bound"] (zG (zLo)):=by
 refine zv F zKV λ_ _ _ _ _ _ hr=>⟨_,(zJ (zZ (zy (xa uN uS rfl B.tuple_ vP (zB (zQ aW.fn hr rfl (zB (zA 0) (zB (zA 1) (zB (zA 2) zC)))) zC)) (xR (zB (zA 3) zC))))),λds R h=>?_⟩
 obtain ⟨p,w,n,b,rfl,w0,w1,q⟩:=h
 refine ⟨p,w,n,rfl,w0,w1,k0,by rw [a_,ug]; show _ + 1<=1000; omega,?_⟩
 unfold U at q
 rw [cP] at q
 exact q
theorem zEk (F:zf K "__init__" "Mode.__init__" Q2 f fd) (ao:wf P w K mg base "copied" ["value","depth"] k (zG (Y0 5)) (.int 5)):zF P w K mg base zV (k + 1) f fd ["self","rows","nexts","steer","push","add","divisor"] (uz ah (zOM ah)):=by
 refine okI F zEj (λds R h=>by obtain ⟨r,n,s,p,a,d,rfl,_⟩:=h; rfl) λcdv A outer s H E hr=>⟨_,(zH (yH (jU (y6 0) (jn (.int 5) (λ_=>.int 5) ao hr rfl (zB (zA 1) zC)) rfl) jm)
  (zH (yH (jU (y6 0) (jn (.int 5) (λ_=>.int 5) ao hr rfl (zB (zA 2) zC)) rfl) jm)
  (zH (yH (jU (y6 0) (jn (.int 5) (λ_=>.int 5) ao hr rfl (zB (zA 3) zC)) rfl) jm)
  (zH (yH (jU (y6 0) (jn (.int 5) (λ_=>.int 5) ao hr rfl (zB (zA 4) zC)) rfl) jm)
  (zH (yH (jU (y6 0) (jn (.int 5) (λ_=>.int 5) ao hr rfl (zB (zA 5) zC)) rfl) jm)
  (zJ (yH (jU (y6 0) (zA 6) rfl) jm))))))),λo ds R h=>?_⟩
 obtain ⟨r,n,s,p,a,d,rfl,f1,f2,f3,f4,f5,q⟩:=h
 refine ⟨r,5,rfl,f1,⟨aa.cl,ae.n_rows⟩,by decide +kernel,by decide,rfl,?_⟩
 refine ⟨n,5,rfl,f2,⟨aa.cl,ae.n_nexts⟩,by decide +kernel,by decide,rfl,?_⟩
 refine ⟨s,5,rfl,f3,⟨aa.cl,ae.n_steer⟩,by decide +kernel,by decide,rfl,?_⟩
 refine ⟨p,5,rfl,f4,⟨aa.cl,ae.n_push⟩,by decide +kernel,by decide,rfl,?_⟩
 refine ⟨a,5,rfl,f5,⟨aa.cl,ae.n_add⟩,by decide +kernel,by decide,rfl,?_⟩
 exact ⟨⟨aa.cl,ae.n_divisor⟩,by decide +kernel,by decide,rfl,rfl,q⟩
theorem zJw (F:zf K "is_push" "is_push" Q3 f fd) (ak:Fn P w K mg base "is_whole" ["thing"] k (zG (gY))):zF P w K mg base zV (k + 1) f fd ["value"] (zG (zLp)):=by
 refine zv F zJg λ_ _ _ _ _ _ hr=>⟨_,(zH (yN (PW.pt (uQ (wl (xf (yb (vh uc rfl B.isinstance_ uO (yF (zA 0) (yF (uY (v:=.ty "tuple") (u:=.type "tuple") rfl B.tuple_ vP rfl) yu))) (ux Jm)))) (ut (gK hr.units (yr xz wL rfl B.len_ x8 (zB (zA 0) zC)) zD)))) (zJ (zZ um)) yM)
  (zJ (zZ (uD (zQ ak hr rfl (zB (zL (zA 0) zD) zC)) (uD (zQ ak hr rfl (zB (zL (zA 0) zD) zC)) (jK (zQi (zL (zA 0) zD) (zL (zA 0) zD)))))))),λds R h=>?_⟩
 obtain ⟨b,rfl,h,q⟩:=h
 refine ⟨rfl,wF rfl (wF rfl ?_)⟩
 refine ⟨_,rfl,_,rfl,rfl,wT rfl ?_⟩
 refine ⟨_,rfl,_,rfl,rfl,wT rfl ?_⟩
 exact ⟨_,rfl,_,rfl,bR q (decide_eq_true h).symm⟩
theorem zJx (F:zf K "is_mode" "is_mode" Q4 f fd) (aX:Fn P w K mg base "is_room" ["value","many"] k (zG (zRs))) (aT:Fn P w K mg base "is_table" ["value","tall","wide"] k (zG (Yy))) (aA:Fn P w K mg base "is_numbers" ["value","count"] k (zG (J9))) (ak:Fn P w K mg base "is_whole" ["thing"] k (zG (gY))):zF P w K mg base zV (k + 1) f fd ["value","many","wide"] (zG (zLq ah)):=by
 refine zv F zJh λ_ _ _ _ _ _ hr=>⟨_,(zH (yN (PW.pt (uQ (wl (xf (yb (vh zHm rfl B.isinstance_ uO (yF (zA 0) (yF (zQ3 aa rfl) yu))) zMS))) (ut (wl (xf (zQ aX hr rfl (zB (wM K (zA 0) rfl) (zB (zA 1) zC)))))))) (zJ (zZ um)) yM)
  (zH (yN (PW.pt (uQ (wl (xf (zQ aT hr rfl (zB (wM K (zA 0) rfl) (zB (zA 1) (zB (zA 1) zC)))))) (ut (wl (xf (zQ aT hr rfl (zB (wM K (zA 0) rfl) (zB (zA 1) (zB (zA 2) zC))))))))) (zJ (zZ um)) yM)
  (zH (yN (PW.pt (uQ (wl (xf (zQ aA hr rfl (zB (wM K (zA 0) rfl) (zB (zA 1) zC))))) (ut (wl (xf (zQ aA hr rfl (zB (wM K (zA 0) rfl) (zB (zA 1) zC)))))))) (zJ (zZ um)) yM)
  (zJ (zZ (uD (zQ ak hr rfl (zB (wM K (zA 0) rfl) zC)) (jK (JM (wM K (zA 0) rfl) zD)))))))),λds R h=>?_⟩
 obtain ⟨m,n,p,rfl,h,q⟩:=h
 have n3:=h.n3
 have p6:=h.p6
 refine ⟨⟨_,_,aa⟩,_,zNN,wF rfl ?_⟩
 refine ⟨⟨aa.cl,ae.n_rows⟩,_,rfl,_,_,3,rfl,zRn h.few (λr hr=>by rw [h.rows r hr]; omega),wF (by rw [zOk λr hr=>by rw [h.rows r hr]; rfl]; rfl) ?_⟩
 refine ⟨⟨aa.cl,ae.n_nexts⟩,_,rfl,_,_,_,3,rfl,Wl (by rw [h.nexts.1]; omega) (λr hr=>by rw [h.nexts.2 r hr]; omega),wF (by rw [zNv (by rw [h.nexts.1]) (λr hr=>by rw [h.nexts.2 r hr])]; rfl) ?_⟩
 refine ⟨⟨aa.cl,ae.n_push⟩,_,rfl,_,_,_,3,rfl,Wl (by rw [h.push.1]; omega) (λr hr=>by rw [h.push.2 r hr]; omega),wF (by rw [zNv (by rw [h.push.1]) (λr hr=>by rw [h.push.2 r hr])]; rfl) ?_⟩
 refine ⟨⟨aa.cl,ae.n_steer⟩,_,rfl,_,_,2,rfl,u5 (by rw [h.steer]; omega),wF (by rw [QD (by rw [h.steer])]; rfl) ?_⟩
 refine ⟨⟨aa.cl,ae.n_add⟩,_,rfl,_,_,2,rfl,u5 (by rw [h.add]; omega),wF (by rw [QD (by rw [h.add])]; rfl) ?_⟩
 refine ⟨⟨aa.cl,ae.n_divisor⟩,_,rfl,_,rfl,rfl,wT rfl ?_⟩
 exact ⟨⟨aa.cl,ae.n_divisor⟩,_,rfl,bR q (decide_eq_true h.div).symm⟩
theorem zIL (F:zf K "is_sound" "is_sound" Q5 f fd) (ak:Fn P w K mg base "is_whole" ["thing"] k (zG (gY))) (aY:Fn P w K mg base "is_push" ["value"] k (zG (zLp))) (aZ:Fn P w K mg base "is_mode" ["value","many","wide"] k (zG (zLq ah))):zF P w K mg base zV (k + 1) f fd ["many","pushes","modes"] (zG (zJK ah)):=by
 refine zv F Q6 λ_ _ _ _ _ _ hr=>⟨_,(zH (yN (PW.pt (uQ (wl (xf (zQ ak hr rfl (zB (zA 0) zC)))) (uQ (Zy (zA 0) zD) (ut (gL (zA 0) (JJ rfl B.MOST_NUMBERS_)))))) (zJ (zZ um)) yM)
  (zH (yN (PW.pt (uQ (wl (xf (yb (vh uc rfl B.isinstance_ uO (yF (zA 1) (yF (uY (v:=.ty "list") (u:=.type "list") rfl B.list_ wV rfl) yu))) (ux kN)))) (ut (wl (xf (yr (j7 rfl) qO rfl B.all_ j8 (zB (xE (own:=["push"]) (caps:=[]) (yX Q6) rfl rfl yg (xN (zA 1)) (λ_ _ _ _=>(zw 0 (yB ["push"]))) (λ_ _ _ _=>(zQ aY hr rfl (zB (zA 0) zC)))) zC))))))) (zJ (zZ um)) yM)
  (zH (yN (PW.pt (uQ (wl (xf (yb (vh uc rfl B.isinstance_ uO (yF (zA 2) (yF (uY (v:=.ty "list") (u:=.type "list") rfl B.list_ wV rfl) yu))) (ux kN)))) (ut (ur hr.units (yr xz wL rfl B.len_ x8 (zB (zA 2) zC)) zD)))) (zJ (zZ um)) yM)
  (zJ (zZ (yr (j7 rfl) qO rfl B.all_ j8 (zB (xE (own:=["mode"]) (caps:=[(0,"many"),(1,"pushes")]) (yX Q6) rfl rfl yg (xN (zA 2)) (λ_ _ _ _=>(zw 0 (yB ["mode","many","pushes"]))) (λ_ _ _ _=>(zQ aZ hr rfl (zB (zA 0) (zB (zA 1) (zB (yr xz wL rfl B.len_ x8 (zB (zA 2) zC)) zC)))))) zC))))))),λds R h=>?_⟩
 obtain ⟨n,bs,ms,rfl,h,q⟩:=h
 have n1:=h.n1
 have n3:=h.n3
 have m40:=h.m40
 have m1:=h.m1
 have b6:=h.b6
 refine ⟨_,rfl,rfl,wF rfl (wF (decide_eq_false (by omega)) (wF (decide_eq_false (by omega)) ?_))⟩
 refine ⟨rfl,wF rfl ?_⟩
 refine vv zo QH (λ_=>rfl) (λ_=>.bool true) (by omega) (λb hb=>⟨b,rfl,h.bok b hb,rfl⟩) ⟨bs.map λ_=>true,by rw [c_]; rfl,?_⟩
 rw [show (bs.map λ_=>true).all id=true from de.mpr λx hx=>by obtain ⟨_,_,rfl⟩:=cH.mp hx; rfl]
 refine wF rfl ?_
 refine ⟨rfl,wF rfl (wF (decide_eq_false (by rw [a_]; omega)) ?_)⟩
 refine vv (u4 ah) xr (zKI _) (λ_=>.bool true) (by omega) (λm hm=>⟨m,n,bs.length,by rw [a_],h.mok m hm,rfl⟩) ⟨ms.map λ_=>true,by rw [c_]; rfl,bR q ?_⟩
 exact (de.mpr λx hx=>by obtain ⟨_,_,rfl⟩:=cH.mp hx; rfl).symm
theorem zEM (F:zf K "__init__" "Thing.__init__" Q7 f fd) (be:Fn P w K mg base "is_sound" ["many","pushes","modes"] k (zG (zJK ah))):zF P w K mg base zV (k + 1) f fd ["self","many","pushes","modes"] (uz ai (zLn ai ah)):=by
 refine okI F zEB (λds R h=>by obtain ⟨n,bs,ms,rfl,_⟩:=h; rfl) λcdv A outer s H E hr=>⟨_,(zH (yN (wl (xf (zQ be hr rfl (zB (zA 1) (zB (zA 2) (zB (zA 3) zC)))))) (zJ YY) yM)
  (zH (yN (PW.pt (uQ (gL (yr xz wL rfl B.len_ x8 (zB (zA 2) zC)) (JJ rfl B.MOST_PUSHES_)) (ut (gL (yr xz wL rfl B.len_ x8 (zB (zA 3) zC)) (JJ rfl B.MOST_MODES_))))) (zJ YY) yM)
  (zH (yH (jU (y6 0) (zA 1) rfl) jm)
  (zH (yH (jU (y6 0) (xa uM uu rfl B.list_ wV (zB (zA 2) zC)) rfl) jm)
  (zJ (yH (jU (y6 0) (xa uM uu rfl B.list_ wV (zB (zA 3) zC)) rfl) jm)))))),λo ds R h=>?_⟩
 obtain ⟨n,bs,ms,rfl,h,q⟩:=h
 have m40:=h.m40
 have b6:=h.b6
 refine ⟨n,bs,ms,rfl,h,wF rfl ?_⟩
 refine wF (decide_eq_false (by rw [a_]; omega)) (wF (decide_eq_false (by rw [a_]; omega)) ?_)
 refine ⟨⟨af.cl,ag.n_many⟩,by decide +kernel,by decide,rfl,?_⟩
 refine ⟨⟨af.cl,ag.n_kept_pushes⟩,by decide +kernel,by decide,rfl,?_⟩
 exact ⟨⟨af.cl,ag.n_kept_modes⟩,by decide +kernel,by decide,rfl,rfl,q⟩
theorem zFP (F:zf K "pushes" "Thing.pushes" Q8 f fd):zF P w K mg base zV (k + 1) f fd ["self"] (zG (QE ai ah)):=by
 refine zv F zE2 λ_ _ _ _ _ _ hr=>⟨_,(zJ (zZ (xa uM uu rfl B.list_ wV (zB (wM K (zA 0) rfl) zC)))),λds R h=>?_⟩
 obtain ⟨n,bs,ms,rfl,q⟩:=h
 exact ⟨⟨af.cl,ag.n_kept_pushes⟩,_,rfl,q⟩
theorem zFs (F:zf K "modes" "Thing.modes" Q9 f fd):zF P w K mg base zV (k + 1) f fd ["self"] (zG (zOL ai ah)):=by
 refine zv F zFm λ_ _ _ _ _ _ hr=>⟨_,(zJ (zZ (xa uM uu rfl B.list_ wV (zB (wM K (zA 0) rfl) zC)))),λds R h=>?_⟩
 obtain ⟨n,bs,ms,rfl,q⟩:=h
 exact ⟨⟨af.cl,ag.n_kept_modes⟩,_,rfl,q⟩
theorem zFL (F:zf K "is_unsteered" "is_unsteered" KA f fd):zF P w K mg base zV (k + 1) f fd ["mode"] (zG (zF5 ah)):=by
 refine zv F zC4 λ_ _ _ _ _ _ hr=>⟨_,(zJ (zZ (yr (j7 rfl) qO rfl B.all_ j8 (zB (xE (own:=["number"]) (caps:=[]) (yX zC4) rfl rfl yg (xN (wM K (zA 0) rfl)) (λ_ _ _ _=>(zw 0 (yB ["number"]))) (λ_ _ _ _=>(je hr.units (zA 0) zD))) zC)))),λds R h=>?_⟩
 obtain ⟨m,rfl,h,q⟩:=h
 refine ⟨⟨aa.cl,ae.n_steer⟩,_,rfl,?_⟩
 refine Y3 (λx=>decide (x=0)) (by omega) (λn hn=>rfl) ⟨_,rfl,bR q ?_⟩
 rw [kQ]
theorem zDv (F:zf K "is_closed" "Thing.is_closed" KB f fd) (bg:Fn P w K mg base "is_unsteered" ["mode"] k (zG (zF5 ah))):zF P w K mg base zV (k + 1) f fd ["self"] (zG (QF ai ah)):=by
 refine zv F zCP λ_ _ _ _ _ _ hr=>⟨_,(zJ (zZ (yr (j7 rfl) qO rfl B.all_ j8 (zB (xE (own:=["mode"]) (caps:=[]) (yX zCP) rfl rfl yg (xN (wM K (zA 0) rfl)) (λ_ _ _ _=>(zw 0 (yB ["mode"]))) (λ_ _ _ _=>(zQ bg hr rfl (zB (zA 0) zC)))) zC)))),λds R h=>?_⟩
 obtain ⟨n,bs,ms,rfl,h,q⟩:=h
 refine ⟨⟨af.cl,ag.n_kept_modes⟩,_,rfl,?_⟩
 have m40:=h.m40
 refine vv (u4 ah) xr (zKI _) (λm=>.bool (m.steer.all λx=>decide (x=0))) (by omega) (λm hm=>⟨m,rfl,by have:=(h.mok m hm).steer; have:=h.n3; omega,rfl⟩) ⟨ms.map λm=>m.steer.all λx=>decide (x=0),by rw [c_]; rfl,bR q ?_⟩
 rw [kQ]
 rfl
theorem zGh (F:zf K "ask_closed" "ask_closed" W7 f fd) (aB:ue P w K mg base ai "is_closed" ["self"] k (zG (QF ai ah))):zF P w K mg base zV (k + 1) f fd ["thing"] (zG (QG ai ah)):=by
 refine zv F zDn λ_ _ _ _ _ _ hr=>⟨_,(zJ (yN (wl (xf (Yc aB af hr (zA 0)))) (zJ YY) yM)),λds R h=>?_⟩
 obtain ⟨n,bs,ms,rfl,h,c,q⟩:=h
 exact ⟨rfl,by decide +kernel,n,bs,ms,rfl,h,wF (by rw [c]; rfl) q⟩
theorem zM2 (F:zf K "reach" "reach" KC f fd) (aU:Fn P w K mg base "added_up" ["numbers","lists","wide"] k (zG (zON))) (aD:ue P w K mg base ai "pushes" ["self"] k (zG (QE ai ah))) (ar:Fn P w K mg base "paired" ["numbers","others"] k (zG (Wj))):zF P w K mg base zV (k + 1) f fd ["thing","mode","row"] (zG (zOK ai ah)):=by
 refine zv F KD λ_ _ _ _ _ _ hr=>⟨_,(zH (zb 3 KD.nd (wZ (zA 2) w8 (wK (xU zD))))
  (zH (zb 4 KD.nd (zy (zQ aU hr rfl (zB (zA 3) (zB (wM K (zA 1) rfl) (zB (wM K (zA 0) rfl) zC)))) (zQ aU hr rfl (zB (zA 3) (zB (wM K (zA 1) rfl) (zB (yr xz wL rfl B.len_ x8 (zB (Yc aD af hr (zA 0)) zC)) zC))))))
  (zJ (zZ (zy (xa uN uS rfl B.tuple_ vP (zB (zA 4) zC)) (xR (zB (wI (yW (wM K (zA 1) rfl) (zL (zA 2) (xU zD))) (zQ ar hr rfl (zB (zA 3) (zB (wM K (zA 1) rfl) zC)))) zC))))))),λds R h=>?_⟩
 obtain ⟨n,bs,ms,m,r,rfl,n3,b6,MO,MB,lr,br,q⟩:=h
 have lt:(r.take n).length=n:=by rw [cI]; omega
 have bt:∀ x∈r.take n,Bd 9000 x:=λx hx=>br x (d7 hx)
 have hp:(lA zo bs).length=bs.length:=a_ ..
 refine ⟨⟨aa.cl,ae.n_nexts⟩,_,rfl,⟨af.cl,ag.n_many⟩,_,rfl,_,_,r.take n,m.nexts,n,rfl,.inr (by rw [uF lr]),.inl rfl,by omega,by omega,bt,λx hx=>⟨by rw [MO.nexts.2 x hx]; omega,MB.nexts x hx⟩,?_⟩
 refine ⟨⟨aa.cl,ae.n_push⟩,_,rfl,rfl,by decide +kernel,n,bs,ms,rfl,_,_,r.take n,m.push,bs.length,by rw [hp],.inr (by rw [uF lr]),.inl rfl,by omega,by omega,bt,λx hx=>⟨by rw [MO.push.2 x hx]; omega,MB.push x hx⟩,?_⟩
 refine ⟨by rw [a_,a_,a_,a_,cT,cT]; omega,?_⟩
 refine ⟨⟨aa.cl,ae.n_divisor⟩,_,rfl,_,kR lr,MB.div.mono,(vx br n).mono,⟨aa.cl,ae.n_add⟩,_,rfl,_,_,r.take n,m.add,rfl,.inr (by rw [uF lr]),.inl rfl,by omega,bt,MB.add,k0,?_,?_⟩
 ·rw [cA,a_,a_,a_,a_,cT,cT]
  show _ + 1<=1000
  omega
 ·unfold Wm U at q
  rw [cP,cP] at q
  exact q
theorem zEL (F:zf K "common_divisor" "common_divisor" KE f fd):zF P w K mg base zV (k + 1) f fd ["numbers"] (zG (QK)):=by
 refine zv F gk λ_ _ _ _ _ _ hr=>⟨_,(zH (zb 1 gk.nd zD)
  (zH (xX PassesOwn.never rfl (xN (zA 0)) (zw 2 gk.nd) (zH (zb 3 gk.nd (yr zNh zPv rfl B.abs_ zL7 (zB (zA 2) zC)))
   (zJ (Jw PassesOwn.never (gK hr.units (zA 3) zD) (zH (zb 4 gk.nd (xm (zA 1) (zA 3)))
    (zH (zb 1 gk.nd (zA 3))
    (zJ (zb 3 gk.nd (zA 4)))))))))
  (zJ (zZ (zA 1))))),λds R h=>?_⟩
 obtain ⟨a,b,rfl,q⟩:=h
 refine ⟨λk Γ=>∃ s2 s3 s4,Γ=[.sh (.tup [.int a,.int b]),.sh (.int (((match k with | 0=>0 | 1=>a.natAbs | _=>lK a.natAbs b.natAbs):Nat):Int)),s2,s3,s4],⟨_,_,_,rfl⟩,?_,?_⟩
 ·have key:∀ (x:Int) (g:Nat) (s3 s4:Sl) (T:WX),(∀ s2 s3 s4,T.nx [.sh (.tup [.int a,.int b]),.sh (.int ((lK g x.natAbs:Nat):Int)),s2,s3,s4])->jj (vW 3 (jf gT (zQ8 (qL 2) Z6))) (zN6 (xQ (xM qN (qL 3) (pC (.int 0)))) (jj (vW 4 (xM jd (qL 1) (qL 3))) (jj (vW 1 (qL 3)) (vW 3 (qL 4))))) T [.sh (.tup [.int a,.int b]),.sh (.int ((g:Nat):Int)),.sh (.int x),s3,s4]:=λx g s3 s4 T hT=>by
   refine ⟨λm Γ=>∃ (c r:Nat) (s4:Sl),Γ=[.sh (.tup [.int a,.int b]),.sh (.int ((c:Nat):Int)),.sh (.int x),.sh (.int ((r:Nat):Int)),s4]/\lK c r=lK g x.natAbs/\r=m,⟨_,g,x.natAbs,s4,by rw [zP4]; rfl,rfl,rfl⟩,?_⟩
   rintro m Γ' ⟨c,r,s4,rfl,hG,rfl⟩
   refine w2 (λc1=>?_) λc1=>?_
   ·have r0:r≠0:=λz=>by rw [z] at c1; cases c1
    refine ⟨by omega,c % r,Nat.mod_lt _ (by omega),r,c % r,_,by rw [zNX]; rfl,?_,rfl⟩
    rw [<- hG,Nat.gcd_comm c r,Nat.gcd_rec r c,Nat.gcd_comm]
   ·have r0:r=0:=by have:=of_decide_eq_true (QJ c1); omega
    rw [r0,Nat.gcd_zero_right] at hG
    rw [hG]
    exact hT _ _ _
  rintro k d Γ' hk ⟨s2,s3,s4,rfl⟩
  match k,hk with
  | 0,hk=>
   cases hk
   refine key a 0 s3 s4 _ λt2 t3 t4=>⟨t2,t3,t4,?_⟩
   rw [Nat.gcd_zero_left]
   rfl
  | 1,hk=>
   cases hk
   exact key b a.natAbs s3 s4 _ λt2 t3 t4=>⟨t2,t3,t4,rfl⟩
  | _ + 2,hk=>cases hk
 ·rintro Γ' ⟨s2,s3,s4,rfl⟩
  exact q
theorem zIM {dv:Value} (F:xV K "fraction" "fraction" KF f fd dv) (ak:Fn P w K mg base "is_whole" ["thing"] k (zG (gY))) (aE:Fn P w K mg base "common_divisor" ["numbers"] k (zG (QK))):zF P w K mg base zV (k + 1) f fd ["top","bottom"] (zG (qS)):=by
 refine gW F KG λ_ _ _ _ _ _ hr=>⟨_,(zH (yN (PW.pt (uQ (wl (xf (zQ ak hr rfl (zB (zA 0) zC)))) (ut (wl (xf (zQ ak hr rfl (zB (zA 1) zC))))))) (zJ YY) yM)
  (zH (yN (ur hr.units (zA 1) zD) (zJ YY) yM)
  (zH (zb 2 KG.nd (zQ aE hr rfl (zB (xR (zB (zA 0) (zB (zA 1) zC))) zC)))
  (uU (yN (Zy (zA 1) zD) (zJ (zb 2 KG.nd (xU (zA 2)))) yM)
  (zJ (zZ (xR (zB (wj (zA 0) (zA 2)) (zB (wj (zA 1) (zA 2)) zC))))))))),λds R h=>?_⟩
 obtain ⟨t,b,rfl,b0,bb,q⟩:=h
 refine ⟨_,rfl,rfl,wF rfl ⟨_,rfl,rfl,wF rfl (wF (decide_eq_false b0) ⟨k0,t,b,rfl,?_⟩)⟩⟩
 refine ⟨λΓ=>Γ=[.sh (.int t),.sh (.int b),.sh (.int (gI t b))],w2 (λc1=>?_) λc1=>?_,?_⟩
 ·unfold gI
  rw [if_pos (of_decide_eq_true c1)]
  rfl
 ·unfold gI
  rw [if_neg (of_decide_eq_false c1)]
  rfl
 rintro Γ' rfl
 have g0:=Y5 (t:=t) b0
 have gb:Bd 8000 (gI t b):=(Y6 (t:=t) b0 bb).mono
 exact ⟨g0,gb,g0,gb,k0,q⟩
theorem zM3 (F:zf K "minus" "minus" KH f fd) (aj:wf P w K mg base "fraction" ["top","bottom"] k (zG (qS)) (.int 1)):zF P w K mg base zV (k + 1) f fd ["one","other"] (zG (ga)):=by
 refine zv F zMc λ_ _ _ _ _ _ hr=>⟨_,(zJ (zZ (zQ aj.fn hr rfl (zB (wI (yW (zL (zA 0) zD) (zL (zA 1) zD)) (yW (zL (zA 1) zD) (zL (zA 0) zD))) (zB (yW (zL (zA 0) zD) (zL (zA 1) zD)) zC))))),λds R h=>?_⟩
 obtain ⟨x,y,rfl,p0,q0,b1,b2,b3,b4,bb,q⟩:=h
 exact ⟨_,rfl,_,rfl,b1.mono,b4.mono,_,rfl,_,rfl,b3.mono,b2.mono,_,rfl,_,rfl,b2.mono,b4.mono,_,_,rfl,dR (eY p0 q0),bb,q⟩
theorem zM1 (F:zf K "times" "times" KI f fd) (aj:wf P w K mg base "fraction" ["top","bottom"] k (zG (qS)) (.int 1)):zF P w K mg base zV (k + 1) f fd ["one","other"] (zG (gc)):=by
 refine zv F zMb λ_ _ _ _ _ _ hr=>⟨_,(zJ (zZ (zQ aj.fn hr rfl (zB (yW (zL (zA 0) zD) (zL (zA 1) zD)) (zB (yW (zL (zA 0) zD) (zL (zA 1) zD)) zC))))),λds R h=>?_⟩
 obtain ⟨x,y,rfl,p0,q0,b1,b2,b3,b4,bb,q⟩:=h
 exact ⟨_,rfl,_,rfl,b1.mono,b3.mono,_,rfl,_,rfl,b2.mono,b4.mono,_,_,rfl,dR (eY p0 q0),bb,q⟩
theorem zM0 (F:zf K "under" "under" KJ f fd):zF P w K mg base zV (k + 1) f fd ["one","other"] (zG (Y7)):=by
 refine zv F zMa λ_ _ _ _ _ _ hr=>⟨_,(zJ (zZ (zQh (yW (zL (zA 0) zD) (zL (zA 1) zD)) (yW (zL (zA 1) zD) (zL (zA 0) zD))))),λds R h=>?_⟩
 obtain ⟨x,y,rfl,b1,b2,b3,b4,q⟩:=h
 exact ⟨_,rfl,_,rfl,b1.mono,b4.mono,_,rfl,_,rfl,b3.mono,b2.mono,q⟩
theorem zGg (F:zf K "ceiling_of" "ceiling_of" KL f fd):zF P w K mg base zV (k + 1) f fd ["value"] (zG (gd)):=by
 refine zv F zGG λ_ _ _ _ _ _ hr=>⟨_,(zJ (zZ (xU (wj (xU (zL (zA 0) zD)) (zL (zA 0) zD))))),λds R h=>?_⟩
 obtain ⟨p,rfl,p0,bb,q⟩:=h
 exact ⟨_,rfl,_,rfl,dR p0,bb.mono,q⟩
theorem zJp (F:zf K "raw_sum" "raw_sum" KM f fd):zF P w K mg base zV (k + 1) f fd ["numbers","point"] (zG (QL)):=by
 refine zv F gl λ_ _ _ _ _ _ hr=>⟨_,(zH (zb 2 gl.nd zD)
  (zH (zb 3 gl.nd zD)
  (zH (xX PassesOwn.never rfl (jg rfl B.zip_ (zB (zA 0) (zB (zA 1) zC))) (wn rfl (yI 4 gl.nd (yI 5 gl.nd wm))) (zH (zb 2 gl.nd (zy (yW (zA 2) (zL (zA 5) zD)) (yW (yW (zA 4) (zL (zA 5) zD)) (zA 3))))
   (zJ (zb 3 gl.nd (yW (zA 3) (zL (zA 5) zD))))))
  (zJ (zZ (xR (zB (zA 2) (zB (zA 3) zC)))))))),λds R h=>?_⟩
 obtain ⟨d,ns,n,pts,rfl,h,ln,bn,⟨lp,n3,hp⟩,q⟩:=h
 refine h.zipL ?_
 refine ⟨λk Γ=>∃ (st:Int × Int) (s4 s5:Sl),Γ=[.sh d,.sh (xD pts),.sh (.int st.1),.sh (.int st.2),s4,s5]/\st=yR (ns.take k) (pts.take k)/\0 < st.2/\Bd (1202 + 901 * k) st.1/\Bd (1 + 900 * k) st.2,⟨(0,1),.no,.no,rfl,rfl,by decide,vJ,xY (by decide)⟩,?_,?_⟩
 ·rintro k d' Γ' hk ⟨st,s4,s5,rfl,es,a0,bt,bb⟩
  obtain ⟨w,x,hw,hx,rfl⟩:=zwq (u:=D.int) (v:=zo) hk
  have kl:=(cK.mp hx).1
  obtain ⟨x0,bx1,bx2⟩:=hp x (dm hx)
  have bw:=bn w (dm hw)
  have bwx:=bw.mul bx1
  refine ⟨_,rfl,bt.mono (by omega),bx2.mono (by omega),_,rfl,bw.mono,bx1.mono,bwx.mono,bb.mono (by omega),_,rfl,bb.mono (by omega),bx2.mono,jF st (w,x),.sh (.int w),.sh (zo x),rfl,by rw [zP2 hw hx,es],eY a0 x0,?_,(bb.mul bx2).mono (by omega)⟩
  exact (((bt.mul bx2).mono (show _<=1202 + 901 * k + 900 by omega)).add ((bwx.mul bb).mono (by omega))).mono (by omega)
 ·rintro Γ' ⟨st,s4,s5,rfl,es,a0,bt,bb⟩
  rw [iw,a_,a_,ln,lp,Nat.min_self] at es bt bb
  rw [cJ (by omega),cJ (by omega)] at es
  subst es
  exact ⟨k0,q a0 (bt.mono (by omega)) (bb.mono (by omega))⟩
theorem zM8 (F:zf K "along" "along" KN f fd) (aF:Fn P w K mg base "raw_sum" ["numbers","point"] k (zG (QL))) (aj:wf P w K mg base "fraction" ["top","bottom"] k (zG (qS)) (.int 1)):zF P w K mg base zV (k + 1) f fd ["row","point"] (zG (QM)):=by
 refine zv F zIq λ_ _ _ _ _ _ hr=>⟨_,(zH (zb 2 zIq.nd (zQ aF hr rfl (zB (wZ (zA 0) w8 (wK (xU zD))) (zB (zA 1) zC))))
  (zJ (zZ (zQ aj.fn hr rfl (zB (zL (zA 2) zD) (zB (zL (zA 2) zD) zC)))))),λds R h=>?_⟩
 obtain ⟨us,b,n,pts,rfl,lu,bu,PT,q⟩:=h
 refine ⟨_,us,n,pts,rfl,.inr (by rw [Wo]),lu,bu,PT,λa0 bt bb=>⟨_,rfl,_,rfl,_,_,rfl,dR a0,bb.mono,?_⟩⟩
 exact q a0 bt bb
theorem zM6 (F:zf K "holds" "holds" KO f fd) (aF:Fn P w K mg base "raw_sum" ["numbers","point"] k (zG (QL))):zF P w K mg base zV (k + 1) f fd ["row","point"] (zG (zRt)):=by
 refine zv F zIp λ_ _ _ _ _ _ hr=>⟨_,(zH (zb 2 zIp.nd (zQ aF hr rfl (zB (wZ (zA 0) w8 (wK (xU zD))) (zB (zA 1) zC))))
  (zJ (zZ (zQi (zL (zA 2) zD) (yW (zL (zA 0) (xU zD)) (zL (zA 2) zD)))))),λds R h=>?_⟩
 obtain ⟨us,b,n,pts,rfl,lu,bu,bb,PT,q⟩:=h
 refine ⟨_,us,n,pts,rfl,.inr (by rw [Wo]),lu,bu,PT,λa0 bt bc=>⟨_,rfl,_,Wp us b,_,rfl,bb.mono,bc.mono,?_⟩⟩
 exact q
theorem zGe (F:zf K "first_with" "first_with" KP f fd):zF P w K mg base zV (k + 1) f fd ["rows","place"] (zG (Y8)):=by
 refine zv F zDm λ_ _ _ _ _ _ hr=>⟨_,(zH (xX PassesOwn.never rfl (zJk rfl B.range_ (zB (zA 1) (zB (yr xz wL rfl B.len_ x8 (zB (zA 0) zC)) zC))) (zw 2 zDm.nd) (zJ (yN (gK hr.units (zL (zL (zA 0) (zA 2)) (zA 1)) zD) (zJ (zZ (zA 2))) yM)))
  (zJ (zZ xx))),λds R h=>?_⟩
 obtain ⟨es,L,p,f,rfl,W,few,pl,hw,hf,q⟩:=h
 have le:=W.1
 refine ⟨by omega,by omega,by omega,by omega,?_⟩
 have en:(((es.length:Nat):Int) - ((p:Nat):Int)).toNat=L.length - p:=by omega
 refine ⟨λk Γ=>∃ s2,Γ=[.sh (.lst es),.sh (.int (p:Int)),s2]/\wg (λk=>(L.getD k []).getD p 0) (p + k) (L.length - p - k)=some f,⟨.no,rfl,hf⟩,?_,?_⟩
 ·rintro k d' Γ' hk ⟨s2,rfl,hf⟩
  have kl:k < L.length - p:=by
   have:=(cK.mp hk).1
   unfold rng at this
   rw [a_,cT] at this
   omega
  have ed:d'=.int ((p + k:Nat):Int):=by
   unfold rng at hk
   rw [db,dY (by omega)] at hk
   have:=Option.some.inj hk
   rw [<- this]
   show D.int ((p:Int) + (k:Int))=_
   congr 1
  subst ed
  obtain ⟨m,hm⟩:∃ m,L.length - p - k=m + 1:=⟨L.length - p - k - 1,by omega⟩
  rw [hm] at hf
  unfold wg at hf
  obtain ⟨d,hd,hI⟩:=W.at_ (i:=p + k) (by omega)
  refine ⟨_,Wq hd,hI.ixD (hw _ (yf (by omega))) (w2 (λc1=>?_) λc1=>⟨_,rfl,?_⟩)⟩
  ·rw [if_pos (of_decide_eq_false (zRS c1))] at hf
   cases hf
   exact q
  ·rw [if_neg (λz=>z (of_decide_eq_true (QJ c1)))] at hf
   rw [show L.length - p - (k + 1)=m by omega,<- Nat.add_assoc]
   exact hf
 ·rintro Γ' ⟨s2,rfl,hf⟩
  unfold rng at hf
  rw [a_,cT,show L.length - p - (((es.length:Nat):Int) - ((p:Nat):Int)).toNat=0 by omega] at hf
  cases hf
theorem zHQ (F:zf K "put_ahead" "put_ahead" KQ f fd):zF P w K mg base zV (k + 1) f fd ["rows","place","found"] (zG (Y9)):=by
 refine zv F zEY λ_ _ _ _ _ _ hr=>⟨_,(zH (zMi 3 zEY.nd rfl (Or.inl rfl) rfl B.list_ (zB (zA 0) zC))
  (zH (yH (Xs (zL (zA 0) (zA 2)) (UR (y6 3) (zA 1) qw)) Jk)
  (zH (yH (Xs (zL (zA 0) (zA 1)) (UR (y6 3) (zA 2) qw)) Jk)
  (zJ (wa 3 (zZ (zA 3))))))),λds R h=>?_⟩
 obtain ⟨es,p,f,rfl,pl,fl,few,q⟩:=h
 have ha:∀ k,k < es.length->y3 es (k:Int)=some (es.getD k .non):=λk hk=>by
  rw [cz,b_ hk]
  exact Wq (b_ hk)
 have hx:∀ (m k:Nat),k < m->xj m (k:Int)=some k:=λm k hk=>by unfold xj; rw [if_pos (by omega),if_pos (by omega)]; congr 1
 refine ⟨_,ha f fl,_,_,rfl,hx _ _ pl,?_⟩
 refine ⟨_,ha p pl,_,_,rfl,hx _ _ (by rw [dq]; exact fl),?_⟩
 exact q
theorem zJz (F:zf K "cleared" "cleared" KR f fd):zF P w K mg base zV (k + 1) f fd ["row","pivot","place","last"] (zG (zRu)):=by
 refine zv F zFx λ_ _ _ _ _ _ hr=>⟨_,(zJ (zZ (xE (own:=["number","other"]) (caps:=[(0,"row"),(1,"pivot"),(2,"place"),(3,"last")]) (yX zFx) rfl rfl (qP (vI (vI qQ))) (jg rfl B.zip_ (zB (zA 0) (zB (zA 1) zC))) (λ_ _ _ _=>(wn rfl (yI 0 (yB ["number","other","row","pivot","place","last"]) (yI 1 (yB ["number","other","row","pivot","place","last"]) wm)))) (λ_ _ _ _=>(wj (wI (yW (zL (zA 3) (zA 4)) (zA 0)) (yW (zL (zA 2) (zA 4)) (zA 1))) (zA 5)))))),λds R h=>?_⟩
 obtain ⟨d,e,ns,ps,p,la,rfl,h,k,ll,pl,few,l0,bl,bn,bp,q⟩:=h
 refine h.zip k (zRy (λq=>(ps.getD p 0 * q.1 - ns.getD p 0 * q.2).fdiv la) (by rw [d6]; omega) (λq hq=>?_) q)
 have h1:=bn _ (dG hq).1
 have h2:=bp _ (dG hq).2
 exact k.ixD (by omega) ⟨(vx bp p).mono,h1.mono,h.ixD pl ⟨(vx bn p).mono,h2.mono,l0,bl.mono,rfl⟩⟩
theorem zK9 (F:zf K "solved" "solved" KS f fd) (bh:Fn P w K mg base "first_with" ["rows","place"] k (zG (Y8))) (bi:Fn P w K mg base "put_ahead" ["rows","place","found"] k (zG (Y9))) (bq:Fn P w K mg base "cleared" ["row","pivot","place","last"] k (zG (zRu))) (aj:wf P w K mg base "fraction" ["top","bottom"] k (zG (qS)) (.int 1)):zF P w K mg base zV (k + 1) f fd ["rows"] (zG (Wr)):=by
 refine zv F jA λ_ _ _ _ _ _ hr=>⟨_,(zH (zb 1 jA.nd (zA 0))
  (zH (zb 2 jA.nd zD)
  (zH (xX PassesOwn.never rfl (xO rfl B.range_ (zB (yr xz wL rfl B.len_ x8 (zB (zA 0) zC)) zC)) (zw 3 jA.nd) (zH (zb 4 jA.nd (zQ bh hr rfl (zB (zA 1) (zB (zA 3) zC))))
   (zH (yN (jq (zA 4) xx) (zJ (zZ xx)) yM)
   (zH (zb 1 jA.nd (zQ bi hr rfl (zB (zA 1) (zB (zA 3) (zB (zA 4) zC)))))
   (zH (zb 5 jA.nd (zL (zA 1) (zA 3)))
   (zH (vq 1 false jA.nd rfl rfl (own:=["number","row"]) (caps:=[(2,"last"),(3,"place"),(5,"pivot")]) (yX jA) rfl rfl (qP (vI (vI qQ))) (Wf rfl B.enumerate_ (zB (zA 1) zC)) (λ_ _ _ _=>(wn rfl (yI 0 (yB ["number","row","last","place","pivot"]) (yI 1 (yB ["number","row","last","place","pivot"]) wm)))) (λ_ _ _ _=>(Z5 (ur hr.units (zA 0) (zA 3)) (zA 1) (zQ bq hr rfl (zB (zA 1) (zB (zA 4) (zB (zA 3) (zB (zA 2) zC))))))) rfl)
   (zJ (zb 2 jA.nd (zL (zA 5) (zA 3))))))))))
  (zJ (zZ (xE (own:=["place","row"]) (caps:=[]) (yX jA) rfl rfl (qP (vI (vI qQ))) (Wf rfl B.enumerate_ (zB (zA 1) zC)) (λ_ _ _ _=>(wn rfl (yI 0 (yB ["place","row"]) (yI 1 (yB ["place","row"]) wm)))) (λ_ _ _ _=>(zQ aj.fn hr rfl (zB (zL (zA 1) (xU zD)) (zB (zL (zA 1) (zA 0)) zC)))))))))),λds R h=>?_⟩
 obtain ⟨es,rows,n,rfl,W,S,n2,dt,bd,q⟩:=h
 have n1:=S.n1
 have lr:=S.len
 have le:=W.1
 obtain ⟨LL,DD,SO⟩:=zNy S dt
 refine ⟨by omega,by omega,?_⟩
 rw [show ((es.length:Nat):Int).toNat=n by omega]
 refine ⟨λk Γ=>∃ (fs:List D) (L:List (List Int)) (la:Int) (s3 s4 s5:Sl),Γ=[.sh (.lst es),.sh (.lst fs),.sh (.int la),s3,s4,s5]/\yy rows k=some (L,la)/\jt fs L/\L.length=n/\la≠0/\Bd (gf k) la/\∀ r∈L,r.length=n + 1/\∀ x∈r,Bd (gf k) x,⟨es,rows,1,.no,.no,.no,rfl,rfl,W,lr,by decide,xY (by decide),λr hr=>⟨S.row r hr,bd r hr⟩⟩,?_,?_⟩
 ·rintro k d Γ' hk ⟨fs,L,la,s3,s4,s5,rfl,hR,W2,lL,l0,bl,hL⟩
  obtain ⟨kn,rfl⟩:=vo hk
  obtain ⟨L',la',f,e1,e2,e3⟩:=zOj SO.run kn
  rw [hR] at e1
  cases e1
  obtain ⟨f1,f2,f3⟩:=zJI e2
  have fl:f < L.length:=by omega
  have kl:k < L.length:=by omega
  have sz:gf k<=1000/\gf (k + 1)=2 * gf k + 1:=by
   rcases (by omega:k=0\/k=1) with rfl | rfl
   ·exact ⟨by decide,rfl⟩
   ·exact ⟨by decide,rfl⟩
  have lf:=W2.1
  have W3:=W2.put kl fl
  have hP:∀ r∈ye L k f,r.length=n + 1/\∀ x∈r,Bd (gf k) x:=λr hr=>hL r (zOn kl fl r hr)
  have lp:(ye L k f).length=n:=by rw [zKd,lL]
  obtain ⟨dp,hdp,hIp⟩:=W3.at_ (i:=k) (by omega)
  have hk':=hP _ (yf (d:=[]) (show k < (ye L k f).length by omega))
  have pv:((ye L k f).getD k []).getD k 0=(L.getD f []).getD k 0:=by
   unfold ye
   rw [kA (by rw [dq]; exact fl),kA kl]
   by_cases c:k=f
   ·rw [if_pos c,c]
   ·rw [if_neg c,if_pos rfl]
  refine ⟨fs,L,k,f,rfl,W2,by omega,by omega,λr hr=>by rw [(hL r hr).1]; omega,e2,wF rfl ⟨fs,k,f,rfl,by omega,by omega,by omega,_,Wq hdp,?_⟩⟩
  have lq:=W3.1
  refine zr.enum (λi e=>IS e (if i=k then (ye L k f).getD i [] else v9 ((ye L k f).getD i []) ((ye L k f).getD k []) k la)) (by omega) (λi x hx=>?_) λfs' lf' hf=>?_
  ·have il:=(cK.mp hx).1
   refine w2 (λc1=>?_) λc1=>?_
   ·have e:i=k:=by have:=of_decide_eq_true c1; omega
    refine ⟨i,x,rfl,?_⟩
    rw [if_pos e]
    exact W3.2 i x hx
   ·have e:i≠k:=by have:=of_decide_eq_false c1; omega
    have hi':=hP _ (yf (d:=[]) (show i < (ye L k f).length by omega))
    refine ⟨x,dp,_,_,k,la,rfl,W3.2 i x hx,hIp,by rw [hi'.1,hk'.1],by rw [hi'.1]; omega,by rw [hi'.1]; omega,l0,bl.mono sz.1,λz hz=>(hi'.2 z hz).mono sz.1,λz hz=>(hk'.2 z hz).mono sz.1,i,x,rfl,?_⟩
    rw [if_neg e]
    exact .inl rfl
  refine hIp.ixD (by rw [hk'.1]; omega) ?_
  refine ⟨fs',uh (ye L k f) k la,_,_,_,_,rfl,e3,⟨?_,λi e he=>?_⟩,?_,by rw [pv]; exact f3,?_,λr hr=>?_⟩
  ·unfold uh
   rw [a_,cT]
   omega
  ·have il:=(cK.mp he).1
   have:=hf i e he
   unfold uh
   rw [kF (by omega)]
   exact this
  ·unfold uh
   rw [a_,cT,lp]
  ·rw [sz.2]
   exact (hk'.2 _ (yf (by rw [hk'.1]; omega))).mono (by omega)
  ·unfold uh at hr
   obtain ⟨i,hi,rfl⟩:=cH.mp hr
   have hi:=dz.mp hi
   have hi':=hP _ (yf (d:=[]) hi)
   rw [sz.2]
   by_cases c:i=k
   ·rw [if_pos c]
    exact ⟨hi'.1,λx hx=>(hi'.2 x hx).mono (by omega)⟩
   ·rw [if_neg c]
    exact ⟨by rw [zPt (by rw [hi'.1,hk'.1]),hi'.1],zR1 hi'.2 hk'.2⟩
 ·rintro Γ' ⟨fs,L,la,s3,s4,s5,rfl,hR,W2,lL,l0,bl,hL⟩
  rw [vp] at hR bl hL
  rw [SO.run] at hR
  cases hR
  have lf:=W2.1
  have sz:gf n<=900:=by
   rcases (by omega:n=1\/n=2) with rfl | rfl <;> decide
  have sf:=WK SO
  refine zr.enum (λi e=>e=zo (zS ((LL.getD i []).getD n 0) DD)) (by omega) (λi x hx=>?_) λfs' lf' hf=>?_
  ·have il:=(cK.mp hx).1
   have hi:=hL _ (yf (d:=[]) (show i < LL.length by omega))
   have hr:=W2.2 i x hx
   refine hr.ixL (n:=n) hi.1 (hr.ixD (by rw [hi.1]; omega) ?_)
   rw [(SO.dia i (by omega)).2]
   exact ⟨_,_,rfl,l0,bl.mono (by omega),i,x,rfl,rfl⟩
  have e:fs'=(yS rows n).map zo:=by
   rw [sf]
   unfold kC
   refine mi λi=>?_
   rw [c_,db]
   by_cases c:i < n
   ·rw [dY c,b_ (by omega)]
    exact congrArg some (hf i _ (b_ (by omega)))
   ·rw [ez (by omega),ez (by rw [cT]; omega)]
    rfl
  rw [e]
  refine q ⟨(qG S dt).1,S.n3,λp hp=>?_⟩
  rw [sf] at hp
  obtain ⟨i,hi,rfl⟩:=cH.mp hp
  have hi:=hL _ (yf (d:=[]) (show i < LL.length by have:=dz.mp hi; omega))
  exact ⟨j6 l0,(u6 (hi.2 _ (yf (by rw [hi.1]; omega)))).mono sz,(uV bl).mono sz⟩
theorem zPM (F:zf K "axes" "axes" KT f fd) (bz:Fn P w K mg base "single" ["place","many","number","bound"] k (zG (zLo))):zF P w K mg base zV (k + 1) f fd ["many"] (zG (XA)):=by
 refine zv F zKW λ_ _ _ _ _ _ hr=>⟨_,(zJ (zZ (xE (own:=["place"]) (caps:=[(0,"many")]) (yX zKW) rfl rfl yg (xO rfl B.range_ (zB (zA 0) zC)) (λ_ _ _ _=>(zw 0 (yB ["place","many"]))) (λ_ _ _ _=>(zQ bz hr rfl (zB (zA 0) (zB (zA 1) (zB zD (zB zD zC))))))))),λds R h=>?_⟩
 obtain ⟨n,rfl,n3,q⟩:=h
 refine ⟨by omega,by omega,?_⟩
 rw [show ((n:Nat):Int).toNat=n by omega]
 refine zr.rng0 (λp=>U (xZ (p:Int) n 1++[0])) (by omega) (λp hp=>⟨(p:Int),(n:Int),1,0,rfl,by omega,by omega,?_⟩) ?_
 ·rw [show ((n:Nat):Int).toNat=n by omega]
 ·unfold Rm zg at q
  rw [c_] at q
  exact q
theorem zFO (F:zf K "corner_point" "corner_point" KU f fd) (au:Fn P w K mg base "solved" ["rows"] k (zG (Wr))):zF P w K mg base zV (k + 1) f fd ["rows","corner"] (zG (gg)):=by
 refine zv F zC5 λ_ _ _ _ _ _ hr=>⟨_,(zJ (zZ (zQ au hr rfl (zB (xE (own:=["number"]) (caps:=[(0,"rows")]) (yX zC5) rfl rfl yg (xN (zA 1)) (λ_ _ _ _=>(zw 0 (yB ["number","rows"]))) (λ_ _ _ _=>(zL (zA 1) (zA 0)))) zC)))),λds R h=>?_⟩
 obtain ⟨rows,cs,n,rfl,W,q⟩:=h
 have C:=W.C
 have n2:=W.n2
 have lc:=C.len
 refine QN (λc=>U (rows.getD c [])) (by omega) (λc hc=>⟨_,xy [] (C.lt c hc),rfl⟩) ?_
 rw [show cs.map (λc=>U (rows.getD c []))=(y9 rows cs).map U by unfold y9; rw [c_]; rfl]
 refine ⟨_,y9 rows cs,n,rfl,QO _,C.sqC,n2,C.det,λr hr=>?_,q⟩
 obtain ⟨c,hc,rfl⟩:=cH.mp hr
 exact W.bd _ (yf (C.lt c hc))
theorem zGb (F:zf K "weights_of" "weights_of" KW f fd) (au:Fn P w K mg base "solved" ["rows"] k (zG (Wr))):zF P w K mg base zV (k + 1) f fd ["rows","corner","row"] (zG (jv)):=by
 refine zv F zDi λ_ _ _ _ _ _ hr=>⟨_,(zJ (zZ (zQ au hr rfl (zB (xE (own:=["place"]) (caps:=[(0,"rows"),(1,"corner"),(2,"row")]) (yX zDi) rfl rfl yg (xO rfl B.range_ (zB (yr xz wL rfl B.len_ x8 (zB (zA 1) zC)) zC)) (λ_ _ _ _=>(zw 0 (yB ["place","rows","corner","row"]))) (λ_ _ _ _=>(zy (xa uN uS rfl B.tuple_ vP (zB (xE (own:=["number"]) (caps:=[(0,"place"),(1,"rows")]) Wg rfl rfl yg (xN (zA 2)) (λ_ _ _ _=>(zw 0 (yB ["number","place","rows"]))) (λ_ _ _ _=>(zL (zL (zA 2) (zA 0)) (zA 1)))) zC)) (xR (zB (zL (zA 3) (zA 0)) zC))))) zC)))),λds R h=>?_⟩
 obtain ⟨rows,cs,n,us,rfl,W,lu,bu,q⟩:=h
 have C:=W.C
 have n2:=W.n2
 have lc:=C.len
 have lm:(cs.map λx=>D.int ((x:Nat):Int)).length=n:=by rw [a_]; exact lc
 refine ⟨by omega,by omega,?_⟩
 rw [lm,show ((n:Nat):Int).toNat=n by omega]
 refine zr.rng0 (λj=>U ((cs.map λc=>(rows.getD c []).getD j 0)++[us.getD j 0])) (by omega) (λj hj=>?_) ?_
 ·refine QN (λc=>.int ((rows.getD c []).getD j 0)) (by omega) (λc hc=>⟨_,xy [] (C.lt c hc),_,wN (j:=j) (by rw [C.row _ (yf (C.lt c hc))]; omega) rfl,rfl⟩) ?_
  refine ⟨_,wN (j:=j) (by omega) rfl,k0,by rw [a_]; show _ + 1<=1000; omega,?_⟩
  unfold U
  rw [cP,c_]
  rfl
 ·rw [show (cR n).map (λj=>U ((cs.map λc=>(rows.getD c []).getD j 0)++[us.getD j 0]))=(xc rows cs us n).map U by unfold xc; rw [c_]; rfl]
  refine ⟨_,xc rows cs us n,n,rfl,QO _,C.sqW us,n2,C.detW us,λr hr x hx=>?_,q⟩
  obtain ⟨j,hj,rfl⟩:=cH.mp hr
  have hj:=dz.mp hj
  rcases dr.mp hx with hx | hx
  ·obtain ⟨c,hc,rfl⟩:=cH.mp hx
   exact vx (W.bd _ (yf (C.lt c hc))) j
  ·rw [df.mp hx,<- qI (n:=n) hj]
   exact vx bu j
theorem zDu (F:zf K "over_one_bottom" "over_one_bottom" KY f fd) (aE:Fn P w K mg base "common_divisor" ["numbers"] k (zG (QK))):zF P w K mg base zV (k + 1) f fd ["values"] (zG (QP)):=by
 refine zv F Xe λ_ _ _ _ _ _ hr=>⟨_,(zH (zb 1 Xe.nd zD)
  (zH (xX PassesOwn.never rfl (xN (zA 0)) (zw 2 Xe.nd) (zJ (zb 1 Xe.nd (wj (yW (zA 1) (zL (zA 2) zD)) (zQ aE hr rfl (zB (xR (zB (zA 1) (zB (zL (zA 2) zD) zC))) zC))))))
  (zJ (zZ (xR (zB (zA 1) (zB (xE (own:=["value"]) (caps:=[(1,"bottom")]) (yX Xe) rfl rfl yg (xN (zA 0)) (λ_ _ _ _=>(zw 0 (yB ["value","bottom"]))) (λ_ _ _ _=>(yW (zL (zA 0) zD) (wj (zA 1) (zL (zA 0) zD))))) zC))))))),λds R h=>?_⟩
 obtain ⟨pts,rfl,l4,hp,q⟩:=h
 refine ⟨λk Γ=>∃ (o:Int) (s2:Sl),Γ=[.sh (xD pts),.sh (.int o),s2]/\o=yO (pts.take k)/\0 < o/\Bd (1 + 900 * k) o,⟨1,_,rfl,rfl,by decide,xY (by decide)⟩,?_,?_⟩
 ·rintro k d Γ' hk ⟨o,s2,rfl,eo,p0,bb⟩
  obtain ⟨kl,rfl⟩:=gt (0,1) hk
  have hx:pts[k]? = some (pts.getD k (0,1)):=by rw [cz,b_ kl]; rfl
  obtain ⟨x0,bx1,bx2⟩:=hp _ (yf (d:=(0,1)) kl)
  have g0:(e7 o (pts.getD k (0,1)).2:Int)≠0:=dR (zLd (dR x0))
  have gb:Bd 900 (e7 o (pts.getD k (0,1)).2:Int):=bx2.of_le (by
   have:=Int.gcd_le_right (a:=o) x0
   omega)
  exact ⟨_,rfl,bb.mono (by omega),bx2.mono,_,rfl,k0,_,_,rfl,g0,gb.mono,_,_,rfl,by rw [zMz hx,<- eo]; rfl,(zHa p0 x0).1,((bb.mul bx2).fdiv _).mono (by omega)⟩
 ·rintro Γ' ⟨o,s2,rfl,eo,p0,bb⟩
  rw [a_,cJ (cF _)] at eo
  subst eo
  obtain ⟨b1,b2⟩:=zRN hp l4
  refine vv zo (λd=>match d with | .tup [x,y]=>(yD x,yD y) | _=>(0,0)) (λ_=>rfl) (λp=>.int (p.1 * (yO pts).fdiv p.2)) (by omega) (λp hq=>⟨_,rfl,_,rfl,dR (hp p hq).1,(hp p hq).2.2.mono,(hp p hq).2.1.mono,(b1.fdiv _).mono,rfl⟩) ⟨k0,?_⟩
  rw [show pts.map (λp=>D.int (p.1 * (yO pts).fdiv p.2))=(yU pts).map D.int by unfold yU; rw [c_]; rfl]
  exact q
theorem zHU (F:zf K "exchanged" "exchanged" KZ f fd):zF P w K mg base zV (k + 1) f fd ["corner","place","number"] (zG (ju)):=by
 refine zv F zHF λ_ _ _ _ _ _ hr=>⟨_,(zJ (zZ (zy (zy (wZ (zA 0) w8 (wK (zA 1))) (w6 (zB (zA 2) zC))) (wZ (zA 0) (wK (zy (zA 1) zD)) w8)))),λds R h=>?_⟩
 obtain ⟨cs,p,x,rfl,pl,l9,q⟩:=h
 have e1:HT.sIx (cs.map λx=>D.int ((x:Nat):Int)).length (cs.map λx=>D.int ((x:Nat):Int)).length (some ((p:Nat):Int))=p:=by rw [HT.sIx_nat,a_]; omega
 have e0:HT.sIx (cs.map λx=>D.int ((x:Nat):Int)).length 0 none=0:=HT.sIx_none _ _
 have e2:zq (cs.map λx=>D.int ((x:Nat):Int)) none (some ((p:Nat):Int))=(cs.take p).map λx=>D.int ((x:Nat):Int):=by
  unfold zq
  rw [e0,e1,fo,hZ,fW]
 have e3:zq (cs.map λx=>D.int ((x:Nat):Int)) (some (((p:Nat):Int) + 1)) none=(cs.drop (p + 1)).map λx=>D.int ((x:Nat):Int):=by
  unfold zq
  have f1:HT.sIx (cs.map λx=>D.int ((x:Nat):Int)).length 0 (some (((p + 1:Nat)):Int))=p + 1:=by rw [HT.sIx_nat,a_]; omega
  have f2:HT.sIx (cs.map λx=>D.int ((x:Nat):Int)).length (cs.map λx=>D.int ((x:Nat):Int)).length none=cs.length:=by rw [HT.sIx_none,a_]
  rw [show (((p:Nat):Int) + 1)=((p + 1:Nat):Int) by omega,f1,f2,cJ (by rw [d8,a_]; omega),iX]
 have l1:(cs.take p).length<=100:=by rw [cI]; omega
 have l2:(cs.drop (p + 1)).length<=100:=by rw [d8]; omega
 refine ⟨k0,?_,?_,?_⟩
 ·rw [e2,a_]; show _ + 1<=1000; omega
 ·rw [e2,e3,cA,a_,a_]; show _ + 1 + _<=1000; omega
 ·rw [e2,e3]
  unfold cN at q
  rw [List.set_eq_take_append_cons_drop,if_pos pl,cP,di] at q
  rw [eZ]
  exact q
theorem zJo (F:zf K "way_off" "way_off" Ka f fd) (aG:Fn P w K mg base "over_one_bottom" ["values"] k (zG (QP))) (au:Fn P w K mg base "solved" ["rows"] k (zG (Wr))):zF P w K mg base zV (k + 1) f fd ["rows","corner","place","number"] (zG (zRp)):=by
 refine zv F Kb λ_ _ _ _ _ _ hr=>⟨_,(zH (vq 4 false Kb.nd rfl rfl (own:=["other"]) (caps:=[(0,"rows"),(1,"corner"),(2,"place"),(3,"number")]) (yX Kb) rfl rfl yg (xN (zA 1)) (λ_ _ _ _=>(zw 0 (yB ["other","rows","corner","place","number"]))) (λ_ _ _ _=>(zy (wZ (zL (zA 1) (zA 0)) w8 (wK (xU zD))) (xR (zB (Z5 (ur hr.units (zA 0) (zL (zA 2) (zA 3))) (zA 4) zD) zC)))) rfl)
  (zJ (zZ (zL (zQ aG hr rfl (zB (zQ au hr rfl (zB (zA 4) zC)) zC)) zD)))),λds R h=>?_⟩
 obtain ⟨rows,cs,n,pl,nu,rfl,W,pn,hnu,q⟩:=h
 have C:=W.C
 have n2:=W.n2
 have lc:=C.len
 refine QN (λc=>U ((rows.getD c []).take n++[if c=cs.getD pl 0 then nu else 0])) (by omega) (λc hc=>?_) ?_
 ·have rl:=C.row _ (yf (d:=[]) (C.lt c hc))
  refine ⟨_,xy [] (C.lt c hc),_,xy 0 (by omega),?_⟩
  have e:zq ((rows.getD c []).map D.int) none (some (-1))=((rows.getD c []).take n).map D.int:=uF rl
  have f:∀ z:Int,D.tup (zq ((rows.getD c []).map D.int) none (some (-1))++[.int z])=U ((rows.getD c []).take n++[z]):=λz=>by
   rw [e]
   unfold U
   rw [cP]
   rfl
  have lz:(zq ((rows.getD c []).map D.int) none (some (-1))).length + 1<=1000:=by rw [e,a_,cI]; omega
  refine w2 (λc1=>⟨k0,lz,?_⟩) λc1=>⟨k0,lz,?_⟩
  ·have z:c=cs.getD pl 0:=by have:=of_decide_eq_true c1; omega
   rw [if_pos z]
   exact f nu
  ·have z:c≠cs.getD pl 0:=by have:=of_decide_eq_false c1; omega
   rw [if_neg z]
   exact f 0
 rw [show cs.map (λc=>U ((rows.getD c []).take n++[if c=cs.getD pl 0 then nu else 0]))=(xL rows cs pl nu n).map U by unfold xL; rw [c_]; rfl]
 refine ⟨_,xL rows cs pl nu n,n,rfl,QO _,C.sqD pl nu,n2,C.detD pl nu,λr hr x hx=>?_,λPT=>⟨_,rfl,by rw [PT.1]; omega,PT.2.2,_,rfl,q PT⟩⟩
 obtain ⟨c,hc,rfl⟩:=cH.mp hr
 rcases dr.mp hx with hx | hx
 ·exact W.bd _ (yf (C.lt c hc)) x (d7 hx)
 ·rw [df.mp hx]
  split
  ·rcases hnu with rfl | rfl
   ·exact xY (by decide)
   ·exact (xY (n:=1) (by decide)).neg.mono
  ·exact vJ
theorem zFq {c Pt:Addr} (hI:∀ H,yY.I H ↔ yL Pt "least_place.<locals>.<lambda>" ⟨156,27,156,54⟩ H) (hc:fd.code=.ref c) (T:wd base mg c Pt) (k2:2<=k) (F:zf K "least_place" "least_place" Kc f fd):zF P w K mg base zV (k + 1) f fd ["corner","fit"] (zG (jw)):=by
 refine Jv F hc Ke (λds R h=>by obtain ⟨cs,fs,rfl,_⟩:=h; rfl) λA outer s H E hr=>?_
 have hr2:=hr.mono k2
 refine ⟨_,(zH (zKg 2 false Ke.nd rfl rfl (own:=["place"]) (caps:=[(1,"fit")]) (yX Ke) rfl rfl yg (xO rfl B.range_ (zB (yr xz wL rfl B.len_ x8 (zB (zA 0) zC)) zC)) (λ_ _ _ _=>(zw 0 (yB ["place","fit"]))) (λ_ _ _ _=>(xf (zL (zA 1) (zA 0)))) (λ_ _ _ _=>(zA 0)) rfl)
  (zJ (zZ (zKi (iy:=0) hI T (zA 2) rfl hr2 rfl B.min_ zL6 rfl rfl rfl rfl rfl rfl rfl (by decide) rfl rfl rfl (λ_ _ _ _=>rfl) (by decide) (by decide) (by decide) (by decide))))),λds R h=>?_⟩
 obtain ⟨cs,fs,rfl,lf,l9,q0,q1⟩:=h
 have lm:(cs.map λx=>D.int ((x:Nat):Int)).length=cs.length:=a_ ..
 refine ⟨by omega,by omega,?_⟩
 rw [lm,show ((cs.length:Nat):Int).toNat=cs.length by omega]
 refine gR.mk (by rw [vp]; omega) (λd=>fs.getD (uG d) false) (λd e=>e=d) (λd hd=>?_) (λd hd _=>rfl) λes pe=>?_
 ·obtain ⟨j,hj⟩:=k_.mp hd
  obtain ⟨jl,rfl⟩:=vo hj
  refine ⟨_,xy false (by omega),?_⟩
  rw [Wt]
  exact rfl
 cases zK1 pe
 have e1:(rng0 cs.length).filter (λd=>fs.getD (uG d) false)=(((cR cs.length).filter λk=>fs.getD k false).map λ(k:Nat)=>(k:Int)).map D.int:=by
  unfold rng0
  rw [List.filter_map,c_]
  congr 1
 rw [e1]
 have e2:(cN cs)=.lst ((cs.map λ(k:Nat)=>(k:Int)).map D.int):=by rw [c_]; rfl
 refine ⟨_,_,rfl,by rw [<- e2]; rfl,λn hn=>?_,λz=>q0 λp hp=>?_,λn hn hm=>?_⟩
 ·obtain ⟨k,hk,rfl⟩:=cH.mp hn
  have:=dz.mp (eF.mp hk).1
  rw [a_]
  omega
 ·cases h:fs.getD p false with
  | false=>rfl
  | true=>
   have:((p:Nat):Int)∈((cR cs.length).filter λk=>fs.getD k false).map λ(k:Nat)=>(k:Int):=cH.mpr ⟨p,eF.mpr ⟨dz.mpr hp,h⟩,rfl⟩
   rw [z] at this
   cases this
 ·obtain ⟨k,hk,rfl⟩:=cH.mp hn
  have kl:=dz.mp (eF.mp hk).1
  refine q1 k kl (eF.mp hk).2 λj jl hj=>?_
  have z:=hm ((j:Nat):Int) (cH.mpr ⟨j,eF.mpr ⟨dz.mpr jl,hj⟩,rfl⟩)
  rw [show ((k:Nat):Int).toNat=k by omega,show ((j:Nat):Int).toNat=j by omega,uj (d:=0) kl,uj (d:=0) jl] at z
  omega
theorem zFN (F:zf K "first_broken" "first_broken" Kf f fd) (bA:Fn P w K mg base "holds" ["row","point"] k (zG (zRt))):zF P w K mg base zV (k + 1) f fd ["room","point"] (zG (XD)):=by
 refine zv F Kg λ_ _ _ _ _ _ hr=>⟨_,(zH (xX PassesOwn.never rfl (Wf rfl B.enumerate_ (zB (zA 0) zC)) (wn rfl (yI 2 Kg.nd (yI 3 Kg.nd wm))) (zJ (yN (wl (xf (zQ bA hr rfl (zB (zA 3) (zB (zA 1) zC))))) (zJ (zZ (zA 2))) yM)))
  (zJ (zZ xx))),λds R h=>?_⟩
 obtain ⟨room,n,pts,rfl,RO,PT,q0,q1⟩:=h
 have few:=RO.1
 refine ⟨λk Γ=>∃ s2 s3,Γ=[.sh (Rm room),.sh (xD pts),s2,s3]/\∀ j,j < k->VA room n j (zt pts)<=BA room n j,⟨_,_,rfl,λj hj=>absurd hj (e8 j)⟩,?_,?_⟩
 ·rintro k d Γ' hk ⟨s2,s3,rfl,hh⟩
  obtain ⟨x,hx,rfl⟩:=kO hk
  obtain ⟨kl,rfl⟩:=gt [] hx
  obtain ⟨rl,rb⟩:=RO.2 _ (yf (d:=[]) kl)
  have ra:=Wv rl
  have hf:=zNR rl PT.1 λp hp=>(PT.2.2 p hp).1
  refine ⟨(room.getD k []).take n,(room.getD k []).getD n 0,n,pts,by rw [ra],by rw [cI]; omega,λw hw=>(rb w (d7 hw)).mono,(rb _ (yf (by omega))).mono,PT,?_⟩
  refine w2 (λc1=>?_) λc1=>⟨_,_,rfl,λj hj=>?_⟩
  ·rw [fC]
   refine q1 k kl ?_ hh
   have c1:=zRS c1
   have:¬ vl n (room.getD k []) (zt pts)<=bo n (room.getD k []):=λz=>by rw [hf.mpr z] at c1; cases c1
   show bo n (room.getD k []) < vl n (room.getD k []) (zt pts)
   grind
  ·by_cases z:j=k
   ·rw [z]
    exact hf.mp (QJ c1)
   ·exact hh j (by omega)
 ·rintro Γ' ⟨s2,s3,rfl,hh⟩
  rw [gQ,a_] at hh
  exact q0 hh
theorem zHT (F:zf K "first_met" "first_met" Kh f fd) (aj:wf P w K mg base "fraction" ["top","bottom"] k (zG (qS)) (.int 1)) (ar:Fn P w K mg base "paired" ["numbers","others"] k (zG (Wj))) (aH:Fn P w K mg base "times" ["one","other"] k (zG (gc))) (aI:Fn P w K mg base "minus" ["one","other"] k (zG (ga))) (aJ:Fn P w K mg base "along" ["row","point"] k (zG (QM))) (bB:Fn P w K mg base "under" ["one","other"] k (zG (Y7))):zF P w K mg base zV (k + 1) f fd ["room","point","way"] (zG (XE)):=by
 refine zv F j3 λ_ _ _ _ _ _ hr=>⟨_,(zH (zb 3 j3.nd xx)
  (zH (zb 4 j3.nd (jn (.int 1) (λ_=>.int 1) aj hr rfl (zB zD zC)))
  (zH (xX PassesOwn.never rfl (Wf rfl B.enumerate_ (zB (zA 0) zC)) (wn rfl (yI 5 j3.nd (yI 6 j3.nd wm))) (zH (zb 7 j3.nd (zQ ar hr rfl (zB (wZ (zA 6) w8 (wK (xU zD))) (zB (zA 2) zC))))
   (zJ (yN (gL (zA 7) zD) (zH (zb 8 j3.nd (zQ aH hr rfl (zB (zQ aI hr rfl (zB (jn (.int 1) (λ_=>.int 1) aj hr rfl (zB (zL (zA 6) (xU zD)) zC)) (zB (zQ aJ hr rfl (zB (zA 6) (zB (zA 1) zC))) zC))) (zB (zQ aj.fn hr rfl (zB zD (zB (zA 7) zC))) zC))))
    (zJ (yN (PW.pt (uQ (jq (zA 3) xx) (ut (xf (zQ bB hr rfl (zB (zA 8) (zB (zA 4) zC))))))) (zH (zb 3 j3.nd (zA 5))
     (zJ (zb 4 j3.nd (zA 8)))) yM))) yM))))
  (zJ (zZ (zA 3)))))),λds R h=>?_⟩
 obtain ⟨room,n,pts,wp,rfl,RO,n2,PT,W,q0,q1⟩:=h
 have few:=RO.1
 have DQ:=ui (zPJ λp hp=>(W.2.2 p hp).1)
 have bow:=zRO W n2
 have lol:(yU wp).length=n:=by rw [zK5]; exact W.1
 refine ⟨0,1,rfl,by decide,xY (by decide),?_⟩
 refine ⟨λk Γ=>∃ (me:D) (f:Int × Int) (s5 s6 s7 s8:Sl),Γ=[.sh (Rm room),.sh (xD pts),.sh (L (yU wp)),.sh me,.sh (zo f),s5,s6,s7,s8]/\Bd 5000 f.1/\Bd 7000 f.2/\0 < f.2/\((me=.non/\∀ j,j < k->¬ 0 < VA room n j (zt wp))\/∃ j:Nat,me=.int (j:Int)/\vS room n k (zt pts) (zt wp) j/\zX f=(BA room n j - VA room n j (zt pts)) / ((yO wp:Rat) * VA room n j (zt wp))),⟨.non,zS 0 1,_,_,_,_,rfl,u6 (t:=0) (b:=1) vJ,uV (t:=0) (b:=1) (xY (by decide)),j6 (t:=0) (b:=1) (by decide),.inl ⟨rfl,λj hj=>absurd hj (e8 j)⟩⟩,?_,?_⟩
 ·rintro k d Γ' hk ⟨me,f,s5,s6,s7,s8,rfl,bf1,bf2,f0,hme⟩
  obtain ⟨y,hy,rfl⟩:=kO hk
  obtain ⟨kl,rfl⟩:=gt [] hy
  obtain ⟨rl,rb⟩:=RO.2 _ (yf (d:=[]) kl)
  have esp:=zQP rl W
  have ra:=Wv rl
  have va:∀ z,VA room n k z=vl n (room.getD k []) z:=λ_=>rfl
  have ba:BA room n k=(((room.getD k []).getD n 0:Int):Rat):=rfl
  generalize room.getD k []=r at rl rb esp ra va ba
  have lt:(r.take n).length=n:=by rw [cI]; omega
  have bws:∀ x∈r.take n,Bd 200 x:=λx hx=>rb x (d7 hx)
  refine ⟨_,_,r.take n,yU wp,rfl,.inr (by rw [uF rl]),.inl rfl,by omega,λx hx=>(bws x hx).mono,λx hx=>(bow x hx).mono,?_⟩
  have bsp:Bd 2910 (yG (r.take n) (yU wp)):=(zIl bws bow).mono (by omega)
  have sgn:0 < yG (r.take n) (yU wp) ↔ 0 < VA room n k (zt wp):=by
   rw [va]
   constructor
   ·intro z
    have z':=ui z
    rw [esp] at z'
    apply cZ
    intro c
    have:=dH (dN DQ) (show 0<=-(vl n r (zt wp)) by grind)
    grind
   ·intro z
    have z':=ir DQ z
    rw [<- esp] at z'
    exact_mod_cast z'
  generalize yG (r.take n) (yU wp)=sp at *
  rw [fC]
  refine w2 (λc1=>?_) λc1=>?_
  ·have hb':0 < sp:=of_decide_eq_true c1
   have up:=sgn.mp hb'
   have bb:=rb _ (yf (d:=0) (show n < r.length by omega))
   obtain ⟨a1,a2⟩:=JD (us:=r.take n) (pts:=pts) (by rw [PT.1]; exact lt) λp hp=>(PT.2.2 p hp).1
   rw [JC lt,zKF] at a2
   refine ⟨_,kR rl,_,_,rfl,by decide,xY (by decide),?_⟩
   refine ⟨r.take n,r.getD n 0,n,pts,by rw [ra],lt,λw hw=>(bws w hw).mono,PT,λ_ bal1 bal2=>?_⟩
   generalize yR (r.take n) pts=al at *
   have ane:al.2≠0:=by omega
   have q0':0 < zM al.1 al.2:=j6 ane
   have b7:Bd 4000 (zY al.1 al.2):=u6 bal1
   have b8:Bd 2800 (zM al.1 al.2):=uV bal2
   have v7:zX (zS al.1 al.2)=vl n r (zt pts):=((qF ane).2).trans (XB ane a2)
   refine ⟨(r.getD n 0,1),zS al.1 al.2,by show [zo (zS (r.getD n 0) 1),_]=_; rw [zRX],hV,q0',bb.mono,xY (by decide),b7.mono,b8.mono,(Bd.mul (xY (n:=1) (by decide)) b8).mono,?_⟩
   obtain ⟨m1,m2⟩:=QR (p:=(r.getD n 0,1)) (q:=zS al.1 al.2) hV q0'
   have c1:Bd 4010 (zY (r.getD n 0 * zM al.1 al.2 - zY al.1 al.2 * 1) (1 * zM al.1 al.2)):=u6 (((bb.mul b8).mono (show 200 + 2800<=4002 by decide) |>.sub ((b7.mul (xY (n:=1) (by decide))).mono (show 4000 + 1<=4002 by decide))).mono)
   have c2:Bd 2802 (zM (r.getD n 0 * zM al.1 al.2 - zY al.1 al.2 * 1) (1 * zM al.1 al.2)):=uV ((Bd.mul (xY (n:=1) (by decide)) b8).mono)
   rw [zKH,v7] at m2
   refine ⟨1,sp,rfl,dR hb',bsp.mono,?_⟩
   have d1:Bd 1 (zY 1 sp):=u6 (xY (by decide))
   have d2:Bd 2910 (zM 1 sp):=uV bsp
   obtain ⟨w1,w2⟩:=qF (t:=1) (b:=sp) (dR hb')
   have m1:0 < zM (r.getD n 0 * zM al.1 al.2 - zY al.1 al.2 * 1) (1 * zM al.1 al.2):=m1
   have m2:zX (zS (r.getD n 0 * zM al.1 al.2 - zY al.1 al.2 * 1) (1 * zM al.1 al.2))=((r.getD n 0:Int):Rat) - vl n r (zt pts):=m2
   refine ⟨zS (r.getD n 0 * zM al.1 al.2 - zY al.1 al.2 * 1) (1 * zM al.1 al.2),zS 1 sp,rfl,m1,w1,c1.mono,c2.mono,d1.mono,d2.mono,(c2.mul d2).mono,?_⟩
   obtain ⟨k1,k2⟩:=QS (p:=zS (r.getD n 0 * zM al.1 al.2 - zY al.1 al.2 * 1) (1 * zM al.1 al.2)) (q:=zS 1 sp) m1 w1
   have g1:Bd 5000 (zY (zY (r.getD n 0 * zM al.1 al.2 - zY al.1 al.2 * 1) (1 * zM al.1 al.2) * zY 1 sp) (zM (r.getD n 0 * zM al.1 al.2 - zY al.1 al.2 * 1) (1 * zM al.1 al.2) * zM 1 sp)):=u6 ((c1.mul d1).mono)
   have g2:Bd 7000 (zM (zY (r.getD n 0 * zM al.1 al.2 - zY al.1 al.2 * 1) (1 * zM al.1 al.2) * zY 1 sp) (zM (r.getD n 0 * zM al.1 al.2 - zY al.1 al.2 * 1) (1 * zM al.1 al.2) * zM 1 sp)):=uV ((c2.mul d2).mono)
   have vf:zX (zS ((zS (r.getD n 0 * zM al.1 al.2 - zY al.1 al.2 * 1) (1 * zM al.1 al.2)).1 * (zS 1 sp).1) ((zS (r.getD n 0 * zM al.1 al.2 - zY al.1 al.2 * 1) (1 * zM al.1 al.2)).2 * (zS 1 sp).2))=(BA room n k - VA room n k (zt pts)) / ((yO wp:Rat) * VA room n k (zt wp)):=k2.trans (by
    rw [m2,show zX (zS 1 sp)=_ from w2,esp,va,va,ba,eJ,eJ]
    show _ * (((1:Int):Rat) * _)=_
    rw [show ((1:Int):Rat)=1 from rfl,Rat.one_mul])
   generalize hg:zS ((zS (r.getD n 0 * zM al.1 al.2 - zY al.1 al.2 * 1) (1 * zM al.1 al.2)).1 * (zS 1 sp).1) ((zS (r.getD n 0 * zM al.1 al.2 - zY al.1 al.2 * 1) (1 * zM al.1 al.2)).2 * (zS 1 sp).2)=g at *
   have g1:Bd 5000 g.1:=by rw [<- hg]; exact g1
   have g2:Bd 7000 g.2:=by rw [<- hg]; exact g2
   have g0:0 < g.2:=by rw [<- hg]; exact k1
   rcases hme with ⟨rfl,hno⟩ | ⟨j,rfl,M,ej⟩
   ·exact wT rfl (wT rfl ⟨_,g,_,_,_,_,rfl,g1,g2,g0,.inr ⟨k,rfl,zLQ hno up,vf⟩⟩)
   ·refine wF rfl ⟨g,f,rfl,g1.mono,g2.mono,bf1.mono,bf2.mono,?_⟩
    have cmp:(g.1 * f.2 < f.1 * g.2) ↔ (BA room n k - VA room n k (zt pts)) * VA room n j (zt wp) < (BA room n j - VA room n j (zt pts)) * VA room n k (zt wp):=by
     rw [zQA g0 f0,vf,ej]
     exact zMW up M.up DQ
    refine ⟨λhu=>⟨_,g,_,_,_,_,rfl,g1,g2,g0,.inr ⟨k,rfl,zNF M up (cmp.mp (of_decide_eq_true hu)),vf⟩⟩,λhu=>⟨_,f,_,_,_,_,rfl,bf1,bf2,f0,.inr ⟨j,rfl,zJA M λ_ z=>of_decide_eq_false hu (cmp.mpr z),ej⟩⟩⟩
  ·have up:¬ 0 < VA room n k (zt wp):=λz=>of_decide_eq_false c1 (sgn.mpr z)
   refine ⟨me,f,_,_,_,_,rfl,bf1,bf2,f0,?_⟩
   rcases hme with ⟨rfl,hno⟩ | ⟨j,rfl,M,ej⟩
   ·refine .inl ⟨rfl,λi hi=>?_⟩
    by_cases e:i=k
    ·rw [e]; exact up
    ·exact hno i (by omega)
   ·exact .inr ⟨j,rfl,zJA M λz=>absurd z up,ej⟩
 ·rintro Γ' ⟨me,f,s5,s6,s7,s8,rfl,bf1,bf2,f0,hme⟩
  rw [gQ,a_] at hme
  rcases hme with ⟨rfl,hno⟩ | ⟨j,rfl,M,ej⟩
  ·exact q0 hno
  ·exact q1 j M
theorem zK8 (F:zf K "spread" "spread" Ki f fd) (aG:Fn P w K mg base "over_one_bottom" ["values"] k (zG (QP))):zF P w K mg base zV (k + 1) f fd ["count","corner","weights"] (zG (QT)):=by
 refine zv F kY λ_ _ _ _ _ _ hr=>⟨_,(zH (zb 3 kY.nd (zQ aG hr rfl (zB (zA 2) zC)))
  (zH (vq 4 true kY.nd rfl rfl (own:=["number"]) (caps:=[]) (yX kY) rfl rfl yg (xO rfl B.range_ (zB (zA 0) zC)) (λ_ _ _ _=>(zw 0 (yB ["number"]))) (λ_ _ _ _=>zD) rfl)
  (zH (xX PassesOwn.never rfl (jg rfl B.zip_ (zB (zA 1) (zB (zL (zA 3) zD) zC))) (wn rfl (yI 5 kY.nd (yI 6 kY.nd wm))) (zJ (yN (Zy (zA 5) (zA 0)) (zJ (yH (Xs (zA 6) (UR (y6 4) (zA 5) qw)) Jk)) yM)))
  (zJ (wa 4 (zZ (xR (zB (zL (zA 3) zD) (zB (zA 4) zC))))))))),λds R h=>?_⟩
 obtain ⟨m,cs,xs,rfl,m1,l1,l2,bx,q⟩:=h
 refine ⟨xs,rfl,l2,bx,by omega,by omega,?_⟩
 rw [show ((m:Nat):Int).toNat=m by omega]
 refine zr.rng0 (λ_=>.int 0) (by omega) (λk hk=>rfl) ⟨_,rfl,?_⟩
 refine ⟨λk Γ=>∃ (zs:List Int) (s5 s6:Sl),Γ=[.sh (.int (m:Int)),.sh (cN cs),.sh (xD xs),.sh (.tup [.int (yO xs),L (yU xs)]),.ow (zs.map D.int),s5,s6]/\zs.length=m,⟨cG m 0,.no,.no,by rw [show ((cR m).map λ_=>D.int 0)=(cG m (0:Int)).map D.int by rw [iF,List.map_const',cT]]; rfl,eS⟩,?_,?_⟩
 ·rintro k d Γ' hk ⟨zs,s5,s6,rfl,lz⟩
  obtain ⟨c,x,hc,hx,rfl⟩:=zwq (u:=λx:Nat=>D.int ((x:Nat):Int)) (v:=D.int) hk
  refine w2 (λc1=>?_) λc1=>⟨zs,_,_,rfl,lz⟩
  have cm:c < m:=by have:=of_decide_eq_true c1; omega
  refine ⟨_,c,rfl,?_,zs.set c x,.sh (.int ((c:Nat):Int)),.sh (.int x),?_,by rw [dq]; exact lz⟩
  ·unfold xj
   rw [if_pos (by omega),if_pos (by rw [a_]; omega)]
   congr 1
  ·rw [List.map_set]
   rfl
 ·rintro Γ' ⟨zs,s5,s6,rfl,lz⟩
  exact ⟨_,rfl,k0,q zs⟩
theorem zFM (F:zf K "first_corner" "first_corner" Kj f fd) (av:Fn P w K mg base "weights_of" ["rows","corner","row"] k (zG (jv))) (aw:Fn P w K mg base "least_place" ["corner","fit"] k (zG (jw))) (ay:Fn P w K mg base "exchanged" ["corner","place","number"] k (zG (ju))):zF P w K mg base zV (k + 1) f fd ["rows","count"] (zG (XH)):=by
 refine zv F gm λ_ _ _ _ _ _ hr=>⟨_,(zH (zb 2 gm.nd (zOq rfl rfl B.list_ rfl B.range_ (zA 1) (yr xz wL rfl B.len_ x8 (zB (zA 0) zC))))
  (zH (xX PassesOwn.never rfl (xO rfl B.range_ (zB (zA 1) zC)) (zw 3 gm.nd) (zH (yN (Zy (yr (zHk rfl) zJV rfl B.max_ X8 (zB (zA 2) zC)) (zA 1)) (zJ (zZ (zA 2))) yM)
   (zH (zb 4 gm.nd (zQ av hr rfl (zB (zA 0) (zB (zA 2) (zB (zL (zA 0) (zA 3)) zC)))))
   (zH (zb 5 gm.nd (zQ aw hr rfl (zB (zA 2) (zB (xE (own:=["axis","weight"]) (caps:=[(1,"count")]) (yX gm) rfl rfl (qP (vI (vI qQ))) (jg rfl B.zip_ (zB (zA 2) (zB (zA 4) zC))) (λ_ _ _ _=>(wn rfl (yI 0 (yB ["axis","weight","count"]) (yI 1 (yB ["axis","weight","count"]) wm)))) (λ_ _ _ _=>(uD (JM (zA 0) (zA 2)) (jK (zQg hr.units (zL (zA 1) zD) zD))))) zC))))
   (zJ (yN (zIu (zA 5) xx) (zJ (zb 2 gm.nd (zQ ay hr rfl (zB (zA 2) (zB (zA 5) (zB (zA 3) zC)))))) yM))))))
  (zJ (zZ (zA 2))))),λds R h=>?_⟩
 obtain ⟨rows,n,count,rfl,X,q⟩:=h
 have RM:=X.ok
 have n1:=RM.n1
 have n2:=X.n2
 have few:=X.few
 have ll:=RM.len
 have lr:(rows.map U).length=count + n:=by rw [a_]; exact ll
 refine ⟨_,_,rfl,rfl,by omega,by omega,by omega,by omega,?_⟩
 have e0:D.lst ((cR (((((rows.map U).length:Nat):Int) - ((count:Nat):Int)).toNat)).map λ(k:Nat)=>D.int (((count:Nat):Int) + (k:Int)))=cN (FC rows n count 0):=by
  rw [lr,show ((((count + n:Nat)):Int) - ((count:Nat):Int)).toNat=n by omega]
  show _=cN ((cR n).map λk=>count + k)
  unfold cN
  rw [c_]
  refine congrArg D.lst (eN λk _=>?_)
  show D.int (((count:Nat):Int) + ((k:Nat):Int))=D.int (((count + k:Nat)):Int)
  rw [Int.natCast_add]
 rw [e0]
 refine ⟨by omega,by omega,?_⟩
 rw [show ((count:Nat):Int).toNat=count by omega]
 refine ⟨λk Γ=>∃ cs s3 s4 s5,Γ=[.sh (Rm rows),.sh (.int ((count:Nat):Int)),.sh (cN cs),s3,s4,s5]/\cs=FC rows n count k,⟨_,.no,.no,.no,rfl,rfl⟩,?_,?_⟩
 ·rintro k d Γ' hk ⟨cs,s3,s4,s5,rfl,ec⟩
  obtain ⟨kl,rfl⟩:=vo hk
  have C:Cr rows n cs:=by rw [ec]; exact (Zk RM k (by omega))
  have lc:=C.len
  refine ⟨cs.map λ(x:Nat)=>(x:Int),by rw [c_]; rfl,by rw [a_]; omega,λM hM hmax=>w2 (λc1=>?_) λc1=>?_⟩
  ·have c1:=of_decide_eq_true c1
   have z:=zLj (rows:=rows) (n:=n) (count:=count) (i:=k) (λp hp=>by
    rw [<- ec]
    have:((cs.getD p 0:Nat):Int)<=M:=hmax _ (cH.mpr ⟨_,yf (by omega),rfl⟩)
    omega) (count - k)
   rw [show k + (count - k)=count by omega,<- ec] at z
   rw [z] at q
   exact q
  have hrk:=RM.row _ (yf (d:=[]) (show k < rows.length by omega))
  refine ⟨_,xy [] (by omega),rows,cs,n,rows.getD k [],rfl,X.co C,hrk,λx hx=>X.bd _ (yf (show k < rows.length by omega)) x (d7 hx),λPT=>?_⟩
  have lw:=PT.1
  refine zRz (λx:Nat=>D.int ((x:Nat):Int)) uG Wt (λc y=>decide (count<=c) && decide ((u7 y).1≠0)) (by omega) (λc y hcy=>?_) ?_
  ·obtain ⟨x,_,rfl⟩:=cH.mp (dG hcy).2
   refine w2 (λc1=>⟨_,rfl,?_⟩) λc1=>?_
   ·have z:decide (count<=c)=true:=decide_eq_true (by have:=of_decide_eq_true c1; omega)
    show D.bool (!decide (x.1=0))=D.bool (_ && decide (x.1≠0))
    rw [z,decide_not]
    rfl
   ·have z:decide (count<=c)=false:=decide_eq_false (by have:=of_decide_eq_false c1; omega)
    rw [z]
    rfl
  have key:∀ p,p < n->((cs.zip ((zp rows cs (rows.getD k []) n).map zo)).map λq=>(λc y=>decide (count<=c) && decide ((u7 y).1≠0)) q.1 q.2).getD p false=gh (zp rows cs (rows.getD k []) n) count cs p:=λp hp=>by
   rw [zId (g:=λc y=>decide (count<=c) && decide ((u7 y).1≠0)) (by omega) (by rw [a_]; omega),zQm (by omega)]
   rfl
  refine ⟨cs,_,rfl,by rw [a_,d6,a_,lw]; omega,by omega,λhz=>wF rfl ⟨cs,_,_,_,rfl,?_⟩,λp hp hf hl=>wT rfl ⟨cs,p,k,rfl,hp,by omega,cs.set p k,_,_,_,rfl,?_⟩⟩
  ·rw [ec]
   refine (JF k λp hp fp=>?_).symm
   rw [<- ec] at fp
   have:=hz p (by omega)
   rw [key p hp,(QU C hp).mpr fp] at this
   cases this
  ·rw [ec]
   refine (zLk k (by rw [<- ec]; exact C) ?_).symm
   rw [<- ec]
   have pn:p < n:=by omega
   rw [key p pn] at hf
   exact ⟨pn,(QU C pn).mp hf,λj hj fj=>hl j (by omega) (by rw [key j hj]; exact (QU C hj).mpr fj)⟩
 ·rintro Γ' ⟨cs,s3,s4,s5,rfl,ec⟩
  rw [vp] at ec
  rw [ec]
  exact q
theorem zJy (F:zf K "climbed" "climbed" Kk f fd) (aK:Fn P w K mg base "corner_point" ["rows","corner"] k (zG (gg))) (av:Fn P w K mg base "weights_of" ["rows","corner","row"] k (zG (jv))) (aw:Fn P w K mg base "least_place" ["corner","fit"] k (zG (jw))) (aL:Fn P w K mg base "spread" ["count","corner","weights"] k (zG (QT))) (aJ:Fn P w K mg base "along" ["row","point"] k (zG (QM))) (bC:Fn P w K mg base "way_off" ["rows","corner","place","number"] k (zG (zRp))) (bE:Fn P w K mg base "first_met" ["room","point","way"] k (zG (XE))) (ay:Fn P w K mg base "exchanged" ["corner","place","number"] k (zG (ju))):zF P w K mg base zV (k + 1) f fd ["rows","count","corner","row"] (zG (zRv)):=by
 refine zv F qY λ_ _ _ _ _ _ hr=>⟨_,(zJ (Jw PassesOwn.never (xf um) (zH (zb 4 qY.nd (zQ aK hr rfl (zB (zA 0) (zB (zA 2) zC))))
   (zH (zb 5 qY.nd (zQ av hr rfl (zB (zA 0) (zB (zA 2) (zB (zA 3) zC)))))
   (zH (zb 6 qY.nd (zQ aw hr rfl (zB (zA 2) (zB (xE (own:=["number","weight"]) (caps:=[(1,"count")]) (yX qY) rfl rfl (qP (vI (vI qQ))) (jg rfl B.zip_ (zB (zA 2) (zB (zA 5) zC))) (λ_ _ _ _=>(wn rfl (yI 0 (yB ["number","weight","count"]) (yI 1 (yB ["number","weight","count"]) wm)))) (λ_ _ _ _=>(Z4 (zQh (zL (zA 1) zD) zD) (jK (uD (JM (zA 0) (zA 2)) (jK (zQg hr.units (zL (zA 1) zD) zD))))))) zC))))
   (zH (yN (jq (zA 6) xx) (zJ (zZ (xR (zB uo (zB (zQ aJ hr rfl (zB (zA 3) (zB (zA 4) zC))) (zB (zQ aL hr rfl (zB (zA 1) (zB (zA 2) (zB (zA 5) zC)))) (zB (zA 4) zC))))))) yM)
   (zH (zb 7 qY.nd (zQ bC hr rfl (zB (zA 0) (zB (zA 2) (zB (zA 6) (zB (Z5 (gL (zL (zL (zA 5) (zA 6)) zD) zD) zD (xU zD)) zC))))))
   (zH (zb 8 qY.nd (zQ bE hr rfl (zB (wZ (zA 0) w8 (wK (zA 1))) (zB (zA 4) (zB (zA 7) zC)))))
   (zH (yN (jq (zA 8) xx) (zJ (zZ (xR (zB uo (zB (zA 4) (zB (zA 7) zC)))))) yM)
   (zJ (zb 2 qY.nd (zQ ay hr rfl (zB (zA 2) (zB (zA 6) (zB (zA 8) zC))))))))))))))),λds R h=>?_⟩
 obtain ⟨room,n,m,cs,us,b,R0,rfl,RO,n1,n2,C,lu,bu,hR,hT⟩:=h
 have X:=Wy RO n1 n2
 have ll:=X.ok.len
 have few:=RO.1
 have bu2:∀ x∈(us++[b]).take n,Bd 200 x:=λx hx=>by
  rw [dj (by omega),cJ (by omega)] at hx
  exact bu x hx
 have lu2:(us++[b]).length=n + 1:=by rw [cA,lu]; rfl
 have cut:zq ((room++zg n).map U) none (some ((room.length:Nat):Int))=room.map U:=by
  rw [zPq,<- fW,dj (cF _),cJ (cF _)]
 refine ⟨λm Γ=>∃ cs s4 s5 s6 s7 s8,Γ=[.sh (Rm (room++zg n)),.sh (.int ((room.length:Nat):Int)),.sh (cN cs),.sh (U (us++[b])),s4,s5,s6,s7,s8]/\Cr (room++zg n) n cs/\jH (room++zg n) n room.length us m cs R0,⟨m,cs,.no,.no,.no,.no,.no,rfl,C,hR⟩,?_⟩
 clear hR C cs m
 rintro m Γ' ⟨cs,s4,s5,s6,s7,s8,rfl,C,hR⟩
 have lc:=C.len
 refine wT rfl ⟨_,cs,n,rfl,X.co C,λPT=>⟨_,cs,n,us++[b],rfl,X.co C,lu2,bu2,λPW=>?_⟩⟩
 rw [zOV lu] at PW |-
 have lw:=PW.1
 refine zRz (λx:Nat=>D.int ((x:Nat):Int)) uG Wt (λc y=>decide ((u7 y).1 < 0) || (decide (room.length<=c) && decide ((u7 y).1≠0))) (by omega) (λc y hcy=>?_) ?_
 ·obtain ⟨x,_,rfl⟩:=cH.mp (dG hcy).2
  refine ⟨_,rfl,w2 (λc0=>?_) λc0=>w2 (λc1=>⟨_,rfl,?_⟩) λc1=>?_⟩
  ·show D.bool true=D.bool (decide (x.1 < 0) || _)
   rw [show decide (x.1 < 0)=true from c0]
   rfl
  ·have z:decide (room.length<=c)=true:=decide_eq_true (by have:=of_decide_eq_true c1; omega)
   show D.bool (!decide (x.1=0))=D.bool (decide (x.1 < 0) || (_ && decide (x.1≠0)))
   rw [show decide (x.1 < 0)=false from c0,z,decide_not]
   rfl
  ·have z:decide (room.length<=c)=false:=decide_eq_false (by have:=of_decide_eq_false c1; omega)
   show D.bool false=D.bool (decide (x.1 < 0) || (_ && decide (x.1≠0)))
   rw [show decide (x.1 < 0)=false from c0,z]
   rfl
 have key:∀ p,p < n->((cs.zip ((zp (room++zg n) cs us n).map zo)).map λq=>(λc y=>decide ((u7 y).1 < 0) || (decide (room.length<=c) && decide ((u7 y).1≠0))) q.1 q.2).getD p false=jX (zp (room++zg n) cs us n) room.length cs p:=λp hp=>by
  rw [zId (g:=λc y=>decide ((u7 y).1 < 0) || (decide (room.length<=c) && decide ((u7 y).1≠0))) (by omega) (by rw [a_]; omega),zQm (by omega)]
  rfl
 refine ⟨cs,_,rfl,by rw [a_,d6,a_,lw]; omega,by omega,λhz=>wT rfl ?_,λp hp hf hl=>wF rfl ?_⟩
 ·have no:∀ k,k < n->¬ xv (room++zg n) n room.length us cs k:=λk hk fk=>by
   have:=hz k (by omega)
   rw [key k hk,(QV C hk).mpr fk] at this
   cases this
  refine ⟨us,b,n,_,rfl,lu,λx hx=>(bu x hx).mono,PT,λa0 b1 b2=>⟨room.length,cs,_,rfl,by omega,by omega,by omega,PW.2.2,λzs=>⟨k0,?_⟩⟩⟩
  cases hR with
  | mst h=>exact hT (j6 (dR a0)) (u6 b1) (uV b2) _ _
  | opn h _=>exact absurd h.fit (no _ h.lt)
  | go h _ _=>exact absurd h.fit (no _ h.lt)
 ·have pn:p < n:=by omega
  rw [key p pn] at hf
  have LP:uA (xv (room++zg n) n room.length us cs) cs n p:=⟨pn,(QV C pn).mp hf,λj hj fj=>hl j (by omega) (by rw [key j hj]; exact (QV C hj).mpr fj)⟩
  have wp:=Wx C us pn
  have sg:0 < YC (room++zg n) n cs us p ↔ 0 < ((zp (room++zg n) cs us n).getD p (0,1)).1:=(Ww wp).1
  refine ⟨_,xy (0,1) (by omega),_,rfl,?_⟩
  have way:∀ nu:Int,nu=vT (YC (room++zg n) n cs us p)->yS (xL (room++zg n) cs p nu n) n=w4 (room++zg n) cs us p n:=λnu e=>by unfold w4; rw [e]
  refine ⟨λc=>⟨_,cs,n,p,_,rfl,X.co C,pn,.inl rfl,?a⟩,λc=>⟨_,cs,n,p,_,rfl,X.co C,pn,.inr rfl,?b⟩⟩
  case' a=>rw [way 1 (by unfold vT; rw [if_pos (sg.mpr (of_decide_eq_true c))])]
  case' b=>rw [way (-1) (by unfold vT; rw [if_neg λz=>of_decide_eq_false c (sg.mp z)])]
  all_goals
   intro PD
   refine ⟨room,n,zm (room++zg n) cs n,w4 (room++zg n) cs us p n,by rw [cut],RO,n2,PT,PD,λno=>wT rfl ⟨k0,?_⟩,λr M=>wF rfl ⟨cs,p,r,rfl,hp,by omega,?_⟩⟩
   ·cases hR with
    | mst h=>exact absurd LP.fit (h p pn)
    | opn h _=>exact hT _ _
    | go h M _=>
     rw [h.one C LP] at M
     exact absurd (by have:=M.up; rw [(qU M.lt _).1] at this; exact this) (no _ M.lt)
   ·cases hR with
    | mst h=>exact absurd LP.fit (h p pn)
    | opn h no=>
     rw [h.one C LP] at no
     exact absurd (QX M).up (no _ M.lt)
    | go h M' z=>
     rw [h.one C LP] at M' z
     rw [<- zPR (QX M) M'] at z
     exact ⟨_,dC _,cs.set p r,_,_,_,_,_,rfl,(WL C (by omega) pn (C.wayIs pn) M.lt (QX M).up).1,z⟩
theorem zPL (F:zf K "most" "most" Kl f fd) (bF:Fn P w K mg base "axes" ["many"] k (zG (XA))) (bG:Fn P w K mg base "first_corner" ["rows","count"] k (zG (XH))) (bH:Fn P w K mg base "first_broken" ["room","point"] k (zG (XD))) (aK:Fn P w K mg base "corner_point" ["rows","corner"] k (zG (gg))) (bI:Fn P w K mg base "climbed" ["rows","count","corner","row"] k (zG (zRv))) (av:Fn P w K mg base "weights_of" ["rows","corner","row"] k (zG (jv))) (aw:Fn P w K mg base "least_place" ["corner","fit"] k (zG (jw))) (aj:wf P w K mg base "fraction" ["top","bottom"] k (zG (qS)) (.int 1)) (aL:Fn P w K mg base "spread" ["count","corner","weights"] k (zG (QT))) (ay:Fn P w K mg base "exchanged" ["corner","place","number"] k (zG (ju))):zF P w K mg base zV (k + 1) f fd ["room","row"] (zG (kT)):=by
 refine zv F jB λ_ _ _ _ _ _ hr=>⟨_,(zH (zb 2 jB.nd (yr xz wL rfl B.len_ x8 (zB (zA 0) zC)))
  (zH (zb 3 jB.nd (zy (zA 0) (zQ bF hr rfl (zB (wI (yr xz wL rfl B.len_ x8 (zB (zA 1) zC)) zD) zC))))
  (zH (zb 4 jB.nd (zQ bG hr rfl (zB (zA 3) (zB (zA 2) zC))))
  (zJ (Jw PassesOwn.never (xf um) (zH (zb 5 jB.nd (zQ bH hr rfl (zB (zA 0) (zB (zQ aK hr rfl (zB (zA 3) (zB (zA 4) zC))) zC))))
   (zH (yN (jq (zA 5) xx) (zJ (zZ (zQ bI hr rfl (zB (zA 3) (zB (zA 2) (zB (zA 4) (zB (zA 1) zC))))))) yM)
   (zH (zb 6 jB.nd (zQ av hr rfl (zB (zA 3) (zB (zA 4) (zB (zL (zA 3) (zA 5)) zC)))))
   (zH (zb 7 jB.nd (zQ aw hr rfl (zB (zA 4) (zB (xE (own:=["weight"]) (caps:=[]) (yX jB) rfl rfl yg (xN (zA 6)) (λ_ _ _ _=>(zw 0 (yB ["weight"]))) (λ_ _ _ _=>(Zs (zL (zA 0) zD) zD))) zC))))
   (zH (yN (jq (zA 7) xx) (zH (vq 8 false jB.nd rfl rfl (own:=["weight"]) (caps:=[]) (yX jB) rfl rfl yg (xN (zA 6)) (λ_ _ _ _=>(zw 0 (yB ["weight"]))) (λ_ _ _ _=>(zQ aj.fn hr rfl (zB (xU (zL (zA 0) zD)) (zB (zL (zA 0) zD) zC)))) rfl)
    (zJ (zZ (xR (zB uo (zB (xR (zB zD (zB (zL (zQ aL hr rfl (zB (zA 2) (zB (zy (zA 4) (w6 (zB (zA 5) zC))) (zB (zy (zA 8) (w6 (zB (jn (.int 1) (λ_=>.int 1) aj hr rfl (zB zD zC)) zC))) zC)))) zD) zC))) zC)))))) yM)
   (zJ (zb 4 jB.nd (zQ ay hr rfl (zB (zA 4) (zB (zA 7) (zB (zA 5) zC)))))))))))))))),λds R h=>?_⟩
 obtain ⟨room,n,m,us,b,R0,rfl,RO,n1,n2,lu,bu,hR,hT⟩:=h
 have X:=Wy RO n1 n2
 have ll:=X.ok.len
 have few:=RO.1
 have lr:((us++[b]).map D.int).length=n + 1:=by rw [a_,cA,lu]; rfl
 have lT:(room.map U).length=room.length:=a_ ..
 refine ⟨n,by rw [lr,show (((n + 1:Nat):Int) - 1)=(n:Int) by omega],by omega,by rw [lT,a_,QY]; omega,?_⟩
 rw [<- cP,lT]
 refine ⟨_,n,room.length,rfl,X,?_⟩
 have C:=(Zk X.ok room.length (cF _))
 generalize FC (room++zg n) n room.length room.length=cs at C hR
 refine ⟨λm Γ=>∃ cs s5 s6 s7 s8,Γ=[.sh (Rm room),.sh (U (us++[b])),.sh (.int ((room.length:Nat):Int)),.sh (Rm (room++zg n)),.sh (cN cs),s5,s6,s7,s8]/\Cr (room++zg n) n cs/\uB (room++zg n) n room.length us m cs R0,⟨m,cs,.no,.no,.no,.no,rfl,C,hR⟩,?_⟩
 clear hR C cs m
 rintro m Γ' ⟨cs,s5,s6,s7,s8,rfl,C,hR⟩
 have lc:=C.len
 refine wT rfl ⟨_,cs,n,rfl,X.co C,λPT=>?_⟩
 refine ⟨room,n,_,rfl,RO,PT,λhh=>wT rfl ?_,λr hr hb hl=>wF rfl ?_⟩
 ·have Fx:Fe (room++zg n) n room.length cs:=λi hi=>by
   rw [(qU hi _).1,(qU (ax:=zg n) (n:=n) hi (λ_=>0)).2]
   exact hh i hi
  have nb:∀ r,¬ gA (room++zg n) n room.length cs r:=λr h=>by
   have:=Fx r h.1
   have:=h.2.1
   grind
  cases hR with
  | done h z=>exact ⟨room,n,_,cs,us,b,R0,rfl,RO,n1,n2,C,lu,bu,z,hT⟩
  | emp h _=>exact absurd h (nb _)
  | go h _ _=>exact absurd h (nb _)
 have FB:gA (room++zg n) n room.length cs r:=⟨hr,by rw [(qU hr _).1,(qU (ax:=zg n) (n:=n) hr (λ_=>0)).2]; exact hb,λi hi=>by
  have hi':i < room.length:=by omega
  rw [(qU hi' _).1,(qU (ax:=zg n) (n:=n) hi' (λ_=>0)).2]
  exact hl i hi⟩
 have nF:¬ Fe (room++zg n) n room.length cs:=λF=>by
  have:=F r FB.1
  have:=FB.2.1
  grind
 have hrr:=X.ok.row _ (yf (d:=[]) (show r < (room++zg n).length by omega))
 refine ⟨_,xy [] (by omega),_,cs,n,_,rfl,X.co C,hrr,λx hx=>X.bd _ (yf (show r < (room++zg n).length by omega)) x (d7 hx),λPW=>?_⟩
 have lw:=PW.1
 refine vv zo u7 (λ_=>rfl) (λp=>.bool (decide (0 < p.1))) (by omega) (λp _=>⟨_,rfl,rfl⟩) ?_
 have key:∀ p,p < n->((zp (room++zg n) cs ((room++zg n).getD r []) n).map λp=>decide (0 < p.1)).getD p false=gi (zp (room++zg n) cs ((room++zg n).getD r []) n) p:=λp hp=>by
  rw [uj (d:=(0,1)) (by omega)]
  rfl
 refine ⟨cs,(zp (room++zg n) cs ((room++zg n).getD r []) n).map λp=>decide (0 < p.1),by rw [c_ (g:=D.bool)]; rfl,by rw [a_]; omega,by omega,λhz=>wT rfl ?_,λp hp hf hl2=>wF rfl ?_⟩
 ·refine vv zo u7 (λ_=>rfl) (λp=>zo (zS (-p.1) p.2)) (by omega) (λp hp=>⟨_,rfl,_,rfl,_,_,rfl,dR (PW.2.2 p hp).1,(PW.2.2 p hp).2.2.mono,rfl⟩) ?_
  have e1:cN (cs++[r])=.lst ((cs.map λx=>D.int ((x:Nat):Int))++[.int (r:Int)]):=by unfold cN; rw [cP]; rfl
  have e2:xD ((zp (room++zg n) cs ((room++zg n).getD r []) n).map (λp=>zS (-p.1) p.2)++[zS 1 1])=.lst ((zp (room++zg n) cs ((room++zg n).getD r []) n).map (λp=>zo (zS (-p.1) p.2))++[zo (zS 1 1)]):=by unfold xD; rw [cP,c_]; rfl
  refine ⟨k0,by rw [a_]; show _ + 1<=1000; omega,_,_,rfl,by decide,xY (by decide),k0,by rw [a_]; show _ + 1<=1000; omega,?_⟩
  refine ⟨room.length,cs++[r],_,by rw [e1,e2]; rfl,by omega,by rw [cA]; show _ + 1<=100; omega,by rw [cA,a_]; show _ + 1<=4; omega,λx hx=>?_,λzs=>⟨_,rfl,k0,k0,?_⟩⟩
  ·rcases dr.mp hx with hx | hx
   ·obtain ⟨y,hy,rfl⟩:=cH.mp hx
    obtain ⟨y0,y1,y2⟩:=PW.2.2 y hy
    exact ⟨j6 (dR y0),u6 y1.neg,uV y2⟩
   ·rw [df.mp hx]
    exact ⟨j6 (t:=1) (b:=1) (by decide),u6 (t:=1) (b:=1) (xY (by decide)),uV (t:=1) (b:=1) (xY (by decide))⟩
  ·have no:∀ k,k < n->¬ 0 < YC (room++zg n) n cs ((room++zg n).getD r []) k:=λk hk fk=>by
    have:=hz k (by omega)
    rw [key k hk,(QW C hk).mpr fk] at this
    cases this
   cases hR with
   | done h _=>exact absurd h nF
   | emp h _=>exact hT _
   | go h l _=>
    rw [QZ h FB] at l
    exact absurd l.fit (no _ l.lt)
 ·have pn:p < n:=by omega
  rw [key p pn] at hf
  have LP:uA (λk=>0 < YC (room++zg n) n cs ((room++zg n).getD r []) k) cs n p:=⟨pn,(QW C pn).mp hf,λj hj fj=>hl2 j (by omega) (by rw [key j hj]; exact (QW C hj).mpr fj)⟩
  cases hR with
  | done h _=>exact absurd h nF
  | emp h no=>
   rw [QZ h FB] at no
   exact absurd LP.fit (no _ pn)
  | go h l z=>
   rw [QZ h FB] at l z
   rw [l.one C LP] at z
   refine ⟨cs,p,r,rfl,hp,by omega,_,dC _,cs.set p r,_,_,_,_,rfl,C.exch pn (by omega) (λy=>?_),z⟩
   have:=LP.fit
   have y:YC (room++zg n) n cs ((room++zg n).getD r []) p=0:=y
   rw [y] at this
   exact absurd this eV
theorem zHS (F:zf K "_law_cell_at" "_law_cell_at" Km f fd):zF P w K mg base zV (k + 1) f fd ["_law_script","_law_k"] (zG (Qd)):=by
 refine zv F zHD λ_ _ _ _ _ _ hr=>⟨_,(zH (yN (Zy (zA 1) (yr xz wL rfl B.len_ x8 (zB (zA 0) zC))) (zJ (zZ (zL (zA 0) (zA 1)))) yM)
  (zJ (zZ zD))),λds R h=>?_⟩
 obtain ⟨ns,k,rfl,h0,q⟩:=h
 refine w2 (λc=>?_) λc=>q 0
 obtain ⟨x,_,e⟩:=Qb h0 (of_decide_eq_true c)
 exact ⟨x,e,q x⟩
theorem zIH (F:zf K "_law_stream" "_law_stream" Kn f fd):zF P w K mg base zV (k + 1) f fd ["_law_cell","_law_many"] (zG (W0)):=by
 refine zv F qZ λ_ _ _ _ _ _ hr=>⟨_,(zH (vX 2 qZ.nd rfl (Or.inl rfl) zC)
  (zH (yN (zQe (zA 0) (qM zD zD)) (zH (zb 3 qZ.nd (wI (zA 0) (qM zD zD)))
   (zH (xX PassesOwn.never rfl (xO rfl B.range_ (zB (zA 1) zC)) (zw 4 qZ.nd) (zH (yH (xi (wG cV cX cY yq (y6 2) (yF (xm (zA 3) (qM zD zD)) yu))) wc)
    (zJ (zb 3 qZ.nd (wj (zA 3) (qM zD zD))))))
   (zJ (wa 2 (zZ (zA 2)))))) yM)
  (zH (zb 5 qZ.nd (zy (xm (zA 0) (zy (qM zD zD) zD)) zD))
  (zH (xX PassesOwn.never rfl (xO rfl B.range_ (zB (zy (zA 1) zD) zC)) (zw 4 qZ.nd) (zH (zb 5 qZ.nd (xm (zy (zy (yW (zA 5) (zA 5)) (yW zD (zA 5))) (zA 4)) (zy (qM zD zD) zD)))
   (zJ (yH (xi (wG cV cX cY yq (y6 2) (yF (zA 5) yu))) wc))))
  (zJ (wa 2 (zZ (wZ (zA 2) (wK zD) w8)))))))),λds R h=>?_⟩
 obtain ⟨c,n,rfl,n1,q⟩:=h
 have b45:Bd 150 Wz:=Bd.lit
 have p45:(0:Int) < Wz:=by decide
 have b18:Bd 60 ((10:Int) ^ (18:Int).toNat + 9):=Bd.lit
 have p18:(0:Int) < (10:Int) ^ (18:Int).toNat + 9:=by decide
 refine ⟨k0,⟨by decide,by decide,by decide⟩,w2 (λc1=>?_) λc1=>?_⟩
 ·refine ⟨⟨by decide,by decide,by decide⟩,by omega,by omega,?_⟩
  rw [show ((n:Nat):Int).toNat=n by omega]
  refine ⟨λk Γ=>∃ (xs:List Int) (r:Int) (s4:Sl),Γ=[.sh (.int c),.sh (.int (n:Int)),.ow (xs.map D.int),.sh (.int r),s4,.no]/\xs.length=k/\Qe xs,⟨[],_,.no,rfl,rfl,λ_ h=>nomatch h⟩,?_,?_⟩
  ·rintro k d Γ' hk ⟨xs,r,s4,rfl,lx,hx⟩
   obtain ⟨kn,rfl⟩:=vo hk
   refine ⟨⟨by decide,by decide,by decide⟩,by decide,by rw [a_]; omega,?_⟩
   refine ⟨⟨by decide,by decide,by decide⟩,by decide,b45.mono,?_⟩
   refine ⟨xs++[r.fmod Wz],r.fdiv Wz,.sh (.int (k:Int)),?_,by rw [cA,lx]; rfl,v4 hx ⟨(md r p45).1,uX b45 p45⟩⟩
   rw [cP]
   rfl
  ·rintro Γ' ⟨xs,r,s4,rfl,lx,hx⟩
   rw [vp] at lx
   exact q xs lx hx
 ·refine ⟨⟨by decide,by decide,by decide⟩,by decide,?_⟩
  have m0:=md c p18
  have bm:Bd 60 (c.fmod ((10:Int) ^ (18:Int).toNat + 9)):=uX b18 p18
  refine ⟨by omega,by omega,?_⟩
  rw [show ((n:Int) + 2).toNat=n + 2 by omega]
  refine ⟨λk Γ=>∃ (xs:List Int) (r:Int) (s4:Sl),Γ=[.sh (.int c),.sh (.int (n:Int)),.ow (xs.map D.int),.no,s4,.sh (.int r)]/\xs.length=k/\Qe xs/\Bd 70 r,⟨[],_,.no,rfl,rfl,(λ_ h=>nomatch h),((bm.mono (show 60<=65 by decide)).add ((Bd.lit (i:=48271) (n:=16)).mono (show 16<=65 by decide))).mono⟩,?_,?_⟩
  ·rintro k d Γ' hk ⟨xs,r,s4,rfl,lx,hx,br⟩
   obtain ⟨kn,rfl⟩:=vo hk
   refine ⟨br.mono,br.mono,(Bd.lit (i:=48271) (n:=16)).mono,br.mono,⟨by decide,by decide,by decide⟩,by decide,by rw [a_]; omega,?_⟩
   refine ⟨xs++[(r * r + 48271 * r + (k:Int)).fmod ((10:Int) ^ (18:Int).toNat + 9)],(r * r + 48271 * r + (k:Int)).fmod ((10:Int) ^ (18:Int).toNat + 9),.sh (.int (k:Int)),?_,?_,v4 hx ⟨(md (r * r + 48271 * r + (k:Int)) p18).1,(uX b18 p18).mono⟩,(uX b18 p18).mono⟩
   ·rw [cP]
    rfl
   ·rw [cA,lx]; rfl
  ·rintro Γ' ⟨xs,r,s4,rfl,lx,hx,br⟩
   rw [vp] at lx
   have e:zq (xs.map D.int) (some 2) none=(xs.drop 2).map D.int:=by rw [show (2:Int)=((2:Nat):Int) from rfl,zNb,iX]
   have qq:=q (xs.drop 2) (by rw [d8]; omega) (λx hx'=>hx x (List.mem_of_mem_drop hx'))
   unfold L at qq
   rw [<- e] at qq
   exact qq
theorem zII (F:zf K "_law_number" "_law_number" Ko f fd):zF P w K mg base zV (k + 1) f fd ["_law_x","_law_far"] (zG (W1)):=by
 refine zv F zH0 λ_ _ _ _ _ _ hr=>⟨_,(zJ (zZ (wI (xm (zA 0) (zy (yW zD (zA 1)) zD)) (zA 1)))),λds R h=>?_⟩
 obtain ⟨x,far,rfl,f0,bf,q⟩:=h
 have:=md x (show (0:Int) < 2 * far + 1 by omega)
 exact ⟨(Bd.lit (i:=2) (n:=2)).mono,bf.mono,by omega,q _ (by omega) (by omega)⟩
theorem zM5 (F:zf K "_law_box" "_law_box" Kp f fd) (az:Fn P w K mg base "_law_stream" ["_law_cell","_law_many"] k (zG (W0))) (am:Fn P w K mg base "_law_number" ["_law_x","_law_far"] k (zG (W1))):zF P w K mg base zV (k + 1) f fd ["_law_cell","_law_many","_law_unit"] (zG (XJ)):=by
 refine zv F Xf λ_ _ _ _ _ _ hr=>⟨_,(zH (zb 3 Xf.nd (zQ az hr rfl (zB (zA 0) (zB (yW zD (zA 1)) zC))))
  (zH (vX 4 Xf.nd rfl (Or.inl rfl) zC)
  (zH (xX PassesOwn.never rfl (xO rfl B.range_ (zB (zA 1) zC)) (zw 5 Xf.nd) (zH (zb 6 Xf.nd (yW (zQ am hr rfl (zB (zL (zA 3) (yW zD (zA 5))) (zB zD zC))) (zA 2)))
   (zJ (yH (xi (wG cV cX cY yq (y6 4) (yF (xR (zB (zA 6) (zB (zy (zy (zA 6) (yW (xm (zL (zA 3) (zy (yW zD (zA 5)) zD)) zD) (zA 2))) (xm (wj (zL (zA 3) (zy (yW zD (zA 5)) zD)) zD) zD)) zC))) yu))) wc))))
  (zJ (wa 4 (zZ (zA 4))))))),λds R h=>?_⟩
 obtain ⟨c,n,u,rfl,n3,u0,bu,q⟩:=h
 have b2:Bd 2 (2:Int):=Bd.lit
 refine ⟨b2.mono,(XI n3).mono,c,2 * n,by rw [show ((2 * n:Nat):Int)=2 * (n:Int) by omega],by omega,λxs lx hx=>?_⟩
 refine ⟨k0,by omega,by omega,?_⟩
 rw [show ((n:Nat):Int).toNat=n by omega]
 refine ⟨λk Γ=>∃ (bs:List (Int × Int)) (s5 s6:Sl),Γ=[.sh (.int c),.sh (.int (n:Int)),.sh (.int u),.sh (L xs),.ow (bs.map zo),s5,s6]/\bs.length=k/\∀ b∈bs,b.1<=b.2/\Bd 105 b.1/\Bd 105 b.2,⟨[],.no,.no,rfl,rfl,λ_ h=>nomatch h⟩,?_,?_⟩
 ·rintro k d Γ' hk ⟨bs,s5,s6,rfl,lb,hb⟩
  obtain ⟨kn,rfl⟩:=vo hk
  have bk:Bd 2 (k:Int):=XI (by omega)
  refine ⟨b2.mono,bk.mono,vz (by omega) (by omega) λx hx1=>⟨x,3,rfl,by decide,(Bd.lit (i:=3) (n:=2)).mono,λy y1 y2=>?_⟩⟩
  have by2:Bd 2 y:=zR6 (f:=3) Bd.lit y1 y2
  refine ⟨by2.mono,bu.mono,?_⟩
  refine ⟨b2.mono,bk.mono,vz (by omega) (by omega) λx2 hx2=>⟨by decide,(Bd.mono (n:=3) (uX Bd.lit (by decide)) (by decide)),bu.mono,b2.mono,bk.mono,vz (by omega) (by omega) λx3 hx3=>⟨by decide,(Bd.lit (i:=4) (n:=3)).mono,by decide,k0,by rw [a_]; omega,?_⟩⟩⟩
  have m1:=md x2 (show (0:Int) < 4 by decide)
  have m2:=md (x3.fdiv 4) (show (0:Int) < 2 by decide)
  have g0:0<=x2.fmod 4 * u:=lH m1.1 u0
  have c1:Bd 102 (y * u):=by2.mul bu
  have c2:Bd 103 (x2.fmod 4 * u):=(uX (n:=3) Bd.lit (by decide)).mul bu
  have c3:Bd 2 ((x3.fdiv 4).fmod 2):=uX Bd.lit (by decide)
  refine ⟨bs++[(y * u,y * u + x2.fmod 4 * u + (x3.fdiv 4).fmod 2)],.sh (.int (k:Int)),.sh (.int (y * u)),?_,by rw [cA,lb]; rfl,v4 hb ⟨by show y * u<=y * u + x2.fmod 4 * u + (x3.fdiv 4).fmod 2; omega,c1.mono,((c1.mono (show 102<=103 by decide)).add c2 |>.add c3.mono).mono⟩⟩
  rw [cP]
  rfl
 ·rintro Γ' ⟨bs,s5,s6,rfl,lb,hb⟩
  rw [vp] at lb
  exact q bs lb hb
theorem zLC (F:zf K "_law_rows" "_law_rows" Kq f fd):zF P w K mg base zV (k + 1) f fd ["_law_box_here"] (jp (Qf)):=by
 refine okN F kZ (λds R h=>by obtain ⟨bs,rfl,_⟩:=h; rfl) λcdv A outer s H E hr=>⟨_,(zHH (vX 1 kZ.nd rfl (Or.inl rfl) zC)
  (zHH (xX PassesOwn.never rfl (xO rfl B.range_ (zB (yr xz wL rfl B.len_ x8 (zB (zA 0) zC)) zC)) (zw 2 kZ.nd) (zH (vq 3 false kZ.nd rfl rfl (own:=["_law_j"]) (caps:=[(2,"_law_i")]) (yX kZ) rfl rfl yg (xO rfl B.range_ (zB (yr xz wL rfl B.len_ x8 (zB (zA 0) zC)) zC)) (λ_ _ _ _=>(zw 0 (yB ["_law_j","_law_i"]))) (λ_ _ _ _=>(xa UX JV rfl B.int_ X7 (zB (je hr.units (zA 0) (zA 1)) zC))) rfl)
   (zH (yH (xi (wG cV cX cY yq (y6 1) (yF (xa uN uS rfl B.tuple_ vP (zB (zy (zA 3) (w6 (zB (zL (zL (zA 0) (zA 2)) zD) zC))) zC)) yu))) wc)
   (zJ (yH (xi (wG cV cX cY yq (y6 1) (yF (xa uN uS rfl B.tuple_ vP (zB (zy (xE (own:=["_law_one"]) (caps:=[]) (yX kZ) rfl rfl yg (xN (zA 3)) (λ_ _ _ _=>(zw 0 (yB ["_law_one"]))) (λ_ _ _ _=>(wI zD (zA 0)))) (w6 (zB (wI zD (zL (zL (zA 0) (zA 2)) zD)) zC))) zC)) yu))) wc)))))
  (zMf (zKf (y6 1))))),λds R h=>?_⟩
 obtain ⟨bs,rfl,l1,q⟩:=h
 have lp:(lA zo bs).length=bs.length:=a_ ..
 refine ⟨k0,by omega,by omega,?_⟩
 rw [show ((im (lA zo bs):Nat):Int).toNat=bs.length by omega]
 refine ⟨λk Γ=>∃ (s2 s3:Sl),Γ=[.sh (.lst (bs.map zo)),.ow ((((bs.mapIdx (wO bs.length)).take k).flatten).map U),s2,s3],⟨.no,.no,rfl⟩,?_,?_⟩
 ·rintro k d Γ' hk ⟨s2,s3,rfl⟩
  obtain ⟨kn,rfl⟩:=vo hk
  have hx:(bs.mapIdx (wO bs.length))[k]? = some (wO bs.length k bs[k]):=by rw [List.getElem?_mapIdx,b_ kn]; rfl
  have ll:((bs.mapIdx (wO bs.length)).take k).flatten.length=2 * k:=by
   rw [lM]
   have e:((bs.mapIdx (wO bs.length)).take k).map im=cG k 2:=by
    refine mO (by simp; omega) λi h1 h2=>?_
    simp [wO]
   rw [e]
   simp
   omega
  refine ⟨by omega,by omega,?_⟩
  rw [show ((im (lA zo bs):Nat):Int).toNat=bs.length by omega]
  refine zr.rng0 (λj=>.int (if (j:Int)=(k:Int) then 1 else 0)) (by omega) (λj hj=>by show D.int _=_; rw [zOF]) ?_
  have eu:(cR bs.length).map (λj:Nat=>D.int (if (j:Int)=(k:Int) then 1 else 0))=(xZ (k:Int) bs.length 1).map D.int:=by unfold xZ; rw [c_]; rfl
  rw [eu]
  refine ⟨_,zJF kn rfl,_,rfl,k0,by rw [a_,ug]; show _ + 1<=1000; omega,by rw [a_]; omega,?_⟩
  refine zr.int (λx=>0 - x) (by rw [ug]; omega) (λx hx=>rfl) ?_
  refine ⟨_,zJF kn rfl,_,rfl,k0,by rw [a_,a_,ug]; show _ + 1<=1000; omega,by rw [cA,a_]; show _ + 1 < 1000; omega,?_⟩
  refine ⟨.sh (.int (k:Int)),.sh (L (xZ (k:Int) bs.length 1)),?_⟩
  rw [zMT hx,cP]
  unfold wO
  rw [di,di,mn,U,U,cP,cP,<- List.append_cons]
  rfl
 ·rintro Γ' ⟨s2,s3,rfl⟩
  rw [vp,cJ (by rw [List.length_mapIdx]; omega)]
  exact q
theorem zLF (F:zf K "_law_made" "_law_made" Kr f fd) (bJ:qD P w K mg base ah ["self","rows","nexts","steer","push","add","divisor"] k (uz ah (zOM ah))) (bK:qD P w K mg base ai ["self","many","pushes","modes"] k (uz ai (zLn ai ah))):zF P w K mg base zV (k + 1 + 1) f fd ["_law_spec"] (zG (Qg ai ah)):=by
 refine zv F vd λ_ _ _ _ _ _ hr=>⟨_,(zH (WY (zA 0) (wn rfl (yI 1 vd.nd (yI 2 vd.nd (yI 3 vd.nd (yI 4 vd.nd wm))))))
  (zH (vX 5 vd.nd rfl (Or.inl rfl) zC)
  (zH (xX PassesOwn.never rfl (xN (zA 3)) (wn rfl (yI 6 vd.nd (yI 7 vd.nd (yI 8 vd.nd (yI 9 vd.nd (yI 10 vd.nd (yI 11 vd.nd wm))))))) (zH (vq 12 false vd.nd rfl rfl (own:=["_law_one"]) (caps:=[]) (yX vd) rfl rfl yg (xN (zA 7)) (λ_ _ _ _=>(zw 0 (yB ["_law_one"]))) (λ_ _ _ _=>(xa uM uu rfl B.list_ wV (zB (zA 0) zC))) rfl)
   (zJ (yH (xi (wG cV cX cY yq (y6 5) (yF (zKj bJ aa hr rfl (zB (xa uM uu rfl B.list_ wV (zB (zA 6) zC)) (zB (zA 12) (zB (xa uM uu rfl B.list_ wV (zB (zA 8) zC)) (zB (xE (own:=["_law_one"]) (caps:=[]) (yX vd) rfl rfl yg (xN (zA 9)) (λ_ _ _ _=>(zw 0 (yB ["_law_one"]))) (λ_ _ _ _=>(xa uM uu rfl B.list_ wV (zB (zA 0) zC)))) (zB (xa uM uu rfl B.list_ wV (zB (zA 10) zC)) (zB (zA 11) zC))))))) yu))) wc))))
  (zJ (wa 5 (zZ (zKj bK af hr rfl (zB (zA 1) (zB (xa uM uu rfl B.list_ wV (zB (zA 2) zC)) (zB (zA 5) zC)))))))))),λds R h=>?_⟩
 obtain ⟨n,bs,ms,u,rfl,TO,q⟩:=h
 have m40:=TO.m40
 have n3:=TO.n3
 have b6:=TO.b6
 refine ⟨k0,?_⟩
 refine ⟨λk Γ=>∃ s6 s7 s8 s9 s10 s11 s12:Sl,Γ=[.sh (vY n bs ms u),.sh (.int (n:Int)),.sh (.lst (bs.map zo)),.sh (.lst (ms.map wq)),.sh (.int u),.ow ((ms.take k).map (u4 ah)),s6,s7,s8,s9,s10,s11,s12],⟨_,_,_,_,_,_,_,rfl⟩,?_,?_⟩
 ·rintro k d Γ' hk ⟨s6,s7,s8,s9,s10,s11,s12,rfl⟩
  have kl:=(cK.mp hk).1
  rw [a_] at kl
  rw [db,b_ kl] at hk
  cases hk
  generalize hm:ms[k]=m
  have o:=TO.mok m (hm ▸ dX kl)
  have hk2:ms[k]? = some m:=by rw [b_ kl,hm]
  refine vv L yA gZ L (by rw [o.nexts.1]; omega) (λr hr=>rfl) ?_
  refine vv L yA gZ L (by rw [o.push.1]; omega) (λr hr=>rfl) ?_
  refine ⟨_,_,_,_,_,_,rfl,zRn o.few (λr hr=>by rw [o.rows r hr]; omega),Wl (by rw [o.nexts.1]; omega) (λr hr=>by rw [o.nexts.2 r hr]; omega),u5 (by rw [o.steer]; omega),Wl (by rw [o.push.1]; omega) (λr hr=>by rw [o.push.2 r hr]; omega),u5 (by rw [o.add]; omega),by rw [a_,cI]; omega,?_⟩
  refine ⟨.sh (Rm m.rows),.sh (Tb m.nexts),.sh (L m.steer),.sh (Tb m.push),.sh (L m.add),.sh (.int m.div),.sh (Tb m.nexts),?_⟩
  rw [v8 hk2,cP]
  rfl
 ·rintro Γ' ⟨s6,s7,s8,s9,s10,s11,s12,rfl⟩
  rw [a_,mG]
  exact ⟨n,bs,ms,rfl,TO,q⟩
theorem zM4 (F:zf K "_law_top" "_law_top" Ks f fd):zF P w K mg base zV (k + 1) f fd ["_law_numbers","_law_box_here"] (zG (zRr)):=by
 refine zv F Xg λ_ _ _ _ _ _ hr=>⟨_,(zH (zb 2 Xg.nd zD)
  (zH (xX PassesOwn.never rfl (jg rfl B.zip_ (zB (zA 0) (zB (zA 1) zC))) (wn rfl (yI 3 Xg.nd (yI 4 Xg.nd wm))) (zJ (zb 2 Xg.nd (zy (zA 2) (yr (zHl rfl) zL5 rfl B.max_ X8 (zB (yW (zA 3) (zL (zA 4) zD)) (zB (yW (zA 3) (zL (zA 4) zD)) zC)))))))
  (zJ (zZ (zA 2))))),λds R h=>?_⟩
 obtain ⟨d,ns,bs,ee,rfl,h,l3,bn,e5,bb,q⟩:=h
 refine h.zipL ?_
 refine ⟨λk Γ=>∃ (s3 s4:Sl),Γ=[.sh d,.sh (.lst (bs.map zo)),.sh (.int (yh (ns.take k) (bs.take k))),s3,s4],⟨.no,.no,rfl⟩,?_,?_⟩
 ·rintro k d' Γ' hk ⟨s3,s4,rfl⟩
  obtain ⟨x1,b1,h1,h2,rfl⟩:=Jb _ hk
  obtain ⟨x,hx,rfl⟩:=zJG h1
  obtain ⟨b,hb,rfl⟩:=zJG h2
  have hx':=bn x (dm hx)
  have hb':=bb b (dm hb)
  have kx:=(cK.mp hx).1
  have kb:=(cK.mp hb).1
  refine ⟨_,rfl,hx'.mono,hb'.1.mono (by omega),_,rfl,hx'.mono,hb'.2.mono (by omega),.sh (.int x),.sh (zo b),?_⟩
  rw [v8 hx,v8 hb,zIi (by rw [cI,cI]; omega)]
  rfl
 ·rintro Γ' ⟨s3,s4,rfl⟩
  rw [iw,a_,a_,zIh]
  exact q
theorem zLE (F:zf K "_law_mode" "_law_mode" Kt f fd) (az:Fn P w K mg base "_law_stream" ["_law_cell","_law_many"] k (zG (W0))) (am:Fn P w K mg base "_law_number" ["_law_x","_law_far"] k (zG (W1))):zF P w K mg base zV (k + 1) f fd ["_law_cell","_law_many","_law_wide","_law_unit","_law_split"] (zG (fMd)):=by
 refine zv F uI λ_ _ _ _ _ _ hr=>⟨_,(zH (zb 5 uI.nd (zQ az hr rfl (zB (zA 0) (zB zD zC))))
  (zH (zb 6 uI.nd (zy zD (xm (zL (zA 5) zD) zD)))
  (zH (vX 7 uI.nd rfl (Or.inl rfl) zC)
  (zH (vX 8 uI.nd rfl (Or.inl rfl) zC)
  (zH (xX PassesOwn.never rfl (xO rfl B.range_ (zB (zA 1) zC)) (zw 9 uI.nd) (zH (yH (xi (wG cV cX cY yq (y6 7) (yF (xE (own:=["_law_j"]) (caps:=[(5,"_law_xs"),(6,"_law_divisor"),(9,"_law_i")]) (yX uI) rfl rfl yg (xO rfl B.range_ (zB (zA 1) zC)) (λ_ _ _ _=>(zw 0 (yB ["_law_j","_law_xs","_law_divisor","_law_i"]))) (λ_ _ _ _=>(zQ am hr rfl (zB (zL (zA 1) (zy (zy zD (yW zD (zA 3))) (zA 0))) (zB (zL (w6 (zB zD (zB (wI (zA 2) zD) zC))) (xa UX JV rfl B.int_ X7 (zB (je hr.units (zA 3) (zA 0)) zC))) zC))))) yu))) wc)
   (zJ (yH (xi (wG cV cX cY yq (y6 8) (yF (xE (own:=["_law_j"]) (caps:=[(5,"_law_xs"),(9,"_law_i")]) (yX uI) rfl rfl yg (xO rfl B.range_ (zB (zA 2) zC)) (λ_ _ _ _=>(zw 0 (yB ["_law_j","_law_xs","_law_i"]))) (λ_ _ _ _=>(zQ am hr rfl (zB (zL (zA 1) (zy (zy zD (yW zD (zA 2))) (zA 0))) (zB zD zC))))) yu))) wc))))
  (zH (vq 10 false uI.nd rfl rfl (own:=["_law_i"]) (caps:=[(3,"_law_unit"),(5,"_law_xs")]) (yX uI) rfl rfl yg (xO rfl B.range_ (zB (zA 1) zC)) (λ_ _ _ _=>(zw 0 (yB ["_law_i","_law_unit","_law_xs"]))) (λ_ _ _ _=>(yW (zQ am hr rfl (zB (zL (zA 2) (zy zD (zA 0))) (zB zD zC))) (xm (zL (zA 2) zD) (zA 1)))) rfl)
  (zH (vX 11 uI.nd rfl (Or.inl rfl) zC)
  (uU (yN (xf (zA 4)) (zH (vq 12 false uI.nd rfl rfl (own:=["_law_i"]) (caps:=[(5,"_law_xs")]) (yX uI) rfl rfl yg (xO rfl B.range_ (zB (zA 1) zC)) (λ_ _ _ _=>(zw 0 (yB ["_law_i","_law_xs"]))) (λ_ _ _ _=>(zQ am hr rfl (zB (zL (zA 1) (zy zD (zA 0))) (zB zD zC)))) rfl)
   (zJ (yH (xi (wG cV cX cY yq (y6 11) (yF (xa uN uS rfl B.tuple_ vP (zB (zy (zA 12) (w6 (zB (yW (zQ am hr rfl (zB (zL (zA 5) zD) (zB zD zC))) (zA 3)) zC))) zC)) yu))) wc))) yM)
  (zJ (wa 7 (wa 8 (wa 11 (zZ (xR (zB (zA 11) (zB (zA 7) (zB (yW (w6 (zB zD zC)) (zA 1)) (zB (zA 8) (zB (zA 10) (zB (zA 6) zC)))))))))))))))))))),λds R h=>?_⟩
 obtain ⟨c,n,w,u,sp,rfl,n1,n3,wb,u1,bu,q⟩:=h
 refine ⟨c,24,rfl,by decide,λxs lx hx=>?_⟩
 refine vz (by decide) (by omega) λx0 _=>⟨by decide,?_⟩
 have d0:=md x0 (show (0:Int) < 4 by decide)
 obtain ⟨dv,hdv⟩:∃ dv,dv=2 + x0.fmod 4:=⟨_,rfl⟩
 have dv1:2<=dv:=by omega
 have dv5:dv<=5:=by omega
 have bdv:Bd 3 dv:=jM (f:=7) (by decide) (by omega) (by omega)
 refine ⟨k0,k0,by omega,by omega,?_⟩
 rw [show ((n:Nat):Int).toNat=n by omega]
 refine ⟨λk Γ=>∃ (N P:List (List Int)) (s9:Sl),Γ=[.sh (.int c),.sh (.int (n:Int)),.sh (.int (w:Int)),.sh (.int u),.sh (.bool sp),.sh (L xs),.sh (.int dv),.ow (N.map L),.ow (P.map L),s9,.no,.no,.no]/\N.length=k/\P.length=k/\(∀ r∈N,r.length=n/\∀ x∈r,Bd 4 x)/\∀ r∈P,r.length=w/\∀ x∈r,Bd 4 x,⟨[],[],.no,by rw [hdv]; rfl,rfl,rfl,λ_ h=>(nomatch h),λ_ h=>(nomatch h)⟩,?_,?_⟩
 ·rintro k d Γ' hk ⟨N,P,s9,rfl,lN,lP,hN,hP⟩
  obtain ⟨kn,rfl⟩:=vo hk
  have bk:Bd 2 (k:Int):=XI (by omega)
  refine ⟨by omega,by omega,?_⟩
  rw [show ((n:Nat):Int).toNat=n by omega]
  refine zr.nums (λx=>Bd 4 x) (by omega) (λj hj=>?_) λns ln hn=>?_
  ·refine ⟨(Bd.lit (i:=3) (n:=2)).mono,bk.mono,vz (by omega) (by omega) λx1 _=>⟨k0,Qc (by split <;> decide) (by show _ < (2:Int); split <;> decide) λz hz=>?_⟩⟩
   obtain ⟨f,rfl,f1,f4⟩:∃ f,z=.int f/\1<=f/\f<=4:=by
    simp only [da,dL,or_false] at hz
    rcases hz with rfl | rfl
    ·exact ⟨_,rfl,by decide,by decide⟩
    ·exact ⟨_,rfl,by omega,by omega⟩
   exact ⟨_,f,rfl,by omega,Bd.mono (n:=3) (jM (f:=7) (by decide) (by omega) (by omega)) (by decide),λy y1 y2=>⟨y,rfl,jM (f:=15) (by decide) (by omega) (by omega)⟩⟩
  refine ⟨by rw [a_]; omega,by omega,by omega,?_⟩
  rw [show ((w:Nat):Int).toNat=w by omega]
  refine zr.nums (λx=>Bd 4 x) (by omega) (λj hj=>?_) λps lps hps=>?_
  ·exact ⟨(Bd.lit (i:=2) (n:=2)).mono,bk.mono,vz (by omega) (by omega) λx1 _=>⟨_,2,rfl,by decide,(Bd.lit (i:=2) (n:=2)).mono,λy y1 y2=>⟨y,rfl,jM (f:=15) (by decide) (by omega) (by omega)⟩⟩⟩
  refine ⟨by rw [a_]; omega,N++[ns],P++[ps],.sh (.int (k:Int)),by rw [cP,cP]; rfl,by rw [cA,lN]; rfl,by rw [cA,lP]; rfl,v4 hN ⟨ln,hn⟩,v4 hP ⟨lps,hps⟩⟩
 rintro Γ' ⟨N,P,s9,rfl,lN,lP,hN,hP⟩
 rw [vp] at lN lP
 refine ⟨by omega,by omega,?_⟩
 rw [show ((n:Nat):Int).toNat=n by omega]
 refine zr.nums (λx=>Bd 110 x) (by omega) (λi hi=>?_) λad lad had=>?_
 ·refine vz (by omega) (by omega) λx1 _=>⟨_,2,rfl,by decide,(Bd.lit (i:=2) (n:=2)).mono,λy y1 y2=>vz (by decide) (by omega) λx2 _=>⟨by omega,?_⟩⟩
  have by2:Bd 2 y:=jM (f:=3) (by decide) (by omega) (by omega)
  have bm:Bd 100 (x2.fmod u):=uX bu (by omega)
  exact ⟨by2.mono,bm.mono,_,rfl,(by2.mul bm).mono⟩
 refine ⟨k0,λΓ=>∃ (rows:List (List Int)) (s12:Sl),Γ=[.sh (.int c),.sh (.int (n:Int)),.sh (.int (w:Int)),.sh (.int u),.sh (.bool sp),.sh (L xs),.sh (.int dv),.ow (N.map L),.ow (P.map L),s9,.sh (L ad),.ow (rows.map U),s12]/\rows.length<=1/\∀ r∈rows,r.length=n + 1/\(∀ x∈r.take n,Bd 4 x)/\∀ x∈r,Bd 110 x,w2 (λc1=>?_) λc1=>⟨[],_,rfl,by decide,λ_ h=>nomatch h⟩,?_⟩
 ·refine ⟨by omega,by omega,?_⟩
  rw [show ((n:Nat):Int).toNat=n by omega]
  refine zr.nums (λx=>Bd 2 x) (by omega) (λi hi=>?_) λrw_ lrw hrw=>?_
  ·exact vz (by omega) (by omega) λx3 _=>⟨_,1,rfl,by decide,(Bd.lit (i:=1) (n:=1)).mono,λy y1 y2=>⟨y,rfl,jM (f:=3) (by decide) (by omega) (by omega)⟩⟩
  refine vz (by decide) (by omega) λx4 _=>⟨_,3,rfl,by decide,(Bd.lit (i:=3) (n:=2)).mono,λy y1 y2=>?_⟩
  have by3:Bd 3 y:=jM (f:=7) (by decide) (by omega) (by omega)
  refine ⟨by3.mono,bu.mono,k0,by rw [a_]; show _ + 1<=1000; omega,by decide,[rw_++[y * u]],.sh (L rw_),?_,by show 1<=1; decide,λr hr=>?_⟩
  ·rw [di,mn,U,cP]
   rfl
  ·rw [df.mp hr]
   exact ⟨by rw [cA,lrw]; rfl,λx hx=>by
    rw [dj (by omega),cJ (by omega)] at hx
    exact (hrw x hx).mono,v4 (λx hx=>(hrw x hx).mono) ((by3.mul bu).mono)⟩
 rintro Γ' ⟨rows,s12,rfl,lr,hr⟩
 have rep:D.lst (cG n (D.int 0))=L (cG n 0):=by unfold L; rw [iF]
 refine ⟨k0,by omega,by omega,?_⟩
 rw [show ((n:Nat):Int).toNat=n by omega,rep]
 exact ⟨k0,q ⟨rows,N,cG n 0,P,ad,dv⟩ ⟨⟨λr h=>(hr r h).1,by show rows.length<=900; omega,⟨lN,λr h=>(hN r h).1⟩,eS ..,⟨lP,λr h=>(hP r h).1⟩,lad,by show 1<=dv; omega,n3,by omega⟩,λr h=>(hN r h).2,λr h=>(hP r h).2,had,λx hx=>iQ hx,bdv,lr,λr h=>(hr r h).2⟩⟩
theorem zJq (F:zf K "_law_thing" "_law_thing" Ku f fd) (ap:Fn P w K mg base "_law_cell_at" ["_law_script","_law_k"] k (zG (Qd))) (bM:Fn P w K mg base "_law_mode" ["_law_cell","_law_many","_law_wide","_law_unit","_law_split"] k (zG (fMd))):zF P w K mg base zV (k + 1) f fd ["_law_script"] (zG (XM)):=by
 refine zv F jC λ_ _ _ _ _ _ hr=>⟨_,(zH (zb 1 jC.nd (zQ ap hr rfl (zB (zA 0) (zB zD zC))))
  (zH (zb 2 jC.nd (zQ ap hr rfl (zB (zA 0) (zB zD zC))))
  (zH (zb 3 jC.nd (zy zD (xm (wj (zA 1) zD) (zL (w6 (zB zD (zB zD (zB (qM zD zD) (zB (qM zD zD) zC))))) (xm (zA 1) zD)))))
  (zH (zb 4 jC.nd (zL (w6 (zB zD (zB zD (zB zD (zB zD (zB zD (zB zD zC))))))) (xm (zA 2) zD)))
  (zH (vX 5 jC.nd rfl (Or.inl rfl) zC)
  (zH (xX PassesOwn.never rfl (xO rfl B.range_ (zB (xm (wj (zA 2) zD) zD) zC)) (zw 6 jC.nd) (zH (zb 7 jC.nd (wj (zA 2) (zy zD (yW zD (zA 6)))))
   (zJ (yH (xi (wG cV cX cY yq (y6 5) (yF (xR (zB (wI zD (yW (xm (zA 7) zD) (zA 3))) (zB (yW (xm (wj (zA 7) zD) zD) (zA 3)) zC))) yu))) wc))))
  (zH (vX 8 jC.nd rfl (Or.inl rfl) zC)
  (zH (wa 5 (xX PassesOwn.never rfl (xO rfl B.range_ (zB (zy zD (xm (wj (zA 2) zD) zD)) zC)) (zw 6 jC.nd) (zH (zb 9 jC.nd (zy (zQ ap hr rfl (zB (zA 0) (zB (zy zD (zA 6)) zC))) (zA 6)))
   (zJ (yH (xi (wG cV cX cY yq (y6 8) (yF (zQ bM hr rfl (zB (zA 9) (zB (zA 4) (zB (yr xz wL rfl B.len_ x8 (zB (zA 5) zC)) (zB (zA 3) (zB (je hr.units (xm (wj (zA 2) zD) zD) zD) zC)))))) yu))) wc)))))
  (zJ (wa 8 (zZ (xR (zB (zA 4) (zB (zA 5) (zB (zA 8) (zB (zA 3) zC)))))))))))))))),λds R h=>?_⟩
 obtain ⟨ns,rfl,q⟩:=h
 refine ⟨ns,0,rfl,by decide,λfirst=>⟨ns,1,rfl,by decide,λsecond=>?_⟩⟩
 have key:∀ x∈[D.int 3,D.int 9,D.int (10 ^ (15:Int).toNat),D.int (10 ^ (30:Int).toNat)],jh (λv=>1<=v/\Bd 100 v) x:=λx hx=>by
  simp only [da,dL,or_false] at hx
  rcases hx with rfl | rfl | rfl | rfl <;> exact ⟨_,rfl,by decide,Bd.lit⟩
 have f4:=md first (show (0:Int) < 4 by decide)
 refine ⟨by decide,(Bd.lit (i:=4) (n:=3)).mono,⟨by decide,by decide,by decide⟩,⟨by decide,by decide,by decide⟩,k0,by decide,Qc f4.1 (by show first.fmod 4 < 4; omega) λx hxk=>?_⟩
 obtain ⟨v,rfl,v1,bv⟩:=key x hxk
 have fv:=md (first.fdiv 4) (show (0:Int) < v by omega)
 obtain ⟨u,hu⟩:∃ u,u=1 + (first.fdiv 4).fmod v:=⟨_,rfl⟩
 have u1:1<=u:=by omega
 have bu:Bd 100 u:=bv.of_le (by omega)
 refine ⟨by omega,?_⟩
 have s6:=md second (show (0:Int) < 6 by decide)
 refine ⟨k0,by decide,Qc s6.1 (by show second.fmod 6 < 6; omega) λz hz=>?_⟩
 obtain ⟨n,rfl,n1,n3⟩:∃ n:Nat,z=.int (n:Int)/\1<=n/\n<=2:=by
  simp only [da,dL,or_false] at hz
  rcases hz with rfl | rfl | rfl | rfl | rfl | rfl
  ·exact ⟨1,rfl,by decide,by decide⟩
  ·exact ⟨2,rfl,by decide,by decide⟩
  ·exact ⟨2,rfl,by decide,by decide⟩
  ·exact ⟨1,rfl,by decide,by decide⟩
  ·exact ⟨2,rfl,by decide,by decide⟩
  ·exact ⟨1,rfl,by decide,by decide⟩
 have n2:=n3
 have n3:n<=3:=by omega
 have p3:=md (second.fdiv 6) (show (0:Int) < 3 by decide)
 refine ⟨k0,by decide,(Bd.lit (i:=6) (n:=3)).mono,by decide,by omega,by omega,?_⟩
 refine ⟨λk Γ=>∃ (bs:List (Int × Int)) (s6 s7:Sl),Γ=[.sh (.scr ns),.sh (.int first),.sh (.int second),.sh (.int u),.sh (.int (n:Int)),.ow (bs.map zo),s6,s7,.no,.no]/\bs.length=k/\∀ b∈bs,b.1<=b.2/\Bd 105 b.1/\Bd 105 b.2,⟨[],.no,.no,by rw [hu]; rfl,rfl,λ_ h=>nomatch h⟩,?_,?_⟩
 ·rintro k d Γ' hk ⟨bs,s6,s7,rfl,lb,hb⟩
  obtain ⟨kn,rfl⟩:=vo hk
  have bk:Bd 2 (k:Int):=XI (by omega)
  refine ⟨(Bd.lit (i:=11) (n:=4)).mono,bk.mono,by omega,Bd.mono (n:=10) (jM (f:=1000) (by decide) (by omega) (by omega)) (by decide),?_⟩
  obtain ⟨x,hx⟩:∃ x,x=second.fdiv (18 + 11 * (k:Int)):=⟨_,rfl⟩
  have a1:=md x (show (0:Int) < 3 by decide)
  have a2:=md (x.fdiv 3) (show (0:Int) < 3 by decide)
  rw [<- hx]
  have g1:0<=x.fmod 3 * u:=lH a1.1 (by omega)
  have g2:0<=(x.fdiv 3).fmod 3 * u:=lH a2.1 (by omega)
  have c1:Bd 102 (x.fmod 3 * u):=(uX (n:=2) Bd.lit (by decide)).mul bu
  have c2:Bd 102 ((x.fdiv 3).fmod 3 * u):=(uX (n:=2) Bd.lit (by decide)).mul bu
  refine ⟨by decide,Bd.mono (n:=2) (uX Bd.lit (by decide)) (by decide),bu.mono,by decide,(Bd.lit (i:=3) (n:=2)).mono,by decide,Bd.mono (n:=2) (uX Bd.lit (by decide)) (by decide),bu.mono,k0,by rw [a_]; omega,?_⟩
  exact ⟨bs++[(0 - x.fmod 3 * u,(x.fdiv 3).fmod 3 * u)],.sh (.int (k:Int)),.sh (.int x),by rw [cP]; rfl,by rw [cA,lb]; rfl,v4 hb ⟨by show 0 - x.fmod 3 * u<=(x.fdiv 3).fmod 3 * u; omega,by rw [e9]; exact c1.neg.mono,c2.mono⟩⟩
 rintro Γ' ⟨bs,s6,s7,rfl,lb,hb⟩
 rw [vp] at lb
 have lm:(lA zo bs).length=bs.length:=a_ ..
 have p4:=md (second.fdiv 54) (show (0:Int) < 3 by decide)
 refine ⟨k0,by decide,(Bd.lit (i:=54) (n:=6)).mono,by decide,by omega,by omega,?_⟩
 refine ⟨λk Γ=>∃ (ms:List MD) (s6 s9:Sl),Γ=[.sh (.scr ns),.sh (.int first),.sh (.int second),.sh (.int u),.sh (.int (n:Int)),.sh (.lst (bs.map zo)),s6,s7,.ow (ms.map wq),s9]/\ms.length=k/\∀ m∈ms,kU n bs.length m,⟨[],_,.no,rfl,rfl,λ_ h=>nomatch h⟩,?_,?_⟩
 ·rintro k d Γ' hk ⟨ms,s6,s9,rfl,lms,hms⟩
  obtain ⟨kn,rfl⟩:=vo hk
  refine ⟨ns,2 + (k:Int),rfl,by omega,λcc=>?_⟩
  refine ⟨by decide,(Bd.lit (i:=162) (n:=8)).mono,by decide,cc + (k:Int),n,bs.length,u,_,by rw [<- lm],n1,n3,by omega,u1,bu,λm hm=>⟨by rw [a_]; omega,ms++[m],.sh (.int (k:Int)),.sh (.int (cc + (k:Int))),by rw [cP]; rfl,by rw [cA,lms]; rfl,v4 hms hm⟩⟩
 rintro Γ' ⟨ms,s6,s9,rfl,lms,hms⟩
 rw [vp] at lms
 exact ⟨k0,q n bs ms u ⟨n1,n3,by omega,hb,by omega,by omega,hms,u1,bu⟩ n2⟩
theorem zFK (F:zf K "worst_pushes" "worst_pushes" Kv f fd) (aD:ue P w K mg base ai "pushes" ["self"] k (zG (QE ai ah))):zF P w K mg base zV (k + 1) f fd ["thing","row"] (zG (zOJ ai ah)):=by
 refine zv F zC3 λ_ _ _ _ _ _ hr=>⟨_,(zJ (zZ (xE (own:=["number","push"]) (caps:=[]) (yX zC3) rfl rfl (qP (vI (vI qQ))) (jg rfl B.zip_ (zB (wZ (zA 1) (wK (wM K (zA 0) rfl)) (wK (xU zD))) (zB (Yc aD af hr (zA 0)) zC))) (λ_ _ _ _=>(wn rfl (yI 0 (yB ["number","push"]) (yI 1 (yB ["number","push"]) wm)))) (λ_ _ _ _=>(Z5 (gL (zA 0) zD) (zL (zA 1) zD) (zL (zA 1) zD)))))),λds R h=>?_⟩
 obtain ⟨n,bs,ms,a,c,e,rfl,la,lc,b6,n3,q⟩:=h
 refine ⟨⟨af.cl,ag.n_many⟩,_,rfl,rfl,by decide +kernel,n,bs,ms,rfl,?_⟩
 rw [XT la]
 show zr (dQ xI (c.map D.int) (bs.map zo)) _ _
 rw [QB zo]
 refine vv (λq:Int × Int × Int=>xI (.int q.1) (zo q.2)) (λd=>match d with | .tup [x,.tup [y,z]]=>(yD x,yD y,yD z) | _=>(0,0,0)) (λ_=>rfl) (λq=>.int (vD q)) (by rw [d6]; omega) (λq hq=>?_) (by unfold L at q; rw [c_] at q; exact q)
 refine w2 (λc1=>⟨_,rfl,?_⟩) λc1=>⟨_,rfl,?_⟩
 ·unfold vD
  rw [if_pos (of_decide_eq_true c1)]
 ·unfold vD
  rw [if_neg (of_decide_eq_false c1)]
theorem zEK (F:zf K "without_pushes" "without_pushes" Kw f fd) (ar:Fn P w K mg base "paired" ["numbers","others"] k (zG (Wj))) (bN:Fn P w K mg base "worst_pushes" ["thing","row"] k (zG (zOJ ai ah))):zF P w K mg base zV (k + 1) f fd ["thing","row"] (zG (zJJ ai ah)):=by
 refine zv F zD9 λ_ _ _ _ _ _ hr=>⟨_,(zJ (zZ (zy (wZ (zA 1) w8 (wK (wM K (zA 0) rfl))) (xR (zB (wI (zL (zA 1) (xU zD)) (zQ ar hr rfl (zB (wZ (zA 1) (wK (wM K (zA 0) rfl)) (wK (xU zD))) (zB (zQ bN hr rfl (zB (zA 0) (zB (zA 1) zC))) zC)))) zC))))),λds R h=>?_⟩
 obtain ⟨n,bs,ms,a,c,e,rfl,la,lc,b6,n3,hb,bc,q⟩:=h
 refine ⟨⟨af.cl,ag.n_many⟩,_,rfl,_,Qn,⟨af.cl,ag.n_many⟩,_,rfl,n,bs,ms,a,c,e,rfl,la,lc,b6,n3,_,_,c,(c.zip bs).map vD,rfl,.inr (by rw [XT la]),.inl rfl,by omega,λx hx=>(bc x hx).mono,λx hx=>?_,?_⟩
 ·obtain ⟨q,hq,rfl⟩:=cH.mp hx
  have:=hb _ (dG hq).2
  unfold vD
  split
  ·exact this.2.2.mono
  ·exact this.2.1.mono
 rw [zKS λb hb'=>(hb b hb').1,Qm la]
 refine ⟨k0,by rw [a_]; show _ + 1<=1000; omega,?_⟩
 unfold U at q
 rw [cP] at q
 exact q
theorem zGf (F:zf K "first_room" "first_room" Kx f fd) (aq:Fn P w K mg base "most" ["room","row"] k (zG (kT))) (aM:Fn P w K mg base "ceiling_of" ["value"] k (zG (gd))):zF P w K mg base zV (k + 1) f fd ["start","shape"] (zG (u9)):=by
 refine zv F W8 λ_ _ _ _ _ _ hr=>⟨_,(zH (vX 2 W8.nd rfl (Or.inl rfl) zC)
  (zH (xX PassesOwn.never rfl (xN (zA 1)) (zw 3 W8.nd) (zH (zb 4 W8.nd (zQ (W5 W4 aq) hr rfl (zB (zA 0) (zB (zy (zA 3) (xR (zB zD zC))) zC))))
   (zH (yN (gK hr.units (zL (zA 4) zD) uo) (zJ (zZ xx)) yM)
   (zJ (yH (xi (wG cV cX cY yq (y6 2) (yF (zy (zA 3) (xR (zB (zQ aM hr rfl (zB (zL (zA 4) zD) zC)) zC))) yu))) wc)))))
  (zJ (wa 2 (zZ (zA 2)))))),λds R h=>?_⟩
 obtain ⟨yC,n,S,rfl,h,n1,n2,hS,q⟩:=h
 have fS:=hS.few
 refine ⟨k0,?_⟩
 refine ⟨λk Γ=>∃ s3 s4,Γ=[.sh (Rm yC),.sh (.lst (S.map U)),.ow (((S.take k).map λs=>s++[vb yC n s]).map U),s3,s4]/\∀ s∈S.take k,wr (mR yC n s)=true,⟨_,_,rfl,λ_ h=>nomatch h⟩,?_,?_⟩
 ·rintro k d Γ' hk ⟨s3,s4,rfl,hM⟩
  obtain ⟨s,hg,rfl⟩:=XU hk
  have hm:=dm hg
  obtain ⟨ls,bs⟩:=hS.ok s hm
  have lz:(s.map D.int).length + 1<=1000:=by rw [a_]; omega
  refine ⟨k0,lz,?_⟩
  rw [jz]
  refine ⟨yC,n,110,s,0,rfl,h,by decide,n1,n2,ls,λx hx=>(bs x hx).mono,?_⟩
  have no:wr (mR yC n s)=false->yj yC n S=none:=λz=>by
   unfold yj
   rw [if_neg λc=>?_]
   have:=de.mp c s hm
   rw [z] at this
   cases this
  cases hr:mR yC n s with
  | emp _=>exact λX=>⟨_,rfl,wT (by decide) (by rw [no (by rw [hr]; rfl)] at q; exact q)⟩
  | opn _ _=>exact λX Y=>⟨_,rfl,wT (by decide) (by rw [no (by rw [hr]; rfl)] at q; exact q)⟩
  | mst f _ _ _=>
   intro f0 b1 b2 X Y
   refine ⟨_,rfl,wF (by decide) ⟨_,rfl,f,rfl,f0,b2.mono,k0,lz,by rw [a_,a_,cI]; omega,?_⟩⟩
   have z:vb yC n s=vZ f.1 f.2:=by unfold vb; rw [hr]; rfl
   have at':=XX (P:=λs=>wr (mR yC n s)=true) hg hM (by rw [hr]; rfl)
   show ∃ (_ _:Sl),_/\_
   rw [v8 hg] at at' |-
   rw [cP,cP,jz,di,z]
   exact ⟨_,_,rfl,at'⟩
 ·rintro Γ' ⟨s3,s4,rfl,hM⟩
  rw [a_,cJ (cF _)] at hM |-
  unfold yj at q
  rw [if_pos (de.mpr hM)] at q
  exact q
theorem zFr (F:zf K "grown_bound" "grown_bound" Ky f fd) (bO:ue P w K mg base ai "modes" ["self"] k (zG (zOL ai ah))) (bP:Fn P w K mg base "without_pushes" ["thing","row"] k (zG (zJJ ai ah))) (bQ:Fn P w K mg base "reach" ["thing","mode","row"] k (zG (zOK ai ah))) (aq:Fn P w K mg base "most" ["room","row"] k (zG (kT))) (aH:Fn P w K mg base "times" ["one","other"] k (zG (gc))) (aj:wf P w K mg base "fraction" ["top","bottom"] k (zG (qS)) (.int 1)) (aI:Fn P w K mg base "minus" ["one","other"] k (zG (ga))) (aM:Fn P w K mg base "ceiling_of" ["value"] k (zG (gd))):zF P w K mg base zV (k + 1) f fd ["thing","room","row"] (zG (XV ai ah)):=by
 refine zv F gn λ_ _ _ _ _ _ hr=>⟨_,(zH (zb 3 gn.nd (zL (zA 2) (xU zD)))
  (zH (xX PassesOwn.never rfl (xN (Yc bO af hr (zA 0))) (zw 4 gn.nd) (zH (zb 5 gn.nd (zQ bP hr rfl (zB (zA 0) (zB (zQ bQ hr rfl (zB (zA 0) (zB (zA 4) (zB (zy (wZ (zA 2) w8 (wK (xU zD))) (xR (zB zD zC))) zC)))) zC))))
   (zH (zb 6 gn.nd (zQ (W5 W4 aq) hr rfl (zB (zy (zA 1) (wM K (zA 4) rfl)) (zB (zA 5) zC))))
   (zH (yN (ur hr.units (zL (zA 6) zD) uo) (zJ (zZ xx)) yM)
   (zJ (yN (ur hr.units (zL (zA 6) zD) uo) (zH (zb 7 gn.nd (zQ aH hr rfl (zB (zQ aI hr rfl (zB (zL (zA 6) zD) (zB (jn (.int 1) (λ_=>.int 1) aj hr rfl (zB (zL (zA 5) (xU zD)) zC)) zC))) (zB (zQ aj.fn hr rfl (zB zD (zB (wM K (zA 4) rfl) zC))) zC))))
    (zJ (zb 3 gn.nd (yr (zHl rfl) zL5 rfl B.max_ X8 (zB (zA 3) (zB (zQ aM hr rfl (zB (zA 7) zC)) zC)))))) yM))))))
  (zJ (zZ (zA 3))))),λds R h=>?_⟩
 obtain ⟨n,bs,ms,u,room,b,s,v,rfl,T,n2,h,hb,hb2,few,ls,hs,q⟩:=h
 have n1:=T.n1
 have b2:=T.b2
 refine ⟨_,Wp _ _,rfl,by decide +kernel,n,bs,ms,rfl,?_⟩
 refine ⟨λk Γ=>∃ s4 s5 s6 s7,Γ=[.sh (wS ai ah n bs ms),.sh (Rm room),.sh (U (s++[v])),.sh (.int ((bL room n bs (ms.take k) s).foldl max v)),s4,s5,s6,s7]/\∀ m∈ms.take k,qV (xF room n m s)=false,⟨_,_,_,_,rfl,λ_ h=>nomatch h⟩,?_,?_⟩
 ·rintro k d Γ' hk ⟨s4,s5,s6,s7,rfl,hO⟩
  obtain ⟨m,hg,rfl⟩:=XU hk
  have hm:=dm hg
  have M:=T.md m hm
  have MO:=M.ok
  have r1:=M.r1
  obtain ⟨l1,l2⟩:=Qk M n2 ls hs
  obtain ⟨bp,bm⟩:=Ql T hm n2 ls hs
  refine ⟨k0,by rw [Wo,a_]; show _ + 1<=1000; omega,?_⟩
  rw [Wo,jz]
  refine ⟨n,bs,ms,m,_,rfl,T.n3,by omega,MO,(T.ths.ms m hm).mbd,by rw [cA,ls]; rfl,v4 (λx hx=>(hs x hx).mono) vJ,?_⟩
  have eR:Wm n bs.length ((s++[0]).take n) ((s++[0]).getD n 0) m=uH n m s++(cR bs.length).map (zx s m.push)++[0 - yG s m.add]:=by
   unfold Wm
   rw [dj (by omega),cJ (by omega),jZ ls,mr]
   rfl
  rw [eR]
  refine ⟨n,bs,ms,_,_,_,rfl,l1,by rw [a_,cT],by omega,T.n3,λx hx=>⟨(T.bb x hx).1,(T.bb x hx).2.1.mono,(T.bb x hx).2.2.mono⟩,λx hx=>(bp x hx).mono,?_⟩
  have em:0 - yG s m.add - yh ((cR bs.length).map (zx s m.push)) bs = -(wU bs m s):=by unfold wU; omega
  rw [em]
  refine ⟨⟨aa.cl,ae.n_rows⟩,_,rfl,by rw [a_,a_]; omega,?_⟩
  rw [<- cP]
  refine ⟨room++m.rows,n,b,uH n m s,_,rfl,h.app hb few T hm,hb2,n1,n2,l1,l2,?_⟩
  have sn:bL room n bs (ms.take (k + 1)) s=bL room n bs (ms.take k) s++if wr (xF room n m s)=true then [bV room n bs m s] else []:=by
   unfold bL
   rw [v8 hg,lW,cP]
   split
   ·rename_i c; rw [fX (p:=λm=>wr (xF room n m s)) c]; rfl
   ·rename_i c; rw [fY (p:=λm=>wr (xF room n m s)) c]; rfl
  have at':=XX (P:=λm=>qV (xF room n m s)=false) hg hO
  cases hr:mR (room++m.rows) n (uH n m s) with
  | emp _=>
   have e1:wr (xF room n m s)=false:=by unfold xF; rw [hr]; rfl
   refine λX=>⟨_,rfl,wF (by decide) ⟨_,rfl,wF (by decide) ?_⟩⟩
   show ∃ (_ _ _ _:Sl),_/\_
   rw [sn,if_neg (by rw [e1]; exact dh),d5]
   exact ⟨_,_,_,_,rfl,at' (by unfold xF; rw [hr]; rfl)⟩
  | opn _ _=>
   refine λX Y=>⟨_,rfl,wT (by decide) ?_⟩
   unfold vB at q
   rw [if_pos (mP.mpr ⟨m,hm,by unfold xF; rw [hr]; rfl⟩)] at q
   exact q
  | mst f _ _ _=>
   intro f0 c1 c2 X Y
   have d1:=MO.div
   have bdv:=M.dv
   refine ⟨_,rfl,wF (by decide) ⟨_,rfl,wT (by decide) ?_⟩⟩
   refine ⟨_,rfl,_,Wp _ _,_,_,rfl,by decide,xY (by decide),?_⟩
   refine ⟨f,(-wU bs m s,1),by show [_,zo (zS (-wU bs m s) 1)]=_; rw [zRX],f0,hV,c1.mono,c2.mono,bm.neg.mono,xY (by decide),(c2.mul (xY (n:=1) (by decide))).mono,?_⟩
   refine ⟨⟨aa.cl,ae.n_divisor⟩,_,rfl,_,_,rfl,by omega,bdv.mono,?_⟩
   have g1:=u6 (b:=f.2 * 1) (((c1.mul (xY (n:=1) (by decide))).mono (show 4001<=4001 by decide)).sub ((bm.neg.mul c2).mono (show _<=4001 by decide)))
   have g2:=uV (t:=f.1 * 1 - (-wU bs m s) * f.2) (c2.mul (xY (n:=1) (by decide)))
   have w1:=(qF (t:=1) (b:=m.div) (by omega)).1
   have x1:Bd 1 (zY 1 m.div):=u6 (xY (by decide))
   have x2:Bd 3 (zM 1 m.div):=uV bdv
   obtain ⟨m1,_⟩:=QR (p:=f) (q:=(-wU bs m s,1)) f0 hV
   refine ⟨zS (f.1 * 1 - (-wU bs m s) * f.2) (f.2 * 1),zS 1 m.div,rfl,m1,w1,g1.mono,g2.mono,x1.mono,x2.mono,(g2.mul x2).mono,?_⟩
   obtain ⟨k1,_⟩:=QS (p:=zS (f.1 * 1 - (-wU bs m s) * f.2) (f.2 * 1)) (q:=zS 1 m.div) m1 w1
   refine ⟨_,rfl,k1,(uV (g2.mul x2)).mono,?_⟩
   have e1:wr (xF room n m s)=true:=by unfold xF; rw [hr]; rfl
   have e2:bV room n bs m s=vZ (f.1 + wU bs m s * f.2) (f.2 * m.div):=by unfold bV xF; rw [hr]; rfl
   show ∃ (_ _ _ _:Sl),_/\_
   rw [sn,if_pos e1,iR,e2,zRZ f0 (by omega)]
   exact ⟨_,_,_,_,rfl,at' (by unfold xF; rw [hr]; rfl)⟩
 ·rintro Γ' ⟨s4,s5,s6,s7,rfl,hO⟩
  rw [a_,cJ (cF _)] at hO |-
  unfold vB at q
  rw [if_neg λc=>?_] at q
  ·exact q
  ·obtain ⟨m,hm,z⟩:=mP.mp c
   rw [hO m hm] at z
   cases z
theorem zGd (F:zf K "grown_once" "grown_once" W9 f fd) (aN:Fn P w K mg base "ask_closed" ["thing"] k (zG (QG ai ah))) (bS:Fn P w K mg base "grown_bound" ["thing","room","row"] k (zG (XV ai ah))):zF P w K mg base zV (k + 1) f fd ["thing","room"] (zG (gj ai ah)):=by
 refine zv F Xh λ_ _ _ _ _ _ hr=>⟨_,(zH (zIw (zQ aN hr rfl (zB (zA 0) zC)))
  (zH (vX 2 Xh.nd rfl (Or.inl rfl) zC)
  (zH (xX PassesOwn.never rfl (xN (zA 1)) (zw 3 Xh.nd) (zH (zb 4 Xh.nd (zQ bS hr rfl (zB (zA 0) (zB (zA 1) (zB (zA 3) zC)))))
   (zH (yN (jq (zA 4) xx) (zJ (zZ xx)) yM)
   (zJ (yH (xi (wG cV cX cY yq (y6 2) (yF (zy (wZ (zA 3) w8 (wK (xU zD))) (xR (zB (zA 4) zC))) yu))) wc)))))
  (zJ (wa 2 (zZ (zA 2))))))),λds R h=>?_⟩
 obtain ⟨n,bs,ms,u,room,b,rfl,T,n2,h,hb,hb2,few,q⟩:=h
 refine ⟨n,bs,ms,rfl,T.ok,T.cl,k0,?_⟩
 refine ⟨λk Γ=>∃ s3 s4,Γ=[.sh (wS ai ah n bs ms),.sh (Rm room),.ow (((room.take k).map λr=>r.take n++[(vB room n bs ms (r.take n) (r.getD n 0)).getD 0]).map U),s3,s4]/\∀ r∈room.take k,(vB room n bs ms (r.take n) (r.getD n 0)).isSome=true,⟨_,_,rfl,λ_ h=>nomatch h⟩,?_,?_⟩
 ·rintro k d Γ' hk ⟨s3,s4,rfl,hG⟩
  obtain ⟨r,hg,rfl⟩:=XU hk
  have hm:=dm hg
  have lr:=h.row r hm
  refine ⟨n,bs,ms,u,room,b,r.take n,r.getD n 0,by rw [Wv lr],T,n2,h,hb,hb2,few,by rw [cI]; omega,h.co r hm,?_⟩
  cases hr:vB room n bs ms (r.take n) (r.getD n 0) with
  | none=>
   refine wT rfl ?_
   unfold vC at q
   rw [if_neg λc=>?_] at q
   ·exact q
   ·have:=de.mp c r hm
    rw [hr] at this
    cases this
  | some x=>
   refine wF rfl ⟨k0,by rw [uF lr,a_,cI]; show _ + 1<=1000; omega,by rw [a_,a_,cI]; omega,?_⟩
   have at':=XX (P:=λr=>(vB room n bs ms (r.take n) (r.getD n 0)).isSome=true) hg hG (by rw [hr]; rfl)
   show ∃ (_ _:Sl),[_,_,Sl.ow (_++[D.tup (_++[D.int x])]),_,_]=_/\_
   rw [v8 hg] at at' |-
   rw [cP,cP,uF lr,di,hr,jz]
   exact ⟨_,_,rfl,at'⟩
 ·rintro Γ' ⟨s3,s4,rfl,hG⟩
  rw [a_,cJ (cF _)] at hG |-
  unfold vC at q
  rw [if_pos (de.mpr hG)] at q
  exact q
theorem zM7 (F:zf K "grown" "grown" UA f fd) (aN:Fn P w K mg base "ask_closed" ["thing"] k (zG (QG ai ah))) (aO:Fn P w K mg base "first_room" ["start","shape"] k (zG (u9))) (aQ:Fn P w K mg base "grown_once" ["thing","room"] k (zG (gj ai ah))):zF P w K mg base zV (k + 1) f fd ["thing","start","shape","tries"] (zG (XW ai ah)):=by
 refine zv F ka λ_ _ _ _ _ _ hr=>⟨_,(zH (zIw (zQ aN hr rfl (zB (zA 0) zC)))
  (zH (zb 4 ka.nd (zQ aO hr rfl (zB (zA 1) (zB (zA 2) zC))))
  (zH (xX PassesOwn.never rfl (xO rfl B.range_ (zB (zy (zA 3) zD) zC)) (zw 5 ka.nd) (zH (yN (jq (zA 4) xx) (zJ (zZ xx)) yM)
   (zH (zb 6 ka.nd (zQ aQ hr rfl (zB (zA 0) (zB (zA 4) zC))))
   (zH (yN (zKe hr.units (zA 6) (zA 4)) (zJ (zZ (zA 4))) yM)
   (zJ (zb 4 ka.nd (zA 6)))))))
  (zJ (zZ xx))))),λds R h=>?_⟩
 obtain ⟨n,bs,ms,u,yC,S,t,rfl,t1,T,n2,h,hS,q⟩:=h
 have n1:=T.n1
 refine ⟨n,bs,ms,rfl,T.ok,T.cl,yC,n,S,rfl,h,n1,n2,hS,by omega,by omega,?_⟩
 rw [show (((t:Nat):Int) + 1).toNat=t + 1 by omega]
 refine ⟨λk Γ=>∃ r s5 s6,Γ=[.sh (wS ai ah n bs ms),.sh (Rm yC),.sh (.lst (S.map U)),.sh (.int ((t:Nat):Int)),.sh (dO r),s5,s6]/\(∀ T',r=some T'->xJ T' n (132 + 22 * k)/\T'.length<=8)/\k<=t + 1/\u8 n bs ms (t + 1) (yj yC n S)=u8 n bs ms (t + 1 - k) r,⟨yj yC n S,_,_,rfl,λT' e=>⟨zOH h n1 n2 hS e,zLg hS e⟩,by omega,rfl⟩,?_,?_⟩
 ·rintro k d Γ' hk ⟨r,s5,s6,rfl,hr,kt,eq⟩
  obtain ⟨kl,rfl⟩:=vo hk
  cases r with
  | none=>
   rw [Qi] at eq
   rw [eq] at q
   exact wT rfl q
  | some T'=>
   obtain ⟨c,few⟩:=hr T' rfl
   refine wF rfl ⟨n,bs,ms,u,T',_,rfl,T,n2,c,by omega,by omega,few,jN _,jN (some T'),?_⟩
   rw [kX,iL]
   rw [show t + 1 - k=(t - k) + 1 by omega,zLc] at eq
   refine w2 (λc1=>?_) λc1=>?_
   ·rw [if_pos (of_decide_eq_true c1)] at eq
    rw [eq] at q
    exact q
   ·rw [if_neg (of_decide_eq_false c1)] at eq
    refine ⟨vC n bs ms T',_,_,rfl,λT2 e2=>?_,by omega,by rw [eq,show t + 1 - (k + 1)=t - k by omega]⟩
    obtain ⟨o1,o2⟩:=zRP c (by omega) (by omega) few T n2 e2
    exact ⟨by rw [show 132 + 22 * (k + 1)=132 + 22 * k + 22 by omega]; exact o1,o2⟩
 ·rintro Γ' ⟨r,s5,s6,rfl,hr,kt,eq⟩
  rw [vp,h7] at eq
  rw [eq] at q
  exact q
theorem zJt (F:zf K "_law_first" "_law_first" Kz f fd) (aq:Fn P w K mg base "most" ["room","row"] k (zG (kT))):zF P w K mg base zV (k + 1) f fd ["_law_start_here","_law_shape_here"] (zG (u9)):=by
 refine zv F UB λ_ _ _ _ _ _ hr=>⟨_,(zH (vX 2 UB.nd rfl (Or.inl rfl) zC)
  (zH (xX PassesOwn.never rfl (xN (zA 1)) (zw 3 UB.nd) (zH (zb 4 UB.nd (zQ (W5 W4 aq) hr rfl (zB (zA 0) (zB (zy (zA 3) (xR (zB zD zC))) zC))))
   (zH (yN (gK hr.units (zL (zA 4) zD) uo) (zJ (zZ xx)) yM)
   (zJ (yH (xi (wG cV cX cY yq (y6 2) (yF (zy (zA 3) (xR (zB (wI zD (wj (wI zD (zL (zL (zA 4) zD) zD)) (zL (zL (zA 4) zD) zD))) zC))) yu))) wc)))))
  (zJ (wa 2 (zZ (zA 2)))))),λds R h=>?_⟩
 obtain ⟨yC,n,S,rfl,h,n1,n2,hS,q⟩:=h
 have fS:=hS.few
 refine ⟨k0,?_⟩
 refine ⟨λk Γ=>∃ s3 s4,Γ=[.sh (Rm yC),.sh (.lst (S.map U)),.ow (((S.take k).map λs=>s++[vb yC n s]).map U),s3,s4]/\∀ s∈S.take k,wr (mR yC n s)=true,⟨_,_,rfl,λ_ h=>nomatch h⟩,?_,?_⟩
 ·rintro k d Γ' hk ⟨s3,s4,rfl,hM⟩
  obtain ⟨s,hg,rfl⟩:=XU hk
  have hm:=dm hg
  obtain ⟨ls,bs⟩:=hS.ok s hm
  have lz:(s.map D.int).length + 1<=1000:=by rw [a_]; omega
  refine ⟨k0,lz,?_⟩
  rw [jz]
  refine ⟨yC,n,110,s,0,rfl,h,by decide,n1,n2,ls,λx hx=>(bs x hx).mono,?_⟩
  have no:wr (mR yC n s)=false->yj yC n S=none:=λz=>by
   unfold yj
   rw [if_neg λc=>?_]
   have:=de.mp c s hm
   rw [z] at this
   cases this
  cases hr:mR yC n s with
  | emp _=>exact λX=>⟨_,rfl,wT (by decide) (by rw [no (by rw [hr]; rfl)] at q; exact q)⟩
  | opn _ _=>exact λX Y=>⟨_,rfl,wT (by decide) (by rw [no (by rw [hr]; rfl)] at q; exact q)⟩
  | mst f _ _ _=>
   intro f0 b1 b2 X Y
   refine ⟨_,rfl,wF (by decide) ⟨_,rfl,_,rfl,_,rfl,_,rfl,dR f0,b2.mono,k0,lz,by rw [a_,a_,cI]; omega,?_⟩⟩
   have z:vb yC n s=0 - (0 - f.1).fdiv f.2:=by unfold vb; rw [hr]; show -((-f.1).fdiv f.2)=_; rw [e9,e9]
   have at':=XX (P:=λs=>wr (mR yC n s)=true) hg hM (by rw [hr]; rfl)
   show ∃ (_ _:Sl),_/\_
   rw [v8 hg] at at' |-
   rw [cP,cP,jz,di,z]
   exact ⟨_,_,rfl,at'⟩
 ·rintro Γ' ⟨s3,s4,rfl,hM⟩
  rw [a_,cJ (cF _)] at hM |-
  unfold yj at q
  rw [if_pos (de.mpr hM)] at q
  exact q
theorem zJu (F:zf K "_law_bound" "_law_bound" K0 f fd) (aq:Fn P w K mg base "most" ["room","row"] k (zG (kT))) (bT:Fn P w K mg base "_law_top" ["_law_numbers","_law_box_here"] k (zG (zRr))):zF P w K mg base zV (k + 1) f fd ["_law_spec","_law_mode_here","_law_room","_law_numbers"] (zG (XZ)):=by
 refine zv F vK λ_ _ _ _ _ _ hr=>⟨_,(uU (WY (zA 1) (wn rfl (yI 4 vK.nd (yI 5 vK.nd (yI 6 vK.nd (yI 7 vK.nd (yI 8 vK.nd (yI 9 vK.nd wm))))))))
  (zH (vq 10 false vK.nd rfl rfl (own:=["_law_j"]) (caps:=[(0,"_law_spec"),(3,"_law_numbers"),(5,"_law_nexts")]) (yX vK) rfl rfl yg (xO rfl B.range_ (zB (zL (zA 0) zD) zC)) (λ_ _ _ _=>(zw 0 (yB ["_law_j","_law_spec","_law_numbers","_law_nexts"]))) (λ_ _ _ _=>(yr (ZW rfl) YF rfl B.sum_ ZV (zB (xE (own:=["_law_i"]) (caps:=[(0,"_law_j"),(2,"_law_numbers"),(3,"_law_nexts")]) Wg rfl rfl yg (xO rfl B.range_ (zB (zL (zA 1) zD) zC)) (λ_ _ _ _=>(zw 0 (yB ["_law_i","_law_j","_law_numbers","_law_nexts"]))) (λ_ _ _ _=>(yW (zL (zA 2) (zA 0)) (zL (zL (zA 3) (zA 0)) (zA 1))))) zC))) rfl)
  (zH (vq 11 false vK.nd rfl rfl (own:=["_law_j"]) (caps:=[(0,"_law_spec"),(3,"_law_numbers"),(7,"_law_push")]) (yX vK) rfl rfl yg (xO rfl B.range_ (zB (yr xz wL rfl B.len_ x8 (zB (zL (zA 0) zD) zC)) zC)) (λ_ _ _ _=>(zw 0 (yB ["_law_j","_law_spec","_law_numbers","_law_push"]))) (λ_ _ _ _=>(yr (ZW rfl) YF rfl B.sum_ ZV (zB (xE (own:=["_law_i"]) (caps:=[(0,"_law_j"),(2,"_law_numbers"),(3,"_law_push")]) Wg rfl rfl yg (xO rfl B.range_ (zB (zL (zA 1) zD) zC)) (λ_ _ _ _=>(zw 0 (yB ["_law_i","_law_j","_law_numbers","_law_push"]))) (λ_ _ _ _=>(yW (zL (zA 2) (zA 0)) (zL (zL (zA 3) (zA 0)) (zA 1))))) zC))) rfl)
  (uU (zb 12 vK.nd (zQ (W5 W4 aq) hr rfl (zB (zy (zA 2) (zA 4)) (zB (zy (xa uN uS rfl B.tuple_ vP (zB (zA 10) zC)) (xR (zB zD zC))) zC))))
  (zH (yN (gK hr.units (zL (zA 12) zD) uo) (zJ (zZ (zL (zA 12) zD))) yM)
  (zH (zb 13 vK.nd (zy (zQ bT hr rfl (zB (zA 11) (zB (zL (zA 0) zD) zC))) (yr (ZW rfl) YF rfl B.sum_ ZV (zB (xE (own:=["_law_i"]) (caps:=[(3,"_law_numbers"),(8,"_law_add")]) (yX vK) rfl rfl yg (xO rfl B.range_ (zB (zL (zA 0) zD) zC)) (λ_ _ _ _=>(zw 0 (yB ["_law_i","_law_numbers","_law_add"]))) (λ_ _ _ _=>(yW (zL (zA 1) (zA 0)) (zL (zA 2) (zA 0))))) zC))))
  (zH (WY (zL (zA 12) zD) (wn rfl (yI 14 vK.nd (yI 15 vK.nd wm))))
  (zJ (zZ (wI zD (wj (wI (wI zD (zA 14)) (yW (zA 13) (zA 15))) (yW (zA 15) (zA 9))))))))))))),λds R h=>?_⟩
 obtain ⟨n,bs,ms,u,m,room,b,s,rfl,hm,T,n2,h,hb,hb2,few,ls,hs,q⟩:=h
 have n1:=T.n1
 have b2:=T.b2
 have M:=T.md m hm
 have MO:=M.ok
 have r1:=M.r1
 obtain ⟨l1,l2⟩:=Qk M n2 ls hs
 obtain ⟨bp,bm⟩:=Ql T hm n2 ls hs
 have lb:(lA zo bs).length=bs.length:=a_ ..
 refine ⟨λΓ=>Γ=[.sh (vY n bs ms u),.sh (wq m),.sh (Rm room),.sh (U s),.sh (Rm m.rows),.sh (Tb m.nexts),.sh (L m.steer),.sh (Tb m.push),.sh (L m.add),.sh (.int m.div),.no,.no,.no,.no,.no,.no],rfl,?_⟩
 rintro Γ' rfl
 refine ⟨_,rfl,by omega,by omega,?_⟩
 rw [show ((n:Nat):Int).toNat=n by omega]
 refine zr.rng0 (λj=>.int (zx s m.nexts j)) (by omega) (λj hj=>?_) ?_
 ·refine ⟨_,rfl,by omega,by omega,?_⟩
  rw [show ((n:Nat):Int).toNat=n by omega]
  refine zr.rng0 (λi=>.int (s.getD i 0 * (m.nexts.getD i []).getD j 0)) (by omega) (λi hi=>?_) ⟨(cR n).map λi=>s.getD i 0 * (m.nexts.getD i []).getD j 0,by rw [c_]; rfl,?_⟩
  ·have k2:i < m.nexts.length:=by rw [MO.nexts.1]; exact hi
   exact ⟨_,wN (j:=i) (by omega) rfl,_,xy [] k2,_,wN (j:=j) (by rw [MO.nexts.2 _ (Ws k2)]; exact hj) rfl,(vx hs i).mono,(vx (M.nx _ (Ws k2)) j).mono,rfl⟩
  ·show D.int _=D.int _
   rw [<- Qo (by rw [ls,MO.nexts.1]),ls]
 rw [show (cR n).map (λj=>D.int (zx s m.nexts j))=((cR n).map (zx s m.nexts)).map D.int by rw [c_]; rfl]
 refine ⟨_,rfl,by omega,by omega,?_⟩
 rw [show ((im (lA zo bs):Nat):Int).toNat=bs.length by omega]
 refine zr.rng0 (λj=>.int (zx s m.push j)) (by omega) (λj hj=>?_) ?_
 ·refine ⟨_,rfl,by omega,by omega,?_⟩
  rw [show ((n:Nat):Int).toNat=n by omega]
  refine zr.rng0 (λi=>.int (s.getD i 0 * (m.push.getD i []).getD j 0)) (by omega) (λi hi=>?_) ⟨(cR n).map λi=>s.getD i 0 * (m.push.getD i []).getD j 0,by rw [c_]; rfl,?_⟩
  ·have k2:i < m.push.length:=by rw [MO.push.1]; exact hi
   exact ⟨_,wN (j:=i) (by omega) rfl,_,xy [] k2,_,wN (j:=j) (by rw [MO.push.2 _ (Ws k2)]; exact hj) rfl,(vx hs i).mono,(vx (M.ps _ (Ws k2)) j).mono,rfl⟩
  ·show D.int _=D.int _
   rw [<- Qo (by rw [ls,MO.push.1]),ls]
 rw [show (cR bs.length).map (λj=>D.int (zx s m.push j))=((cR bs.length).map (zx s m.push)).map D.int by rw [c_]; rfl]
 refine ⟨λΓ=>∃ d,Γ=[.sh (vY n bs ms u),.sh (wq m),.sh (Rm room),.sh (U s),.sh (Rm m.rows),.sh (Tb m.nexts),.sh (L m.steer),.sh (Tb m.push),.sh (L m.add),.sh (.int m.div),.sh (L (uH n m s)),.sh (L ((cR bs.length).map (zx s m.push))),.sh d,.no,.no,.no]/\XY d (xF room n m s),?_,?_⟩
 ·refine ⟨by rw [a_,a_]; omega,k0,by rw [a_,a_,cT]; show _ + 1<=1000; omega,?_⟩
  rw [<- cP,jz]
  exact ⟨room++m.rows,n,b,uH n m s,_,rfl,h.app hb few T hm,hb2,n1,n2,l1,l2,Qp _ λd hd=>⟨d,rfl,hd⟩⟩
 rintro Γ' ⟨d,rfl,hd⟩
 cases hr:xF room n m s with
 | emp _=>
  rw [hr] at q hd
  obtain ⟨X,rfl⟩:=hd
  exact ⟨_,rfl,wT (by decide) ⟨_,rfl,q⟩⟩
 | opn _ _=>
  rw [hr] at q hd
  obtain ⟨X,Y,rfl⟩:=hd
  exact ⟨_,rfl,wT (by decide) ⟨_,rfl,q⟩⟩
 | mst f _ _ _=>
  rw [hr] at q hd
  obtain ⟨f0,c1,c2,X,Y,rfl⟩:=hd
  have d1:=MO.div
  refine ⟨_,rfl,wF (by decide) ?_⟩
  refine ⟨_,rfl,_,(cR bs.length).map (zx s m.push),bs,105,rfl,.inl rfl,by rw [a_,cT]; omega,λx hx=>(bp x hx).mono,by decide,λx hx=>(T.bb x hx).2,_,rfl,by omega,by omega,?_⟩
  rw [show ((n:Nat):Int).toNat=n by omega]
  refine zr.rng0 (λi=>.int (s.getD i 0 * m.add.getD i 0)) (by omega) (λi hi=>?_) ⟨(cR n).map λi=>s.getD i 0 * m.add.getD i 0,by rw [c_]; rfl,?_⟩
  ·exact ⟨_,wN (j:=i) (by omega) rfl,_,wN (j:=i) (by rw [MO.add]; exact hi) rfl,(vx hs i).mono,(vx M.ad i).mono,rfl⟩
  have hG:yh ((cR bs.length).map (zx s m.push)) bs + ((cR n).map λi=>s.getD i 0 * m.add.getD i 0).sum=wU bs m s:=by
   unfold wU
   have:=zQN (us:=s) (vs:=m.add) (by rw [ls,MO.add])
   rw [ls] at this
   rw [this]
  refine ⟨_,rfl,by rw [hG]; exact bm.mono,c2.mono,c2.mono,M.dv.mono,by have:=eY f0 (show 0 < m.div by omega); omega,(c2.mul M.dv).mono,?_⟩
  have z:0 - (0 - f.1 - wU bs m s * f.2).fdiv (f.2 * m.div)=vZ (f.1 + wU bs m s * f.2) (f.2 * m.div):=by unfold vZ; rw [e9,show 0 - f.1 - wU bs m s * f.2 = -(f.1 + wU bs m s * f.2) by omega]
  show R (.int (0 - (0 - f.1 - (yh ((cR bs.length).map (zx s m.push)) bs + ((cR n).map λi=>s.getD i 0 * m.add.getD i 0).sum) * f.2).fdiv (f.2 * m.div)))
  rw [hG,z]
  exact q
theorem zLD (F:zf K "_law_once" "_law_once" K1 f fd) (bU:Fn P w K mg base "_law_bound" ["_law_spec","_law_mode_here","_law_room","_law_numbers"] k (zG (XZ))):zF P w K mg base zV (k + 1) f fd ["_law_spec","_law_room"] (zG (Xa)):=by
 refine zv F kg λ_ _ _ _ _ _ hr=>⟨_,(zH (vX 2 kg.nd rfl (Or.inl rfl) zC)
  (zH (xX PassesOwn.never rfl (xN (zA 1)) (zw 3 kg.nd) (zH (vq 4 false kg.nd rfl rfl (own:=["_law_mode_here"]) (caps:=[(0,"_law_spec"),(1,"_law_room"),(3,"_law_row")]) (yX kg) rfl rfl yg (xN (zL (zA 0) zD)) (λ_ _ _ _=>(zw 0 (yB ["_law_mode_here","_law_spec","_law_room","_law_row"]))) (λ_ _ _ _=>(zQ bU hr rfl (zB (zA 1) (zB (zA 0) (zB (zA 2) (zB (wZ (zA 3) w8 (wK (xU zD))) zC)))))) rfl)
   (zH (yN (zOo hr.units uo (zA 4)) (zJ (zZ xx)) yM)
   (zJ (yH (xi (wG cV cX cY yq (y6 2) (yF (zy (wZ (zA 3) w8 (wK (xU zD))) (xR (zB (yr (zHk rfl) zJV rfl B.max_ X8 (zB (zy (w6 (zB (zL (zA 3) (xU zD)) zC)) (zMk (own:=["_law_bound_here"]) (caps:=[]) (yX kg) rfl rfl yg (xN (zA 4)) (λ_ _ _ _=>(zw 0 (yB ["_law_bound_here"]))) (λ_ _ _ _=>(J1 hr.units (zA 0) uo)) (λ_ _ _ _=>(zA 0)))) zC)) zC))) yu))) wc)))))
  (zJ (wa 2 (zZ (zA 2)))))),λds R h=>?_⟩
 obtain ⟨n,bs,ms,u,room,b,rfl,T,n2,h,hb,hb2,few,q⟩:=h
 have m3:=T.m3
 refine ⟨k0,?_⟩
 refine ⟨λk Γ=>∃ s3 s4,Γ=[.sh (vY n bs ms u),.sh (Rm room),.ow (((room.take k).map λr=>r.take n++[(vB room n bs ms (r.take n) (r.getD n 0)).getD 0]).map U),s3,s4]/\∀ r∈room.take k,(vB room n bs ms (r.take n) (r.getD n 0)).isSome=true,⟨_,_,rfl,λ_ h=>nomatch h⟩,?_,?_⟩
 ·rintro k d Γ' hk ⟨s3,s4,rfl,hG⟩
  obtain ⟨r,hg,rfl⟩:=XU hk
  have hm:=dm hg
  have lr:=h.row r hm
  have lt:(r.take n).length=n:=by rw [cI]; omega
  refine ⟨_,rfl,vv wq zQC zMN (λm=>qW room n bs m (r.take n) (xF room n m (r.take n))) (by omega) (λm hm'=>⟨n,bs,ms,u,m,room,b,r.take n,by rw [uF lr],hm',T,n2,h,hb,hb2,few,lt,h.co r hm,rfl⟩) ?_⟩
  refine ⟨show iC "open" = true by decide +kernel,de.mpr λd hd=>?_,?_⟩
  ·obtain ⟨m,_,rfl⟩:=cH.mp hd
   exact zQs _ _
  rw [zJa]
  refine w2 (λc1=>?_) λc1=>?_
  ·unfold vC at q
   rw [if_neg λc=>?_] at q
   ·exact q
   ·have:=de.mp c r hm
    unfold vB at this
    rw [if_pos c1] at this
    cases this
  have no:∀ m∈ms,qV (xF room n m (r.take n))=false:=λm hm'=>by
   have:=lZ.mp c1 m hm'
   exact ml.mpr this
  refine ⟨_,kR lr,k0,gR.keep (λd=>true != dP d.py (D.str "empty").py) (by rw [a_]; omega) (λd hd=>?_) (λd hd=>rfl) ?_⟩
  ·obtain ⟨m,_,rfl⟩:=cH.mp hd
   exact ⟨zQs _ _,show iC "empty" = true by decide +kernel,rfl⟩
  rw [zOI ms no]
  have lb:(bL room n bs ms (r.take n)).length<=3:=by
   unfold bL
   rw [a_]
   have:=j' (λm=>wr (xF room n m (r.take n))) ms
   omega
  refine ⟨by rw [a_]; show 1 + _<=1000; omega,r.getD n 0 :: bL room n bs ms (r.take n),rfl,mt _,λM hM hmax=>?_⟩
  obtain ⟨f1,f2⟩:=Qj (xs:=bL room n bs ms (r.take n)) (v:=r.getD n 0)
  have eM:M=(bL room n bs ms (r.take n)).foldl max (r.getD n 0):=Int.le_antisymm (f2 M hM) (hmax _ f1)
  have hr:vB room n bs ms (r.take n) (r.getD n 0)=some M:=by
   unfold vB
   rw [if_neg (by rw [c1]; exact dh),eM]
  refine ⟨k0,by rw [uF lr,a_,lt]; show _ + 1<=1000; omega,by rw [a_,a_,cI]; omega,?_⟩
  have at':=XX (P:=λr=>(vB room n bs ms (r.take n) (r.getD n 0)).isSome=true) hg hG (by rw [hr]; rfl)
  show ∃ (_ _:Sl),[_,_,Sl.ow (_++[D.tup (_++[D.int M])]),_,_]=_/\_
  rw [v8 hg] at at' |-
  rw [cP,cP,uF lr,di,hr,jz]
  exact ⟨_,_,rfl,at'⟩
 ·rintro Γ' ⟨s3,s4,rfl,hG⟩
  rw [a_,cJ (cF _)] at hG |-
  unfold vC at q
  rw [if_pos (de.mpr hG)] at q
  exact q
theorem zJr (F:zf K "_law_start" "_law_start" K2 f fd) (aR:Fn P w K mg base "_law_rows" ["_law_box_here"] k (jp (Qf))):zF P w K mg base zV (k + 1) f fd ["_law_box_here","_law_cell"] (zG (Xb)):=by
 refine zv F Xi λ_ _ _ _ _ _ hr=>⟨_,(zH (zMg 2 Xi.nd rfl (Or.inl rfl) aR hr rfl (zB (zA 0) zC))
  (zH (zb 3 Xi.nd (xm (wj (zA 1) zD) (J8 2 rfl B.len_)))
  (uU (yN (ur hr.units (xm (zA 1) zD) zD) (zJ (yH (xi (wG cV lg lh Yp (y6 2) (yF (zA 3) yu))) zNu)) yM)
  (uU (yN (ur hr.units (xm (zA 1) zD) zD) (zH (vq 4 false Xi.nd rfl rfl (own:=["_law_number_here"]) (caps:=[]) (yX Xi) rfl rfl yg (xN (zQj 2 (zA 3) (λ_ _=>rfl))) (λ_ _ _ _=>(zw 0 (yB ["_law_number_here"]))) (λ_ _ _ _=>(wI zD (zA 0))) rfl)
   (zJ (yH (xi (wG cV cX cY yq (y6 2) (yF (xa uN uS rfl B.tuple_ vP (zB (zy (wZ (zA 4) w8 (wK (xU zD))) (w6 (zB (wI (zL (zA 4) (xU zD)) zD) zC))) zC)) yu))) wc))) yM)
  (zJ (wa 2 (zZ (zA 2)))))))),λds R h=>?_⟩
 obtain ⟨bx,n,c,rfl,lb,n1,n2,hb,q⟩:=h
 obtain ⟨B,lB⟩:=zR3 lb n2 hb
 have m6:=md c (show (0:Int) < 6 by decide)
 have lU:((wo bx).map U).length=2 * n:=by rw [a_]; exact lB
 have ma:=md (c.fdiv 6) (show (0:Int) < (((wo bx).map U).length:Int) by omega)
 obtain ⟨k,hk⟩:=ff ma.1
 refine ⟨bx,rfl,by omega,by decide,(Bd.lit (i:=6) (n:=3)).mono,by omega,?_⟩
 refine ⟨λΓ=>∃ T:List (List Int),Γ=[.sh (.lst (bx.map zo)),.sh (.int c),.ow (T.map U),.sh (.int (c.fdiv 6 |>.fmod (((wo bx).map U).length:Int))),.no]/\xJ T n 106/\T.length<=4/\(c.fmod 6≠4->T=wo bx),⟨by decide,w2 (λc1=>⟨_,k,rfl,?_,(wo bx).eraseIdx k,by rw [<- Qq]; rfl,⟨?_,λr hr=>B.row r (W6 hr),λr hr=>B.co r (W6 hr),λr hr=>B.bo r (W6 hr)⟩,?_,λz=>absurd (of_decide_eq_true c1) z⟩) λc1=>⟨_,rfl,B,by omega,λ_=>rfl⟩⟩,?_⟩
 ·rw [hk]
  unfold xj
  rw [if_pos (by omega),if_pos (by omega)]
  rfl
 ·have:=fZ (wo bx) k
  omega
 ·have:=fZ (wo bx) k
  omega
 rintro Γ' ⟨T,rfl,hT,lT,eT⟩
 refine ⟨λΓ=>∃ (T:List (List Int)) (s4:Sl),Γ=[.sh (.lst (bx.map zo)),.sh (.int c),.ow (T.map U),.sh (.int (c.fdiv 6 |>.fmod (((wo bx).map U).length:Int))),s4]/\xJ T n 110,⟨by decide,w2 (λc1=>?_) λc1=>⟨T,_,rfl,hT.wid (by decide)⟩⟩,?_⟩
 ·obtain rfl:=eT (by have:=of_decide_eq_true c1; omega)
  have kl:k < (wo bx).length:=by omega
  have hm:=yf (d:=[]) kl
  have lr:=B.row _ hm
  have cr:=B.co _ hm
  have br:=B.bo _ hm
  refine ⟨_,by rw [hk]; exact xy [] kl,?_⟩
  show zr (((wo bx).getD k []).map D.int) _ _
  refine zr.int (λx=>0 - x) (by rw [lr]; omega) (λx hx=>rfl) ?_
  generalize (wo bx).getD k []=r at *
  have lf:(r.map λx=>0 - x).length=n + 1:=by rw [a_]; exact lr
  refine ⟨_,kR lf,k0,by rw [uF lf,a_,cI]; show _ + 1<=1000; omega,by omega,?_⟩
  refine ⟨wo bx++[(r.map λx=>0 - x).take n++[(r.map λx=>0 - x).getD n 0 - 1]],.sh (L (r.map λx=>0 - x)),?_,⟨by rw [cA]; show _ + 1<=12; omega,v4 B.row ?_,v4 B.co λx hx=>?_,v4 (λr hr=>(B.bo r hr).mono) ?_⟩⟩
  ·rw [cP,di,<- jz,<- uF lf]
   rfl
  ·rw [cA,cI,lf]
   show min n (n + 1) + 1=n + 1
   omega
  ·rw [dj (by rw [cI,lf]; omega),cJ (by rw [cI]; omega),<- fW] at hx
   obtain ⟨y,hy,rfl⟩:=cH.mp hx
   rw [e9]
   exact (cr y hy).neg
  ·rw [jZ (by rw [cI,lf]; omega),uj (d:=0) (by omega),e9]
   exact (br.neg.sub ((xY (n:=1) (by decide)).mono)).mono
 rintro Γ' ⟨T,s4,rfl,hT⟩
 exact q T hT
theorem zJs (F:zf K "_law_shape" "_law_shape" K3 f fd) (az:Fn P w K mg base "_law_stream" ["_law_cell","_law_many"] k (zG (W0))) (am:Fn P w K mg base "_law_number" ["_law_x","_law_far"] k (zG (W1))):zF P w K mg base zV (k + 1) f fd ["_law_many","_law_cell"] (zG (Xc)):=by
 refine zv F jD λ_ _ _ _ _ _ hr=>⟨_,(zH (zb 2 jD.nd (zQ az hr rfl (zB (zA 1) (zB zD zC))))
  (zH (vX 3 jD.nd rfl (Or.inl rfl) zC)
  (zH (xX PassesOwn.never rfl (xO rfl B.range_ (zB (zA 0) zC)) (zw 4 jD.nd) (zH (vq 5 false jD.nd rfl rfl (own:=["_law_j"]) (caps:=[(4,"_law_k")]) (yX jD) rfl rfl yg (xO rfl B.range_ (zB (zA 0) zC)) (λ_ _ _ _=>(zw 0 (yB ["_law_j","_law_k"]))) (λ_ _ _ _=>(xa UX JV rfl B.int_ X7 (zB (je hr.units (zA 0) (zA 1)) zC))) rfl)
   (zJ (wa 3 (zMh 3 jD.nd rfl (Or.inl rfl) (zA 3) (w6 (zB (xa uN uS rfl B.tuple_ vP (zB (zA 5) zC)) (zB (xa uN uS rfl B.tuple_ vP (zB (xE (own:=["_law_one"]) (caps:=[]) (yX jD) rfl rfl yg (xN (zA 5)) (λ_ _ _ _=>(zw 0 (yB ["_law_one"]))) (λ_ _ _ _=>(wI zD (zA 0)))) zC)) zC))))))))
  (zH (xX PassesOwn.never rfl (xO rfl B.range_ (zB (xm (zL (zA 2) zD) zD) zC)) (zw 4 jD.nd) (zH (vq 6 false jD.nd rfl rfl (own:=["_law_j"]) (caps:=[(2,"_law_xs"),(4,"_law_k")]) (yX jD) rfl rfl yg (xO rfl B.range_ (zB (zA 0) zC)) (λ_ _ _ _=>(zw 0 (yB ["_law_j","_law_xs","_law_k"]))) (λ_ _ _ _=>(zQ am hr rfl (zB (wj (zL (zA 1) (zy zD (zA 2))) (zy zD (yW zD (zA 0)))) (zB zD zC)))) rfl)
   (zJ (yN (gK hr.units (zA 6) (yW (w6 (zB zD zC)) (zA 0))) (zJ (yH (xi (wG cV cX cY yq (y6 3) (yF (xa uN uS rfl B.tuple_ vP (zB (zA 6) zC)) yu))) wc)) yM))))
  (uU (yN (PW.pt (zKc (ur hr.units (xm (zL (zA 2) zD) zD) zD) (zIt (gL (J8 3 rfl B.len_) zD)))) (zJ (yH (xi (wG cV lg lh Yp (y6 3) (yF (xm (zL (zA 2) zD) (J8 3 rfl B.len_)) yu))) zNu)) yM)
  (zJ (wa 3 (zZ (zA 3))))))))),λds R h=>?_⟩
 obtain ⟨n,c,rfl,n1,n2,q⟩:=h
 refine ⟨c,6,rfl,by decide,λxs lx hx=>⟨k0,by omega,by omega,?_⟩⟩
 rw [show ((n:Nat):Int).toNat=n by omega]
 refine ⟨λk Γ=>∃ (S:List (List Int)) (s4 s5:Sl),Γ=[.sh (.int (n:Int)),.sh (.int c),.sh (L xs),.ow (S.map U),s4,s5,.no]/\S.length=2 * k/\∀ s∈S,s.length=n/\∀ x∈s,Bd 4 x,⟨[],.no,.no,rfl,rfl,λ_ h=>nomatch h⟩,?_,?_⟩
 ·rintro k d Γ' hk ⟨S,s4,s5,rfl,lS,hS⟩
  obtain ⟨kn,rfl⟩:=vo hk
  refine ⟨by omega,by omega,?_⟩
  rw [show ((n:Nat):Int).toNat=n by omega]
  refine zr.rng0 (λj=>.int (if (j:Int)=(k:Int) then 1 else 0)) (by omega) (λj hj=>by show D.int _=_; rw [zOF]) ?_
  have eu:(cR n).map (λj:Nat=>D.int (if (j:Int)=(k:Int) then 1 else 0))=(xZ (k:Int) n 1).map D.int:=by unfold xZ; rw [c_]; rfl
  rw [eu]
  have lu:(xZ (k:Int) n 1).length=n:=ug ..
  have bu:∀ x∈xZ (k:Int) n 1,Bd 4 x:=Wn (xY (by decide))
  refine zr.int (λx=>0 - x) (by omega) (λx hx=>rfl) ?_
  refine ⟨k0,by rw [a_]; show _ + 2<=1000; omega,S++[xZ (k:Int) n 1,(xZ (k:Int) n 1).map λx=>0 - x],.sh (.int (k:Int)),.sh (L (xZ (k:Int) n 1)),?_,by rw [cA,lS]; rfl,λs hs=>?_⟩
  ·rw [cP]
   rfl
  ·rcases dr.mp hs with hs | hs
   ·exact hS s hs
   ·rcases da.mp hs with rfl | hs
    ·exact ⟨lu,bu⟩
    ·rw [df.mp hs]
     refine ⟨by rw [a_]; exact lu,λx hx=>?_⟩
     obtain ⟨y,hy,rfl⟩:=cH.mp hx
     rw [e9]
     exact (bu y hy).neg
 rintro Γ' ⟨S,s4,s5,rfl,lS,hS⟩
 rw [vp] at lS
 refine vz (by decide) (by omega) λx0 _=>⟨by decide,?_⟩
 have m2:=md x0 (show (0:Int) < 2 by decide)
 refine ⟨by omega,by omega,?_⟩
 refine ⟨λk Γ=>∃ (S:List (List Int)) (s4 s5 s6:Sl),Γ=[.sh (.int (n:Int)),.sh (.int c),.sh (L xs),.ow (S.map U),s4,s5,s6]/\S.length<=2 * n + k/\∀ s∈S,s.length=n/\∀ x∈s,Bd 4 x,⟨S,_,_,_,rfl,by omega,hS⟩,?_,?_⟩
 ·rintro k d Γ' hk ⟨S,s4,s5,s6,rfl,lS,hS⟩
  obtain ⟨kn,rfl⟩:=vo hk
  refine ⟨by omega,by omega,?_⟩
  rw [show ((n:Nat):Int).toNat=n by omega]
  refine zr.nums (λx=>Bd 4 x) (by omega) (λj hj=>?_) λns ln hn=>?_
  ·have bj:Bd 2 (j:Int):=XI (by omega)
   refine vz (by omega) (by omega) λx1 _=>⟨(Bd.lit (i:=7) (n:=3)).mono,bj.mono,by omega,Bd.mono (n:=10) (jM (f:=1000) (by decide) (by omega) (by omega)) (by decide),?_⟩
   exact ⟨_,2,rfl,by decide,(Bd.lit (i:=2) (n:=2)).mono,λy y1 y2=>⟨y,rfl,jM (f:=15) (by decide) (by omega) (by omega)⟩⟩
  refine ⟨k0,by omega,by omega,?_⟩
  rw [show ((n:Nat):Int).toNat=n by omega,show D.lst (cG n (D.int 0))=L (cG n 0) by unfold L; rw [iF]]
  refine ⟨JO 48 ns,JO 48 _,w2 (λc1=>⟨by rw [a_]; omega,S++[ns],.sh (.int (k:Int)),s5,.sh (L ns),by rw [cP]; rfl,by rw [cA]; show _ + 1<=_; omega,v4 hS ⟨ln,hn⟩⟩) λc1=>⟨S,_,_,_,rfl,by omega,hS⟩⟩
 rintro Γ' ⟨S,s4,s5,s6,rfl,lS,hS⟩
 rw [vp] at lS
 have l5:S.length<=6:=by omega
 refine ⟨λΓ=>∃ (S:List (List Int)),Γ=[.sh (.int (n:Int)),.sh (.int c),.sh (L xs),.ow (S.map U),s4,s5,s6]/\kW S n,?_,?_⟩
 ·refine vz (by decide) (by omega) λx3 _=>⟨by decide,w2 (λc1=>?_) λc1=>wF rfl ⟨S,rfl,by omega,hS⟩⟩
  refine w2 (λc2=>?_) λc2=>⟨S,rfl,by omega,hS⟩
  have z:1 < ((S.map U).length:Int):=of_decide_eq_true c2
  refine vz (by decide) (by omega) λx4 _=>⟨by omega,?_⟩
  have mk:=md x4 (show (0:Int) < ((S.map U).length:Int) by omega)
  obtain ⟨k,hk⟩:=ff mk.1
  refine ⟨_,k,rfl,?_,S.eraseIdx k,by rw [<- Qq]; rfl,?_,λs hs=>hS s (W6 hs)⟩
  ·rw [hk]
   unfold xj
   rw [if_pos (by omega),if_pos (by omega)]
   rfl
  ·have:=fZ S k
   omega
 rintro Γ' ⟨S,rfl,hS⟩
 exact q S hS
theorem zFp {cC:Addr} (Z:Er K mg cC) (F:zf K "ask_closed" "ask_closed" W7 f fd) (aB:ue P w K mg base ai "is_closed" ["self"] k (zG (QF ai ah))):zF P w K mg base (xW P w) (k + 1) f fd ["thing"] (u3 (qX ai ah cC 0)):=by
 refine F.okX zDn (Jy λC ds h=>by cases h with | mk n bs ms es e l=>rw [e,dg,l]; rfl) λcdv A outer s H vs Q E hr h=>⟨_,qc (zQp (wl (xf (Yc aB af hr (zA 0)))) (qc (zMm (C:=cC) (E:=E) (λ_ _ _ _ _ _ _ _ I mx qx=>zJj I mx qx) Z.excC rfl Z.mgC rfl (zB uo zC)) Xp) Xp) Xp,?_⟩
 obtain ⟨Z0,ds,C,zd,hv,⟨n,bs,ms,es,rfl,l,h,cl,rfl⟩,q⟩:=h
 refine Ym (Jz (N:=["thing"]) (ps:=["thing"]) zd hv (by rw [dg,l]; rfl)) ?_ ?_ q
 ·exact ⟨rfl,by decide +kernel,n,bs,ms,rfl,h,(by show (!_)=true; rw [cl]; rfl)⟩
 ·show 1<=1000
  decide
theorem zFo {cC:Addr} (F:zf K "grown_once" "grown_once" W9 f fd) (x_ask_closed:jG P w K mg base "ask_closed" ["thing"] k (u3 (qX ai ah cC 0))):zF P w K mg base (xW P w) (k + 1) f fd ["thing","room"] (u3 (qX ai ah cC 1)):=by
 refine F.okX Xh (Jy λC ds h=>by cases h with | mk n bs ms es e l=>rw [e,dg,l]; rfl) λcdv A outer s H vs Q E hr h=>?_
 obtain ⟨Z0,ds,C,zd,hv,⟨n,bs,ms,es,rfl,l,h,cl,rfl⟩,q⟩:=h
 exact ⟨_,qc (xi (zI3 x_ask_closed hr rfl (zB (zA 0) zC))) zIz,zKK (Jz (N:=["thing","room","told","row","bound"]) (ps:=["thing","room"]) zd hv (by rw [dg,l]; rfl)) ⟨n,bs,ms,[],rfl,rfl,h,cl,rfl⟩ q⟩
theorem zK7 {cC:Addr} (F:zf K "grown" "grown" UA f fd) (x_ask_closed:jG P w K mg base "ask_closed" ["thing"] k (u3 (qX ai ah cC 0))):zF P w K mg base (xW P w) (k + 1) f fd ["thing","start","shape","tries"] (u3 (qX ai ah cC 3)):=by
 refine F.okX ka (Jy λC ds h=>by cases h with | mk n bs ms es e l=>rw [e,dg,l]; rfl) λcdv A outer s H vs Q E hr h=>?_
 obtain ⟨Z0,ds,C,zd,hv,⟨n,bs,ms,es,rfl,l,h,cl,rfl⟩,q⟩:=h
 exact ⟨_,qc (xi (zI3 x_ask_closed hr rfl (zB (zA 0) zC))) zIz,zKK (Jz (N:=["thing","start","shape","tries","room","turn","larger"]) (ps:=["thing","start","shape","tries"]) zd hv (by rw [dg,l]; rfl)) ⟨n,bs,ms,[],rfl,rfl,h,cl,rfl⟩ q⟩
theorem zHR {cC:Addr} (Z:Er K mg cC) (F:zf K "_law_refused" "_law_refused" K4 f fd) (aS:Fn P w K mg base "_law_made" ["_law_spec"] k (zG (Qg ai ah))) (x_grown:jG P w K mg base "grown" ["thing","start","shape","tries"] k (u3 (qX ai ah cC 3))) (x_grown_once:jG P w K mg base "grown_once" ["thing","room"] k (u3 (qX ai ah cC 1))):zF P w K mg base zV (k + 1) f fd ["_law_spec","_law_start_here","_law_shape_here","_law_room"] (zG (Xd)):=by
 refine zv F jO λ_ _ _ _ _ _ hr=>⟨_,(uU (WY (zL (zL (zA 0) zD) (xU zD)) (wn rfl (yI 4 jO.nd (yI 5 jO.nd (yI 6 jO.nd (yI 7 jO.nd (yI 8 jO.nd (yI 9 jO.nd wm))))))))
  (uU (zb 10 jO.nd (zy (wZ (zL (zA 0) zD) w8 (wK (xU zD))) (w6 (zB (xR (zB (zA 4) (zB (zA 5) (zB (zy (wZ (zA 6) (wK zD) w8) (w6 (zB zD zC))) (zB (zA 7) (zB (zA 8) (zB (zA 9) zC))))))) zC))))
  (zH (zb 11 jO.nd (zQ aS hr rfl (zB (xR (zB (zL (zA 0) zD) (zB (zL (zA 0) zD) (zB (zA 10) (zB (zL (zA 0) zD) zC))))) zC)))
  (zH (vX 12 jO.nd rfl (Or.inl rfl) zC)
  (zH (yH (zKl rfl Z.mgC rfl rfl rfl (zHI (zIy (zHM x_grown hr rfl (zB (zA 11) (zB (zA 1) (zB (zA 2) (zB zD zC)))))) zIx) (λ_=>(zJ (yH (xi (wG cV cX cY yq (y6 12) (yF zD yu))) wc)))) zKO)
  (zH (yH (zKl rfl Z.mgC rfl rfl rfl (zHI (zIy (zHM x_grown_once hr rfl (zB (zA 11) (zB (zA 3) zC)))) zIx) (λ_=>(zJ (yH (xi (wG cV cX cY yq (y6 12) (yF zD yu))) wc)))) zKO)
  (zJ (wa 12 (zZ (je hr.units (zA 12) (w6 (zB zD (zB zD zC))))))))))))),λds R h=>?_⟩
 obtain ⟨n,bs,ms,u,d1,d2,d3,rfl,T,q⟩:=h
 have m1:=T.m1
 have m3:=T.m3
 obtain ⟨ms,m,rfl⟩:∃ ms' m,ms=ms'++[m]:=⟨_,_,(List.dropLast_concat_getLast (l:=ms) (λz=>by rw [z] at m1; cases m1)).symm⟩
 obtain ⟨ok,cl⟩:=zNn T
 have MO:=T.ok.mok m (dr.mpr (.inr (df.mpr rfl)))
 have n3:=T.n3
 rw [cA] at m3
 have em:(ms++[m]).map wq=ms.map wq++[wq m]:=by rw [cP]; rfl
 refine ⟨λΓ=>Γ=[.sh (vY n bs (ms++[m]) u),.sh d1,.sh d2,.sh d3,.sh (Rm m.rows),.sh (Tb m.nexts),.sh (L m.steer),.sh (Tb m.push),.sh (L m.add),.sh (.int m.div),.no,.no,.no],⟨_,rfl,wq m,by rw [em]; exact zR9,rfl⟩,?_⟩
 rintro Γ' rfl
 have ec:zq (m.steer.map D.int) (some 1) none=(m.steer.drop 1).map D.int:=by rw [iX]; exact zPr _
 have ei:zq ((ms++[m]).map wq) none (some (-1))=ms.map wq:=by rw [em]; exact zNc
 refine ⟨λΓ=>Γ=[.sh (vY n bs (ms++[m]) u),.sh d1,.sh d2,.sh d3,.sh (Rm m.rows),.sh (Tb m.nexts),.sh (L m.steer),.sh (Tb m.push),.sh (L m.add),.sh (.int m.div),.sh (.lst ((ms++[{ m with steer:=m.steer.drop 1++[1] }]).map wq)),.no,.no],⟨_,rfl,k0,by rw [ec,a_,d8,MO.steer]; show _ + 1<=1000; omega,k0,k0,by rw [ei,a_]; show _ + 1<=1000; omega,?_⟩,?_⟩
 ·show [_,_,_,_,_,_,_,_,_,_,Sl.sh (.lst (zq ((ms++[m]).map wq) none (some (-1))++[.tup [_,_,.lst (zq (m.steer.map D.int) (some 1) none++[.int 1]),_,_,_]])),_,_]=_
  rw [ei,ec,cP,di]
  unfold wq L
  rw [cP]
  rfl
 rintro Γ' rfl
 refine ⟨_,rfl,_,rfl,_,rfl,k0,n,bs,_,u,rfl,ok,k0,?_⟩
 refine ⟨cC,⟨n,bs,_,[d1,d2,.int 1],rfl,rfl,ok,cl,rfl⟩,Z.cc,by decide,?_⟩
 refine ⟨cC,⟨n,bs,_,[d3],rfl,rfl,ok,cl,rfl⟩,Z.cc,by decide,?_⟩
 exact ⟨k0,rfl,rfl,bR q (Zx [1,2] [1,2]).symm⟩
theorem zRQ (F:zf K "law" "law" kh f fd) (bW:Fn P w K mg base "_law_thing" ["_law_script"] k (zG (XM))) (aS:Fn P w K mg base "_law_made" ["_law_spec"] k (zG (Qg ai ah))) (bX:Fn P w K mg base "_law_box" ["_law_cell","_law_many","_law_unit"] k (zG (XJ))) (ap:Fn P w K mg base "_law_cell_at" ["_law_script","_law_k"] k (zG (Qd))) (bY:Fn P w K mg base "_law_start" ["_law_box_here","_law_cell"] k (zG (Xb))) (bZ:Fn P w K mg base "_law_shape" ["_law_many","_law_cell"] k (zG (Xc))) (b9:Fn P w K mg base "_law_first" ["_law_start_here","_law_shape_here"] k (zG (u9))) (cb:Fn P w K mg base "_law_refused" ["_law_spec","_law_start_here","_law_shape_here","_law_room"] k (zG (Xd))) (aR:Fn P w K mg base "_law_rows" ["_law_box_here"] k (jp (Qf))) (aO:Fn P w K mg base "first_room" ["start","shape"] k (zG (u9))) (cf:Fn P w K mg base "_law_once" ["_law_spec","_law_room"] k (zG (Xa))) (aQ:Fn P w K mg base "grown_once" ["thing","room"] k (zG (gj ai ah))) (cg:Fn P w K mg base "grown" ["thing","start","shape","tries"] k (zG (XW ai ah))):zF P w K mg base zV (k + 1) f fd ["_law_script"] (zG (j2)):=by
 refine zv F uJ λ_ _ _ _ _ _ hr=>⟨_,(zH (zb 1 uJ.nd (zQ bW hr rfl (zB (zA 0) zC)))
  (zH (zb 2 uJ.nd (zQ aS hr rfl (zB (zA 1) zC)))
  (zH (zb 3 uJ.nd (zQ bX hr rfl (zB (zQ ap hr rfl (zB (zA 0) (zB zD zC))) (zB (zL (zA 1) zD) (zB (zL (zA 1) zD) zC)))))
  (zH (zb 4 uJ.nd (zQ bY hr rfl (zB (zA 3) (zB (zQ ap hr rfl (zB (zA 0) (zB zD zC))) zC))))
  (zH (zb 5 uJ.nd (zQ bZ hr rfl (zB (zL (zA 1) zD) (zB (zQ ap hr rfl (zB (zA 0) (zB zD zC))) zC))))
  (uU (zb 6 uJ.nd (zQ b9 hr rfl (zB (zA 4) (zB (zA 5) zC))))
  (zH (yN (PW.pt (uQ (J1 hr.units (zQ aO hr rfl (zB (zA 4) (zB (zA 5) zC))) (zA 6)) (ut (wl (xf (zQ cb hr rfl (zB (zA 1) (zB (zA 4) (zB (zA 5) (zB (zQ (Jr aR) hr rfl (zB (zA 3) zC)) zC)))))))))) (zJ (zZ um)) yM)
  (uU (zb 7 uJ.nd (xm (zQ ap hr rfl (zB (zA 0) (zB zD zC))) zD))
  (zH (zb 8 uJ.nd xx)
  (zH (xX PassesOwn.never rfl (xO rfl B.range_ (zB (zy (zA 7) zD) zC)) (zw 9 uJ.nd) (zJ (yN (PW.pt (zKc (zIu (zA 6) xx) (zIt (jq (zA 8) xx)))) (zH (zb 10 uJ.nd (zQ cf hr rfl (zB (zA 1) (zB (zA 6) zC))))
    (zH (yN (J1 hr.units (zQ aQ hr rfl (zB (zA 2) (zB (xa uM uu rfl B.list_ wV (zB (zA 6) zC)) zC))) (zA 10)) (zJ (zZ um)) yM)
    (uU (yN (zKe hr.units (zA 10) (zA 6)) (zJ (zb 8 uJ.nd (zA 6))) yM)
    (zJ (zb 6 uJ.nd (zA 10)))))) yM)))
  (zJ (zZ (zQk hr.units (zQ cg hr rfl (zB (zA 2) (zB (zA 4) (zB (zA 5) (zB (zA 7) zC))))) (zA 8)))))))))))))),λds R h=>?_⟩
 obtain ⟨ns,rfl,q⟩:=h
 refine ⟨ns,rfl,λn bs ms u T n2=>?_⟩
 have n1:=T.n1
 have u1:=T.u1
 refine ⟨n,bs,ms,u,rfl,T.ok,?_⟩
 refine ⟨ns,5,rfl,by decide,λc5=>⟨_,rfl,_,rfl,c5,n,u,rfl,T.n3,by omega,T.bu,λbx lb hb=>?_⟩⟩
 refine ⟨ns,6,rfl,by decide,λc6=>⟨bx,n,c6,rfl,lb,n1,n2,λb h=>(hb b h).2,λT0 hT0=>?_⟩⟩
 refine ⟨_,rfl,ns,7,rfl,by decide,λc7=>⟨n,c7,rfl,n1,n2,λS hS=>?_⟩⟩
 refine ⟨λΓ=>Γ=[.sh (.scr ns),.sh (vY n bs ms u),.sh (wS ai ah n bs ms),.sh (.lst (bx.map zo)),.sh (Rm T0),.sh (.lst (S.map U)),.sh (dO (yj T0 n S)),.no,.no,.no,.no],⟨T0,n,S,rfl,hT0,n1,n2,hS,rfl⟩,?_⟩
 rintro Γ' rfl
 refine ⟨T0,n,S,rfl,hT0,n1,n2,hS,jN _,jN _,wF (by rw [kX,decide_eq_true rfl]; rfl) ⟨bx,rfl,by omega,n,bs,ms,u,_,_,_,rfl,T,wF rfl ?_⟩⟩
 refine ⟨λΓ=>∃ t:Nat,t<=1/\Γ=[.sh (.scr ns),.sh (vY n bs ms u),.sh (wS ai ah n bs ms),.sh (.lst (bx.map zo)),.sh (Rm T0),.sh (.lst (S.map U)),.sh (dO (yj T0 n S)),.sh (.int ((t:Nat):Int)),.no,.no,.no],⟨ns,8,rfl,by decide,λc8=>⟨by decide,?_⟩⟩,?_⟩
 ·have m2:=md c8 (show (0:Int) < 2 by decide)
  obtain ⟨t,ht⟩:=ff m2.1
  exact ⟨t,by omega,by rw [<- ht]; rfl⟩
 rintro Γ' ⟨t,t1,rfl⟩
 refine ⟨by omega,by omega,?_⟩
 rw [show (((t:Nat):Int) + 1).toNat=t + 1 by omega]
 refine ⟨λk Γ=>∃ (r du:Option (List (List Int))) (s9 s10:Sl),Γ=[.sh (.scr ns),.sh (vY n bs ms u),.sh (wS ai ah n bs ms),.sh (.lst (bx.map zo)),.sh (Rm T0),.sh (.lst (S.map U)),.sh (dO r),.sh (.int ((t:Nat):Int)),.sh (dO du),s9,s10]/\(∀ T',r=some T'->xJ T' n (132 + 22 * k)/\T'.length<=8)/\k<=t + 1/\((du=none/\u8 n bs ms (t + 1) (yj T0 n S)=u8 n bs ms (t + 1 - k) r)\/(du≠none/\u8 n bs ms (t + 1) (yj T0 n S)=du)),⟨yj T0 n S,none,_,_,rfl,λT' e=>⟨zOH hT0 n1 n2 hS e,zLg hS e⟩,by omega,.inl ⟨rfl,rfl⟩⟩,?_,?_⟩
 ·rintro k d Γ' hk ⟨r,du,s9,s10,rfl,hr,kt,eq⟩
  obtain ⟨kl,rfl⟩:=vo hk
  have up:∀ T',r=some T'->xJ T' n (132 + 22 * (k + 1))/\T'.length<=8:=λT' e=>⟨(hr T' e).1.wid (by omega),(hr T' e).2⟩
  cases r with
  | none=>
   refine wF rfl (wF rfl ⟨none,du,_,_,rfl,up,by omega,?_⟩)
   rcases eq with ⟨e1,e2⟩ | e
   ·exact .inl ⟨e1,by rw [e2,Qi,Qi]⟩
   ·exact .inr e
  | some T'=>
   obtain ⟨c,few⟩:=hr T' rfl
   cases du with
   | some D'=>exact wT rfl (wF rfl ⟨_,_,_,_,rfl,up,by omega,.inr (eq.resolve_left λz=>nomatch z.1)⟩)
   | none=>
    obtain ⟨_,eq⟩:=eq.resolve_right λz=>z.1 rfl
    rw [show t + 1 - k=(t - k) + 1 by omega,zLc] at eq
    refine wT rfl (wT rfl ⟨n,bs,ms,u,T',_,rfl,T,n2,c,by omega,by omega,few,?_⟩)
    refine ⟨n,bs,ms,u,T',_,rfl,T,n2,c,by omega,by omega,few,jN _,jN _,wF (by rw [kX,decide_eq_true rfl]; rfl) ?_⟩
    refine ⟨λΓ=>∃ du,Γ=[.sh (.scr ns),.sh (vY n bs ms u),.sh (wS ai ah n bs ms),.sh (.lst (bx.map zo)),.sh (Rm T0),.sh (.lst (S.map U)),.sh (dO (some T')),.sh (.int ((t:Nat):Int)),.sh (dO du),.sh (.int ((k:Nat):Int)),.sh (dO (vC n bs ms T'))]/\du=if vC n bs ms T'=some T' then some T' else none,⟨jN _,jN (some T'),w2 (λc1=>?_) λc1=>?_⟩,?_⟩
    ·rw [kX,iL] at c1
     exact ⟨some T',rfl,by rw [if_pos (of_decide_eq_true c1)]⟩
    ·rw [kX,iL] at c1
     exact ⟨none,rfl,by rw [if_neg (of_decide_eq_false c1)]⟩
    rintro Γ' ⟨du,rfl,hd⟩
    refine ⟨vC n bs ms T',du,_,_,rfl,λT2 e2=>?_,by omega,?_⟩
    ·obtain ⟨o1,o2⟩:=zRP c (by omega) (by omega) few T n2 e2
     exact ⟨by rw [show 132 + 22 * (k + 1)=132 + 22 * k + 22 by omega]; exact o1,o2⟩
    ·by_cases z:vC n bs ms T'=some T'
     ·rw [if_pos z] at hd eq
      exact .inr ⟨by rw [hd]; exact nofun,by rw [eq,hd]⟩
     ·rw [if_neg z] at hd eq
      exact .inl ⟨hd,by rw [eq,show t + 1 - (k + 1)=t - k by omega]⟩
 ·rintro Γ' ⟨r,du,s9,s10,rfl,hr,kt,eq⟩
  rw [vp,h7] at eq
  have e:u8 n bs ms (t + 1) (yj T0 n S)=du:=by
   rcases eq with ⟨e1,e2⟩ | e
   ·rw [e2,e1]; rfl
   ·exact e.2
  refine ⟨n,bs,ms,u,T0,S,t,rfl,t1,T,n2,hT0,hS,jN _,jN _,?_⟩
  rw [kX,decide_eq_true e]
  exact q
end
end K77
namespace L2
open PySem PySem.Spec PyProof.Rows
theorem UC {α:Type} {P:List α->Prop} (h:∀ x0:α,P [x0]):∀ us:List α,us.length=1->P us
 | [x0],_=>h x0
theorem ki {α:Type} {P:List α->Prop} (h:∀ x0 x1:α,P [x0,x1]):∀ us:List α,us.length=2->P us
 | [x0,x1],_=>h x0 x1
theorem Xk {α:Type} {P:List α->Prop} (h:∀ x0 x1 x2:α,P [x0,x1,x2]):∀ us:List α,us.length=3->P us
 | [x0,x1,x2],_=>h x0 x1 x2
theorem UD {α:Type} {P:List α->Prop} (h:∀ x0 x1 x2 x3:α,P [x0,x1,x2,x3]):∀ us:List α,us.length=4->P us
 | [x0,x1,x2,x3],_=>h x0 x1 x2 x3
theorem UE {α:Type} {P:List α->Prop} (h:∀ x0 x1 x2 x3 x4:α,P [x0,x1,x2,x3,x4]):∀ us:List α,us.length=5->P us
 | [x0,x1,x2,x3,x4],_=>h x0 x1 x2 x3 x4
theorem UF {α:Type} {P:List α->Prop} (h:∀ x0 x1 x2 x3 x4 x5 x6:α,P [x0,x1,x2,x3,x4,x5,x6]):∀ us:List α,us.length=7->P us
 | [x0,x1,x2,x3,x4,x5,x6],_=>h x0 x1 x2 x3 x4 x5 x6
structure Gf (K:W.Frag) (x:Str) (st:Stmt) (f:Addr) (fd:FuncData):Prop where
 at_:W.nsIn K mainGlobals x=some (some (.ref f))
 F:zf K x x st f fd
abbrev Ge (K:W.Frag) (x:Str) (st:Stmt):Prop:=∃ f fd,Gf K x st f fd
structure Gm (K:W.Frag) (C:Addr) (x q:Str) (st:Stmt) (f:Addr) (fd:FuncData):Prop where
 at_:W.findIn K (.ref C) x=some (some (.ref f))
 fn:W.isFn K (.ref f)=true
 F:zf K x q st f fd
abbrev Gn (K:W.Frag) (C:Addr) (x q:Str) (st:Stmt):Prop:=∃ f fd,Gm K C x q st f fd
structure Gd (K:W.Frag) (x:Str) (st:Stmt) (f:Addr) (fd:FuncData) (d:Value):Prop where
 at_:W.nsIn K mainGlobals x=some (some (.ref f))
 F:xV K x x st f fd d
abbrev Gi (K:W.Frag) (x:Str) (st:Stmt) (i:Int):Prop:=∃ f fd t,Gd K x st f fd (.int i t)
structure Gc (K:W.Frag) (x:Str) (C:Addr):Prop where
 nm:W.nsIn K mainGlobals x=some (some (.ref C))
 pg:W.plainGet K C Str.empty=true
 hd:W.hasDictIn K C=true
 po:W.plainOver K C=true
 sa:W.findIn K (.ref C) "__setattr__" = some (some (.builtin "object.__setattr__"))
 mk_:W.makesIn K C=true
 kc:W.keepIn K (.ref C)=true
 ha:W.findIn K (.ref C) "__class__" = some (some (.builtin "object.__class__"))
 hn:W.specialIn K (.builtin "object.__class__") "__get__" = some (some (.builtin "getset_descriptor.__get__"))
 tk:W.takesIn K (.builtin "object.__class__")=some true
 hm:W.mroIn K C (.type "object")=some true
section
variable {P:Program} {w:World} {K:W.Frag} {mg:Str->Option Value} {base h:Heap} {x q:Str} {st:Stmt} {f C T:Addr} {fd:FuncData} {ps:List Str} {k:Nat} {sp:Sp} {oc kV doc pm cdv ct oT:Value} {od an dT:Option Addr} {osl sT:Array (Option Value)}
theorem Xl (a:W.nsIn K mainGlobals x=some (some (.ref f))) (l:K.lookup f=some ⟨oc,od,.func (W.fnOf x x (ww st) (xS st) (zR st) .none kV doc pm an cdv ct),osl⟩) (c:W.codeIn K cdv x=true) (k:W.keepIn K (.ref f)=true):Ge K x st:=⟨f,_,a,Uk l c k⟩
theorem Xm (a:W.findIn K (.ref C) x=some (some (.ref f))) (i:W.isFn K (.ref f)=true) (l:K.lookup f=some ⟨oc,od,.func (W.fnOf x q (ww st) (xS st) (zR st) .none kV doc pm an cdv ct),osl⟩) (c:W.codeIn K cdv q=true) (k:W.keepIn K (.ref f)=true):Gn K C x q st:=⟨f,_,a,i,Uk l c k⟩
theorem Xn {i:Int} {t:Tok} {n:Nat} (a:W.nsIn K mainGlobals x=some (some (.ref f))) (l:K.lookup f=some ⟨oc,od,.func (W.fnOf x x (ww st) (xS st) (zR st) (.ref T) kV doc pm an cdv ct),osl⟩) (c:W.codeIn K cdv x=true) (k:W.keepIn K (.ref f)=true) (d:K.lookup T=some ⟨oT,dT,.seq #[.int i t] n,sT⟩):Gi K x st i:=⟨f,_,t,a,zPa l c k d rfl⟩
theorem Gc.cls (g:Gc K x C) (X:K.In h) (G:h.Ns mainGlobals mg):xq K mg x C:=⟨⟨g.pg,g.hd,g.po,g.sa⟩,W.mg_of X G g.nm,g.ha,g.hn,g.tk,g.hm⟩
abbrev Bn (x q:Str) (st:Stmt) (ps:List Str):Prop:=∀ (kV doc pm:Value) (an:Option Addr) (cdv ct:Value) (us:List Value),us.length=ps.length->bindArgs (W.fnOf x q (ww st) (xS st) (zR st) .none kV doc pm an cdv ct) ⟨us,[]⟩=pure (ps.zip us)
structure Wh (P:Program) (w:World) (K:W.Frag) (mg:Str->Option Value) (base h:Heap):Prop where
 X:K.In h
 G:h.Ns mainGlobals mg
theorem Gf.fn (g:Gf K x st f fd) (Y:Wh P w K mg base h) (o:zF P w K mg base zV k f fd ps sp) (b:Bn x x st ps:=by intro _ _ _ _ _ _; first | exact L2.UC λ_=>rfl | exact L2.ki λ_ _=>rfl | exact L2.Xk λ_ _ _=>rfl | exact L2.UD λ_ _ _ _=>rfl | exact L2.UE λ_ _ _ _ _=>rfl | exact L2.UF λ_ _ _ _ _ _ _=>rfl):Fn P w K mg base x ps k sp:=⟨f,fd,o,W.mg_of Y.X Y.G g.at_,g.F.kp,g.F.binds b⟩
theorem Gf.fx (g:Gf K x st f fd) (Y:Wh P w K mg base h) (o:zF P w K mg base (xW P w) k f fd ps sp) (b:Bn x x st ps:=by intro _ _ _ _ _ _; first | exact L2.UC λ_=>rfl | exact L2.ki λ_ _=>rfl | exact L2.Xk λ_ _ _=>rfl | exact L2.UD λ_ _ _ _=>rfl | exact L2.UE λ_ _ _ _ _=>rfl | exact L2.UF λ_ _ _ _ _ _ _=>rfl):jG P w K mg base x ps k sp:=⟨f,fd,o,W.mg_of Y.X Y.G g.at_,g.F.kp,g.F.binds b⟩
theorem Gm.fm (g:Gm K C x q st f fd) (_:Wh P w K mg base h) (o:zF P w K mg base zV k f fd ps sp) (b:Bn x q st ps:=by intro _ _ _ _ _ _; first | exact L2.UC λ_=>rfl | exact L2.ki λ_ _=>rfl | exact L2.Xk λ_ _ _=>rfl | exact L2.UD λ_ _ _ _=>rfl | exact L2.UE λ_ _ _ _ _=>rfl | exact L2.UF λ_ _ _ _ _ _ _=>rfl):ue P w K mg base C x ps k sp:=⟨f,fd,o,⟨g.at_,g.fn,g.F.kp⟩,g.F.binds b⟩
theorem Gm.fc {y:Str} (g:Gm K C "__init__" q st f fd) (_:Wh P w K mg base h) (c:Gc K y C) (o:zF P w K mg base zV k f fd ps sp) (b:Bn "__init__" q st ps:=by intro _ _ _ _ _ _; first | exact L2.UC λ_=>rfl | exact L2.ki λ_ _=>rfl | exact L2.Xk λ_ _ _=>rfl | exact L2.UD λ_ _ _ _=>rfl | exact L2.UE λ_ _ _ _ _=>rfl | exact L2.UF λ_ _ _ _ _ _ _=>rfl):qD P w K mg base C ps k sp:=⟨f,fd,o,⟨c.mk_,g.at_,g.fn,c.kc⟩,g.F.binds b⟩
theorem Gd.fn {i:Int} {t:Tok} (g:Gd K x st f fd (.int i t)) (Y:Wh P w K mg base h) (b:∀ (T:Addr) (kV doc pm:Value) (an:Option Addr) (cdv ct:Value) (us:List Value),us.length=ps.length->∃ k:Option (Array Value)->Sem (List (Str × Value)),bindArgs (W.fnOf x x (ww st) (xS st) (zR st) (.ref T) kV doc pm an cdv ct) ⟨us,[]⟩=seqItems? (.ref T) >>= k/\k (some #[.int i t])=pure (ps.zip us))
  (d:∀ (T:Addr) (kV doc pm:Value) (an:Option Addr) (cdv ct:Value) (us:List Value),us.length + 1=ps.length->∃ k:Option (Array Value)->Sem (List (Str × Value)),bindArgs (W.fnOf x x (ww st) (xS st) (zR st) (.ref T) kV doc pm an cdv ct) ⟨us,[]⟩=seqItems? (.ref T) >>= k/\k (some #[.int i t])=pure (ps.zip (us++[.int i t]))) (o:zF P w K mg base zV k f fd ps sp):wf P w K mg base x ps k sp (.int i):=
 ⟨f,fd,_,o,W.mg_of Y.X Y.G g.at_,g.F.kp,g.F.binds b,g.F.binds1 d,⟨_,rfl⟩⟩
end
end L2
namespace K77
open PySem L2 Sh Pu
abbrev Gq (K:W.Frag) (x:Str) (st:Stmt) (c:Addr):Prop:=∃ f fd,Gf K x st f fd/\fd.code=.ref c
theorem gq_mk {K:W.Frag} {x:Str} {st:Stmt} {f c0:Addr} {oc kV doc pm ct:Value} {od an:Option Addr} {osl:_} (a:W.nsIn K mainGlobals x=some (some (.ref f))) (l:K.lookup f=some ⟨oc,od,.func (W.fnOf x x (ww st) (xS st) (zR st) .none kV doc pm an (.ref c0) ct),osl⟩) (c:W.codeIn K (.ref c0) x=true) (k:W.keepIn K (.ref f)=true):Gq K x st c0:=⟨f,_,⟨a,Uk l c k⟩,rfl⟩
variable [iT:yY]
theorem zQQ {F:FL} (h:∀ ds R,¬ F ds R):∀ vs H Q E,¬ zG F vs H Q E:=λ_ _ _ _ ⟨_,ds,R,_,_,f,_⟩=>h ds R f
theorem zNZ:∀ ds R,¬ Y0 0 ds R:=λ_ _ ⟨_,_,_,h,_⟩=>by cases h
theorem all_mk {cL Pt:Addr} (hI:∀ H,yY.I H ↔ yL Pt "least_place.<locals>.<lambda>" ⟨156,27,156,54⟩ H) {l:W.OpenLaw} {w:World} {K:W.Frag} {h:Heap} {mg:Str->Option Value} {fa:Addr} (X:K.In h) (G:h.Ns mainGlobals mg) (hfa:mg "law" = some (.ref fa))
  {ah ai cC:Addr}
  (GMode:Gc K "Mode" ah)
  (GThing:Gc K "Thing" ai)
  (ci:W.findIn K (.ref ah) "rows" = some none)
  (cj:W.findIn K (.ref ah) "nexts" = some none)
  (ck:W.findIn K (.ref ah) "steer" = some none)
  (cn:W.findIn K (.ref ah) "push" = some none)
  (cq:W.findIn K (.ref ah) "add" = some none)
  (cu:W.findIn K (.ref ah) "divisor" = some none)
  (cv:W.findIn K (.ref ai) "many" = some none)
  (cw:W.findIn K (.ref ai) "kept_pushes" = some none)
  (cx:W.findIn K (.ref ai) "kept_modes" = some none)
  (mC:W.nsIn K mainGlobals "NotClosed" = some (some (.ref cC)))
  (xC:W.excIn K cC [.type "ValueError",.type "Exception",.type "BaseException",.type "object"] "ValueError.__new__" = true)
  (sC:W.exmOne K (.ref cC) (.ref cC)=some true)
  (z0:W.nsIn K mainGlobals "isinstance" = some none)
  (z1:W.nsIn K mainGlobals "int" = some none)
  (z2:W.nsIn K mainGlobals "bool" = some none)
  (z3:W.nsIn K mainGlobals "tuple" = some none)
  (z4:W.nsIn K mainGlobals "len" = some none)
  (z5:W.nsIn K mainGlobals "all" = some none)
  (z6:W.nsIn K mainGlobals "list" = some none)
  (z7:W.nsIn K mainGlobals "range" = some none)
  (z8:W.nsIn K mainGlobals "zip" = some none)
  (z9:W.nsIn K mainGlobals "sum" = some none)
  (z10:W.nsIn K mainGlobals "max" = some none)
  (z11:W.nsIn K mainGlobals "enumerate" = some none)
  (z12:W.nsIn K mainGlobals "min" = some none)
  (z13:W.nsIn K mainGlobals "abs" = some none)
  {gt0:Tok} (cst0:W.nsIn K mainGlobals "MOST_NUMBERS" = some (some (.int 3 gt0)))
  {gt1:Tok} (cst1:W.nsIn K mainGlobals "MOST_PUSHES" = some (some (.int 6 gt1)))
  {gt2:Tok} (cst2:W.nsIn K mainGlobals "MOST_MODES" = some (some (.int 40 gt2)))
  : Ge K "is_whole" Qr->Ge K "is_numbers" Qs->Ge K "is_table" Qt->Gi K "copied" Qu 5->Gi K "unit" Qw 1->Ge K "paired" Qx->Ge K "added_up" Qy->Ge K "is_row" Qz->Ge K "is_room" Q0->Ge K "single" Q1->Gn K ah "__init__" "Mode.__init__" Q2->Ge K "is_push" Q3->Ge K "is_mode" Q4->Ge K "is_sound" Q5->Gn K ai "__init__" "Thing.__init__" Q7->Gn K ai "pushes" "Thing.pushes" Q8->Gn K ai "modes" "Thing.modes" Q9->Ge K "is_unsteered" KA->Gn K ai "is_closed" "Thing.is_closed" KB->Ge K "ask_closed" W7->Ge K "reach" KC->Ge K "common_divisor" KE->Gi K "fraction" KF 1->Ge K "minus" KH->Ge K "times" KI->Ge K "under" KJ->Ge K "ceiling_of" KL->Ge K "raw_sum" KM->Ge K "along" KN->Ge K "holds" KO->Ge K "first_with" KP->Ge K "put_ahead" KQ->Ge K "cleared" KR->Ge K "solved" KS->Ge K "axes" KT->Ge K "corner_point" KU->Ge K "weights_of" KW->Ge K "over_one_bottom" KY->Ge K "exchanged" KZ->Ge K "way_off" Ka->Gq K "least_place" Kc cL->Ge K "first_broken" Kf->Ge K "first_met" Kh->Ge K "spread" Ki->Ge K "first_corner" Kj->Ge K "climbed" Kk->Ge K "most" Kl->Ge K "_law_cell_at" Km->Ge K "_law_stream" Kn->Ge K "_law_number" Ko->Ge K "_law_box" Kp->Ge K "_law_rows" Kq->Ge K "_law_made" Kr->Ge K "_law_top" Ks->Ge K "_law_mode" Kt->Ge K "_law_thing" Ku->Ge K "worst_pushes" Kv->Ge K "without_pushes" Kw->Ge K "first_room" Kx->Ge K "grown_bound" Ky->Ge K "grown_once" W9->Ge K "grown" UA->Ge K "_law_first" Kz->Ge K "_law_bound" K0->Ge K "_law_once" K1->Ge K "_law_start" K2->Ge K "_law_shape" K3->Ge K "_law_refused" K4->Ge K "law" kh->∃ fd:FuncData,(∀ (s:Shared) (v:Value),BindsTo s fd ⟨[v],[]⟩ [("_law_script",v)])/\∀ base:Heap,K.In base->base.Ns mainGlobals mg->wd base mg cL Pt->zF l.prog w K mg base zV 11 fa fd ["_law_script"] (zG j2):=by
 rintro ⟨_,_,G0⟩ ⟨_,_,G1⟩ ⟨_,_,G2⟩ ⟨_,_,_,G3⟩ ⟨_,_,_,G4⟩ ⟨_,_,G5⟩ ⟨_,_,G6⟩ ⟨_,_,G7⟩ ⟨_,_,G8⟩ ⟨_,_,G9⟩ ⟨_,_,G10⟩ ⟨_,_,G11⟩ ⟨_,_,G12⟩ ⟨_,_,G13⟩ ⟨_,_,G14⟩ ⟨_,_,G15⟩ ⟨_,_,G16⟩ ⟨_,_,G17⟩ ⟨_,_,G18⟩ ⟨_,_,G19⟩ ⟨_,_,G20⟩ ⟨_,_,G21⟩ ⟨_,_,_,G22⟩ ⟨_,_,G23⟩ ⟨_,_,G24⟩ ⟨_,_,G25⟩ ⟨_,_,G26⟩ ⟨_,_,G27⟩ ⟨_,_,G28⟩ ⟨_,_,G29⟩ ⟨_,_,G30⟩ ⟨_,_,G31⟩ ⟨_,_,G32⟩ ⟨_,_,G33⟩ ⟨_,_,G34⟩ ⟨_,_,G35⟩ ⟨_,_,G36⟩ ⟨_,_,G37⟩ ⟨_,_,G38⟩ ⟨_,_,G39⟩ ⟨_,_,G40,ecd⟩ ⟨_,_,G41⟩ ⟨_,_,G42⟩ ⟨_,_,G43⟩ ⟨_,_,G44⟩ ⟨_,_,G45⟩ ⟨_,_,G46⟩ ⟨_,_,G47⟩ ⟨_,_,G48⟩ ⟨_,_,G49⟩ ⟨_,_,G50⟩ ⟨_,_,G51⟩ ⟨_,_,G52⟩ ⟨_,_,G53⟩ ⟨_,_,G54⟩ ⟨_,_,G55⟩ ⟨_,_,G56⟩ ⟨_,_,G57⟩ ⟨_,_,G58⟩ ⟨_,_,G59⟩ ⟨_,_,G60⟩ ⟨_,_,G61⟩ ⟨_,_,G62⟩ ⟨_,_,G63⟩ ⟨_,_,G64⟩ ⟨_,_,G65⟩ ⟨_,_,G66⟩ ⟨_,_,G67⟩ ⟨_,_,G68⟩
 have e:=hfa.symm.trans (W.mg_of X G G68.at_)
 cases e
 have B:Bl mg:=⟨W.mg_none_of X G z0,W.mg_none_of X G z1,W.mg_none_of X G z2,W.mg_none_of X G z3,W.mg_none_of X G z4,W.mg_none_of X G z5,W.mg_none_of X G z6,W.mg_none_of X G z7,W.mg_none_of X G z8,W.mg_none_of X G z9,W.mg_none_of X G z10,W.mg_none_of X G z11,W.mg_none_of X G z12,W.mg_none_of X G z13,⟨_,W.mg_of X G cst0⟩,⟨_,W.mg_of X G cst1⟩,⟨_,W.mg_of X G cst2⟩⟩
 have aa:=GMode.cls X G
 have ae:zOT K ah:=⟨ci,cj,ck,cn,cq,cu⟩
 have af:=GThing.cls X G
 have ag:zMF K ai:=⟨cv,cw,cx⟩
 have Z:Er K mg cC:=⟨W.mg_of X G mC,xC,sC⟩
 obtain ⟨_,_,kV,dc,pm,an,cd,ct,_,rfl,_⟩:=G68.F.ex
 refine ⟨W.fnOf "law" "law" (ww kh) (xS kh) (zR kh) .none kV dc pm an cd ct,λs v=>.of_eq rfl,λbase _ _ T=>?_⟩
 have Yw:Wh l.prog w K mg base h:=⟨X,G⟩
 have N0:=G0.fn Yw (zIJ (k:=0) aa ae af ag B G0.F )
 have N1:=G1.fn Yw (zGc (k:=1) aa ae af ag B G1.F N0.mono)
 have N2:=G2.fn Yw (zIK (k:=2) aa ae af ag B G2.F N1.mono)
 have D3:=λ{k sp}=>G3.fn (ps:=["value","depth"]) (k:=k) (sp:=sp) Yw (λ_ _ _ _ _ _ _=>L2.ki λ_ _=>⟨_,rfl,rfl⟩) λ_ _ _ _ _ _ _ us hl=>match us,hl with | [_],_=>⟨_,rfl,rfl⟩
 have N3_0:=D3 (zF.no (k:=1) (sp:=(zG (Y0 0))) (zQQ zNZ))
 have N3_1:=D3 (Xj (k:=1) (j:=0) aa ae af ag B G3.F N3_0.mono)
 have N3_2:=D3 (Xj (k:=2) (j:=1) aa ae af ag B G3.F N3_1.mono)
 have N3_3:=D3 (Xj (k:=3) (j:=2) aa ae af ag B G3.F N3_2.mono)
 have N3_4:=D3 (Xj (k:=4) (j:=3) aa ae af ag B G3.F N3_3.mono)
 have N3_5:=D3 (Xj (k:=5) (j:=4) aa ae af ag B G3.F N3_4.mono)
 have N3:=N3_5
 have D4:=λ{k sp}=>G4.fn (ps:=["place","wide","number"]) (k:=k) (sp:=sp) Yw (λ_ _ _ _ _ _ _=>L2.Xk λ_ _ _=>⟨_,rfl,rfl⟩) λ_ _ _ _ _ _ _ us hl=>match us,hl with | [_,_],_=>⟨_,rfl,rfl⟩
 have N4:=D4 (zPK (k:=0) aa ae af ag B G4.F )
 have N5:=G5.fn Yw (zLB (k:=0) aa ae af ag B G5.F )
 have N6:=G6.fn Yw (zIN (k:=0) aa ae af ag B G6.F )
 have N7:=G7.fn Yw (zLG (k:=1) aa ae af ag B G7.F N0.mono)
 have N8:=G8.fn Yw (zJv (k:=2) aa ae af ag B G8.F N7.mono)
 have N9:=G9.fn Yw (zLA (k:=1) aa ae af ag B G9.F N4.mono)
 have N10:=G10.fc Yw GMode (zEk (k:=6) aa ae af ag B G10.F N3.mono)
 have N11:=G11.fn Yw (zJw (k:=1) aa ae af ag B G11.F N0.mono)
 have N12:=G12.fn Yw (zJx (k:=3) aa ae af ag B G12.F N8.mono N2.mono N1.mono N0.mono)
 have N13:=G13.fn Yw (zIL (k:=4) aa ae af ag B G13.F N0.mono N11.mono N12.mono)
 have N14:=G14.fc Yw GThing (zEM (k:=5) aa ae af ag B G14.F N13.mono)
 have N15:=G15.fm Yw (zFP (k:=0) aa ae af ag B G15.F )
 have N16:=G16.fm Yw (zFs (k:=0) aa ae af ag B G16.F )
 have N17:=G17.fn Yw (zFL (k:=0) aa ae af ag B G17.F )
 have N18:=G18.fm Yw (zDv (k:=1) aa ae af ag B G18.F N17.mono)
 have N19:=G19.fn Yw (zGh (k:=2) aa ae af ag B G19.F N18.mono)
 have NX19:=G19.fx Yw (zFp (k:=2) (Z:=Z) aa ae af ag B G19.F N18.mono)
 have N20:=G20.fn Yw (zM2 (k:=1) aa ae af ag B G20.F N6.mono N15.mono N5.mono)
 have N21:=G21.fn Yw (zEL (k:=0) aa ae af ag B G21.F )
 have D22:=λ{k sp}=>G22.fn (ps:=["top","bottom"]) (k:=k) (sp:=sp) Yw (λ_ _ _ _ _ _ _=>L2.ki λ_ _=>⟨_,rfl,rfl⟩) λ_ _ _ _ _ _ _ us hl=>match us,hl with | [_],_=>⟨_,rfl,rfl⟩
 have N22:=D22 (zIM (k:=1) aa ae af ag B G22.F N0.mono N21.mono)
 have N23:=G23.fn Yw (zM3 (k:=2) aa ae af ag B G23.F N22.mono)
 have N24:=G24.fn Yw (zM1 (k:=2) aa ae af ag B G24.F N22.mono)
 have N25:=G25.fn Yw (zM0 (k:=0) aa ae af ag B G25.F )
 have N26:=G26.fn Yw (zGg (k:=0) aa ae af ag B G26.F )
 have N27:=G27.fn Yw (zJp (k:=0) aa ae af ag B G27.F )
 have N28:=G28.fn Yw (zM8 (k:=2) aa ae af ag B G28.F N27.mono N22.mono)
 have N29:=G29.fn Yw (zM6 (k:=1) aa ae af ag B G29.F N27.mono)
 have N30:=G30.fn Yw (zGe (k:=0) aa ae af ag B G30.F )
 have N31:=G31.fn Yw (zHQ (k:=0) aa ae af ag B G31.F )
 have N32:=G32.fn Yw (zJz (k:=0) aa ae af ag B G32.F )
 have N33:=G33.fn Yw (zK9 (k:=2) aa ae af ag B G33.F N30.mono N31.mono N32.mono N22.mono)
 have N34:=G34.fn Yw (zPM (k:=2) aa ae af ag B G34.F N9.mono)
 have N35:=G35.fn Yw (zFO (k:=3) aa ae af ag B G35.F N33.mono)
 have N36:=G36.fn Yw (zGb (k:=3) aa ae af ag B G36.F N33.mono)
 have N37:=G37.fn Yw (zDu (k:=1) aa ae af ag B G37.F N21.mono)
 have N38:=G38.fn Yw (zHU (k:=0) aa ae af ag B G38.F )
 have N39:=G39.fn Yw (zJo (k:=3) aa ae af ag B G39.F N37.mono N33.mono)
 have N40:=G40.fn Yw (zFq (k:=2) (hI:=hI) (hc:=ecd) (T:=T) (k2:=by decide) aa ae af ag B G40.F )
 have N41:=G41.fn Yw (zFN (k:=2) aa ae af ag B G41.F N29.mono)
 have N42:=G42.fn Yw (zHT (k:=3) aa ae af ag B G42.F N22.mono N5.mono N24.mono N23.mono N28.mono N25.mono)
 have N43:=G43.fn Yw (zK8 (k:=2) aa ae af ag B G43.F N37.mono)
 have N44:=G44.fn Yw (zFM (k:=4) aa ae af ag B G44.F N36.mono N40.mono N38.mono)
 have N45:=G45.fn Yw (zJy (k:=4) aa ae af ag B G45.F N35.mono N36.mono N40.mono N43.mono N28.mono N39.mono N42.mono N38.mono)
 have N46:=G46.fn Yw (zPL (k:=5) aa ae af ag B G46.F N34.mono N44.mono N41.mono N35.mono N45.mono N36.mono N40.mono N22.mono N43.mono N38.mono)
 have N47:=G47.fn Yw (zHS (k:=0) aa ae af ag B G47.F )
 have N48:=G48.fn Yw (zIH (k:=0) aa ae af ag B G48.F )
 have N49:=G49.fn Yw (zII (k:=0) aa ae af ag B G49.F )
 have N50:=G50.fn Yw (zM5 (k:=1) aa ae af ag B G50.F N48.mono N49.mono)
 have N51:=G51.fn Yw (zLC (k:=0) aa ae af ag B G51.F )
 have N52:=G52.fn Yw (zLF (k:=7) aa ae af ag B G52.F N10.mono N14.mono)
 have N53:=G53.fn Yw (zM4 (k:=0) aa ae af ag B G53.F )
 have N54:=G54.fn Yw (zLE (k:=1) aa ae af ag B G54.F N48.mono N49.mono)
 have N55:=G55.fn Yw (zJq (k:=2) aa ae af ag B G55.F N47.mono N54.mono)
 have N56:=G56.fn Yw (zFK (k:=1) aa ae af ag B G56.F N15.mono)
 have N57:=G57.fn Yw (zEK (k:=2) aa ae af ag B G57.F N5.mono N56.mono)
 have N58:=G58.fn Yw (zGf (k:=6) aa ae af ag B G58.F N46.mono N26.mono)
 have N59:=G59.fn Yw (zFr (k:=6) aa ae af ag B G59.F N16.mono N57.mono N20.mono N46.mono N24.mono N22.mono N23.mono N26.mono)
 have N60:=G60.fn Yw (zGd (k:=7) aa ae af ag B G60.F N19.mono N59.mono)
 have NX60:=G60.fx Yw (zFo (k:=7) aa ae af ag B G60.F NX19.mono)
 have N61:=G61.fn Yw (zM7 (k:=8) aa ae af ag B G61.F N19.mono N58.mono N60.mono)
 have NX61:=G61.fx Yw (zK7 (k:=8) aa ae af ag B G61.F NX19.mono)
 have N62:=G62.fn Yw (zJt (k:=6) aa ae af ag B G62.F N46.mono)
 have N63:=G63.fn Yw (zJu (k:=6) aa ae af ag B G63.F N46.mono N53.mono)
 have N64:=G64.fn Yw (zLD (k:=7) aa ae af ag B G64.F N63.mono)
 have N65:=G65.fn Yw (zJr (k:=1) aa ae af ag B G65.F N51.mono)
 have N66:=G66.fn Yw (zJs (k:=1) aa ae af ag B G66.F N48.mono N49.mono)
 have N67:=G67.fn Yw (zHR (k:=9) (Z:=Z) aa ae af ag B G67.F N52.mono NX61.mono NX60.mono)
 exact zRQ (k:=10) aa ae af ag B G68.F N55.mono N52.mono N50.mono N47.mono N65.mono N66.mono N62.mono N67.mono N51.mono N58.mono N64.mono N60.mono N61.mono
def zLL (o:Obj):Bool:=match o.cls with
 | .type t=>!(t == "list")
 | _=>true
theorem nolist {K:b'} (h:K.all (λp=>zLL p.2)=true) (a:Addr) (o:Obj) (e:K.lookup a=some o):o.cls≠.type "list":=λz=>by
 have m:∃ b,(b,o)∈K:=by
  clear h
  induction K with
  | nil=>cases e
  | cons p K ih=>
   obtain ⟨b,o'⟩:=p
   rw [dk] at e
   cases q:a == b with
   | true=>rw [q] at e; cases e; exact ⟨b,cD⟩
   | false=>rw [q] at e; obtain ⟨c,hc⟩:=ih e; exact ⟨c,cB _ hc⟩
 obtain ⟨b,hb⟩:=m
 have:=de.mp h _ hb
 unfold zLL at this
 rw [z] at this
 exact absurd this (by decide)
theorem walk {l:mW} {q:Program} {loose:List Str} {XP:(Str->Option Value)->Heap->Prop} {YP:World->Heap->Prop} {d:DefRec} {K:Params->b'} {cL Pt:Addr} (hI:∀ H,yY.I H ↔ yL Pt "least_place.<locals>.<lambda>" ⟨156,27,156,54⟩ H) (hn:l.most=some 63) (hdf:d.params.defaults=[])
  (hY:∀ (w:World) (h:Heap),YP w h->(K w.params).In h) (hrec:∃ d2,(PyProof.Rows.recsOf q).find? (λe=>e.name == ("least_place" : Str))=some d2) (htab:∀ w:World,ni (K w.params) "least_place" = some (cL,Pt)) (hKP:∀ w:World,(K w.params).lookup Pt=none)
  (hL:∀ (p:Params) (a:Addr) (o:Obj),(K p).lookup a=some o->o.cls≠.type "list")
  (F:∀ (w:World) (mg:Str->Option Value) (fa:Addr) (h:Heap),(K w.params).In h->h.Ns mainGlobals mg->mg d.name=some (.ref fa)->
   ∃ fd:FuncData,(∀ (s:Shared) (u:Value),BindsTo s fd ⟨[u],[]⟩ [("_law_script",u)])/\∀ base:Heap,(K w.params).In base->base.Ns mainGlobals mg->wd base mg cL Pt->zF l.prog w (K w.params) mg base zV 11 fa fd ["_law_script"] (zG j2)) :
  nj q loose XP YP l.row.toRowW d [] (λf vs=>PySem.call f vs):=
 hrec.elim λ_ hrec=>L2.zMK (n:=63) (k:=11) (x:="_law_script") (x2:="least_place") (sp:=λ_=>zG j2) hn (by decide) hdf ⟨rfl,by decide,by decide⟩ hY hrec htab hKP F (λw H a ns _ hO hS=>⟨λ_=>False,[.scr ns],λd=>d=.bool true,⟨λ_ z=>z.elim,(hI H).mpr (.inl hO.1)⟩,.cons (.scr ((hS.elim id λ⟨o,_,_,h1,h2,_⟩=>absurd h2 (hL w.params a o h1)).imp (λe=>vn (λz=>z) e) λ⟨o,e⟩=>⟨o,vn (λz=>z) e⟩)) .nil,⟨ns,rfl,rfl⟩,λd v H2 e _ h=>by subst e; cases h; rfl⟩)
end K77
open PySem PySem.W PyProof.Rows
set_option maxRecDepth 100000 in
set_option maxHeartbeats 0 in
theorem PySem.Challenge.cw_steadyhand_k77_rooms_grown_by_modes_holds : PySem.Challenge.rw_steadyhand_k77_rooms_grown_by_modes.Holds := by
 w_on; o_law
 refine holds_open (q:=H77.vw) (loose:=H77.lo) (Xt:=H77.xt) (XP:=XL H77.vw []) (Yf:=(kHook H77.KK H77.ks H77.ke).obs) (Ya:=(kHook H77.KK H77.ks H77.ke).val) (YP:=(kHook H77.KK H77.ks H77.ke).says) H77.left
  (kHook H77.KK H77.ks H77.ke).of (kHook H77.KK H77.ks H77.ke).keeps
  (λs e=>xl_of s (eC.mp e).1) XL.keeps (by rfl) (by rfl) (by rfl)
  (λs e=>recFacts_of (eC.mp e).2) (by rfl) (by assumption) (by decide +kernel)
  ⟨rfl,rfl,rfl,rfl,rfl,by decide +kernel⟩ ?hw ?hc
 case hw=>w_witness2
 rename_i sd
 clear sd
 k_fill
 refine K77.walk (l:=PySem.Challenge.rw_steadyhand_k77_rooms_grown_by_modes) (iT:=Pu.tbI 263 "least_place.<locals>.<lambda>" ⟨156,27,156,54⟩) (cL:=265) (Pt:=263) (λ_=>Iff.rfl) rfl rfl (λw h Y=>PySem.W.kIn_of Y) ?hrec ?htab ?hKP (λp a o=>K77.nolist (iT:=Pu.tbI 263 "least_place.<locals>.<lambda>" ⟨156,27,156,54⟩) (K:=H77.KK p) (by kernel_rfl) a o) ?F
 case hrec=>exact ⟨_,rfl⟩
 case htab=>intro w; first | rfl | kernel_rfl
 case hKP=>intro w; rfl
 case F=>
  intro w mg fa h KX G hmg
  refine' K77.all_mk (iT:=Pu.tbI 263 "least_place.<locals>.<lambda>" ⟨156,27,156,54⟩) (λ_=>Iff.rfl) KX G hmg ?g_Mode ?g_Thing ?_ ?_ ?_ ?_ ?_ ?_ ?_ ?_ ?_ ?p_mC ?p_xC ?p_sC ?_ ?_ ?_ ?_ ?_ ?_ ?_ ?_ ?_ ?_ ?_ ?_ ?_ ?_ ?_ ?_ ?_ ?_ ?_ ?_ ?_ ?_ ?_ ?_ ?_ ?_ ?_ ?_ ?_ ?_ ?_ ?_ ?_ ?_ ?_ ?_ ?_ ?_ ?_ ?_ ?_ ?_ ?_ ?_ ?_ ?_ ?_ ?_ ?_ ?_ ?_ ?_ ?_ ?_ ?_ ?_ ?_ ?_ ?_ ?_ ?_ ?_ ?_ ?_ ?_ ?_ ?_ ?_ ?_ ?_ ?_ ?_ ?_ ?_ ?_ ?_ ?_ ?_ ?_ ?_ ?_ ?_ ?_ ?_ ?_ ?_
  (case g_Mode=>refine' L2.Gc.mk ?a ?b ?c ?d ?e ?f ?g ?h ?i ?j ?k; (case a=>k_is); (case b=>k_is); (case c=>k_is); (case d=>k_is); (case e=>k_is); (case f=>k_is); (case g=>k_is); (case h=>k_is); (case i=>k_is); (case j=>k_is); (case k=>k_is))
  (case g_Thing=>refine' L2.Gc.mk ?a ?b ?c ?d ?e ?f ?g ?h ?i ?j ?k; (case a=>k_is); (case b=>k_is); (case c=>k_is); (case d=>k_is); (case e=>k_is); (case f=>k_is); (case g=>k_is); (case h=>k_is); (case i=>k_is); (case j=>k_is); (case k=>k_is))
  (case p_mC=>k_is)
  (case p_xC=>k_exc)
  (case p_sC=>first | kit_is | k_is | rfl | decide +kernel)
  any_goals first | (refine' L2.Gc.mk ?a ?b ?c ?d ?e ?f ?g ?h ?i ?j ?k; (case a=>k_is); (case b=>k_is); (case c=>k_is); (case d=>k_is); (case e=>k_is); (case f=>k_is); (case g=>k_is); (case h=>k_is); (case i=>k_is); (case j=>k_is); (case k=>k_is)) | (refine' L2.Xl ?a ?l ?c ?k; (case a=>k_is); (case l=>k_is); (case c=>k_is); (case k=>k_is)) | (refine' K77.gq_mk ?a ?l ?c ?k; (case a=>k_is); (case l=>k_is); (case c=>k_is); (case k=>k_is)) | (refine' L2.Xm ?a ?i ?l ?c ?k; (case a=>k_is); (case i=>k_is); (case l=>k_is); (case c=>k_is); (case k=>k_is)) | (refine' L2.Xn ?a ?l ?c ?k ?d; (case a=>k_is); (case l=>k_is); (case c=>k_is); (case k=>k_is); (case d=>k_is)) | (refine' L2.gk_mk ?a ?z ?l ?c ?k ?d; (case a=>k_is); (case z=>k_is); (case l=>k_is); (case c=>k_is); (case k=>k_is); (case d=>k_is)) | k_is
#print axioms PySem.Challenge.cw_steadyhand_k77_rooms_grown_by_modes_holds
