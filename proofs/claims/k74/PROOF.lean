import PyProof.Rows.All
import Wide.All
import OpenK.AllK
import Wide.FinOn
import Lean
import PyProof.EqAt
import PyProof.EqKinds
import PyProof.TupleCall
import PyProof.ZipIter
import PyProof.Draws
import PyProof.StationsW
import PyProof.EnumStmt
import PyProof.EnumMake
import PyProof.CallType
import PyProof.Rows.CallKwBuiltin
import PyProof.EnumIter
import PyProof.Rows.SeqMore
import PyProof.P3In
import PySem.Challenge.RW_steadyhand_k74_whole_grown_rooms_are_kep
open List renaming length_map→a_,getD_eq_getElem?_getD→b',getElem?_eq_getElem→b_,length_append→cJ,mem_cons_of_mem→cK,mem_cons_self→cO,mem_map→cP,replicate→cS,getElem?_eq_some_iff→cT,length_take→cU,take_of_length_le→cV,size_toArray→cW,length_range→cX,mem_append_right→cY,getElem?_map→c_,map_append→db,mem_cons→de,range→df,mem_singleton→dh,all_eq_true→di,map_map→dk,take_append_of_le_length→dl,lookup_cons→dw,mem_of_getElem?→dz,length_cons→dB,getElem?_append_right→dC,map_cons→dD,length_set→dE,mem_range→dH,getElem?_append_left→dR,mem_append→dX,mem_of_mem_take→dY,getElem?_set_ne→d5,getElem_mem→d6,not_mem_nil→d7,of_mem_zip→d8,getElem?_range→eg,map_congr_left→eh,zipWith→eC,mem_filter→eL,length_zip→eP,getElem_of_mem→eW,length_replicate→eY,getElem?_eq_none→eZ,mem_iff_getElem→e8,replicate_succ→ff,getElem?_set_self→fh,length_drop→fq,mem_or_eq_of_mem_set→fu,append_nil→fy,append_assoc→fA,getElem?_cons_succ→fD,nodup_cons→fI,length_singleton→fJ,flatten_cons→fP,map→fT,drop_zero→fU,lookup→fX,length→fY,length_zipWith→f6,range'→f7,getElem?_take_of_lt→f9,foldl_cons→gV,map_take→hV,take_succ_eq_append_getElem→hZ,zipWith_cons_cons→ia,map_id→ii,getElem_set→iA,mem_append_left→iC,filterMap_cons→iE,take_succ_cons→iI,map_replicate→iQ,eq_of_mem_replicate→i7,foldl_append→i8,getElem?_replicate→i9,map_drop→j_,mem_flatten→lg,any_eq_true→lh,forIn_cons→lD,getElem?_toArray→lF,mem_iff_getElem?→lJ,mem_mapIdx→lK,foldl→lO,length_eraseIdx→lQ,forIn_nil→lR,length_flatten→lY,mem_filterMap→lZ,zip_cons_cons→l',filter_append→l_,length_range'→ma,pairwise_map→mr,getElem?_set→mw,ext_getElem?→mx,map_nil→mC,all_map→mK,zipIdx_cons→mO,take_length→mP,cons_append→mS,ext_getElem→mT,nil_append→mX,zipIdx_nil→mZ,range_succ→m9,length_nil→ng,filter_map→nq,sum_cons→nG
open PySem.W renaming Frag→cI,kitOne→dy,kia_one→eE,emptyDict→eI,findIn→eK,cellsFrom_some→eU,keepIn→e9,fnOf→e_,instObj→fb,kla_obj→hJ,codeIn→ij,plainGet→iz,plainGet_of→iF,lookIn→iR,tabObj→iX,methodObj→iY,hasDictIn→iZ,takerIn→lB,envX→lI,kla_fn→lU,CodeHd→lV,callWith_K→l6,plainOver→mi,specialIn→mj,kitx_list→ml,kitx_dict→mn,isFn→mz,handedIn→mM,makesIn→mV,takesIn→mW,OpenLaw→m_,mroIn→nD,tabIn→nI,WalkO→nJ
open Rat renaming intCast_mul→cM,mul_lt_mul_of_pos_right→dA,mul_inv_cancel→dF,div_def→dG,mul_nonneg→dJ,mul_le_mul_of_nonneg_right→dM,le_of_lt→dU,inv_mul_cancel→d9,mul_assoc→ef,intCast_add→eB,mul_le_mul_of_nonneg_left→eG,mul_one→eN,le_of_mul_le_mul_right→eS,lt_irrefl→eX,intCast_sub→fg,mul_comm→fM,le_refl→fZ,mul_pos→ie,intCast_neg→iJ,mul_lt_mul_of_pos_left→iK,mkRat_eq_div→lj,le_trans→mG,zero_mul→mI,one_mul→nj,natCast_mul→nk,mkRat_self→nC
open Nat renaming le_refl→cQ,lt_of_lt_of_le→dg,ne_of_lt→dL,lt_irrefl→dN,lt_succ_self→dW,le_trans→eA,not_lt_zero→eM,le_add_right→eQ,zero_add→fL,sub_self→fN,lt_succ_of_lt→fQ,succ_lt_succ→fW,zero_le→ib,ne_of_gt→ip,two_pow_pos→iG,mul_le_mul_left→iH,le_of_lt→iL,lt_of_le_of_lt→iM,sub_zero→iO,eq_of_mul_eq_mul_left→iU,add_mul_mod_self_left→iV,zero_lt_succ→ld,succ_pos→lE,gcd→lX,le_of_succ_le→mq,lt_trichotomy→my,mul_comm→mB,pow_succ→mD,add_zero→mH,mod_eq_of_lt→mQ,mul_pos→mY
open PySem.Heap renaming get?_push_of_some→cR,lt_size→cZ,get?_push_size→dj,size_push→ft,get?_update_other→h8,get?_update_self→lC
open Classical renaming byContradiction→da,choose_spec→iq,axiomOfChoice→i_
open PySem.F renaming plainAttrs_list→dm,slot_list_append→dq,type_list_append→dr,plain_min_loop→eD,args_tuple_add_2→f',entry_tuple_add→f_,slot_tuple_add→h7,entry_min_loop→h_
open Bool renaming false_ne_true→du,and_eq_true_iff→e7,and_eq_true→fE,false_eq_true→fG,eq_iff_iff→fH,beq_eq_decide_eq→lH,false_bne→nB
open PySem.Str renaming ofString→dZ
open Int renaming ne_of_gt→d4,gcd→d_,mul_pos→eO,mul_le_mul_of_nonneg_left→e6,fdiv_eq_ediv_of_nonneg→fo,mul_comm→fK,toNat_natCast→fO,one_pos→f8,eq_ofNat_of_zero_le→hX,fmod_nonneg_of_pos→h9,lt_trichotomy→ic,le_refl→ig,natAbs_mul→im,mul_nonneg→io,le_of_lt→iw,mul_le_mul_of_nonneg_right→ix,mul_le_mul_of_nonpos_left→iB,fmod_lt_of_pos→iN,zero_sub→iP,mul_neg_of_neg_of_pos→iS,gcd_dvd_right→i4,mul_fdiv_cancel_left→i5,mul_fdiv_mul_of_pos→j',gcd_dvd_left→k_,fdiv_mul_cancel→lW,natAbs_natCast→l7,natAbs_eq_zero→l8,natCast_nonneg→mh,fdiv_one→mE,mul_zero→mF,zero_add→mJ,pow_succ→mL,gcd_le_right→mU,natCast_pow→nh,neg_mul→ni,natCast_mul→nw,natAbs_neg→nA,mul_assoc→nE,dvd_trans→nH
open Option renaming isSome_iff_exists→eJ,map→fF,map_some→g_,filter_eq_some_iff→iW,map_eq_some_iff→lA,getD_none→mN
open Array renaming length_toList→eV,empty_append→mf,toList→nK
open PySem.PyData renaming eqvAll→fB,eqv→fR,canLay0→fV,depth→ir,canLayAll0→i6,depthAll→lG
open PySem.MeetsSeq renaming list_pop_at→ny
set_option Elab.async false
set_option linter.all false
set_option maxRecDepth 100000
set_option maxHeartbeats 0
namespace TT
open PySem PySem.W
def runT (tb:String->Option Builtin) (p:Program) (w:World) (k:Nat) (an:Option Value):Nat->SharedT->Thread->Option SharedT
 | 0,_,_=>none
 | j + 1,x,t=>match through t with
  | true=>some x
  | false=>match stepOk k an t with
   | false=>none
   | true=>match stepT (denote tb) p w x t with
    | none=>none
    | some y=>runT tb p w k an j y.1 y.2
theorem zKp {tb:String->Option Builtin} {p:Program} {w:World} {k:Nat} {an:Option Value}:∀ (j:Nat) (x y:SharedT) (t:Thread),runT tb p w k an j x t=some y->topRun tb p w k an j x.abs t=some y.abs
 | 0,_,_,_,e=>by cases e
 | j + 1,x,y,t,e=>by
  unfold runT at e
  unfold topRun
  cases e1:through t with
  | true=>
   rw [e1] at e
   cases e
   rfl
  | false=>
   rw [e1] at e
   cases e2:stepOk k an t with
   | false=>rw [e2] at e; cases e
   | true=>
    rw [e2] at e
    cases e3:stepT (denote tb) p w x t with
    | none=>rw [e3] at e; cases e
    | some z=>
     rw [e3] at e
     rw [stepT_spec e3]
     exact zKp j z.1 y z.2 e
theorem left_is {p q:Program} {lo:List Str} {xt:Shared->Bool} {α:Type} {Yf:Shared->α} {Ya:World->α} {N k n0:Nat} {an:Option Value} {tr:Params->BT} (op:∀ w:World,(fencedOpening treeTable p w N).map (λs=>(s.heap,s.gens,s.drawn,s.toks))=some (boot_heap w.params,Array.mk [],boot_drawn,boot_toks))
  (et:∀ P:Params,absHeap (tr P) n0 (boot_heap P).life=boot_heap P) (z1:∀ P:Params,(boot_heap P).isNs mainGlobals=true) (z2:∀ P:Params,(boot_heap P).objs.size=k) (z3:∀ P:Params,(boot_heap P).nsMap mainGlobals "__annotations__" = an)
  (h:∀ (w:World) (os:OsState),(runT treeTable p w k an N ⟨tr w.params,n0,(boot_heap w.params).life,Array.mk [],boot_drawn,boot_toks,os⟩ (topStub p)).map (λs=>((staticsOk (importedModules p.main.body) (boot_heap w.params) s.abs.heap && namesBound p s.abs.heap && gensDone s.abs && laidKept (boot_heap w.params) s.abs.heap),openSeen q lo (importedModules p.main.body) xt true s.abs,Yf s.abs))=some (true,openGood q lo,Ya w)) :
  LeftO p q lo xt Yf Ya N:=λw=>by
 obtain ⟨⟨hp,gs,d,tk,os⟩,e,e'⟩:=lA.mp (op w)
 injection e' with a1 e'
 injection e' with a2 e'
 injection e' with a3 a4
 subst a1 a2 a3 a4
 obtain ⟨y,ey,eo⟩:=lA.mp (h w os)
 injection eo with l1 eo
 injection eo with l2 l3
 have r:=zKp _ _ _ _ ey
 have r':topRun treeTable p w k an N ⟨boot_heap w.params,Array.mk [],boot_drawn,boot_toks,os⟩ (topStub p)=some y.abs:=by
  rw [<- r]
  unfold SharedT.abs
  rw [et]
 have f:topFrom treeTable p w N ⟨boot_heap w.params,Array.mk [],boot_drawn,boot_toks,os⟩=some y.abs:=by
  unfold topFrom
  show (match (boot_heap w.params).isNs mainGlobals && true with | true=>_ | false=>_)=_
  rw [z1,z2,z3,r']
  show (match (_ && _ && _ && _) with | true=>_ | false=>_)=_
  rw [l1]
 unfold openEnds
 rw [e]
 show (topFrom treeTable p w N _).map _=_
 rw [f]
 exact congrArg some (Prod.ext l2 l3)
end TT
namespace H74
open PySem PySem.W
set_option maxRecDepth 100000
def hT (i:Nat):Stmt:=PySem.Challenge.pw_steadyhand_k74_whole_grown_rooms_are_kep.main.body.getD i (.Pass ⟨0,0,0,0⟩)
def hI (i j:Nat):Stmt:=match hT i with
 | .ClassDef _ _ _ b _ _ _ _ _ _ _=>b.getD j (.Pass ⟨0,0,0,0⟩)
 | s=>s
def hA:Stmt->Arguments
 | .FunctionDef _ a _ _ _ _ _ _ _ _=>a
 | _=>⟨[],[],none,[],[],none,[]⟩
def hB:Stmt->List Stmt
 | .FunctionDef _ _ b _ _ _ _ _ _ _=>b
 | _=>[]
def hC:Stmt->Scope
 | .FunctionDef _ _ _ _ _ _ c _ _ _=>c
 | _=>{ kind:=.function,names:=[],isGenerator:=false,isCoroutine:=false }
abbrev hS (s:String) (n:Nat):Value:=.str (dZ s) n
abbrev hE (P:Params) (s:String) (n:Nat) (v:Value):DictEntry:=⟨PyData.keyHash P (dZ s),hS s n,v⟩
abbrev hU (x:Array Value):Obj:={ cls:=.type "tuple",data:=.seq x }
abbrev hD (s:String) (a:Nat) (s2:String) (b c:Nat) (i j f:Int) (r1 r2:Nat) (u v t r:Value) (y z:Int) (d:Nat):Obj:={ cls:=.type "code",data:=.fields #[hS s a,hS s2 b,hS "/claim/cut.py" c,.int i 0,.int j 0,.int 0 0,.int 0 0,.int f 0,.ref r1,.bool true,.int 181 0,.ref r2,u,v,t,r,.int y 0,.int z 0,hS "/claim/cut.py" d] }
abbrev hF (n q:String) (s:Stmt) (d k:Value) (m:String) (j c:Nat):Obj:={ cls:=.type "function",data:=.func { name:=n,qualname:=q,params:=hA s,body:=.stmts (hB s),scope:=hC s,globals:=3,closure:=[],defaults:=d,kwdefaults:=k,pyModule:=hS m j,code:=.ref c } }
noncomputable def KK:Params->Frag:=λP=>
 (nat_lit 2,{ cls:=.none,data:=.dict #[] })::(nat_lit 3,{ cls:=.type "dict",data:=.dict #[hE P "__name__" 165 (hS "law_steadyhand_k74_whole_grown_rooms_are_kep" 782),hE P "__doc__" 166 (.none),hE P "__package__" 167 (.none),hE P "__loader__" 168 (.builtin "__main__.__loader__#opaque"),hE P "__spec__" 169 (.none),hE P "__annotations__" 170 (.ref 6),hE P "__builtins__" 171 (.ref 4),hE P "__file__" 173 (hS "/claim/cut.py" 172),hE P "__cached__" 174 (.none),hE P "_wall" 193 (.ref 21),hE P "SteadyError" 213 (.ref 31),hE P "NoNumber" 229 (.ref 44),hE P "BadThing" 245 (.ref 56),hE P "TooMany" 261 (.ref 68),hE P "NotClosed" 277 (.ref 80),hE P "is_whole" 286 (.ref 89),hE P "common_divisor" 297 (.ref 96),hE P "fraction" 307 (.ref 104),hE P "minus" 315 (.ref 111),hE P "times" 323 (.ref 118),hE P "under" 331 (.ref 125),hE P "ceiling_of" 338 (.ref 132),hE P "is_numbers" 346 (.ref 137),hE P "is_table" 352 (.ref 142),hE P "copied" 359 (.ref 148),hE P "unit" 366 (.ref 154),hE P "paired" 372 (.ref 159),hE P "added_up" 378 (.ref 164),hE P "is_row" 386 (.ref 169),hE P "is_room" 392 (.ref 174),hE P "single" 402 (.ref 181),hE P "raw_sum" 414 (.ref 188),hE P "along" 423 (.ref 195),hE P "holds" 432 (.ref 202),hE P "solved" 440 (.ref 207),hE P "first_with" 449 (.ref 214),hE P "put_ahead" 459 (.ref 221),hE P "cleared" 465 (.ref 226),hE P "most" 473 (.ref 231),hE P "climbed" 479 (.ref 236),hE P "axes" 485 (.ref 241),hE P "first_corner" 491 (.ref 246),hE P "corner_point" 497 (.ref 251),hE P "weights_of" 503 (.ref 256),hE P "way_off" 509 (.ref 261),hE P "least_place" 515 (.ref 266),hE P "exchanged" 524 (.ref 273),hE P "first_broken" 534 (.ref 280),hE P "first_met" 549 (.ref 287),hE P "over_one_bottom" 555 (.ref 292),hE P "spread" 561 (.ref 297),hE P "reach" 574 (.ref 304),hE P "worst_pushes" 580 (.ref 309),hE P "without_pushes" 588 (.ref 316),hE P "MOST_NUMBERS" 592 (.int 3 591),hE P "MOST_PUSHES" 594 (.int 6 593),hE P "MOST_MODES" 596 (.int 40 595),hE P "Mode" 635 (.ref 333),hE P "Thing" 695 (.ref 380),hE P "is_sound" 701 (.ref 389),hE P "is_push" 708 (.ref 396),hE P "is_mode" 717 (.ref 403),hE P "is_unsteered" 723 (.ref 408),hE P "ask_closed" 730 (.ref 415),hE P "first_room" 743 (.ref 422),hE P "grown_once" 754 (.ref 429),hE P "grown_bound" 768 (.ref 436),hE P "grown" 781 (.ref 443),hE P "_law_cell_at" 791 (.ref 450),hE P "_law_stream" 803 (.ref 457),hE P "_law_number" 811 (.ref 464),hE P "_law_mode" 817 (.ref 469),hE P "_law_thing" 833 (.ref 476),hE P "_law_made" 839 (.ref 481),hE P "_law_box" 852 (.ref 488),hE P "_law_rows" 858 (.ref 493),hE P "_law_top" 869 (.ref 500),hE P "_law_divisor" 877 (.ref 507),hE P "_law_lowest" 886 (.ref 514),hE P "_law_plus" 894 (.ref 521),hE P "_law_along" 905 (.ref 528),hE P "_law_holds" 914 (.ref 535),hE P "_law_lies" 920 (.ref 540),hE P "_law_point" 935 (.ref 547),hE P "_law_behind" 954 (.ref 554),hE P "_law_run" 960 (.ref 559),hE P "_law_shape" 966 (.ref 564),hE P "_law_whole" 973 (.ref 571),hE P "law" 979 (.ref 576)] 89 })::(nat_lit 15,hU #[])::(nat_lit 17,hU #[hS "k" 190])::(nat_lit 18,hU #[])::(nat_lit 20,hD "_wall" 187 "_wall" 188 189 1 1 3 15 16 .none (.ref 17) (.ref 18) (.ref 19) 191 1 192)::(nat_lit 21,hF "_wall" "_wall" (hT 0) .none .none "__main__" 164 20)::(nat_lit 22,hU #[.type "ValueError"])::(nat_lit 29,hU #[])::(nat_lit 30,{ cls:=.type "dict",data:=.dict #[hE P "__module__" 203 (hS "steadyhand.errors" 194),hE P "__firstlineno__" 207 (.int 5 206),hE P "__static_attributes__" 208 (.ref 29),hE P "__weakref__" 210 (.ref 32),hE P "__doc__" 211 (.none)] 3 })::(nat_lit 31,{ cls:=.type "type",data:=.cls { name:="SteadyError",bases:=[.type "ValueError"],mro:=[.ref 31,.type "ValueError",.type "Exception",.type "BaseException",.type "object"],ns:=30,qualname:="SteadyError",subclasses:=[.ref 44,.ref 56,.ref 68,.ref 80] },slots:=#[some (.ref 22),none,some (hS "SteadyError" 196),some (hS "SteadyError" 204),some (.builtin "ValueError.__new__"),some (.bool true)] })::(nat_lit 32,{ cls:=.type "getset_descriptor",data:=.fields #[hS "__weakref__" 209,.ref 31,.builtin "ExceptionGroup.__weakref__",.none] })::(nat_lit 35,hU #[.ref 31])::(nat_lit 42,hU #[])::(nat_lit 43,{ cls:=.type "dict",data:=.dict #[hE P "__module__" 221 (hS "steadyhand.errors" 194),hE P "__firstlineno__" 225 (.int 7 224),hE P "__static_attributes__" 226 (.ref 42),hE P "__doc__" 227 (.none)] 2 })::(nat_lit 44,{ cls:=.type "type",data:=.cls { name:="NoNumber",bases:=[.ref 31],mro:=[.ref 44,.ref 31,.type "ValueError",.type "Exception",.type "BaseException",.type "object"],ns:=43,qualname:="NoNumber" },slots:=#[some (.ref 35),none,some (hS "NoNumber" 214),some (hS "NoNumber" 222),some (.builtin "ValueError.__new__"),some (.bool true)] })::(nat_lit 47,hU #[.ref 31])::(nat_lit 54,hU #[])::(nat_lit 55,{ cls:=.type "dict",data:=.dict #[hE P "__module__" 237 (hS "steadyhand.errors" 194),hE P "__firstlineno__" 241 (.int 9 240),hE P "__static_attributes__" 242 (.ref 54),hE P "__doc__" 243 (.none)] 2 })::(nat_lit 56,{ cls:=.type "type",data:=.cls { name:="BadThing",bases:=[.ref 31],mro:=[.ref 56,.ref 31,.type "ValueError",.type "Exception",.type "BaseException",.type "object"],ns:=55,qualname:="BadThing" },slots:=#[some (.ref 47),none,some (hS "BadThing" 230),some (hS "BadThing" 238),some (.builtin "ValueError.__new__"),some (.bool true)] })::(nat_lit 59,hU #[.ref 31])::(nat_lit 66,hU #[])::(nat_lit 67,{ cls:=.type "dict",data:=.dict #[hE P "__module__" 253 (hS "steadyhand.errors" 194),hE P "__firstlineno__" 257 (.int 11 256),hE P "__static_attributes__" 258 (.ref 66),hE P "__doc__" 259 (.none)] 2 })::(nat_lit 68,{ cls:=.type "type",data:=.cls { name:="TooMany",bases:=[.ref 31],mro:=[.ref 68,.ref 31,.type "ValueError",.type "Exception",.type "BaseException",.type "object"],ns:=67,qualname:="TooMany" },slots:=#[some (.ref 59),none,some (hS "TooMany" 246),some (hS "TooMany" 254),some (.builtin "ValueError.__new__"),some (.bool true)] })::(nat_lit 71,hU #[.ref 31])::(nat_lit 78,hU #[])::(nat_lit 79,{ cls:=.type "dict",data:=.dict #[hE P "__module__" 269 (hS "steadyhand.errors" 194),hE P "__firstlineno__" 273 (.int 13 272),hE P "__static_attributes__" 274 (.ref 78),hE P "__doc__" 275 (.none)] 2 })::(nat_lit 80,{ cls:=.type "type",data:=.cls { name:="NotClosed",bases:=[.ref 31],mro:=[.ref 80,.ref 31,.type "ValueError",.type "Exception",.type "BaseException",.type "object"],ns:=79,qualname:="NotClosed" },slots:=#[some (.ref 71),none,some (hS "NotClosed" 262),some (hS "NotClosed" 270),some (.builtin "ValueError.__new__"),some (.bool true)] })::(nat_lit 83,hU #[])::(nat_lit 85,hU #[hS "thing" 283])::(nat_lit 86,hU #[])::(nat_lit 88,hD "is_whole" 280 "is_whole" 281 282 16 1 3 83 84 .none (.ref 85) (.ref 86) (.ref 87) 284 16 285)::(nat_lit 89,hF "is_whole" "is_whole" (hT 8) .none .none "steadyhand.fractions" 278 88)::(nat_lit 90,hU #[])::(nat_lit 92,hU #[hS "numbers" 290,hS "common" 291,hS "number" 292,hS "rest" 293,hS "left" 294])::(nat_lit 93,hU #[])::(nat_lit 95,hD "common_divisor" 287 "common_divisor" 288 289 18 1 3 90 91 .none (.ref 92) (.ref 93) (.ref 94) 295 18 296)::(nat_lit 96,hF "common_divisor" "common_divisor" (hT 9) .none .none "steadyhand.fractions" 278 95)::(nat_lit 97,hU #[.int 1 298])::(nat_lit 98,hU #[])::(nat_lit 100,hU #[hS "top" 302,hS "bottom" 303,hS "common" 304])::(nat_lit 101,hU #[])::(nat_lit 103,hD "fraction" 299 "fraction" 300 301 27 2 3 98 99 .none (.ref 100) (.ref 101) (.ref 102) 305 27 306)::(nat_lit 104,hF "fraction" "fraction" (hT 10) (.ref 97) .none "steadyhand.fractions" 278 103)::(nat_lit 105,hU #[])::(nat_lit 107,hU #[hS "one" 311,hS "other" 312])::(nat_lit 108,hU #[])::(nat_lit 110,hD "minus" 308 "minus" 309 310 36 2 3 105 106 .none (.ref 107) (.ref 108) (.ref 109) 313 36 314)::(nat_lit 111,hF "minus" "minus" (hT 11) .none .none "steadyhand.fractions" 278 110)::(nat_lit 112,hU #[])::(nat_lit 114,hU #[hS "one" 319,hS "other" 320])::(nat_lit 115,hU #[])::(nat_lit 117,hD "times" 316 "times" 317 318 38 2 3 112 113 .none (.ref 114) (.ref 115) (.ref 116) 321 38 322)::(nat_lit 118,hF "times" "times" (hT 12) .none .none "steadyhand.fractions" 278 117)::(nat_lit 119,hU #[])::(nat_lit 121,hU #[hS "one" 327,hS "other" 328])::(nat_lit 122,hU #[])::(nat_lit 124,hD "under" 324 "under" 325 326 40 2 3 119 120 .none (.ref 121) (.ref 122) (.ref 123) 329 40 330)::(nat_lit 125,hF "under" "under" (hT 13) .none .none "steadyhand.fractions" 278 124)::(nat_lit 126,hU #[])::(nat_lit 128,hU #[hS "value" 335])::(nat_lit 129,hU #[])::(nat_lit 131,hD "ceiling_of" 332 "ceiling_of" 333 334 42 1 3 126 127 .none (.ref 128) (.ref 129) (.ref 130) 336 42 337)::(nat_lit 132,hF "ceiling_of" "ceiling_of" (hT 14) .none .none "steadyhand.fractions" 278 131)::(nat_lit 133,hU #[])::(nat_lit 136,hD "is_numbers" 341 "is_numbers" 342 343 45 2 3 133 134 .none .none .none (.ref 135) 344 45 345)::(nat_lit 137,hF "is_numbers" "is_numbers" (hT 16) .none .none "steadyhand.tables" 339 136)::(nat_lit 138,hU #[])::(nat_lit 141,hD "is_table" 347 "is_table" 348 349 47 3 3 138 139 .none .none .none (.ref 140) 350 47 351)::(nat_lit 142,hF "is_table" "is_table" (hT 17) .none .none "steadyhand.tables" 339 141)::(nat_lit 143,hU #[.int 5 353])::(nat_lit 144,hU #[])::(nat_lit 147,hD "copied" 354 "copied" 355 356 49 2 3 144 145 .none .none .none (.ref 146) 357 49 358)::(nat_lit 148,hF "copied" "copied" (hT 18) (.ref 143) .none "steadyhand.tables" 339 147)::(nat_lit 149,hU #[.int 1 360])::(nat_lit 150,hU #[])::(nat_lit 153,hD "unit" 361 "unit" 362 363 57 3 3 150 151 .none .none .none (.ref 152) 364 57 365)::(nat_lit 154,hF "unit" "unit" (hT 19) (.ref 149) .none "steadyhand.tables" 339 153)::(nat_lit 155,hU #[])::(nat_lit 158,hD "paired" 367 "paired" 368 369 59 2 3 155 156 .none .none .none (.ref 157) 370 59 371)::(nat_lit 159,hF "paired" "paired" (hT 20) .none .none "steadyhand.tables" 339 158)::(nat_lit 160,hU #[])::(nat_lit 163,hD "added_up" 373 "added_up" 374 375 61 3 3 160 161 .none .none .none (.ref 162) 376 61 377)::(nat_lit 164,hF "added_up" "added_up" (hT 21) .none .none "steadyhand.tables" 339 163)::(nat_lit 165,hU #[])::(nat_lit 168,hD "is_row" 381 "is_row" 382 383 64 2 3 165 166 .none .none .none (.ref 167) 384 64 385)::(nat_lit 169,hF "is_row" "is_row" (hT 23) .none .none "steadyhand.rows" 379 168)::(nat_lit 170,hU #[])::(nat_lit 173,hD "is_room" 387 "is_room" 388 389 66 2 3 170 171 .none .none .none (.ref 172) 390 66 391)::(nat_lit 174,hF "is_room" "is_room" (hT 24) .none .none "steadyhand.rows" 379 173)::(nat_lit 175,hU #[])::(nat_lit 177,hU #[hS "place" 396,hS "many" 397,hS "number" 398,hS "bound" 399])::(nat_lit 178,hU #[])::(nat_lit 180,hD "single" 393 "single" 394 395 68 4 3 175 176 .none (.ref 177) (.ref 178) (.ref 179) 400 68 401)::(nat_lit 181,hF "single" "single" (hT 25) .none .none "steadyhand.rows" 379 180)::(nat_lit 182,hU #[])::(nat_lit 184,hU #[hS "numbers" 406,hS "point" 407,hS "top" 408,hS "bottom" 409,hS "number" 410,hS "part" 411])::(nat_lit 185,hU #[])::(nat_lit 187,hD "raw_sum" 403 "raw_sum" 404 405 70 2 3 182 183 .none (.ref 184) (.ref 185) (.ref 186) 412 70 413)::(nat_lit 188,hF "raw_sum" "raw_sum" (hT 26) .none .none "steadyhand.rows" 379 187)::(nat_lit 189,hU #[])::(nat_lit 191,hU #[hS "row" 418,hS "point" 419,hS "total" 420])::(nat_lit 192,hU #[])::(nat_lit 194,hD "along" 415 "along" 416 417 77 2 3 189 190 .none (.ref 191) (.ref 192) (.ref 193) 421 77 422)::(nat_lit 195,hF "along" "along" (hT 27) .none .none "steadyhand.rows" 379 194)::(nat_lit 196,hU #[])::(nat_lit 198,hU #[hS "row" 427,hS "point" 428,hS "total" 429])::(nat_lit 199,hU #[])::(nat_lit 201,hD "holds" 424 "holds" 425 426 80 2 3 196 197 .none (.ref 198) (.ref 199) (.ref 200) 430 80 431)::(nat_lit 202,hF "holds" "holds" (hT 28) .none .none "steadyhand.rows" 379 201)::(nat_lit 203,hU #[])::(nat_lit 206,hD "solved" 435 "solved" 436 437 84 1 3 203 204 .none .none .none (.ref 205) 438 84 439)::(nat_lit 207,hF "solved" "solved" (hT 30) .none .none "steadyhand.solving" 433 206)::(nat_lit 208,hU #[])::(nat_lit 210,hU #[hS "rows" 444,hS "place" 445,hS "number" 446])::(nat_lit 211,hU #[])::(nat_lit 213,hD "first_with" 441 "first_with" 442 443 96 2 3 208 209 .none (.ref 210) (.ref 211) (.ref 212) 447 96 448)::(nat_lit 214,hF "first_with" "first_with" (hT 31) .none .none "steadyhand.solving" 433 213)::(nat_lit 215,hU #[])::(nat_lit 217,hU #[hS "rows" 453,hS "place" 454,hS "found" 455,hS "told" 456])::(nat_lit 218,hU #[])::(nat_lit 220,hD "put_ahead" 450 "put_ahead" 451 452 101 3 3 215 216 .none (.ref 217) (.ref 218) (.ref 219) 457 101 458)::(nat_lit 221,hF "put_ahead" "put_ahead" (hT 32) .none .none "steadyhand.solving" 433 220)::(nat_lit 222,hU #[])::(nat_lit 225,hD "cleared" 460 "cleared" 461 462 106 4 3 222 223 .none .none .none (.ref 224) 463 106 464)::(nat_lit 226,hF "cleared" "cleared" (hT 33) .none .none "steadyhand.solving" 433 225)::(nat_lit 227,hU #[])::(nat_lit 230,hD "most" 468 "most" 469 470 109 2 3 227 228 .none .none .none (.ref 229) 471 109 472)::(nat_lit 231,hF "most" "most" (hT 35) .none .none "steadyhand.most" 466 230)::(nat_lit 232,hU #[])::(nat_lit 235,hD "climbed" 474 "climbed" 475 476 123 4 3 232 233 .none .none .none (.ref 234) 477 123 478)::(nat_lit 236,hF "climbed" "climbed" (hT 36) .none .none "steadyhand.most" 466 235)::(nat_lit 237,hU #[])::(nat_lit 240,hD "axes" 480 "axes" 481 482 135 1 3 237 238 .none .none .none (.ref 239) 483 135 484)::(nat_lit 241,hF "axes" "axes" (hT 37) .none .none "steadyhand.most" 466 240)::(nat_lit 242,hU #[])::(nat_lit 245,hD "first_corner" 486 "first_corner" 487 488 137 2 3 242 243 .none .none .none (.ref 244) 489 137 490)::(nat_lit 246,hF "first_corner" "first_corner" (hT 38) .none .none "steadyhand.most" 466 245)::(nat_lit 247,hU #[])::(nat_lit 250,hD "corner_point" 492 "corner_point" 493 494 147 2 3 247 248 .none .none .none (.ref 249) 495 147 496)::(nat_lit 251,hF "corner_point" "corner_point" (hT 39) .none .none "steadyhand.most" 466 250)::(nat_lit 252,hU #[])::(nat_lit 255,hD "weights_of" 498 "weights_of" 499 500 149 3 3 252 253 .none .none .none (.ref 254) 501 149 502)::(nat_lit 256,hF "weights_of" "weights_of" (hT 40) .none .none "steadyhand.most" 466 255)::(nat_lit 257,hU #[])::(nat_lit 260,hD "way_off" 504 "way_off" 505 506 151 4 3 257 258 .none .none .none (.ref 259) 507 151 508)::(nat_lit 261,hF "way_off" "way_off" (hT 41) .none .none "steadyhand.most" 466 260)::(nat_lit 262,hU #[])::(nat_lit 265,hD "least_place" 510 "least_place" 511 512 154 2 3 262 263 .none .none .none (.ref 264) 513 154 514)::(nat_lit 266,hF "least_place" "least_place" (hT 42) .none .none "steadyhand.most" 466 265)::(nat_lit 267,hU #[])::(nat_lit 269,hU #[hS "corner" 519,hS "place" 520,hS "number" 521])::(nat_lit 270,hU #[])::(nat_lit 272,hD "exchanged" 516 "exchanged" 517 518 157 3 3 267 268 .none (.ref 269) (.ref 270) (.ref 271) 522 157 523)::(nat_lit 273,hF "exchanged" "exchanged" (hT 43) .none .none "steadyhand.most" 466 272)::(nat_lit 274,hU #[])::(nat_lit 276,hU #[hS "room" 528,hS "point" 529,hS "number" 530,hS "row" 531])::(nat_lit 277,hU #[])::(nat_lit 279,hD "first_broken" 525 "first_broken" 526 527 159 2 3 274 275 .none (.ref 276) (.ref 277) (.ref 278) 532 159 533)::(nat_lit 280,hF "first_broken" "first_broken" (hT 44) .none .none "steadyhand.most" 466 279)::(nat_lit 281,hU #[])::(nat_lit 283,hU #[hS "room" 538,hS "point" 539,hS "way" 540,hS "met" 541,hS "least" 542,hS "number" 543,hS "row" 544,hS "speed" 545,hS "spare" 546])::(nat_lit 284,hU #[])::(nat_lit 286,hD "first_met" 535 "first_met" 536 537 164 3 3 281 282 .none (.ref 283) (.ref 284) (.ref 285) 547 164 548)::(nat_lit 287,hF "first_met" "first_met" (hT 45) .none .none "steadyhand.most" 466 286)::(nat_lit 288,hU #[])::(nat_lit 291,hD "over_one_bottom" 550 "over_one_bottom" 551 552 175 1 3 288 289 .none .none .none (.ref 290) 553 175 554)::(nat_lit 292,hF "over_one_bottom" "over_one_bottom" (hT 46) .none .none "steadyhand.most" 466 291)::(nat_lit 293,hU #[])::(nat_lit 296,hD "spread" 556 "spread" 557 558 180 3 3 293 294 .none .none .none (.ref 295) 559 180 560)::(nat_lit 297,hF "spread" "spread" (hT 47) .none .none "steadyhand.most" 466 296)::(nat_lit 298,hU #[])::(nat_lit 300,hU #[hS "thing" 567,hS "mode" 568,hS "row" 569,hS "numbers" 570,hS "ahead" 571])::(nat_lit 301,hU #[])::(nat_lit 303,hD "reach" 564 "reach" 565 566 188 3 3 298 299 .none (.ref 300) (.ref 301) (.ref 302) 572 188 573)::(nat_lit 304,hF "reach" "reach" (hT 49) .none .none "steadyhand.reach" 562 303)::(nat_lit 305,hU #[])::(nat_lit 308,hD "worst_pushes" 575 "worst_pushes" 576 577 192 2 3 305 306 .none .none .none (.ref 307) 578 192 579)::(nat_lit 309,hF "worst_pushes" "worst_pushes" (hT 50) .none .none "steadyhand.reach" 562 308)::(nat_lit 310,hU #[])::(nat_lit 312,hU #[hS "thing" 584,hS "row" 585])::(nat_lit 313,hU #[])::(nat_lit 315,hD "without_pushes" 581 "without_pushes" 582 583 194 2 3 310 311 .none (.ref 312) (.ref 313) (.ref 314) 586 194 587)::(nat_lit 316,hF "without_pushes" "without_pushes" (hT 51) .none .none "steadyhand.reach" 562 315)::(nat_lit 324,hU #[])::(nat_lit 326,hU #[hS "self" 612,hS "rows" 613,hS "nexts" 614,hS "steer" 615,hS "push" 616,hS "add" 617,hS "divisor" 618])::(nat_lit 327,hU #[])::(nat_lit 329,hD "__init__" 609 "Mode.__init__" 610 611 202 7 3 324 325 .none (.ref 326) (.ref 327) (.ref 328) 619 202 620)::(nat_lit 330,hF "__init__" "Mode.__init__" (hI 56 0) .none .none "steadyhand.things" 589 329)::(nat_lit 331,hU #[hS "add" 622,hS "divisor" 623,hS "nexts" 624,hS "push" 625,hS "rows" 626,hS "steer" 627])::(nat_lit 332,{ cls:=.type "dict",data:=.dict #[hE P "__module__" 604 (hS "steadyhand.things" 589),hE P "__firstlineno__" 608 (.int 200 607),hE P "__init__" 621 (.ref 330),hE P "__static_attributes__" 628 (.ref 331),hE P "__dict__" 630 (.ref 334),hE P "__weakref__" 632 (.ref 335),hE P "__doc__" 633 (.none)] 4 })::(nat_lit 333,{ cls:=.type "type",data:=.cls { name:="Mode",bases:=[.type "object"],mro:=[.ref 333,.type "object"],ns:=332,qualname:="Mode" },slots:=#[none,none,some (hS "Mode" 597),some (hS "Mode" 605),some (.builtin "object.__new__"),some (.bool true)] })::(nat_lit 334,{ cls:=.type "getset_descriptor",data:=.fields #[hS "__dict__" 629,.ref 333,.builtin "function.__dict__",.builtin "function.__dict__#set"] })::(nat_lit 335,{ cls:=.type "getset_descriptor",data:=.fields #[hS "__weakref__" 631,.ref 333,.builtin "ExceptionGroup.__weakref__",.none] })::(nat_lit 345,hU #[])::(nat_lit 347,hU #[hS "self" 651,hS "many" 652,hS "pushes" 653,hS "modes" 654])::(nat_lit 348,hU #[])::(nat_lit 350,hD "__init__" 648 "Thing.__init__" 649 650 211 4 3 345 346 .none (.ref 347) (.ref 348) (.ref 349) 655 211 656)::(nat_lit 351,hF "__init__" "Thing.__init__" (hI 57 0) .none .none "steadyhand.things" 589 350)::(nat_lit 352,hU #[])::(nat_lit 354,hU #[hS "self" 661])::(nat_lit 355,hU #[])::(nat_lit 357,hD "pushes" 658 "Thing.pushes" 659 660 220 1 3 352 353 .none (.ref 354) (.ref 355) (.ref 356) 662 220 663)::(nat_lit 358,hF "pushes" "Thing.pushes" (hI 57 1) .none .none "steadyhand.things" 589 357)::(nat_lit 359,hU #[])::(nat_lit 361,hU #[hS "self" 668])::(nat_lit 362,hU #[])::(nat_lit 364,hD "modes" 665 "Thing.modes" 666 667 223 1 3 359 360 .none (.ref 361) (.ref 362) (.ref 363) 669 223 670)::(nat_lit 365,hF "modes" "Thing.modes" (hI 57 2) .none .none "steadyhand.things" 589 364)::(nat_lit 366,hU #[])::(nat_lit 369,hD "is_closed" 672 "Thing.is_closed" 673 674 226 1 3 366 367 .none .none .none (.ref 368) 675 226 676)::(nat_lit 370,hF "is_closed" "Thing.is_closed" (hI 57 3) .none .none "steadyhand.things" 589 369)::(nat_lit 371,hU #[])::(nat_lit 373,hU #[hS "self" 681])::(nat_lit 374,hU #[])::(nat_lit 376,hD "is_plain" 678 "Thing.is_plain" 679 680 229 1 3 371 372 .none (.ref 373) (.ref 374) (.ref 375) 682 229 683)::(nat_lit 377,hF "is_plain" "Thing.is_plain" (hI 57 4) .none .none "steadyhand.things" 589 376)::(nat_lit 378,hU #[hS "kept_modes" 685,hS "kept_pushes" 686,hS "many" 687])::(nat_lit 379,{ cls:=.type "dict",data:=.dict #[hE P "__module__" 643 (hS "steadyhand.things" 589),hE P "__firstlineno__" 647 (.int 209 646),hE P "__init__" 657 (.ref 351),hE P "pushes" 664 (.ref 358),hE P "modes" 671 (.ref 365),hE P "is_closed" 677 (.ref 370),hE P "is_plain" 684 (.ref 377),hE P "__static_attributes__" 688 (.ref 378),hE P "__dict__" 690 (.ref 381),hE P "__weakref__" 692 (.ref 382),hE P "__doc__" 693 (.none)] 4 })::(nat_lit 380,{ cls:=.type "type",data:=.cls { name:="Thing",bases:=[.type "object"],mro:=[.ref 380,.type "object"],ns:=379,qualname:="Thing" },slots:=#[none,none,some (hS "Thing" 636),some (hS "Thing" 644),some (.builtin "object.__new__"),some (.bool true)] })::(nat_lit 381,{ cls:=.type "getset_descriptor",data:=.fields #[hS "__dict__" 689,.ref 380,.builtin "function.__dict__",.builtin "function.__dict__#set"] })::(nat_lit 382,{ cls:=.type "getset_descriptor",data:=.fields #[hS "__weakref__" 691,.ref 380,.builtin "ExceptionGroup.__weakref__",.none] })::(nat_lit 385,hU #[])::(nat_lit 388,hD "is_sound" 696 "is_sound" 697 698 231 3 3 385 386 .none .none .none (.ref 387) 699 231 700)::(nat_lit 389,hF "is_sound" "is_sound" (hT 58) .none .none "steadyhand.things" 589 388)::(nat_lit 390,hU #[])::(nat_lit 392,hU #[hS "value" 705])::(nat_lit 393,hU #[])::(nat_lit 395,hD "is_push" 702 "is_push" 703 704 239 1 3 390 391 .none (.ref 392) (.ref 393) (.ref 394) 706 239 707)::(nat_lit 396,hF "is_push" "is_push" (hT 59) .none .none "steadyhand.things" 589 395)::(nat_lit 397,hU #[])::(nat_lit 399,hU #[hS "value" 712,hS "many" 713,hS "wide" 714])::(nat_lit 400,hU #[])::(nat_lit 402,hD "is_mode" 709 "is_mode" 710 711 243 3 3 397 398 .none (.ref 399) (.ref 400) (.ref 401) 715 243 716)::(nat_lit 403,hF "is_mode" "is_mode" (hT 60) .none .none "steadyhand.things" 589 402)::(nat_lit 404,hU #[])::(nat_lit 407,hD "is_unsteered" 718 "is_unsteered" 719 720 251 1 3 404 405 .none .none .none (.ref 406) 721 251 722)::(nat_lit 408,hF "is_unsteered" "is_unsteered" (hT 61) .none .none "steadyhand.things" 589 407)::(nat_lit 409,hU #[])::(nat_lit 411,hU #[hS "thing" 727])::(nat_lit 412,hU #[])::(nat_lit 414,hD "ask_closed" 724 "ask_closed" 725 726 253 1 3 409 410 .none (.ref 411) (.ref 412) (.ref 413) 728 253 729)::(nat_lit 415,hF "ask_closed" "ask_closed" (hT 62) .none .none "steadyhand.things" 589 414)::(nat_lit 416,hU #[])::(nat_lit 418,hU #[hS "start" 736,hS "shape" 737,hS "told" 738,hS "numbers" 739,hS "found" 740])::(nat_lit 419,hU #[])::(nat_lit 421,hD "first_room" 733 "first_room" 734 735 257 2 3 416 417 .none (.ref 418) (.ref 419) (.ref 420) 741 257 742)::(nat_lit 422,hF "first_room" "first_room" (hT 64) .none .none "steadyhand.growing" 731 421)::(nat_lit 423,hU #[])::(nat_lit 425,hU #[hS "thing" 747,hS "room" 748,hS "told" 749,hS "row" 750,hS "bound" 751])::(nat_lit 426,hU #[])::(nat_lit 428,hD "grown_once" 744 "grown_once" 745 746 265 2 3 423 424 .none (.ref 425) (.ref 426) (.ref 427) 752 265 753)::(nat_lit 429,hF "grown_once" "grown_once" (hT 65) .none .none "steadyhand.growing" 731 428)::(nat_lit 430,hU #[])::(nat_lit 432,hU #[hS "thing" 758,hS "room" 759,hS "row" 760,hS "bound" 761,hS "mode" 762,hS "ahead" 763,hS "found" 764,hS "least" 765])::(nat_lit 433,hU #[])::(nat_lit 435,hD "grown_bound" 755 "grown_bound" 756 757 274 3 3 430 431 .none (.ref 432) (.ref 433) (.ref 434) 766 274 767)::(nat_lit 436,hF "grown_bound" "grown_bound" (hT 66) .none .none "steadyhand.growing" 731 435)::(nat_lit 437,hU #[])::(nat_lit 439,hU #[hS "thing" 772,hS "start" 773,hS "shape" 774,hS "tries" 775,hS "room" 776,hS "turn" 777,hS "larger" 778])::(nat_lit 440,hU #[])::(nat_lit 442,hD "grown" 769 "grown" 770 771 285 4 3 437 438 .none (.ref 439) (.ref 440) (.ref 441) 779 285 780)::(nat_lit 443,hF "grown" "grown" (hT 67) .none .none "steadyhand.growing" 731 442)::(nat_lit 444,hU #[])::(nat_lit 446,hU #[hS "_law_script" 787,hS "_law_k" 788])::(nat_lit 447,hU #[])::(nat_lit 449,hD "_law_cell_at" 784 "_law_cell_at" 785 786 297 2 3 444 445 .none (.ref 446) (.ref 447) (.ref 448) 789 297 790)::(nat_lit 450,hF "_law_cell_at" "_law_cell_at" (hT 69) .none .none "law_steadyhand_k74_whole_grown_rooms_are_kep" 782 449)::(nat_lit 451,hU #[])::(nat_lit 453,hU #[hS "_law_cell" 795,hS "_law_many" 796,hS "_law_found" 797,hS "_law_rest" 798,hS "_law_k" 799,hS "_law_number_here" 800])::(nat_lit 454,hU #[])::(nat_lit 456,hD "_law_stream" 792 "_law_stream" 793 794 301 2 3 451 452 .none (.ref 453) (.ref 454) (.ref 455) 801 301 802)::(nat_lit 457,hF "_law_stream" "_law_stream" (hT 70) .none .none "law_steadyhand_k74_whole_grown_rooms_are_kep" 782 456)::(nat_lit 458,hU #[])::(nat_lit 460,hU #[hS "_law_x" 807,hS "_law_far" 808])::(nat_lit 461,hU #[])::(nat_lit 463,hD "_law_number" 804 "_law_number" 805 806 314 2 3 458 459 .none (.ref 460) (.ref 461) (.ref 462) 809 314 810)::(nat_lit 464,hF "_law_number" "_law_number" (hT 71) .none .none "law_steadyhand_k74_whole_grown_rooms_are_kep" 782 463)::(nat_lit 465,hU #[])::(nat_lit 468,hD "_law_mode" 812 "_law_mode" 813 814 316 5 3 465 466 .none .none .none (.ref 467) 815 316 816)::(nat_lit 469,hF "_law_mode" "_law_mode" (hT 72) .none .none "law_steadyhand_k74_whole_grown_rooms_are_kep" 782 468)::(nat_lit 470,hU #[])::(nat_lit 472,hU #[hS "_law_script" 821,hS "_law_first" 822,hS "_law_second" 823,hS "_law_unit" 824,hS "_law_many" 825,hS "_law_pushes" 826,hS "_law_k" 827,hS "_law_x" 828,hS "_law_modes" 829,hS "_law_cell" 830])::(nat_lit 473,hU #[])::(nat_lit 475,hD "_law_thing" 818 "_law_thing" 819 820 330 1 3 470 471 .none (.ref 472) (.ref 473) (.ref 474) 831 330 832)::(nat_lit 476,hF "_law_thing" "_law_thing" (hT 73) .none .none "law_steadyhand_k74_whole_grown_rooms_are_kep" 782 475)::(nat_lit 477,hU #[])::(nat_lit 480,hD "_law_made" 834 "_law_made" 835 836 344 1 3 477 478 .none .none .none (.ref 479) 837 344 838)::(nat_lit 481,hF "_law_made" "_law_made" (hT 74) .none .none "law_steadyhand_k74_whole_grown_rooms_are_kep" 782 480)::(nat_lit 482,hU #[])::(nat_lit 484,hU #[hS "_law_cell" 843,hS "_law_many" 844,hS "_law_unit" 845,hS "_law_xs" 846,hS "_law_box_here" 847,hS "_law_i" 848,hS "_law_low" 849])::(nat_lit 485,hU #[])::(nat_lit 487,hD "_law_box" 840 "_law_box" 841 842 351 3 3 482 483 .none (.ref 484) (.ref 485) (.ref 486) 850 351 851)::(nat_lit 488,hF "_law_box" "_law_box" (hT 75) .none .none "law_steadyhand_k74_whole_grown_rooms_are_kep" 782 487)::(nat_lit 489,hU #[])::(nat_lit 492,hD "_law_rows" 853 "_law_rows" 854 855 358 1 3 489 490 .none .none .none (.ref 491) 856 358 857)::(nat_lit 493,hF "_law_rows" "_law_rows" (hT 76) .none .none "law_steadyhand_k74_whole_grown_rooms_are_kep" 782 492)::(nat_lit 494,hU #[])::(nat_lit 496,hU #[hS "_law_numbers" 862,hS "_law_box_here" 863,hS "_law_found" 864,hS "_law_number_here" 865,hS "_law_bounds" 866])::(nat_lit 497,hU #[])::(nat_lit 499,hD "_law_top" 859 "_law_top" 860 861 365 2 3 494 495 .none (.ref 496) (.ref 497) (.ref 498) 867 365 868)::(nat_lit 500,hF "_law_top" "_law_top" (hT 77) .none .none "law_steadyhand_k74_whole_grown_rooms_are_kep" 782 499)::(nat_lit 501,hU #[])::(nat_lit 503,hU #[hS "_law_one" 873,hS "_law_other" 874])::(nat_lit 504,hU #[])::(nat_lit 506,hD "_law_divisor" 870 "_law_divisor" 871 872 370 2 3 501 502 .none (.ref 503) (.ref 504) (.ref 505) 875 370 876)::(nat_lit 507,hF "_law_divisor" "_law_divisor" (hT 78) .none .none "law_steadyhand_k74_whole_grown_rooms_are_kep" 782 506)::(nat_lit 508,hU #[])::(nat_lit 510,hU #[hS "_law_top_here" 881,hS "_law_bottom" 882,hS "_law_share" 883])::(nat_lit 511,hU #[])::(nat_lit 513,hD "_law_lowest" 878 "_law_lowest" 879 880 374 2 3 508 509 .none (.ref 510) (.ref 511) (.ref 512) 884 374 885)::(nat_lit 514,hF "_law_lowest" "_law_lowest" (hT 79) .none .none "law_steadyhand_k74_whole_grown_rooms_are_kep" 782 513)::(nat_lit 515,hU #[])::(nat_lit 517,hU #[hS "_law_one" 890,hS "_law_other" 891])::(nat_lit 518,hU #[])::(nat_lit 520,hD "_law_plus" 887 "_law_plus" 888 889 377 2 3 515 516 .none (.ref 517) (.ref 518) (.ref 519) 892 377 893)::(nat_lit 521,hF "_law_plus" "_law_plus" (hT 80) .none .none "law_steadyhand_k74_whole_grown_rooms_are_kep" 782 520)::(nat_lit 522,hU #[])::(nat_lit 524,hU #[hS "_law_numbers" 898,hS "_law_values" 899,hS "_law_found" 900,hS "_law_number_here" 901,hS "_law_value" 902])::(nat_lit 525,hU #[])::(nat_lit 527,hD "_law_along" 895 "_law_along" 896 897 379 2 3 522 523 .none (.ref 524) (.ref 525) (.ref 526) 903 379 904)::(nat_lit 528,hF "_law_along" "_law_along" (hT 81) .none .none "law_steadyhand_k74_whole_grown_rooms_are_kep" 782 527)::(nat_lit 529,hU #[])::(nat_lit 531,hU #[hS "_law_row" 909,hS "_law_point_here" 910,hS "_law_value" 911])::(nat_lit 532,hU #[])::(nat_lit 534,hD "_law_holds" 906 "_law_holds" 907 908 384 2 3 529 530 .none (.ref 531) (.ref 532) (.ref 533) 912 384 913)::(nat_lit 535,hF "_law_holds" "_law_holds" (hT 82) .none .none "law_steadyhand_k74_whole_grown_rooms_are_kep" 782 534)::(nat_lit 536,hU #[])::(nat_lit 539,hD "_law_lies" 915 "_law_lies" 916 917 387 2 3 536 537 .none .none .none (.ref 538) 918 387 919)::(nat_lit 540,hF "_law_lies" "_law_lies" (hT 83) .none .none "law_steadyhand_k74_whole_grown_rooms_are_kep" 782 539)::(nat_lit 541,hU #[])::(nat_lit 543,hU #[hS "_law_cell" 924,hS "_law_box_here" 925,hS "_law_xs" 926,hS "_law_parts" 927,hS "_law_point_here" 928,hS "_law_k" 929,hS "_law_low" 930,hS "_law_high" 931,hS "_law_share" 932])::(nat_lit 544,hU #[])::(nat_lit 546,hD "_law_point" 921 "_law_point" 922 923 389 2 3 541 542 .none (.ref 543) (.ref 544) (.ref 545) 933 389 934)::(nat_lit 547,hF "_law_point" "_law_point" (hT 84) .none .none "law_steadyhand_k74_whole_grown_rooms_are_kep" 782 546)::(nat_lit 548,hU #[])::(nat_lit 550,hU #[hS "_law_mode_here" 939,hS "_law_point_here" 940,hS "_law_steering" 941,hS "_law_pushes" 942,hS "_law_rows_here" 943,hS "_law_nexts" 944,hS "_law_steer" 945,hS "_law_push" 946,hS "_law_add" 947,hS "_law_divisor_here" 948,hS "_law_found" 949,hS "_law_i" 950,hS "_law_value" 951])::(nat_lit 551,hU #[])::(nat_lit 553,hD "_law_behind" 936 "_law_behind" 937 938 398 4 3 548 549 .none (.ref 550) (.ref 551) (.ref 552) 952 398 953)::(nat_lit 554,hF "_law_behind" "_law_behind" (hT 85) .none .none "law_steadyhand_k74_whole_grown_rooms_are_kep" 782 553)::(nat_lit 555,hU #[])::(nat_lit 558,hD "_law_run" 955 "_law_run" 956 957 406 3 3 555 556 .none .none .none (.ref 557) 958 406 959)::(nat_lit 559,hF "_law_run" "_law_run" (hT 86) .none .none "law_steadyhand_k74_whole_grown_rooms_are_kep" 782 558)::(nat_lit 560,hU #[])::(nat_lit 563,hD "_law_shape" 961 "_law_shape" 962 963 417 2 3 560 561 .none .none .none (.ref 562) 964 417 965)::(nat_lit 564,hF "_law_shape" "_law_shape" (hT 87) .none .none "law_steadyhand_k74_whole_grown_rooms_are_kep" 782 563)::(nat_lit 565,hU #[])::(nat_lit 567,hU #[hS "_law_found" 970])::(nat_lit 568,hU #[])::(nat_lit 570,hD "_law_whole" 967 "_law_whole" 968 969 430 1 3 565 566 .none (.ref 567) (.ref 568) (.ref 569) 971 430 972)::(nat_lit 571,hF "_law_whole" "_law_whole" (hT 88) .none .none "law_steadyhand_k74_whole_grown_rooms_are_kep" 782 570)::(nat_lit 572,hU #[])::(nat_lit 575,hD "law" 974 "law" 975 976 432 1 3 572 573 .none .none .none (.ref 574) 977 432 978)::(nat_lit 576,hF "law" "law" (hT 89) .none .none "law_steadyhand_k74_whole_grown_rooms_are_kep" 782 575) :: []
noncomputable def ks:List Addr:=[2,3,15,17,18,20,21,22,29,30,31,32,35,42,43,44,47,54,55,56,59,66,67,68,71,78,79,80,83,85,86,88,89,90,92,93,95,96,97,98,100,101,103,104,105,107,108,110,111,112,114,115,117,118,119,121,122,124,125,126,128,129,131,132,133,136,137,138,141,142,143,144,147,148,149,150,153,154,155,158,159,160,163,164,165,168,169,170,173,174,175,177,178,180,181,182,184,185,187,188,189,191,192,194,195,196,198,199,201,202,203,206,207,208,210,211,213,214,215,217,218,220,221,222,225,226,227,230,231,232,235,236,237,240,241,242,245,246,247,250,251,252,255,256,257,260,261,262,265,266,267,269,270,272,273,274,276,277,279,280,281,283,284,286,287,288,291,292,293,296,297,298,300,301,303,304,305,308,309,310,312,313,315,316,324,326,327,329,330,331,332,333,334,335,345,347,348,350,351,352,354,355,357,358,359,361,362,364,365,366,369,370,371,373,374,376,377,378,379,380,381,382,385,388,389,390,392,393,395,396,397,399,400,402,403,404,407,408,409,411,412,414,415,416,418,419,421,422,423,425,426,428,429,430,432,433,435,436,437,439,440,442,443,444,446,447,449,450,451,453,454,456,457,458,460,461,463,464,465,468,469,470,472,473,475,476,477,480,481,482,484,485,487,488,489,492,493,494,496,497,499,500,501,503,504,506,507,508,510,511,513,514,515,517,518,520,521,522,524,525,527,528,529,531,532,534,535,536,539,540,541,543,544,546,547,548,550,551,553,554,555,558,559,560,563,564,565,567,568,570,571,572,575,576]
theorem ke:∀ P:Params,ks=(KK P).map (·.1):=λ_=>by
 kernel_rfl
noncomputable def vw:Program:={ PySem.Challenge.pw_steadyhand_k74_whole_grown_rooms_are_kep with main:={ PySem.Challenge.pw_steadyhand_k74_whole_grown_rooms_are_kep.main with body:=[hT 0,hT 2,hT 3,hT 4,hT 5,hT 6,hT 8,hT 9,hT 11,hT 12,hT 13,hT 14,hT 16,hT 17,hT 20,hT 21,hT 23,hT 24,hT 25,hT 26,hT 27,hT 28,hT 30,hT 31,hT 32,hT 33,hT 35,hT 36,hT 37,hT 38,hT 39,hT 40,hT 41,hT 42,hT 43,hT 44,hT 45,hT 46,hT 47,hT 49,hT 50,hT 51,hT 53,hT 54,hT 55,hT 56,hT 57,hT 58,hT 59,hT 60,hT 61,hT 62,hT 64,hT 65,hT 66,hT 67,hT 69,hT 70,hT 71,hT 72,hT 73,hT 74,hT 75,hT 76,hT 77,hT 78,hT 79,hT 80,hT 81,hT 82,hT 83,hT 84,hT 85,hT 86,hT 87,hT 88,hT 89] } }
noncomputable def lo:List Str:=[dZ "fraction",dZ "copied",dZ "unit"]
abbrev rr:RowW:=(OpenLaw.row PySem.Challenge.rw_steadyhand_k74_whole_grown_rooms_are_kep).toRowW
noncomputable abbrev xt:Shared->Bool:=λs=>xlAt vw [] s && recOk rr.records s
noncomputable def bt:Params->BT:=λP=>(.node (boot_o_0 P) (.node (boot_o_1 P) (.node (boot_o_3 P) (.node (boot_o_7 P) .nil .nil) .nil) (.node (boot_o_5 P) (.node (boot_o_9 P) .nil .nil) .nil)) (.node (boot_o_2 P) (.node (boot_o_4 P) (.node (boot_o_8 P) .nil .nil) .nil) (.node (boot_o_6 P) (.node (boot_o_10 P) .nil .nil) .nil)))
noncomputable def lhs (T:Params->BT) (h:Params->Heap) (d:Drawn) (k:Nat) (w:World) (os:OsState):=(TT.runT treeTable PySem.Challenge.pw_steadyhand_k74_whole_grown_rooms_are_kep w 11 (some (.ref 6)) 7732 ⟨T w.params,11,(h w.params).life,Array.mk [],d,k,os⟩ (topStub PySem.Challenge.pw_steadyhand_k74_whole_grown_rooms_are_kep)).map (λs=>((staticsOk (importedModules PySem.Challenge.pw_steadyhand_k74_whole_grown_rooms_are_kep.main.body) (h w.params) s.abs.heap && namesBound PySem.Challenge.pw_steadyhand_k74_whole_grown_rooms_are_kep s.abs.heap && gensDone s.abs && laidKept (h w.params) s.abs.heap),openSeen vw lo (importedModules PySem.Challenge.pw_steadyhand_k74_whole_grown_rooms_are_kep.main.body) xt true s.abs))
noncomputable def lhs2 (T:Params->BT) (h:Params->Heap) (d:Drawn) (k:Nat) (w:World) (os:OsState):=(TT.runT treeTable PySem.Challenge.pw_steadyhand_k74_whole_grown_rooms_are_kep w 11 (some (.ref 6)) 7732 ⟨T w.params,11,(h w.params).life,Array.mk [],d,k,os⟩ (topStub PySem.Challenge.pw_steadyhand_k74_whole_grown_rooms_are_kep)).map (λs=>ks.map s.abs.heap.get?)
noncomputable def rhs (_:Params->Frag) (w:World) (_:OsState):=some (true,openGood vw lo)
noncomputable def rhs2 (F:Params->Frag) (w:World) (_:OsState):=some ((F w.params).map λp=>some p.2)
lay_quick lhs rhs
lay_quick lhs2 rhs2
theorem same (w:World) (os:OsState):PySem.W.Fast.tw6524717345025529485 bt boot_heap boot_drawn boot_toks w os=PySem.W.Fast.tw7465415028997664510 KK w os:=by
 kernel_rfl
theorem ZG (w:World) (os:OsState):PySem.W.Fast.tw10121080453214387269 bt boot_heap boot_drawn boot_toks w os=PySem.W.Fast.tw17163646978077536440 KK w os:=by
 kernel_rfl
theorem two {α β γ δ:Type} {o:Option α} {f:α->β × γ} {g:α->δ} {b:β} {c:γ} {d:δ} (h1:o.map f=some (b,c)) (h2:o.map g=some d):o.map (λs=>((f s).1,(f s).2,g s))=some (b,c,d):=by
 cases o with
 | none=>cases h1
 | some a=>
  injection h1 with h1
  injection h2 with h2
  show some ((f a).1,(f a).2,g a)=_
  rw [h1,h2]
theorem left:LeftO rr.prog vw lo xt (kHook KK ks ke).obs (kHook KK ks ke).val 7732:=
 TT.left_is (boot_open (by kernel_rfl) (by decide) (λ_=>by kernel_rfl)) (λ_=>by kernel_rfl) (λ_=>by kernel_rfl) (λ_=>by kernel_rfl) (λ_=>by kernel_rfl)
  λw os=>two ((congrArg (λf=>f bt boot_heap boot_drawn boot_toks w os) PySem.W.Fast.te6524717345025529485).trans ((same w os).trans (congrFun (congrFun (congrFun PySem.W.Fast.te7465415028997664510 KK) w) os).symm)) ((congrArg (λf=>f bt boot_heap boot_drawn boot_toks w os) PySem.W.Fast.te10121080453214387269).trans ((ZG w os).trans (congrFun (congrFun (congrFun PySem.W.Fast.te17163646978077536440 KK) w) os).symm))
end H74
namespace L2
open PySem PySem.Spec PyProof.Rows
abbrev wN:=Sum Int Str
def zSK:wN->Value->Bool
 | .inl k,v=>Value.isInt k v
 | .inr x,v=>Value.isStrOf x v
def US (w:World):wN->Int
 | .inl k=>hashInt k
 | .inr x=>hashStr w x
theorem ji:∀ {k:wN} {v:Value},zSK k v=true->(∃ i t,k=Sum.inl i/\v=Value.int i t)\/(∃ x t,k=Sum.inr x/\v=Value.str x t)
 | .inl i,v,h=>by
  obtain ⟨t,e⟩:=Value.isInt_shape (k:=i) (v:=v) h
  exact .inl ⟨i,t,rfl,e⟩
 | .inr x,v,h=>by
  obtain ⟨t,e⟩:=Value.isStrOf_shape (x:=x) (v:=v) h
  exact .inr ⟨x,t,rfl,e⟩
theorem zSJ (a b:Int):decide ((Sum.inl a:wN)=Sum.inl b)=(a == b):=by
 by_cases e:a=b
 ·subst e; simp
 ·have h:¬ (Sum.inl a:wN)=Sum.inl b:=λq=>e (Sum.inl.inj q)
  rw [decide_eq_false h]
  exact (beq_eq_false_iff_ne.mpr e).symm
theorem zSG (a b:Str):decide ((Sum.inr a:wN)=Sum.inr b)=decide (a=b):=by
 by_cases e:a=b
 ·subst e; simp
 ·have h:¬ (Sum.inr a:wN)=Sum.inr b:=λq=>e (Sum.inr.inj q)
  rw [decide_eq_false h,decide_eq_false e]
theorem zSI (a:Int) (b:Str):decide ((Sum.inl a:wN)=Sum.inr b)=false:=decide_eq_false (λq=>nomatch q)
theorem zSH (a:Str) (b:Int):decide ((Sum.inr a:wN)=Sum.inl b)=false:=decide_eq_false (λq=>nomatch q)
def zLa (prog:Program) (w:World):PySem.KeyKind prog w wN where
 is:=zSK
 hash:=US w
 inj:=λv a b ha hb=>by
  rcases ji ha with ⟨i,t,rfl,rfl⟩ | ⟨x,t,rfl,rfl⟩
  ·rcases ji hb with ⟨j,u,rfl,e⟩ | ⟨y,u,rfl,e⟩
   ·injection e with e1 _; rw [e1]
   ·exact nomatch e
  ·rcases ji hb with ⟨j,u,rfl,e⟩ | ⟨y,u,rfl,e⟩
   ·exact nomatch e
   ·injection e with e1 _; rw [e1]
 byValue:=λk v h=>by
  rcases ji h with ⟨i,t,rfl,rfl⟩ | ⟨x,t,rfl,rfl⟩ <;> rfl
 pyHash:=λhv h=>by
  rcases ji hv with ⟨i,t,rfl,rfl⟩ | ⟨x,t,rfl,rfl⟩
  ·exact wpAny_pyHash_int h
  ·exact wpAny_pyHash_str h
 eqBool:=λhu hv h=>by
  rcases ji hu with ⟨i,t,rfl,rfl⟩ | ⟨x,t,rfl,rfl⟩
  ·rcases ji hv with ⟨j,u,rfl,rfl⟩ | ⟨y,u,rfl,rfl⟩
   ·rw [zSJ] at h; exact wpAny_eqBool_int h
   ·rw [zSI] at h; exact SeqAt.EqAt.int_str i t y u _ _ _ _ h
  ·rcases ji hv with ⟨j,u,rfl,rfl⟩ | ⟨y,u,rfl,rfl⟩
   ·rw [zSH] at h; exact SeqAt.EqAt.str_int x t j u _ _ _ _ h
   ·rw [zSG] at h; exact wpAny_eqBool_str h
 «strs»:=λk x t v h=>by
  rcases ji h with ⟨i,u,rfl,e⟩ | ⟨y,u,rfl,e⟩
  ·exact nomatch e
  ·injection e with e1 _
   subst e1
   cases v <;> rfl
end L2
namespace L2
open PySem PySem.Spec PyProof.Rows
inductive V where
 | non | bl (b:Bool) | int (i:Int) | str (x:Str) | byt (b:Array UInt8) | flt (b:UInt64) | ref (a:Addr) | ty (n:String)
 deriving DecidableEq
def zV:V->Value->Prop
 | .non,u=>u=Value.none
 | .bl b,u=>u=Value.bool b
 | .int i,u=>∃ t,u=Value.int i t
 | .str x,u=>∃ t,u=Value.str x t
 | .byt b,u=>∃ t,u=Value.bytes b t
 | .flt b,u=>∃ t,u=Value.float b t
 | .ref a,u=>u=Value.ref a
 | .ty n,u=>u=Value.type n
abbrev zM:List V->List Value->Prop:=Paired zV
theorem zM.length {xs:List V} {us:List Value} (r:zM xs us):xs.length=us.length:=Paired.length r
theorem zM.get:∀ {xs:List V} {us:List Value} {i:Nat} {x:V},zM xs us->xs[i]? = some x->∃ u,us[i]? = some u/\zV x u
 | _,_,_,_,.nil,e=>by simp at e
 | _,_,0,_,.cons r _,e=>by simp at e; subst e; exact ⟨_,rfl,r⟩
 | _,_,i + 1,x,.cons _ t,e=>by
  obtain ⟨u,h1,h2⟩:=zM.get (i:=i) (x:=x) t (by simpa using e)
  exact ⟨u,by simpa using h1,h2⟩
theorem zM.set {x:V} {u:Value} (r:zV x u):∀ {xs:List V} {us:List Value} (i:Nat),zM xs us->zM (xs.set i x) (us.set i u)
 | _,_,_,.nil=>.nil
 | _,_,0,.cons _ t=>.cons r t
 | _,_,i + 1,.cons q t=>.cons q (zM.set r i t)
theorem zM.append:∀ {xs ys:List V} {us ws:List Value},zM xs us->zM ys ws->zM (xs++ys) (us++ws)
 | _,_,_,_,.nil,s=>s
 | _,_,_,_,.cons r t,s=>.cons r (zM.append t s)
theorem zM.take:∀ {xs:List V} {us:List Value} (n:Nat),zM xs us->zM (xs.take n) (us.take n)
 | _,_,0,_=>.nil
 | _,_,_ + 1,.nil=>.nil
 | _,_,n + 1,.cons r t=>.cons r (zM.take n t)
theorem zM.drop:∀ {xs:List V} {us:List Value} (n:Nat),zM xs us->zM (xs.drop n) (us.drop n)
 | _,_,0,r=>r
 | _,_,_ + 1,.nil=>.nil
 | _,_,n + 1,.cons _ t=>zM.drop n t
def wH:Option V->Option Value->Prop
 | some v,some u=>zV v u
 | none,none=>True
 | _,_=>False
def KV {κ:Type}:List (κ × V)->List (κ × Value)->Prop:=Paired λ(p:κ × V) (q:κ × Value)=>p.1=q.1/\zV p.2 q.2
def kV:wN->V
 | .inl i=>.int i
 | .inr x=>.str x
inductive HO where
 | lst (xs:List V)
 | tup (xs:List V)
 | dK (kvs:List (wN × V)) | dT (kvs:List (List wN × V))
 | set (S:Int->Bool) (n:Nat)
 | ins (C dx:Addr) (fs:List (Str × V))
 | own (x:Addr)
 | xd (fs:List (Str × V))
 | met (f x:Addr)
 | rng (lo hi:Int)
 | frz (o:Obj) (u:HO)
 | tbl (ps:Array Value)
 | ext (φ:Heap->Prop)
abbrev Hp:=Addr->Option HO
def zh (H:Hp) (a:Addr) (o:HO):Hp:=λb=>if b=a then some o else H b
theorem wD {H:Hp} {a:Addr} {o:HO}:zh H a o a=some o:=by unfold zh; rw [if_pos rfl]
theorem yH {H:Hp} {a b:Addr} {o:HO} (h:b≠a):zh H a o b=H b:=by unfold zh; rw [if_neg h]
theorem wn {H:Hp} {a b:Addr} {o:HO} (h:H a=some o) (h':H b=none):a≠b:=by
 intro e; subst e; rw [h] at h'; cases h'
section
variable (P:Program) (w:World)
def wO (H:Hp) (h:Heap) (a:Addr):HO->Prop
 | .lst xs=>xs.length<=sizeLine/\∃ (its:List Value) (n:Nat),zM xs its/\h.get? a=some { cls:=.type "list",data:=.seq its.toArray n }
 | .tup xs=>xs.length<=sizeLine/\∃ its:List Value,zM xs its/\IsTup h a its.toArray
 | .dK kvs=>kvs.length<=sizeLine/\(a == sysModules)=false/\∃ vs,KV kvs vs/\h.DictOf (zLa P w) a vs
 | .dT kvs=>kvs.length<=sizeLine/\(a == sysModules)=false/\∃ xs:List (List wN × Addr × Value),
   Paired (λ(p:List wN × V) (q:List wN × Addr × Value)=>p.1=q.1/\H q.2.1=some (.tup (p.1.map kV))/\zV p.2 q.2.2) kvs xs∧
   ∃ o es ep,h.get? a=some o/\o.ExactDict/\o.data=.dict es ep/\es.toList=xs.map (entryOfKey (tupleKind (zLa P w)))/\(xs.map (·.1)).Nodup
 | .set S n=>h.SetOf (intKind P w) a S n
 | .ins C dx fs=>H dx=some (.own a)/\fs.length<=1000/\dx≠a/\h.get? a=some (fb C dx)∧
   ∃ mA,h.Ns1 dx mA/\(∀ f,wH (fs.lookup f) (mA f))/\PySem.Within mA (fs.map (·.1))
 | .own _=>∃ o,h.get? a=some o
 | .xd fs=>∃ mA,h.Ns1 a mA/\∀ f,wH (fs.lookup f) (mA f)
 | .rng lo hi=>∃ t u v,h.get? a=some { cls:=.type "range",data:=.fields #[.int lo t,.int hi u,.int 1 v] }
 | .frz o u=>h.get? a=some o/\wO H h a u
 | .tbl ps=>h.get? a=some { cls:=.none,data:=.fields ps }
 | .met f x=>h.get? a=some (iY (.ref f) (.ref x))
 | .ext φ=>φ h/\(∃ o,h.get? a=some o)/\∀ h1 h2:Heap,φ h1->(∀ o,h1.get? a=some o->h2.get? a=some o)->φ h2
def xc (H:Hp) (h:Heap):Prop:=∀ a o,H a=some o->wO P w H h a o
end
section
variable {P:Program} {w:World} {H H':Hp} {h h':Heap} {a:Addr} {o:HO}
theorem wO.lt (x:wO P w H h a o):a < h.objs.size:=by
 cases o with
 | lst xs=>obtain ⟨_,_,_,_,e⟩:=x; exact cZ e
 | tup xs=>obtain ⟨_,_,_,p⟩:=x; exact p.lt
 | dK kvs=>obtain ⟨_,_,_,_,o,_,_,e,_⟩:=x; exact cZ e
 | dT kvs=>obtain ⟨_,_,_,_,o,_,_,e,_⟩:=x; exact cZ e
 | set S n=>obtain ⟨o,_,_,_,e,_⟩:=x; exact cZ e
 | ins C dx fs=>obtain ⟨_,_,_,e,_⟩:=x; exact cZ e
 | own y=>obtain ⟨_,e⟩:=x; exact cZ e
 | xd fs=>obtain ⟨_,⟨_,_,_,e,_⟩,_⟩:=x; exact cZ e
 | rng lo hi=>obtain ⟨_,_,_,e⟩:=x; exact cZ e
 | frz ob u=>obtain ⟨e,_⟩:=x; exact cZ e
 | tbl ps=>exact cZ (show h.get? a=some _ from x)
 | met f y=>exact cZ (show h.get? a=some _ from x)
 | ext φ=>obtain ⟨_,⟨_,e⟩,_⟩:=x; exact cZ e
theorem Paired.mapP {α β:Type} {F G:α->β->Prop}:∀ {l₁:List α} {l₂:List β},Paired F l₁ l₂->(∀ a b,F a b->G a b)->Paired G l₁ l₂
 | _,_,.nil,_=>.nil
 | _,_,.cons r t,f=>.cons (f _ _ r) (Paired.mapP t f)
theorem wO.stay (x:wO P w H h a o) (k:∀ b u,(b=a\/H b=some (.own a))->h.get? b=some u->h'.get? b=some u)
  (ho:∀ b,H b=some (.own a)->H' b=some (.own a)) (ht:∀ b xs,H b=some (.tup xs)->H' b=some (.tup xs)):wO P w H' h' a o:=by
 induction o with
 | lst xs=>obtain ⟨z,its,n,r,e⟩:=x; exact ⟨z,its,n,r,k _ _ (.inl rfl) e⟩
 | tup xs=>obtain ⟨z,its,r,ob,e,c⟩:=x; exact ⟨z,its,r,ob,k _ _ (.inl rfl) e,c⟩
 | dK kvs=>obtain ⟨z,y,vs,r,ob,es,ep,e,c⟩:=x; exact ⟨z,y,vs,r,ob,es,ep,k _ _ (.inl rfl) e,c⟩
 | dT kvs=>
  obtain ⟨z,y,xs,r,ob,es,ep,e,c⟩:=x
  exact ⟨z,y,xs,Paired.mapP r λp q z=>⟨z.1,ht _ _ z.2.1,z.2.2⟩,ob,es,ep,k _ _ (.inl rfl) e,c⟩
 | set S n=>obtain ⟨ob,es,ep,t,e,c⟩:=x; exact ⟨ob,es,ep,t,k _ _ (.inl rfl) e,c⟩
 | ins C dx fs=>
  obtain ⟨d,z,ne,e,mA,⟨od,es,ep,e2,c⟩,r⟩:=x
  exact ⟨ho _ d,z,ne,k _ _ (.inl rfl) e,mA,⟨od,es,ep,k _ _ (.inr d) e2,c⟩,r⟩
 | own y=>obtain ⟨ob,e⟩:=x; exact ⟨ob,k _ _ (.inl rfl) e⟩
 | xd fs=>obtain ⟨mA,⟨od,es,ep,e,c⟩,r⟩:=x; exact ⟨mA,⟨od,es,ep,k _ _ (.inl rfl) e,c⟩,r⟩
 | rng lo hi=>obtain ⟨t,u,v,e⟩:=x; exact ⟨t,u,v,k _ _ (.inl rfl) e⟩
 | frz ob u ih=>obtain ⟨e,q⟩:=x; exact ⟨k _ _ (.inl rfl) e,ih q⟩
 | tbl ps=>
  have e:h.get? a=some { cls:=.none,data:=.fields ps }:=x
  show h'.get? a=some { cls:=.none,data:=.fields ps }
  exact k a _ (.inl rfl) e
 | met f y=>
  have e:h.get? a=some (iY (.ref f) (.ref y)):=x
  show h'.get? a=some (iY (.ref f) (.ref y))
  exact k a _ (.inl rfl) e
 | ext φ=>obtain ⟨p,⟨o,e⟩,st⟩:=x; exact ⟨st _ _ p λo q=>k _ _ (.inl rfl) q,⟨o,k _ _ (.inl rfl) e⟩,st⟩
theorem xc.lt (x:xc P w H h) (e:H a=some o):a < h.objs.size:=(x a o e).lt
theorem xc.fresh (x:xc P w H h) (e:h.objs.size<=a):H a=none:=by
 cases q:H a with
 | none=>rfl
 | some u=>exact absurd (dg (x.lt q) e) (dN _)
theorem xc.kept (x:xc P w H h) (k:∀ b u,h.get? b=some u->h'.get? b=some u):xc P w H h':=λa o e=>
 (x a o e).stay (λb u _ q=>k b u q) (λ_ q=>q) λ_ _ q=>q
theorem xc.laid (x:xc P w H h) (k:∀ b u,h.get? b=some u->h'.get? b=some u) (hp:h.objs.size<=a) (new:wO P w (zh H a o) h' a o):xc P w (zh H a o) h':=λb u e=>by
 have hn:=x.fresh hp
 by_cases hb:b=a
 ·subst hb; rw [wD] at e; cases e; exact new
 ·rw [yH hb] at e
  exact (x b u e).stay (λc v _ q=>k c v q) (λc q=>by rw [yH (wn q hn)]; exact q) λc xs q=>by rw [yH (wn q hn)]; exact q
end
def Rd (H:Hp) (a:Addr) (u:HO):Prop:=H a=some u\/∃ o,H a=some (.frz o u)
theorem Rd.ok {P:Program} {w:World} {H:Hp} {h:Heap} {a:Addr} {u:HO} (r:Rd H a u) (x:xc P w H h):wO P w H h a u:=by
 rcases r with r | ⟨o,r⟩
 ·exact x a u r
 ·obtain ⟨_,q⟩:=x a _ r
  exact q
def X6:Option HO->Prop
 | some (.lst _)=>True
 | some (.dK _)=>True
 | some (.dT _)=>True
 | some (.set _ _)=>True
 | some (.ins _ _ _)=>True
 | some (.ext _)=>True
 | _=>False
section
variable {P:Program} {w:World} {H:Hp} {h h':Heap} {x e:Addr} {o':HO}
theorem xc.write (ok:xc P w H h) (mu:X6 (H x)) (he:e=x\/H e=some (.own x)) (k:∀ b u,b≠e->h.get? b=some u->h'.get? b=some u) (heo:∃ u,h'.get? e=some u)
  (new:wO P w (zh H x o') h' x o'):xc P w (zh H x o') h':=λb u q=>by
 have nown:∀ c y,H c=some (.own y)->c≠x:=λc y r z=>by subst z; rw [r] at mu; exact mu
 have ntup:∀ c xs,H c=some (.tup xs)->c≠x:=λc xs r z=>by subst z; rw [r] at mu; exact mu
 by_cases hb:b=x
 ·subst hb; rw [wD] at q; cases q; exact new
 ·rw [yH hb] at q
  by_cases hbe:b=e
  ·have q':H b=some (.own x):=by
    rcases he with z | z
    ·exact absurd (hbe.trans z) hb
    ·rw [hbe]; exact z
   rw [q] at q'; cases q'
   obtain ⟨v,hv⟩:=heo
   exact ⟨v,by rw [hbe]; exact hv⟩
  ·refine (ok b u q).stay (λc v hc r=>k c v ?_ r) (λc r=>by rw [yH (nown c b r)]; exact r) λc xs r=>by rw [yH (ntup c xs r)]; exact r
   rcases hc with rfl | hc
   ·exact hbe
   ·rintro rfl
    rcases he with z | z
    ·exact nown c b hc z
    ·rw [hc] at z; cases z; exact hb rfl
end
structure Un (fs ex:List Addr) (H H':Hp) (h h':Heap):Prop where
 keep:∀ b o,h.get? b=some o->H b=none->b∉fs->b∉ex->h'.get? b=some o
 slot:∀ b o,h.get? b=some o->H b=none->b∈fs->b∉ex->∃ sl,h'.get? b=some { o with slots:=sl }
 free:∀ b o,h.get? b=some o->H b=none->b∉ex->H' b=none
 there:∀ b o,h.get? b=some o->b∉ex->∃ o',h'.get? b=some o'
 tups:∀ b xs,H b=some (.tup xs)->H' b=some (.tup xs)
 frzs:∀ b o u,H b=some (.frz o u)->H' b=some (.frz o u)
 tbls:∀ b ps,H b=some (.tbl ps)->∃ more,H' b=some (.tbl (ps++more))
section
variable {fs fs' ex ex':List Addr} {H H1 H2:Hp} {h h1 h2 h':Heap} {a x e:Addr} {o:HO}
theorem Un.any (u:Un fs ex H H1 h h1) {b:Addr} {ob:Obj} (q:h.get? b=some ob) (n:H b=none) (hx:b∉ex):∃ sl,h1.get? b=some { ob with slots:=sl }:=by
 by_cases hb:b∈fs
 ·exact u.slot b ob q n hb hx
 ·exact ⟨ob.slots,u.keep b ob q n hb hx⟩
theorem Un.kept (k:∀ b u,h.get? b=some u->h'.get? b=some u):Un fs ex H H h h':=
 ⟨λb ob q _ _ _=>k b ob q,λb ob q _ _ _=>⟨ob.slots,k b ob q⟩,λ_ _ _ n _=>n,λb ob q _=>⟨ob,k b ob q⟩,λ_ _ q=>q,λ_ _ _ q=>q,λ_ ps q=>⟨#[],by rw [q]; simp⟩⟩
theorem Un.refl:Un fs ex H H h h:=Un.kept λ_ _ q=>q
theorem Un.laid (k:∀ b u,h.get? b=some u->h'.get? b=some u) (hp:h.objs.size<=a) (hn:H a=none):Un fs ex H (zh H a o) h h' where
 keep:=λb u q _ _ _=>k b u q
 slot:=λb u q _ _ _=>⟨u.slots,k b u q⟩
 free:=λb u q n _=>by rw [yH (dL (dg (cZ q) hp))]; exact n
 there:=λb u q _=>⟨u,k b u q⟩
 tups:=λb xs q=>by rw [yH (wn q hn)]; exact q
 frzs:=λb u xs q=>by rw [yH (wn q hn)]; exact q
 tbls:=λb ps q=>⟨#[],by rw [yH (wn q hn),q]; simp⟩
theorem Un.write (mu:X6 (H x)) (he:e=x\/H e=some (.own x)) (k:∀ b u,b≠e->h.get? b=some u->h'.get? b=some u) (heo:∃ u,h'.get? e=some u):Un fs ex H (zh H x o) h h':=by
 have hx:∀ b,H b=none->b≠x:=λb n z=>by subst z; rw [n] at mu; exact mu
 have hb:∀ b,H b=none->b≠e:=λb n z=>by
  subst z
  rcases he with r | r
  ·exact hx b n r
  ·rw [n] at r; cases r
 have hm:∀ b u,H b=some u->¬ X6 (some u)->b≠x:=λb u q nm z=>by subst z; rw [q] at mu; exact nm mu
 refine ⟨λb u q n _ _=>k b u (hb b n) q,λb u q n _ _=>⟨u.slots,k b u (hb b n) q⟩,λb u q n _=>by rw [yH (hx b n)]; exact n,λb u q _=>?_,
  λb xs q=>by rw [yH (hm b _ q λz=>z)]; exact q,λb u xs q=>by rw [yH (hm b _ q λz=>z)]; exact q,λb ps q=>⟨#[],by rw [yH (hm b _ q λz=>z),q]; simp⟩⟩
 by_cases hbe:b=e
 ·subst hbe; exact heo
 ·exact ⟨u,k b u hbe q⟩
end
def jR (h:Heap) (H:Hp):List Addr:=(df h.objs.size).filter λa=>(H a).isSome
def wI (h:Heap) (H:Hp):Heap:=PySem.W.hideAll h (jR h H)
theorem zLq (h:Heap) (H:Hp):(wI h H).objs.size=h.objs.size:=PySem.W.hideAll_size _ _
theorem zNq {h:Heap} {H:Hp} {b:Addr} {o:Obj} (e:h.get? b=some o) (n:H b=none):(wI h H).get? b=some o:=
 PySem.W.hideAll_get _ e λhm=>by
  have q:(H b).isSome=true:=(eL.mp hm).2
  rw [n] at q; simp at q
theorem zPz {h:Heap} {H:Hp} {b:Addr} {o:Obj} (e:(wI h H).get? b=some o):h.get? b=some o/\H b=none:=by
 have e':h.get? b=some o:=PySem.W.of_hideAll (jR h H) e
 refine ⟨e',?_⟩
 cases q:H b with
 | none=>rfl
 | some x=>
  have hm:b∈jR h H:=eL.mpr ⟨dH.mpr (cZ e'),by simp [q]⟩
  have z:(wI h H).get? b=none:=PySem.W.hideAll_none (jR h H) hm
  rw [z] at e; cases e
def zQh (g h:Heap) (L:Addr):List (Addr × Obj):=(df h.objs.size).filterMap λa=>if a=L\/(g.get? a).isSome=true then none else (h.get? a).map λo=>(a,o)
def yK (g h:Heap) (L d:Addr):List (Addr × Obj):=(zQh g h L).filter λp=>decide (p.1≠d)
end L2
namespace L2
open PySem PySem.Spec PyProof.Rows
structure Mod (K:cI) (mg:Str->Option Value) (base:Heap):Prop where
 kin:K.In base
 glob:base.Ns mainGlobals mg
 blt:∃ mb,base.Ns builtinsNs mb/\∀ x:Str,x≠"__name__"->mb x=bootBuiltins x
 nolimit:base.NoLimit
structure Cx where
 prog:Program
 w:World
 K:cI
 mg:Str->Option Value
 base:Heap
 A:Around
 N:List Str
 s₀:Shared
 H₀:Hp
 env:Env
 outer:List Env
 stack:List Env
 ex:List Addr
 fn:Str->Bool
 calm:Bool
 pn:List (Addr × Obj)
 xe:Value->Shared->Prop
def vS (l:List Env):List Addr:=l.filterMap (·.frame)
abbrev Cx.fs (X:Cx):List Addr:=vS X.outer
def qJ (sc:Scope) (x:Str):Prop:=sc.names.lookup x=some .local\/sc.names.lookup x=some .cell\/sc.names.lookup x=some .free
def uF (sc:Scope) (x:Str):Prop:=sc.names.lookup x=some .local\/sc.names.lookup x=some .cell
def UT (env:Env) (h:Heap) (m:Str->Option Value) (x:Str) (u:Value):Prop:=
 (env.kindOf x=some .local/\m x=some u)\/((env.kindOf x=some .cell\/env.kindOf x=some .free)/\∃ c,env.cells.lookup x=some c/\h.IsCell c (some u))
structure Cx.Ok (X:Cx):Prop where
 mod:Mod X.K X.mg X.base
 kind:X.env.scope.kind=.function
 glob:X.env.globals=mainGlobals
 blt:X.env.builtins=builtinsNs
 above:X.s₀.heap.objs.size<=X.env.locals
 inj:∀ x y c,X.env.cells.lookup x=some c->X.env.cells.lookup y=some c->x=y
 has:∀ x,(X.env.kindOf x=some .cell\/X.env.kindOf x=some .free)->∃ c,X.env.cells.lookup x=some c
 cab:∀ x c,X.fn x=true->X.env.cells.lookup x=some c->X.s₀.heap.objs.size<=c
 hd:X.calm=true->X.A.handled=none
 frames:X.A.frames=some X.stack
 stk:X.stack=X.outer\/(X.stack=X.env :: X.outer/\X.env.frame=some X.env.locals)
 exf:∀ b∈X.ex,b≠X.env.locals/\∀ x c,X.env.cells.lookup x=some c->c≠b
 bs:∀ b o,X.base.get? b=some o->X.s₀.heap.get? b=some o/\X.H₀ b=none
 bsz:X.base.objs.size<=X.s₀.heap.objs.size
 noex:∀ b o,X.base.get? b=some o->b∉X.ex
 exfs:∀ b∈X.ex,b∉X.fs
 funs:X.s₀.heap.FunFrames X.base X.outer
 frf:∀ b∈X.fs,X.H₀ b=none
structure zE (X:Cx) (pins:List (Addr × Obj)) (σ:List (Option V)) (H:Hp) (s:Shared):Prop where
 ok:X.Ok
 os:s.os=X.s₀.os
 bare:AllBare s.gens
 base:Un X.fs X.ex X.H₀ H X.s₀.heap s.heap
 loc:∃ m,s.heap.Ns X.env.locals m/\∀ (i:Nat) (x:Str) (v:V),X.N[i]? = some x->σ[i]? = some (some v)->qJ X.env.scope x->∃ u,zV v u/\UT X.env s.heap m x u
 cell:∀ x c,X.env.cells.lookup x=some c->∃ v,s.heap.IsCell c v
 free:H X.env.locals=none
 freeC:∀ x c,X.env.cells.lookup x=some c->H c=none
 pin:∀ p∈X.pn++pins,s.heap.get? p.1=some p.2/\H p.1=none/\p.1≠X.env.locals/\p.1∉X.fs/\∀ v,p.2.data≠.cell v
 hok:xc X.prog X.w H s.heap
 len:σ.length=X.N.length
section
variable {X:Cx} {pins:List (Addr × Obj)} {σ:List (Option V)} {H H':Hp} {s:Shared} {h':Heap}
theorem Cx.Ok.nofr (ok:X.Ok) {b:Addr} {o:Obj} (e:X.base.get? b=some o):b∉X.fs:=λhb=>by
 have:=(ok.funs.mem hb).1
 rw [e] at this; cases this
theorem zE.bs (I:zE X pins σ H s):∀ b o,X.base.get? b=some o->s.heap.get? b=some o/\H b=none:=λb o e=>
 ⟨I.base.keep b o (I.ok.bs b o e).1 (I.ok.bs b o e).2 (I.ok.nofr e) (I.ok.noex b o e),I.base.free b o (I.ok.bs b o e).1 (I.ok.bs b o e).2 (I.ok.noex b o e)⟩
theorem zE.bk (I:zE X pins σ H s):∀ b o,X.base.get? b=some o->s.heap.get? b=some o:=λb o e=>(I.bs b o e).1
theorem zE.mod (I:zE X pins σ H s):Mod X.K X.mg X.base:=I.ok.mod
theorem zE.kIn (I:zE X pins σ H s):X.K.In s.heap:=I.ok.mod.kin.keeps I.bk
theorem zE.lt (I:zE X pins σ H s):X.env.locals < s.heap.objs.size:=let ⟨_,hn,_⟩:=I.loc; hn.lt
theorem zE.sz (I:zE X pins σ H s):X.s₀.heap.objs.size<=s.heap.objs.size:=eA I.ok.above (iL I.lt)
theorem zE.nofs (I:zE X pins σ H s) {a:Addr} (h:s.heap.objs.size<=a):a∉X.fs:=λhb=>by
 obtain ⟨_,o,ho,_⟩:=I.ok.funs.mem hb
 exact absurd (dg (cZ ho) (eA I.sz h)) (dN _)
theorem zE.cne (I:zE X pins σ H s):∀ x c,X.env.cells.lookup x=some c->c≠X.env.locals:=λx c e z=>by
 obtain ⟨v,o,ho,hd⟩:=I.cell x c e
 obtain ⟨m,⟨o',es,ep,ho',hd',_⟩,_⟩:=I.loc
 rw [z,ho'] at ho; cases ho; rw [hd'] at hd; cases hd
theorem zE.funs (I:zE X pins σ H s):s.heap.FunFrames X.base X.outer:=by
 have all:∀ (l:List Env),(∀ b∈vS l,b∈X.fs)->X.s₀.heap.FunFrames X.base l->s.heap.FunFrames X.base l:=by
  intro l
  induction l with
  | nil=>intro _ _; trivial
  | cons env r ih=>
   intro hs hl
   obtain ⟨hk,⟨L,o,hf,hn,ho,hd⟩,hr⟩:=hl
   have hL:L∈X.fs:=hs L (by unfold vS; rw [iE,hf]; exact cO)
   obtain ⟨sl,e⟩:=I.base.slot L o ho (I.ok.frf L hL) hL λz=>I.ok.exfs L z hL
   exact ⟨hk,⟨L,_,hf,hn,e,hd⟩,ih (λb hb=>hs b (by unfold vS; rw [iE,hf]; exact cK _ hb)) hr⟩
 exact all X.outer (λ_ hb=>hb) I.ok.funs
theorem zE.stack (I:zE X pins σ H s):s.heap.FunFrames X.base X.stack:=by
 rcases I.ok.stk with e | ⟨e,hf⟩
 ·rw [e]; exact I.funs
 ·rw [e]
  obtain ⟨m,hn,_⟩:=I.loc
  refine .cons (by rw [I.ok.kind]; decide) hf hn ?_ I.funs
  exact Heap.get?_none_of_le (eA I.ok.bsz I.ok.above)
theorem zE.stkSub (I:zE X pins σ H s):∀ b∈vS X.stack,b∈X.env.locals :: X.fs:=λb hb=>by
 rcases I.ok.stk with e | ⟨e,hf⟩
 ·rw [e] at hb; exact cK _ hb
 ·rw [e] at hb
  unfold vS at hb
  rw [iE,hf] at hb
  exact hb
theorem zE.stkFree (I:zE X pins σ H s):∀ b∈vS X.stack,H b=none:=λb hb=>by
 rcases de.mp (I.stkSub b hb) with e | hb
 ·rw [e]; exact I.free
 ·obtain ⟨_,o,ho,_⟩:=I.ok.funs.mem hb
  exact I.base.free b o ho (I.ok.frf b hb) λz=>I.ok.exfs b z hb
theorem zE.step {g':Array GenState} {t':Nat} {d':Drawn} {ch:List Addr} (I:zE X pins σ H s)
  (hch:∀ b∈ch,(b∈X.ex\/X.s₀.heap.objs.size<=b)/\b≠X.env.locals/\(∀ x c,X.env.cells.lookup x=some c->c≠b)/\∀ p∈X.pn++pins,p.1≠b)
  (keep:∀ b o,b≠X.env.locals->b∉X.fs->b∉ch->s.heap.get? b=some o->H b=none->h'.get? b=some o)
  (slot:∀ b o,b≠X.env.locals->b∈X.fs->b∉ch->s.heap.get? b=some o->H b=none->∃ sl,h'.get? b=some { o with slots:=sl }) (free:∀ b o,b∉ch->s.heap.get? b=some o->H b=none->H' b=none)
  (there:∀ b o,b∉ch->s.heap.get? b=some o->∃ o',h'.get? b=some o')
  (tups:∀ b xs,H b=some (.tup xs)->H' b=some (.tup xs)) (frzs:∀ b o u,H b=some (.frz o u)->H' b=some (.frz o u)) (tbls:∀ b ps,H b=some (.tbl ps)->∃ more,H' b=some (.tbl (ps++more)))
  (ns:∀ m,s.heap.Ns X.env.locals m->h'.Ns X.env.locals m) (hok:xc X.prog X.w H' h') (hg:AllBare g') :
  zE X pins σ H' { s with heap:=h',gens:=g',drawn:=d',toks:=t' }:=by
 have neL:∀ b o,X.s₀.heap.get? b=some o->b≠X.env.locals:=λb o e=>dL (dg (cZ e) I.ok.above)
 have neC:∀ b o,X.s₀.heap.get? b=some o->b∉X.ex->b∉ch:=λb o e hx hb=>by
  rcases (hch b hb).1 with z | z
  ·exact hx z
  ·exact absurd (dg (cZ e) z) (dN _)
 have cellK:∀ x c,X.env.cells.lookup x=some c->∀ v,s.heap.IsCell c v->h'.IsCell c v:=λx c e v ⟨o,ho,hd⟩=>by
  have nch:c∉ch:=λz=>(hch c z).2.2.1 x c e rfl
  by_cases hc:c∈X.fs
  ·obtain ⟨sl,q⟩:=slot c o (I.cne x c e) hc nch ho (I.freeC x c e)
   exact ⟨_,q,hd⟩
  ·exact ⟨o,keep c o (I.cne x c e) hc nch ho (I.freeC x c e),hd⟩
 refine ⟨I.ok,I.os,hg,⟨λb o e n hb hx=>?_,λb o e n hb hx=>?_,λb o e n hx=>?_,λb o e hx=>?_,λb xs e=>tups b xs (I.base.tups b xs e),λb o xs e=>frzs b o xs (I.base.frzs b o xs e),λb ps e=>?_⟩,?_,λx c e=>?_,?_,λx c e=>?_,λp hp=>?_,hok,I.len⟩
 ·exact keep b o (neL b o e) hb (neC b o e hx) (I.base.keep b o e n hb hx) (I.base.free b o e n hx)
 ·obtain ⟨sl,e1⟩:=I.base.slot b o e n hb hx
  obtain ⟨sl',e2⟩:=slot b _ (neL b o e) hb (neC b o e hx) e1 (I.base.free b o e n hx)
  exact ⟨sl',e2⟩
 ·obtain ⟨o',e1⟩:=I.base.there b o e hx
  exact free b o' (neC b o e hx) e1 (I.base.free b o e n hx)
 ·obtain ⟨o',e1⟩:=I.base.there b o e hx
  exact there b o' (neC b o e hx) e1
 ·obtain ⟨m1,e1⟩:=I.base.tbls b ps e
  obtain ⟨m2,e2⟩:=tbls b _ e1
  exact ⟨m1++m2,by rw [e2,Array.append_assoc]⟩
 ·obtain ⟨m,hn,hl⟩:=I.loc
  refine ⟨m,ns m hn,λi x v e1 e2 e3=>?_⟩
  obtain ⟨u,r,l⟩:=hl i x v e1 e2 e3
  refine ⟨u,r,?_⟩
  rcases l with l | ⟨k,c,e,z⟩
  ·exact .inl l
  ·exact .inr ⟨k,c,e,cellK x c e _ z⟩
 ·obtain ⟨v,z⟩:=I.cell x c e
  exact ⟨v,cellK x c e v z⟩
 ·obtain ⟨m,⟨o,_,_,ho,_⟩,_⟩:=I.loc
  exact free _ o (λz=>(hch _ z).2.1 rfl) ho I.free
 ·obtain ⟨v,o,ho,hd⟩:=I.cell x c e
  exact free c o (λz=>(hch c z).2.2.1 x c e rfl) ho (I.freeC x c e)
 ·obtain ⟨e,n,ne,nf,d⟩:=I.pin p hp
  have nch:p.1∉ch:=λz=>(hch p.1 z).2.2.2 p hp rfl
  exact ⟨keep p.1 p.2 ne nf nch e n,free p.1 p.2 nch e n,ne,nf,d⟩
theorem zE.un {t':Nat} (I:zE X pins σ H s) (u:Un X.fs [] H H' s.heap h') (hok:xc X.prog X.w H' h'):zE X pins σ H' { s with heap:=h',toks:=t' }:=by
 obtain ⟨m,⟨o,es,ep,ho,r⟩,_⟩:=id I.loc
 obtain ⟨sl,hL⟩:=u.any ho I.free (by simp)
 exact I.step (g':=s.gens) (d':=s.drawn) (ch:=[]) (λ_ z=>nomatch z) (λb o _ hb _ e n=>u.keep b o e n hb (by simp)) (λb o _ hb _ e n=>u.slot b o e n hb (by simp)) (λb o _ e n=>u.free b o e n (by simp)) (λb o _ e=>u.there b o e (by simp)) u.tups u.frzs u.tbls (λm' hm=>by
  obtain ⟨o',es',ep',ho',r'⟩:=hm
  rw [ho] at ho'; cases ho'
  exact ⟨_,es',ep',hL,r'⟩) hok I.bare
theorem zE.call {g':Array GenState} {t':Nat} {d':Drawn} {ch:List Addr} (I:zE X pins σ H s) (u:Un (vS X.stack) ch H H' s.heap h') (hok:xc X.prog X.w H' h') (hg:AllBare g')
  (hch:∀ b∈ch,(b∈X.ex\/X.s₀.heap.objs.size<=b)/\b≠X.env.locals/\(∀ x c,X.env.cells.lookup x=some c->c≠b)/\∀ p∈X.pn++pins,p.1≠b) :
  zE X pins σ H' { s with heap:=h',gens:=g',drawn:=d',toks:=t' }:=by
 obtain ⟨m,⟨o,es,ep,ho,r⟩,_⟩:=id I.loc
 obtain ⟨sl,hL⟩:=u.any ho I.free λz=>(hch _ z).2.1 rfl
 exact I.step (ch:=ch) hch (λb o hL hb hc e n=>u.keep b o e n (λz=>(de.mp (I.stkSub b z)).elim hL hb) hc) (λb o _ _ hc e n=>u.any e n hc) (λb o hc e n=>u.free b o e n hc) (λb o hc e=>u.there b o e hc) u.tups u.frzs u.tbls (λm' hm=>by
  obtain ⟨o',es',ep',ho',r'⟩:=hm
  rw [ho] at ho'; cases ho'
  exact ⟨_,es',ep',hL,r'⟩) hok hg
theorem zE.turned {t':Nat} {it:Addr} (I:zE X pins σ H s) (k:∀ b o,b≠it->s.heap.get? b=some o->h'.get? b=some o) (hn:H it=none) (hL:it≠X.env.locals)
  (h1:it∈X.ex\/X.s₀.heap.objs.size<=it) (h2:∀ x c,X.env.cells.lookup x=some c->c≠it) (h3:∀ p∈X.pn++pins,p.1≠it):zE X pins σ H { s with heap:=h',toks:=t' }:=by
 have nit:∀ b u,H b=some u->b≠it:=λb u e z=>by rw [z,hn] at e; cases e
 refine I.step (g':=s.gens) (d':=s.drawn) (ch:=[it]) (λb hb=>?_) (λb o _ _ hc e _=>k b o (λz=>hc (by simp [z])) e) (λb o _ _ hc e _=>⟨o.slots,k b o (λz=>hc (by simp [z])) e⟩) (λ_ _ _ _ n=>n)
  (λb o hc e=>⟨o,k b o (λz=>hc (by simp [z])) e⟩) (λ_ _ e=>e) (λ_ _ _ e=>e) (λb ps e=>⟨#[],by rw [e]; simp⟩) (λm hm=>?_) (λb u e=>?_) I.bare
 ·have e:b=it:=by simpa using hb
  subst e
  exact ⟨h1,hL,h2,h3⟩
 ·obtain ⟨o,es,ep,ho,r⟩:=hm
  exact ⟨o,es,ep,k _ o (Ne.symm hL) ho,r⟩
 ·refine (I.hok b u e).stay (λc v hc q=>k c v ?_ q) (λ_ q=>q) λ_ _ q=>q
  rcases hc with z | z
  ·rw [z]; exact nit b u e
  ·exact nit c _ z
theorem zE.tok (I:zE X pins σ H s) (t:Nat):zE X pins σ H { s with toks:=t }:=I.un (h':=s.heap) (t':=t) Un.refl I.hok
theorem zE.kept {t':Nat} (I:zE X pins σ H s) (k:∀ b u,s.heap.get? b=some u->h'.get? b=some u):zE X pins σ H { s with heap:=h',toks:=t' }:=I.un (Un.kept k) (I.hok.kept k)
theorem zE.laid {a:Addr} {o:HO} {t':Nat} (I:zE X pins σ H s) (k:∀ b u,s.heap.get? b=some u->h'.get? b=some u) (hp:s.heap.objs.size<=a) (new:wO X.prog X.w (zh H a o) h' a o) :
  zE X pins σ (zh H a o) { s with heap:=h',toks:=t' }:=I.un (Un.laid k hp (I.hok.fresh hp)) (I.hok.laid k hp new)
theorem zE.write {x e:Addr} {o:HO} {t':Nat} (I:zE X pins σ H s) (mu:X6 (H x)) (he:e=x\/H e=some (.own x)) (k:∀ b u,b≠e->s.heap.get? b=some u->h'.get? b=some u) (heo:∃ u,h'.get? e=some u)
  (new:wO X.prog X.w (zh H x o) h' x o):zE X pins σ (zh H x o) { s with heap:=h',toks:=t' }:=I.un (Un.write mu he k heo) (I.hok.write mu he k heo new)
theorem zE.pins_of {pins':List (Addr × Obj)} (I:zE X pins σ H s) (h:∀ p∈pins',s.heap.get? p.1=some p.2/\H p.1=none/\p.1≠X.env.locals/\p.1∉X.fs/\∀ v,p.2.data≠.cell v):zE X pins' σ H s:=
 ⟨I.ok,I.os,I.bare,I.base,I.loc,I.cell,I.free,I.freeC,λp hp=>(dX.mp hp).elim (λz=>I.pin p (iC _ z)) (h p),I.hok,I.len⟩
theorem zJM {N:List Str} (hN:N.Nodup) {i j:Nat} {x:Str} (a:N[i]? = some x) (b:N[j]? = some x):i=j:=by
 obtain ⟨h1,e1⟩:=cT.mp a
 obtain ⟨h2,e2⟩:=cT.mp b
 exact (List.getElem_inj hN).mp (e1.trans e2.symm)
theorem zHP {M:Model} {A:Around} {E:Value->Shared->Prop} {i:Nat} {x:Str} {v:V} {u:Value} {Q:Unit->Shared->Prop} (I:zE X pins σ H s) (hN:X.N.Nodup) (hi:X.N[i]? = some x) (hx:uF X.env.scope x) (r:zV v u)
  (h:∀ s',zE X pins (σ.set i (some v)) H s'->(∃ a,Heap.SameBut a s.heap s'.heap/\(a=X.env.locals\/X.env.cells.lookup x=some a))->Q () s') (hf:X.fn x=true\/X.env.scope.names.lookup x=some .local:=by first | exact .inl rfl | exact .inr rfl | assumption):wpAny M A (storeName X.env x u) Q E s:=by
 obtain ⟨m,hn,hl⟩:=id I.loc
 have hcls:(X.env.scope.kind == .class || (X.env.scope.kind == .module && X.env.locals != X.env.globals))=false:=by rw [I.ok.kind]; rfl
 have hiσ:i < σ.length:=by rw [I.len]; exact (cT.mp hi).1
 have cne:=I.cne
 have tracked:∀ {a:Addr} {h':Heap},(∃ o,s.heap.get? a=some o/\H a=none)->Heap.SameBut a s.heap h'->xc X.prog X.w H h':=λ{a h'} ha hs b ob e=>by
  obtain ⟨_,_,hfree⟩:=ha
  refine (I.hok b ob e).stay (λc w' hc q=>(hs.2 c ?_).trans q) (λ_ q=>q) λ_ _ q=>q
  rintro rfl
  rcases hc with rfl | hc
  ·rw [hfree] at e; cases e
  ·rw [hfree] at hc; cases hc
 rcases hx with hk | hk
 ·refine wpAny_storeName_local hk hn (λh' hn' hs=>?_) hcls
  obtain ⟨oL,_,_,hoL,_⟩:=id hn
  refine h _ ⟨I.ok,I.os,I.bare,⟨λb o e n hb hx=>?_,λb o e n hb hx=>?_,I.base.free,λb o e hx=>?_,I.base.tups,I.base.frzs,I.base.tbls⟩,⟨_,hn',λj y v' e1 e2 e3=>?_⟩,λy c e=>?_,I.free,I.freeC,λp hp=>?_,tracked ⟨oL,hoL,I.free⟩ hs,by simpa using I.len⟩ ⟨_,hs,.inl rfl⟩
  ·exact (hs.2 b (dL (dg (cZ e) I.ok.above))).trans (I.base.keep b o e n hb hx)
  ·obtain ⟨sl,e1⟩:=I.base.slot b o e n hb hx
   exact ⟨sl,(hs.2 b (dL (dg (cZ e) I.ok.above))).trans e1⟩
  ·obtain ⟨o',e1⟩:=I.base.there b o e hx
   exact ⟨o',(hs.2 b (dL (dg (cZ e) I.ok.above))).trans e1⟩
  ·by_cases hj:j=i
   ·subst hj
    rw [hi] at e1; cases e1
    rw [fh hiσ] at e2
    cases e2
    exact ⟨u,r,.inl ⟨hk,by simp⟩⟩
   ·rw [d5 (Ne.symm hj)] at e2
    obtain ⟨u',r',q⟩:=hl j y v' e1 e2 e3
    refine ⟨u',r',?_⟩
    rcases q with ⟨k,e⟩ | ⟨k,c,e,z⟩
    ·refine .inl ⟨k,?_⟩
     have:y≠x:=λe=>hj (zJM hN e1 (e ▸ hi))
     simp [this,e]
    ·exact .inr ⟨k,c,e,z.sameBut hs (cne y c e)⟩
  ·obtain ⟨w',z⟩:=I.cell y c e
   exact ⟨w',z.sameBut hs (cne y c e)⟩
  ·obtain ⟨e,n,ne,nf,d⟩:=I.pin p hp
   exact ⟨(hs.2 p.1 ne).trans e,n,ne,nf,d⟩
 ·have hfn:X.fn x=true:=by
   rcases hf with z | z
   ·exact z
   ·rw [z] at hk; cases hk
  obtain ⟨c,hc⟩:=I.ok.has x (.inl hk)
  obtain ⟨w',z⟩:=I.cell x c hc
  refine wpAny_storeName_cell I.ok.kind hk hc z (λh' hc' hs=>?_)
  obtain ⟨oc,hoc,hocd⟩:=id z
  refine h { s with heap:=h' } ⟨I.ok,I.os,I.bare,⟨λb o e n hb hx=>?_,λb o e n hb hx=>?_,I.base.free,λb o e hx=>?_,I.base.tups,I.base.frzs,I.base.tbls⟩,⟨m,hn.sameBut hs (Ne.symm (cne x c hc)),λj y v' e1 e2 e3=>?_⟩,λy c' e=>?_,I.free,I.freeC,λp hp=>?_,tracked ⟨oc,hoc,I.freeC x c hc⟩ hs,by simpa using I.len⟩ ⟨c,hs,.inr hc⟩
  ·exact (hs.2 b (dL (dg (cZ e) (I.ok.cab x c hfn hc)))).trans (I.base.keep b o e n hb hx)
  ·obtain ⟨sl,e1⟩:=I.base.slot b o e n hb hx
   exact ⟨sl,(hs.2 b (dL (dg (cZ e) (I.ok.cab x c hfn hc)))).trans e1⟩
  ·obtain ⟨o',e1⟩:=I.base.there b o e hx
   exact ⟨o',(hs.2 b (dL (dg (cZ e) (I.ok.cab x c hfn hc)))).trans e1⟩
  ·by_cases hj:j=i
   ·subst hj
    rw [hi] at e1; cases e1
    rw [fh hiσ] at e2
    cases e2
    exact ⟨u,r,.inr ⟨.inl hk,c,hc,hc'⟩⟩
   ·rw [d5 (Ne.symm hj)] at e2
    obtain ⟨u',r',q⟩:=hl j y v' e1 e2 e3
    refine ⟨u',r',?_⟩
    rcases q with q | ⟨k,c',e,z'⟩
    ·exact .inl q
    ·refine .inr ⟨k,c',e,z'.sameBut hs ?_⟩
     rintro rfl
     exact hj (zJM hN e1 (I.ok.inj _ _ _ e hc ▸ hi))
  ·by_cases hcc:c'=c
   ·subst hcc; exact ⟨_,hc'⟩
   ·obtain ⟨w2,z2⟩:=I.cell y c' e
    exact ⟨w2,z2.sameBut hs hcc⟩
  ·obtain ⟨e,n,ne,nf,d⟩:=I.pin p hp
   refine ⟨(hs.2 p.1 ?_).trans e,n,ne,nf,d⟩
   intro q
   rw [q,hoc] at e
   have q':oc=p.2:=Option.some.inj e
   exact d w' (by rw [<- q']; exact hocd)
theorem X7 {M:Model} {A:Around} {E:Value->Shared->Prop} {i:Nat} {x:Str} {v:V} {u:Value} {Q:Unit->Shared->Prop} (I:zE X pins σ H s) (hN:X.N.Nodup) (hi:X.N[i]? = some x) (hx:uF X.env.scope x) (r:zV v u)
  (h:∀ s',zE X pins (σ.set i (some v)) H s'->Q () s') (hf:X.fn x=true\/X.env.scope.names.lookup x=some .local:=by first | exact .inl rfl | exact .inr rfl | assumption):wpAny M A (storeName X.env x u) Q E s:=
 zHP I hN hi hx r (λs' I' _=>h s' I') hf
theorem zE.call' {s':Shared} {ch:List Addr} (I:zE X pins σ H s) (ho:s'.os=s.os) (u:Un (vS X.stack) ch H H' s.heap s'.heap) (hok:xc X.prog X.w H' s'.heap) (hg:AllBare s'.gens)
  (hch:∀ b∈ch,(b∈X.ex\/X.s₀.heap.objs.size<=b)/\b≠X.env.locals/\(∀ x c,X.env.cells.lookup x=some c->c≠b)/\∀ p∈X.pn++pins,p.1≠b):zE X pins σ H' s':=by
 obtain ⟨h',g',d',t',o'⟩:=s'
 have e:o'=s.os:=ho
 subst e
 exact I.call (g':=g') (t':=t') (d':=d') u hok hg hch
end
abbrev XK:=Value->Option Addr->Hp->Prop
abbrev St:=List (Option V)
abbrev VK:=V->Hp->Prop
abbrev TE:=St->Hp->VK->Prop
abbrev TT:=St->Hp->(Bool->Hp->Prop)->Prop
abbrev TA:=St->Hp->(List V->Hp->Prop)->Prop
structure xn where
 nx:St->Hp->Prop
 rt:VK
 bk:St->Hp->Prop:=λ_ _=>False
 ct:St->Hp->Prop:=λ_ _=>False
abbrev TS:=xn->St->Hp->Prop
def EP (X:Cx) (pins:List (Addr × Obj)) (σ:St) (Q:VK) (u:Value) (s':Shared):Prop:=∃ v H',zE X pins σ H' s'/\zV v u/\Q v H'
def TP (X:Cx) (pins:List (Addr × Obj)) (σ:St) (Q:Bool->Hp->Prop) (b:Bool) (s':Shared):Prop:=∃ H',zE X pins σ H' s'/\Q b H'
def AP (X:Cx) (pins:List (Addr × Obj)) (σ:St) (Q:List V->Hp->Prop) (us:List Value) (s':Shared):Prop:=∃ vs H',zE X pins σ H' s'/\zM vs us/\Q vs H'
def SP (X:Cx) (pins:List (Addr × Obj)) (D:xn) (f:Flow) (s':Shared):Prop:=
 match f with
 | .next=>∃ σ' H',zE X pins σ' H' s'/\D.nx σ' H'
 | .brk=>∃ σ' H',zE X pins σ' H' s'/\D.bk σ' H'
 | .cont=>∃ σ' H',zE X pins σ' H' s'/\D.ct σ' H'
 | .ret u=>∃ v σ' H',zE X pins σ' H' s'/\zV v u/\D.rt v H'
def PE (X:Cx) (e:Expr) (t:TE):Prop:=
 ∀ (pins:List (Addr × Obj)) (s:Shared) (σ:St) (H:Hp) (Q:VK),zE X pins σ H s->t σ H Q->wpAny (model X.prog X.w) X.A (eval e X.env) (EP X pins σ Q) X.xe s
def PT (X:Cx) (e:Expr) (t:TT):Prop:=
 ∀ (pins:List (Addr × Obj)) (s:Shared) (σ:St) (H:Hp) (Q:Bool->Hp->Prop),zE X pins σ H s->t σ H Q->wpAny (model X.prog X.w) X.A (isTrue e X.env (eval e X.env)) (TP X pins σ Q) X.xe s
def PW (X:Cx) (e:Expr) (t:TT):Prop:=
 ∀ (whole:Sem Value) (pins:List (Addr × Obj)) (s:Shared) (σ:St) (H:Hp) (Q:Bool->Hp->Prop),zE X pins σ H s->t σ H Q->wpAny (model X.prog X.w) X.A (isTrue e X.env whole) (TP X pins σ Q) X.xe s
theorem PW.pt {X:Cx} {e:Expr} {t:TT} (h:PW X e t):PT X e t:=h _
def PA (X:Cx) (es:List Expr) (t:TA):Prop:=
 ∀ (pos:Pos) (pins:List (Addr × Obj)) (s:Shared) (σ:St) (H:Hp) (Q:List V->Hp->Prop),zE X pins σ H s->t σ H Q->wpAny (model X.prog X.w) X.A (spliced (backTo pos (starEach es X.env))) (AP X pins σ Q) X.xe s
def PS (X:Cx) (st:Stmt) (t:TS):Prop:=
 ∀ (pins:List (Addr × Obj)) (s:Shared) (σ:St) (H:Hp) (D:xn),zE X pins σ H s->t D σ H->wpAny (model X.prog X.w) X.A (exec st X.env) (SP X pins D) X.xe s
def xG (X:Cx) (st:List Stmt) (t:TS):Prop:=
 ∀ (pins:List (Addr × Obj)) (s:Shared) (σ:St) (H:Hp) (D:xn),zE X pins σ H s->t D σ H->wpAny (model X.prog X.w) X.A (execs st X.env) (SP X pins D) X.xe s
theorem zo {α:Type} {t:Sem α} {Q Q':α->Shared->Prop} {M:Model} {A:Around} {E:Value->Shared->Prop} {s:Shared} (h:wpAny M A t Q E s) (hQ:∀ a s,Q a s->Q' a s):wpAny M A t Q' E s:=wpAny_mono h hQ λ_ _ x=>x
end L2
namespace L2
open PySem PySem.Spec PyProof.Rows
section
variable {X:Cx}
def jj (i:Nat):TE:=λσ H Q=>∃ v,σ[i]? = some (some v)/\Q v H
def tC (v:V):TE:=λ_ H Q=>Q v H
theorem UU {i:Nat} {x:Str} {pos:Pos} (hN:X.N[i]? = some x) (hv:qJ X.env.scope x) (hd:(x == ("__debug__" : Str))=false:=by decide) (hcd:(x == ("__classdict__" : Str))=false:=by decide):PE X (.Name x pos) (jj i):=by
 intro pins s σ H Q I h
 obtain ⟨v,e,h⟩:=h
 obtain ⟨m,hn,hl⟩:=I.loc
 obtain ⟨u,r,l⟩:=hl i x v hN e hv
 have fin:EP X pins σ Q u s:=⟨v,H,I,r,h⟩
 rcases l with ⟨hk,hm⟩ | ⟨hk,c,hc,hcell⟩
 ·exact wpAny_Name (wpAny_loadName_local I.ok.kind hk hn hm fin) hd
 ·rcases hk with hk | hk
  ·exact wpAny_Name (wpAny_loadName_cell I.ok.kind hk hc hcell fin) hd
  ·exact wpAny_Name (wpAny_loadName_free I.ok.kind hk hc hcell fin hcd) hd
theorem zOZ {i j pos}:PE X (.Constant (.int i) j pos) (tC (.int i)):=λ_ _ _ H _ I h=>wpAny_Constant_int ⟨.int i,H,I.tok _,⟨_,rfl⟩,h⟩
theorem ZH {b j pos}:PE X (.Constant (.bool b) j pos) (tC (.bl b)):=λ_ _ _ H _ I h=>Constant_bool ⟨.bl b,H,I,rfl,h⟩
theorem zOX {j pos}:PE X (.Constant .none j pos) (tC .non):=λ_ _ _ H _ I h=>Constant_none ⟨.non,H,I,rfl,h⟩
theorem zRf {x j pos}:PE X (.Constant (.str x) j pos) (tC (.str x)):=λ_ _ _ H _ I h=>Calls.Constant_str ⟨.str x,H,I.tok _,⟨_,rfl⟩,h⟩
def Gl (X:Cx) (x:Str):Prop:=X.env.kindOf x=some .globalImplicit
theorem UV {E:Value->Shared->Prop} {pins:List (Addr × Obj)} {s:Shared} {σ:St} {H:Hp} {x:Str} {u:Value} {pos:Pos} {Q:Value->Shared->Prop} (I:zE X pins σ H s) (hg:Gl X x) (hm:X.mg x=some u) (h:Q u s)
  (hd:(x == ("__debug__" : Str))=false:=by decide):wpAny (model X.prog X.w) X.A (eval (.Name x pos) X.env) Q E s:=
 Calls.Name_function_global I.ok.kind hg (Calls.loadGlobal_global (by rw [I.ok.glob]; exact I.mod.glob.keeps I.bk) hm h) hd
theorem qK {E:Value->Shared->Prop} {pins:List (Addr × Obj)} {s:Shared} {σ:St} {H:Hp} {x:Str} {u:Value} {pos:Pos} {Q:Value->Shared->Prop} (I:zE X pins σ H s) (hg:Gl X x) (hm:X.mg x=none) (hv:bootBuiltins x=some u) (h:Q u s)
  (hn:x≠"__name__":=by decide) (hd:(x == ("__debug__" : Str))=false:=by decide):wpAny (model X.prog X.w) X.A (eval (.Name x pos) X.env) Q E s:=by
 obtain ⟨mb,h1,h2⟩:=I.mod.blt
 exact Calls.Name_function_global I.ok.kind hg (Calls.loadGlobal_builtin (by rw [I.ok.glob]; exact I.mod.glob.keeps I.bk) hm (by rw [I.ok.blt]; exact h1.keeps I.bk) ((h2 x hn).trans hv) h) hd
theorem zLA {x:Str} {v:V} {u:Value} {pos:Pos} (hg:Gl X x) (hm:X.mg x=some u) (r:zV v u) (hd:(x == ("__debug__" : Str))=false:=by decide):PE X (.Name x pos) (tC v):=
 λ_ _ _ H _ I h=>UV I hg hm ⟨v,H,I,r,h⟩ hd
theorem vx {x:Str} {v:V} {u:Value} {pos:Pos} (hg:Gl X x) (hm:X.mg x=none) (hv:bootBuiltins x=some u) (r:zV v u) (hn:x≠"__name__":=by decide) (hd:(x == ("__debug__" : Str))=false:=by decide):PE X (.Name x pos) (tC v):=
 λ_ _ _ H _ I h=>qK I hg hm hv ⟨v,H,I,r,h⟩ hn hd
variable {a b:Expr} {ta tb:TE} {pos:Pos}
def tB (t:TE):TT:=λσ H Q=>t σ H λx H1=>∃ c,x=.bl c/\Q c H1
theorem zRT {e:Expr} {t:TE} (h:PE X e t) (he:∀ whole,isTrue e X.env whole=(do let v <- whole; standAt e.pos; holding [v] (truthy v)):=by intro _; rfl):PT X e (tB t):=by
 intro pins s σ H Q I hw
 refine isTrue_plain (zo (h pins s σ H _ I hw) λv s1 ⟨x,H1,I1,r1,q1⟩=>?_) (he _)
 obtain ⟨d,rfl,q⟩:=q1
 cases r1
 exact wpAny_truthy_bool ⟨H1,I1,q⟩
variable {tA tB':TT} {yK:List Expr}
def UW (t u:TT):TT:=λσ H Q=>t σ H λc H1=>if c=true then u σ H1 Q else Q false H1
def tOr (t u:TT):TT:=λσ H Q=>t σ H λc H1=>if c=true then Q true H1 else u σ H1 Q
def UX (t:TT):TT:=λσ H Q=>t σ H λc H1=>Q (!c) H1
theorem zPM (ha:PT X a tA):PW X (.BoolOp .And [a] pos) tA:=by
 intro wh pins s σ H Q I h
 refine isTrue_and (zo (ha pins s σ H Q I h) λc s1 e=>?_)
 cases c with
 | true=>exact isTrue_and_nil e
 | false=>exact e
theorem zRK (ha:PT X a tA):PW X (.BoolOp .Or [a] pos) tA:=by
 intro wh pins s σ H Q I h
 refine isTrue_or (zo (ha pins s σ H Q I h) λc s1 e=>?_)
 cases c with
 | false=>exact isTrue_or_nil e
 | true=>exact e
theorem zRL (ha:PT X a tA) (hb:PW X (.BoolOp .And (b :: yK) pos) tB'):PW X (.BoolOp .And (a :: b :: yK) pos) (UW tA tB'):=by
 intro wh pins s σ H Q I h
 refine isTrue_and (zo (ha pins s σ H _ I h) λc s1 ⟨H1,I1,q1⟩=>?_)
 cases c with
 | true=>exact hb wh pins s1 σ H1 Q I1 q1
 | false=>exact ⟨H1,I1,q1⟩
theorem ZI (ha:PT X a tA) (hb:PW X (.BoolOp .Or (b :: yK) pos) tB'):PW X (.BoolOp .Or (a :: b :: yK) pos) (tOr tA tB'):=by
 intro wh pins s σ H Q I h
 refine isTrue_or (zo (ha pins s σ H _ I h) λc s1 ⟨H1,I1,q1⟩=>?_)
 cases c with
 | true=>exact ⟨H1,I1,q1⟩
 | false=>exact hb wh pins s1 σ H1 Q I1 q1
theorem zRU (ha:PT X a tA):PT X (.UnaryOp .Not a pos) (UX tA):=by
 intro pins s σ H Q I h
 exact isTrue_not (ha pins s σ H (λc H1=>Q (!c) H1) I h)
def ZJ (ta tb:TE):TE:=λσ H Q=>ta σ H λx H1=>∃ c,x=.bl c/\if c=true then tb σ H1 Q else Q (.bl false) H1
def UY (ta tb:TE):TE:=λσ H Q=>ta σ H λx H1=>∃ c,x=.bl c/\if c=true then Q (.bl true) H1 else tb σ H1 Q
def ZK (ta:TE):TE:=λσ H Q=>ta σ H λx H1=>∃ c,x=.bl c/\Q (.bl (!c)) H1
theorem zRg {op} {t:TE} (h:PE X a t):PE X (.BoolOp op [a] pos) t:=λpins s σ H Q I hw=>BoolOp_one (h pins s σ H Q I hw)
theorem zRk (ha:PE X a ta) (hb:PE X (.BoolOp .And (b :: yK) pos) tb):PE X (.BoolOp .And (a :: b :: yK) pos) (ZJ ta tb):=by
 intro pins s σ H Q I h
 refine BoolOp_and (zo (ha pins s σ H _ I h) λv s1 ⟨x,H1,I1,r1,q1⟩=>?_)
 obtain ⟨c,rfl,q1⟩:=q1
 cases r1
 refine wpAny_truthy_bool ?_
 cases c with
 | true=>exact hb pins s1 σ H1 Q I1 q1
 | false=>exact ⟨.bl false,H1,I1,rfl,q1⟩
theorem ZM (ha:PE X a ta) (hb:PE X (.BoolOp .Or (b :: yK) pos) tb):PE X (.BoolOp .Or (a :: b :: yK) pos) (UY ta tb):=by
 intro pins s σ H Q I h
 refine BoolOp_or (zo (ha pins s σ H _ I h) λv s1 ⟨x,H1,I1,r1,q1⟩=>?_)
 obtain ⟨c,rfl,q1⟩:=q1
 cases r1
 refine wpAny_truthy_bool ?_
 cases c with
 | false=>exact hb pins s1 σ H1 Q I1 q1
 | true=>exact ⟨.bl true,H1,I1,rfl,q1⟩
theorem zRh (ha:PE X a ta):PE X (.UnaryOp .Not a pos) (ZK ta):=by
 intro pins s σ H Q I h
 refine UnaryOp_ (zo (ha pins s σ H _ I h) λv s1 ⟨x,H1,I1,r1,q1⟩=>?_)
 obtain ⟨c,rfl,q1⟩:=q1
 cases r1
 exact not_of (wpAny_truthy_bool ⟨.bl (!c),H1,I1,rfl,q1⟩)
def tIf (t:TT) (ta tb:TE):TE:=λσ H Q=>t σ H λc H1=>if c=true then ta σ H1 Q else tb σ H1 Q
theorem zNK {c:Expr} (hc:PT X c tA) (ha:PE X a ta) (hb:PE X b tb):PE X (.IfExp c a b pos) (tIf tA ta tb):=by
 intro pins s σ H Q I h
 refine wpAny_IfExp (zo (hc pins s σ H _ I h) λd s1 ⟨H1,I1,q1⟩=>?_)
 cases d with
 | true=>exact ha pins s1 σ H1 Q I1 q1
 | false=>exact hb pins s1 σ H1 Q I1 q1
end
end L2
namespace L2
open PySem PySem.Spec PyProof.Rows
def zp (K:cI) (H:Hp) (a:Addr) (xs:List V):Prop:=
 Rd H a (.lst xs)∨
  ∃ (o:Obj) (its:Array Value) (n:Nat),K.lookup a=some o/\o.cls=.type "list"/\o.dict=none/\o.data=.seq its n/\its.size<=sizeLine/\zM xs its.toList
def yj (K:cI) (H:Hp) (a:Addr) (xs:List V):Prop:=
 Rd H a (.tup xs)∨
  ∃ (o:Obj) (its:Array Value) (n:Nat),K.lookup a=some o/\o.cls=.type "tuple"/\o.data=.seq its n/\its.size<=sizeLine/\zM xs its.toList
def UZ:Value->Option V
 | .none=>some .non
 | .bool b=>some (.bl b)
 | .int i _=>some (.int i)
 | .str x _=>some (.str x)
 | .bytes b _=>some (.byt b)
 | .float b _=>some (.flt b)
 | .ref a=>some (.ref a)
 | .type n=>some (.ty n)
 | _=>none
theorem zV.abs {x:V} {u:Value} (r:zV x u):UZ u=some x:=by
 cases x with
 | non=>cases r; rfl
 | bl _=>cases r; rfl
 | int _=>obtain ⟨t,rfl⟩:=r; rfl
 | str _=>obtain ⟨t,rfl⟩:=r; rfl
 | byt _=>obtain ⟨t,rfl⟩:=r; rfl
 | flt _=>obtain ⟨t,rfl⟩:=r; rfl
 | ref _=>cases r; rfl
 | ty _=>cases r; rfl
theorem zV.inj {x y:V} {u:Value} (r:zV x u) (q:zV y u):x=y:=Option.some.inj (r.abs.symm.trans q.abs)
theorem zM.inj:∀ {xs ys:List V} {us:List Value},zM xs us->zM ys us->xs=ys
 | _,_,_,.nil,.nil=>rfl
 | _,_,_,.cons r t,.cons r' t'=>by rw [r.inj r',zM.inj t t']
section
variable {X:Cx} {pins:List (Addr × Obj)} {σ:St} {H:Hp} {s:Shared} {a:Addr} {xs ys:List V}
theorem zp.of {K:cI} (h:H a=some (.lst xs)):zp K H a xs:=.inl (.inl h)
theorem yj.of {K:cI} (h:H a=some (.tup xs)):yj K H a xs:=.inl (.inl h)
theorem zE.list (I:zE X pins σ H s) (h:zp X.K H a xs):∃ its:List Value,zM xs its/\PlainL s.heap a its.toArray/\xs.length<=sizeLine:=by
 rcases h with h | ⟨o,its,n,hk,hc,hd,hs,hz,r⟩
 ·obtain ⟨z,its,n,r,e⟩:=h.ok I.hok
  exact ⟨its,r,⟨_,n,e,rfl,rfl,rfl⟩,z⟩
 ·refine ⟨its.toList,r,⟨o,n,I.kIn a o hk,hc,hd,by simpa using hs⟩,?_⟩
  have e:=r.length
  simp only [eV] at e
  omega
theorem zE.tuple (I:zE X pins σ H s) (h:yj X.K H a xs):∃ its:List Value,zM xs its/\IsTup s.heap a its.toArray/\xs.length<=sizeLine:=by
 rcases h with h | ⟨o,its,n,hk,hc,hs,hz,r⟩
 ·obtain ⟨z,its,r,p⟩:=h.ok I.hok
  exact ⟨its,r,p,z⟩
 ·refine ⟨its.toList,r,⟨o,I.kIn a o hk,hc,n,by simpa using hs⟩,?_⟩
  have e:=r.length
  simp only [eV] at e
  omega
theorem zE.list_inj (I:zE X pins σ H s) (h:zp X.K H a xs) (h':zp X.K H a ys):xs=ys:=by
 obtain ⟨its,r,⟨o,n,e,_,_,d⟩,_⟩:=I.list h
 obtain ⟨its',r',⟨o',n',e',_,_,d'⟩,_⟩:=I.list h'
 rw [e] at e'; cases e'
 rw [d] at d'
 injection d' with d1 _
 have:its=its':=by simpa using congrArg nK d1
 subst this
 exact r.inj r'
theorem zE.tuple_inj (I:zE X pins σ H s) (h:yj X.K H a xs) (h':yj X.K H a ys):xs=ys:=by
 obtain ⟨its,r,⟨o,e,_,n,d⟩,_⟩:=I.tuple h
 obtain ⟨its',r',⟨o',e',_,n',d'⟩,_⟩:=I.tuple h'
 rw [e] at e'; cases e'
 rw [d] at d'
 injection d' with d1 _
 have:its=its':=by simpa using congrArg nK d1
 subst this
 exact r.inj r'
end
abbrev Cx.wish (X:Cx) (E:Value->Shared->Prop):Cx:={ X with xe:=E }
abbrev Cx.nox (X:Cx):Cx:=X.wish λ_ _=>False
theorem Cx.Ok.wish {X:Cx} (ok:X.Ok) (E:Value->Shared->Prop):(X.wish E).Ok:=
 ⟨ok.mod,ok.kind,ok.glob,ok.blt,ok.above,ok.inj,ok.has,ok.cab,ok.hd,ok.frames,ok.stk,ok.exf,ok.bs,ok.bsz,ok.noex,ok.exfs,ok.funs,ok.frf⟩
theorem Cx.Ok.unwish {X:Cx} {E:Value->Shared->Prop} (ok:(X.wish E).Ok):X.Ok:=
 ⟨ok.mod,ok.kind,ok.glob,ok.blt,ok.above,ok.inj,ok.has,ok.cab,ok.hd,ok.frames,ok.stk,ok.exf,ok.bs,ok.bsz,ok.noex,ok.exfs,ok.funs,ok.frf⟩
section
variable {X:Cx} {pins:List (Addr × Obj)} {σ:St} {H:Hp} {s:Shared} {E:Value->Shared->Prop}
theorem zE.wish (I:zE X pins σ H s) (E:Value->Shared->Prop):zE (X.wish E) pins σ H s:=⟨I.ok.wish E,I.os,I.bare,I.base,I.loc,I.cell,I.free,I.freeC,I.pin,I.hok,I.len⟩
theorem zE.unwish (I:zE (X.wish E) pins σ H s):zE X pins σ H s:=⟨I.ok.unwish,I.os,I.bare,I.base,I.loc,I.cell,I.free,I.freeC,I.pin,I.hok,I.len⟩
theorem SP.unwish {D:xn} {f:Flow} {s':Shared} (h:SP (X.wish E) pins D f s'):SP X pins D f s':=by
 cases f with
 | next=>obtain ⟨σ',H',I,q⟩:=h; exact ⟨σ',H',I.unwish,q⟩
 | brk=>obtain ⟨σ',H',I,q⟩:=h; exact ⟨σ',H',I.unwish,q⟩
 | cont=>obtain ⟨σ',H',I,q⟩:=h; exact ⟨σ',H',I.unwish,q⟩
 | ret u=>obtain ⟨v,σ',H',I,r,q⟩:=h; exact ⟨v,σ',H',I.unwish,r,q⟩
theorem xG.nox {st:List Stmt} {t:TS} (h:xG X.nox st t):xG X st t:=λpins s σ H D I hw=>
 wpAny_mono (h pins s σ H D (I.wish _) hw) (λ_ _ q=>q.unwish) λ_ _ z=>False.elim z
end
section
variable {X:Cx} {st:Stmt} {yK:List Stmt} {t u:TS} {e:Expr} {te:TE} {pos:Pos}
def ZN:TS:=λD σ H=>D.nx σ H
def Ua (t u:TS):TS:=λD σ H=>t { D with nx:=u D } σ H
theorem zPV:xG X [] ZN:=λ_ _ σ H _ I h=>wpAny_execs_nil ⟨σ,H,I,h⟩
theorem Ub (h1:PS X st t) (h2:xG X yK u):xG X (st :: yK) (Ua t u):=by
 intro pins s σ H D I h
 refine wpAny_execs_cons (zo (h1 pins s σ H { D with nx:=u D } I h) λf s1 q=>?_)
 cases f with
 | next=>
  obtain ⟨σ',H',I',q⟩:=q
  exact h2 pins s1 σ' H' D I' q
 | ret v=>exact q
 | brk=>exact q
 | cont=>exact q
theorem Uc (h1:PS X st t):xG X [st] t:=by
 intro pins s σ H D I h
 refine wpAny_execs_cons (zo (h1 pins s σ H D I h) λf s1 q=>?_)
 cases f with
 | next=>exact wpAny_execs_nil q
 | ret v=>exact q
 | brk=>exact q
 | cont=>exact q
def zQ3:TS:=λD σ H=>D.bk σ H
theorem zNE:PS X (.Break pos) zQ3:=λ_ _ σ H _ I h=>wpAny_Break ⟨σ,H,I,h⟩
theorem zE.quiet {pins:List (Addr × Obj)} {σ:St} {H:Hp} {s:Shared} (I:zE X pins σ H s):interactive X.env=false:=by simp [interactive,I.ok.kind]
def Ud (te:TE):TS:=λD σ H=>te σ H λ_ H1=>D.nx σ H1
theorem wV (he:PE X e te) (hs:swapsWith e none pos.line X.env=pure false:=by rfl):PS X (.Expr e pos) (Ud te):=by
 intro pins s σ H D I h
 exact wpAny_Expr_any (zo (he pins s σ H _ I h) λv s1 ⟨x,H1,I1,r1,q1⟩=>⟨σ,H1,I1,q1⟩) I.quiet hs
def Ue (te:TE):TS:=λD σ H=>te σ H D.rt
theorem zOW (he:PE X e te):PS X (.Return (some e) pos) (Ue te):=by
 intro pins s σ H D I h
 exact wpAny_Return_some (zo (he pins s σ H _ I h) λv s1 ⟨x,H1,I1,r1,q1⟩=>⟨x,σ,H1,I1,r1,q1⟩)
def Uf (c:TT) (t u:TS):TS:=λD σ H=>c σ H λb H1=>if b=true then t D σ H1 else u D σ H1
theorem ZO {c:Expr} {a b:List Stmt} {tc:TT} (hc:PT X c tc) (ha:xG X a t) (hb:xG X b u):PS X (.If c a b pos) (Uf tc t u):=by
 intro pins s σ H D I h
 refine wpAny_If (zo (hc pins s σ H _ I h) λd s1 ⟨H1,I1,q1⟩=>?_)
 cases d with
 | true=>exact ha pins s1 σ H1 D I1 q1
 | false=>exact hb pins s1 σ H1 D I1 q1
def zQ1:TS:=λ_ _ _=>False
theorem zND:PS X st zQ1:=λ_ _ _ _ _ _ h=>h.elim
end
abbrev TG:=V->St->Hp->(St->Hp->Prop)->Prop
abbrev jk:=List V->St->Hp->(St->Hp->Prop)->Prop
def PG (X:Cx) (target:Expr) (t:TG):Prop:=
 ∀ (pins:List (Addr × Obj)) (s:Shared) (σ:St) (H:Hp) (v:V) (u:Value) (Q:St->Hp->Prop),zE X pins σ H s->zV v u->t v σ H Q->
  wpAny (model X.prog X.w) X.A (assign target X.env u) (λ_ s'=>∃ σ' H',zE X pins σ' H' s'/\Q σ' H') X.xe s
def kK (X:Cx) (ts:List Expr) (t:jk):Prop:=
 ∀ (pins:List (Addr × Obj)) (s:Shared) (σ:St) (H:Hp) (vs:List V) (us:List Value) (Q:St->Hp->Prop),zE X pins σ H s->zM vs us->t vs σ H Q->
  wpAny (model X.prog X.w) X.A (assignInOrder ((assignEach ts X.env).map (·.2)) us) (λ_ s'=>∃ σ' H',zE X pins σ' H' s'/\Q σ' H') X.xe s
abbrev qp:=V->V->V->Hp->(Hp->Prop)->Prop
def qr (X:Cx) (t:qp):Prop:=
 ∀ (pins:List (Addr × Obj)) (s:Shared) (σ:St) (H:Hp) (o i v:V) (ov iv u:Value) (Q:Hp->Prop),zE X pins σ H s->zV o ov->zV i iv->zV v u->t o i v H Q->
  wpAny (model X.prog X.w) X.A (setItem ov iv u) (λ_ s'=>∃ H',zE X pins σ H' s'/\Q H') X.xe s
section
variable {X:Cx} {pos:Pos}
def X8 (i:Nat):TG:=λv σ H Q=>Q (σ.set i (some v)) H
theorem zK6 {i:Nat} {x:Str} (hN:X.N.Nodup) (hi:X.N[i]? = some x) (hx:uF X.env.scope x) (hf:X.fn x=true\/X.env.scope.names.lookup x=some .local:=by first | exact .inl rfl | exact .inr rfl | assumption):PG X (.Name x pos) (X8 i):=by
 intro pins s σ H v u Q I r h
 exact wpAny_assign_Name (X7 I hN hi hx r (λs' I'=>⟨_,H,I',h⟩) hf)
def Ug:jk:=λvs σ H Q=>vs=[]/\Q σ H
def ZP (t:TG) (u:jk):jk:=λvs σ H Q=>∃ v r,vs=v :: r/\t v σ H λσ' H'=>u r σ' H' Q
theorem zPb:kK X [] Ug:=by
 intro pins s σ H vs us Q I r h
 obtain ⟨e,h⟩:=h
 subst e
 cases r
 exact assignInOrder_nil ⟨σ,H,I,h⟩
theorem zNH {e:Expr} {es:List Expr} {t:TG} {u:jk} (h1:PG X e t) (h2:kK X es u)
  (hs:(assignEach (e :: es) X.env).map (·.2)=assign e X.env :: (assignEach es X.env).map (·.2):=by rfl):kK X (e :: es) (ZP t u):=by
 intro pins s σ H vs us Q I r h
 obtain ⟨v,vr,e1,h⟩:=h
 subst e1
 cases r with
 | cons r rr=>
  rw [hs]
  refine assignInOrder_cons (zo (h1 pins s σ H _ _ _ I r h) λ_ s1 ⟨σ1,H1,I1,q1⟩=>?_)
  exact h2 pins s1 σ1 H1 _ _ Q I1 rr q1
def Uh (K:cI) (n:Nat) (t:jk):TG:=λv σ H Q=>∃ a xs,v=.ref a/\yj K H a xs/\xs.length=n/\t xs σ H Q
theorem zRc {es:List Expr} {k:Nat} {t:jk} {n:Nat} (hc:X.calm=true) (h:kK X es t)
  (hn:(assignEach es X.env).length=n:=by rfl) (hst:(assignEach es X.env).findIdx? (·.1)=none:=by rfl):PG X (.Tuple es k pos) (Uh X.K n t):=by
 intro pins s σ H v u Q I r hw
 obtain ⟨a,xs,e1,hq,hl,hw⟩:=hw
 subst e1
 cases r
 obtain ⟨its,rv,ht,hz⟩:=I.tuple hq
 refine assign_Tuple_tuple (I.ok.hd hc) ht (by simp [hn,<- hl,rv.length]) hst λh' hx=>?_
 have I1:zE X pins σ H { s with heap:=h' }:=I.kept (t':=s.toks) λb o e=>hx b o (dL (cZ e)) e
 exact h pins _ σ H xs _ Q I1 (by simpa using rv) hw
def ZQ (to ti:TE) (t:qp):TG:=λv σ H Q=>to σ H λo H1=>ti σ H1 λi H2=>t o i v H2 λH3=>Q σ H3
theorem Ui {o i:Expr} {to ti:TE} {t:qp} (ho:PE X o to) (hi:PE X i ti) (hs:qr X t)
  (ha:∀ v,assign (.Subscript o i pos) X.env v=(do
   let ov <- holding [v] (eval o X.env)
   let iv <- holding [v,ov] (eval i X.env)
   standAt pos
   holding [v,ov,iv] (setItem ov iv v)
   release [v,ov,iv] []):=by intro _; rfl):PG X (.Subscript o i pos) (ZQ to ti t):=by
 intro pins s σ H v u Q I r h
 rw [ha]
 refine wpAny_bind (wpAny_holding (zo (ho pins s σ H _ I h) λov s1 ⟨x,H1,I1,r1,q1⟩=>?_))
 refine wpAny_bind (wpAny_holding (zo (hi pins s1 σ H1 _ I1 q1) λiv s2 ⟨y,H2,I2,r2,q2⟩=>?_))
 refine wpAny_bind (wpAny_standAt (wpAny_bind (wpAny_holding (zo (hs pins s2 σ H2 x y v ov iv u _ I2 r1 r2 r q2) λ_ s3 ⟨H3,I3,q3⟩=>?_))))
 exact wpAny_release ⟨σ,H3,I3,q3⟩
def ux (te:TE) (g:TG):TS:=λD σ H=>te σ H λx H1=>g x σ H1 D.nx
theorem X9 {tg e:Expr} {te:TE} {g:TG} (he:PE X e te) (hg:PG X tg g) (hs:swapsWithSole [tg] e pos.line X.env=pure false:=by rfl) (hw:swappedStores [tg] e X.env=pure none:=by rfl)
  (h1:(assignEach [tg] X.env).map (·.2)=[assign tg X.env]:=by rfl):PS X (.Assign [tg] e pos) (ux te g):=by
 intro pins s σ H D I h
 refine wpAny_Assign_stores (zo (he pins s σ H _ I h) λv s1 ⟨x,H1,I1,r1,q1⟩=>?_) hs hw
 rw [h1]
 exact zo (hg pins s1 σ H1 x v _ I1 r1 q1) λ_ s2 q=>q
theorem WA {i:Nat} {x:Str} {e:Expr} {te:TE} {pos':Pos} (hN:X.N.Nodup) (hi:X.N[i]? = some x) (hx:uF X.env.scope x) (he:PE X e te) (hs:swapsWith e (some (.Name x pos')) pos.line X.env=pure false:=by rfl) (hf:X.fn x=true\/X.env.scope.names.lookup x=some .local:=by first | exact .inl rfl | exact .inr rfl | assumption) :
  PS X (.Assign [.Name x pos'] e pos) (ux te (X8 i)):=by
 intro pins s σ H D I h
 refine wpAny_Assign_Name (zo (he pins s σ H _ I h) λv s1 ⟨y,H1,I1,r1,q1⟩=>?_) hs
 exact X7 I1 hN hi hx r1 (λs2 I2=>⟨_,H1,I2,q1⟩) hf
def Uj (i j:Nat) (ta:TA):TS:=λD σ H=>ta σ H λvs H1=>∃ v w,vs=[v,w]/\D.nx ((σ.set i (some v)).set j (some w)) H1
theorem zRV {i j:Nat} {x y:Str} {a b:Expr} {ta:TA} {px py pt:Pos} {kt k2 pt2} (hc:X.calm=true) (hN:X.N.Nodup) (hi:X.N[i]? = some x) (hj:X.N[j]? = some y) (hij:i≠j)
  (hx:X.env.scope.names.lookup x=some .local) (hy:X.env.scope.names.lookup y=some .local) (ha:PA X [a,b] ta)
  (hw:swappedStores [.Tuple [.Name x px,.Name y py] kt pt] (.Tuple [a,b] k2 pt2) X.env=pure (some [x,y]))
  (hs:swapsWithSole [.Tuple [.Name x px,.Name y py] kt pt] (.Tuple [a,b] k2 pt2) pos.line X.env=pure false:=by rfl) :
  PS X (.Assign [.Tuple [.Name x px,.Name y py] kt pt] (.Tuple [a,b] k2 pt2) pos) (Uj i j ta):=by
 intro pins s σ H D I h
 rw [exec_Assign_arm]
 refine wpAny_bind (wpAny_standAt ?_)
 rw [hs]
 refine wpAny_bind (wpAny_pure ?_)
 rw [if_neg (by decide)]
 refine wpAny_bind (Tuple_ (zo (ha _ pins s σ H _ I h) λus s1 ⟨vs,H1,I1,r1,q1⟩=>?_))
 obtain ⟨v,w,e1,q1⟩:=q1
 subst e1
 obtain ⟨u1,u2,rfl,rv,rw'⟩:∃ u1 u2,us=[u1,u2]/\zV v u1/\zV w u2:=by
  cases r1 with
  | cons p q=>
   cases q with
   | cons p' q'=>
    cases q'
    exact ⟨_,_,rfl,p,p'⟩
 refine wpAny_newObj_type ?_ (by show 2<=sizeLine; decide)
 have I2:zE X pins σ H1 { s1 with heap:=s1.heap.push { cls:=.type "tuple",data:=.seq [u1,u2].toArray } }:=I1.kept (t':=s1.toks) λb o e=>cR _ e
 rw [hw]
 refine wpAny_bind (wpAny_pure ?_)
 show wpAny (model X.prog X.w) X.A (do rule "assign.swapped-stores"; let items <- unpackItems (.ref s1.heap.objs.size) 2 none; assignInOrder [λv=>bindName X.env y v,λv=>bindName X.env x v] items.reverse; pure Flow.next) _ _ _
 refine wpAny_bind (wpAny_rule (wpAny_bind (unpackItems_tuple (items:=#[u1,u2]) (I.ok.hd hc) (IsTup.new s1.heap _) λh' hx'=>?_)))
 have I3:=I2.kept (h':=h') (t':=s1.toks) λb o e=>hx' b o (dL (cZ e)) e
 show wpAny _ _ (assignInOrder [λv=>bindName X.env y v,λv=>bindName X.env x v] [u2,u1] >>= λ_=>pure Flow.next) _ _ _
 refine wpAny_bind (assignInOrder_cons (wpAny_bindName (X7 I3 hN hj (.inl hy) rw' (λs2 I4=>?_) (.inr hy))))
 refine assignInOrder_cons (wpAny_bindName (X7 I4 hN hi (.inl hx) rv (λs3 I5=>assignInOrder_nil (wpAny_pure ?_)) (.inr hx)))
 rw [List.set_comm _ _ (Ne.symm hij)] at I5
 exact ⟨_,H1,I5,q1⟩
end
section
variable {X:Cx} {pos:Pos}
def zOO (c:TT) (tb:TS):TS:=λD σ H=>∃ W:Nat->St->Hp->Prop,(∃ m,W m σ H)/\∀ m σ H,W m σ H->
 c σ H λb H1=>if b=true then ∃ N:St->Hp->Prop,(∀ σ' H',N σ' H'->∃ m',m' < m/\W m' σ' H')/\tb { D with nx:=N,ct:=N,bk:=D.nx } σ H1 else D.nx σ H1
theorem zJG {c:Expr} {body:List Stmt} {tc:TT} {tb:TS} (hp:PassesOwn (model X.prog X.w) X.A X.env X.xe) (hc:PT X c tc) (hb:xG X body tb):PS X (.While c body [] pos) (zOO tc tb):=by
 intro pins s σ H D I h
 obtain ⟨W,⟨m0,w0⟩,zj⟩:=h
 refine wpAny_While (codeAny_whileLoop (λn s'=>∃ σ' H',zE X pins σ' H' s'/\W n σ' H') ?_ m0 ⟨σ,H,I,w0⟩)
 rintro n s1 ⟨σ1,H1,I1,w1⟩
 refine wpAny_passesOwn hp (zo (hc pins s1 σ1 H1 _ I1 (zj n σ1 H1 w1)) λb s2 ⟨H2,I2,q2⟩=>?_)
 cases b with
 | true=>
  obtain ⟨N,hN,q2⟩:=q2
  rw [if_pos rfl]
  refine wpAny_passesOwn hp (zo (hb pins s2 σ1 H2 _ I2 q2) λf s3 q3=>?_)
  cases f with
  | next=>
   obtain ⟨σ3,H3,I3,n3⟩:=q3
   obtain ⟨m',hm,w3⟩:=hN σ3 H3 n3
   exact ⟨m',hm,σ3,H3,I3,w3⟩
  | cont=>
   obtain ⟨σ3,H3,I3,n3⟩:=q3
   obtain ⟨m',hm,w3⟩:=hN σ3 H3 n3
   exact ⟨m',hm,σ3,H3,I3,w3⟩
  | brk=>exact q3
  | ret v=>exact q3
 | false=>
  rw [if_neg du]
  exact wpAny_execs_nil ⟨σ1,H2,I2,q2⟩
end
structure It where
 go:Nat->Hp->Prop
 yld:Nat->Hp->V->Hp->Prop
 stop:Nat->Hp->Prop
def yQ (X:Cx) (pins:List (Addr × Obj)) (H:Hp) (b:Addr):Prop:=
 H b=none/\b≠X.env.locals/\b∉X.fs/\(b∈X.ex\/X.s₀.heap.objs.size<=b)/\(∀ x c,X.env.cells.lookup x=some c->c≠b)/\∀ p∈X.pn++pins,p.1≠b
theorem zE.fpOk {X:Cx} {pins:List (Addr × Obj)} {σ:St} {H H':Hp} {s:Shared} {b:Addr} (I:zE X pins σ H s) (hb:s.heap.objs.size<=b) (hn:H' b=none):yQ X pins H' b:=by
 refine ⟨hn,ip (dg I.lt hb),I.nofs hb,.inr (eA I.sz hb),λx c e z=>?_,λp hp z=>?_⟩
 ·obtain ⟨v,q⟩:=I.cell x c e
  exact absurd (dg q.lt (by rw [z]; exact hb)) (dN _)
 ·exact absurd (dg (cZ (I.pin p hp).1) (by rw [z]; exact hb)) (dN _)
structure vT (P:Program) (w:World) (K:cI) (tg:Expr) (J:It) (fp:List Addr) (it:Addr) (tn:Nat->Heap->Prop):Prop where
 mem:it∈fp
 obj:∀ i h,tn i h->∀ b∈fp,∃ o,h.get? b=some o/\∀ v,o.data≠.cell v
 keep:∀ i h h',tn i h->(∀ b∈fp,∀ o,h.get? b=some o->h'.get? b=some o)->tn i h'
 item:∀ (X:Cx),X.prog=P->X.w=w->X.K=K->X.calm=true->∀ (i:Nat) (pins:List (Addr × Obj)) (s:Shared) (σ:St) (H:Hp) (E:Value->Shared->Prop),zE X pins σ H s->(∀ b∈fp,yQ X pins H b)->tn i s.heap->J.go i H->
  wpAny (model P w) X.A (pyNext (.ref it)) (λr s1=>∃ u,r=some u∧
   wpAny (model P w) X.A (letOwnedTupleGo tg (.ref it) u) (λ_ s2=>∃ x H',zE X pins σ H' s2/\zV x u/\J.yld i H x H'/\tn (i + 1) s2.heap/\∀ b∈fp,H' b=none) E s1) E s
 done:∀ (X:Cx),X.prog=P->X.w=w->X.K=K->X.calm=true->∀ (i:Nat) (pins:List (Addr × Obj)) (s:Shared) (σ:St) (H:Hp) (E:Value->Shared->Prop),zE X pins σ H s->(∀ b∈fp,yQ X pins H b)->tn i s.heap->J.stop i H->
  wpAny (model P w) X.A (pyNext (.ref it)) (λr s1=>r=none/\zE X pins σ H s1) E s
 self:∀ (A:Around) (i:Nat) (s:Shared) (Q:Value->Shared->Prop) (E:Value->Shared->Prop),tn i s.heap->Q (.ref it) s->wpAny (model P w) A (pyIter (.ref it)) Q E s
abbrev TI:=St->Hp->(It->Hp->Prop)->Prop
def PIE (X:Cx) (pins:List (Addr × Obj)) (σ:St) (tg:Expr) (R:It->Hp->Prop) (itv:Value) (s2:Shared):Prop:=
 ∃ (it:Addr) (fp:List Addr) (tn:Nat->Heap->Prop) (J:It) (H':Hp),itv=.ref it/\zE X pins σ H' s2/\vT X.prog X.w X.K tg J fp it tn/\tn 0 s2.heap/\(∀ b∈fp,yQ X pins H' b)/\R J H'
def PI (X:Cx) (tg iter:Expr) (wi:TI):Prop:=
 ∀ (pins:List (Addr × Obj)) (s:Shared) (σ:St) (H:Hp) (R:It->Hp->Prop),zE X pins σ H s->wi σ H R->
  wpAny (model X.prog X.w) X.A (eval iter X.env) (λv s1=>wpAny (model X.prog X.w) X.A (pyIter v) (PIE X pins σ tg R) X.xe s1) X.xe s
theorem Uk {M:Model} {A:Around} {E:Value->Shared->Prop} {s:Shared} {tg:Expr} {it:Addr} {u:Value} {o:Obj} {n:String} {vs:Array Value} {Q:Unit->Shared->Prop} (ho:s.heap.get? it=some o) (hc:o.cls=.type n) (hd:o.data=.fields vs)
  (hn:["enumerate","zip","dict_itemiterator","dict_reverseitemiterator","odict_iterator","itertools.zip_longest","itertools.pairwise"].contains n=false) (hQ:Q () s):wpAny M A (letOwnedTupleGo tg (.ref it) u) Q E s:=by
 unfold letOwnedTupleGo
 cases tg <;> first
  | exact wpAny_pure hQ
  | (cases u <;> first
    | exact wpAny_pure hQ
    | (refine wpAny_bind (wpAny_load ho ?_)
       rw [hc,hd]
       show wpAny M A (if (["enumerate","zip","dict_itemiterator","dict_reverseitemiterator","odict_iterator","itertools.zip_longest","itertools.pairwise"].contains n && vs[0]? == some (rawInt _))=true then _ else _) Q E s
       rw [if_neg (by intro h; rw [hn,Bool.false_and] at h; cases h)]
       exact wpAny_pure hQ))
def Ul (K:cI) (a:Addr):It:=
 ⟨λi H=>∃ xs x,zp K H a xs/\xs[i]? = some x,λi H x H'=>H'=H/\∀ xs,zp K H a xs->xs[i]? = some x,λi H=>∃ xs,zp K H a xs/\xs.length<=i⟩
def Um (K:cI) (a:Addr):It:=
 ⟨λi H=>∃ xs x,yj K H a xs/\xs[i]? = some x,λi H x H'=>H'=H/\∀ xs,yj K H a xs->xs[i]? = some x,λi H=>∃ xs,yj K H a xs/\xs.length<=i⟩
def ZR (lo:Int) (n:Nat):It:=⟨λi _=>i < n,λi H x H'=>H'=H/\x=.int (lo + i),λi _=>n<=i⟩
theorem zKV {P:Program} {w:World} {K:cI} {tg:Expr} (a it:Addr):vT P w K tg (Ul K a) [it] it (λi h=>h.IsListIter it a i) where
 mem:=by simp
 obj:=λi h st b hb=>by
  have e:b=it:=by simpa using hb
  subst e
  obtain ⟨o,e,c,d⟩:=st
  exact ⟨o,e,λv z=>by rw [d] at z; cases z⟩
 keep:=λi h h' st k=>st.at λo e=>k it (by simp) o e
 item:=by
  intro X hP hw hK hc i pins s σ H E I hf st hg
  subst hP hw hK
  obtain ⟨xs,x,hq,hx⟩:=hg
  obtain ⟨its,rv,p,hz⟩:=I.list hq
  obtain ⟨u,hu,ru⟩:=rv.get hx
  obtain ⟨f0,f1,f2,f3,f4,f5⟩:=hf it (by simp)
  refine wpAny_pyNext_list_item st p.isList (x:=u) (by simpa using hu) λh' st' sb=>?_
  have I1:zE X pins σ H { s with heap:=h' }:=I.turned (t':=s.toks) (λb o hb e=>(sb.2 b hb).trans e) f0 f1 f3 f4 f5
  obtain ⟨o,e,c,d⟩:=id st'
  exact ⟨u,rfl,Uk (s:={ s with heap:=h' }) e c d (by decide) ⟨x,H,I1,ru,⟨rfl,λys hy=>by rw [I.list_inj hy hq]; exact hx⟩,st',λb hb=>(hf b hb).1⟩⟩
 done:=by
  intro X hP hw hK hc i pins s σ H E I hf st hg
  subst hP hw hK
  obtain ⟨xs,hq,hx⟩:=hg
  obtain ⟨its,rv,p,hz⟩:=I.list hq
  obtain ⟨f0,f1,f2,f3,f4,f5⟩:=hf it (by simp)
  have hl:=rv.length
  exact wpAny_pyNext_list_end (I.ok.hd hc) st p.isList (by simp; omega) λh' eb=>⟨rfl,I.turned (t':=s.toks) (λb o hb e=>eb b o hb e) f0 f1 f3 f4 f5⟩
 self:=λ_ _ _ _ _ st h=>wpAny_pyIter_listiter st h
theorem zJq {P:Program} {w:World} {K:cI} {tg:Expr} (a it:Addr):vT P w K tg (Um K a) [it] it (λi h=>h.IsTupleIter it a i) where
 mem:=by simp
 obj:=λi h st b hb=>by
  have e:b=it:=by simpa using hb
  subst e
  obtain ⟨o,e,c,d⟩:=st
  exact ⟨o,e,λv z=>by rw [d] at z; cases z⟩
 keep:=λi h h' st k=>st.at λo e=>k it (by simp) o e
 item:=by
  intro X hP hw hK hc i pins s σ H E I hf st hg
  subst hP hw hK
  obtain ⟨xs,x,hq,hx⟩:=hg
  obtain ⟨its,rv,p,hz⟩:=I.tuple hq
  obtain ⟨u,hu,ru⟩:=rv.get hx
  obtain ⟨f0,f1,f2,f3,f4,f5⟩:=hf it (by simp)
  refine wpAny_pyNext_tuple_item st (show s.heap.IsTuple a its.toArray from p) (x:=u) (by simpa using hu) λh' st' sb=>?_
  have I1:zE X pins σ H { s with heap:=h' }:=I.turned (t':=s.toks) (λb o hb e=>(sb.2 b hb).trans e) f0 f1 f3 f4 f5
  obtain ⟨o,e,c,d⟩:=id st'
  exact ⟨u,rfl,Uk (s:={ s with heap:=h' }) e c d (by decide) ⟨x,H,I1,ru,⟨rfl,λys hy=>by rw [I.tuple_inj hy hq]; exact hx⟩,st',λb hb=>(hf b hb).1⟩⟩
 done:=by
  intro X hP hw hK hc i pins s σ H E I hf st hg
  subst hP hw hK
  obtain ⟨xs,hq,hx⟩:=hg
  obtain ⟨its,rv,p,hz⟩:=I.tuple hq
  obtain ⟨f0,f1,f2,f3,f4,f5⟩:=hf it (by simp)
  have hl:=rv.length
  exact wpAny_pyNext_tuple_end (I.ok.hd hc) st (show s.heap.IsTuple a its.toArray from p) (by simp; omega) λh' eb=>⟨rfl,I.turned (t':=s.toks) (λb o hb e=>eb b o hb e) f0 f1 f3 f4 f5⟩
 self:=λ_ _ _ _ _ st h=>wpAny_pyIter_tupleiter st h
theorem zJr {P:Program} {w:World} {K:cI} {tg:Expr} (it:Addr) (lo:Int) (n:Nat):vT P w K tg (ZR lo n) [it] it (λi h=>IsRangeIter h it (lo + (i:Nat) * 1) ((n:Int) - (i:Nat)) 1) where
 mem:=by simp
 obj:=λi h st b hb=>by
  have e:b=it:=by simpa using hb
  subst e
  exact ⟨_,st,λv z=>by
   have z':Data.fields _=Data.cell v:=z
   cases z'⟩
 keep:=λi h h' st k=>k it (by simp) _ st
 item:=by
  intro X hP hw hK hc i pins s σ H E I hf st hg
  subst hP hw hK
  obtain ⟨f0,f1,f2,f3,f4,f5⟩:=hf it (by simp)
  have W:=Walks.range (prog:=X.prog) (w:=X.w) (I.ok.hd hc) it lo 1 n
  refine W.item i s _ _ hg st λv h' tk hv st' kk=>?_
  obtain ⟨t,rfl⟩:=hv
  have I1:zE X pins σ H { s with heap:=h',toks:=tk }:=I.turned (λb o hb e=>kk b o (by simpa using hb) e) f0 f1 f3 f4 f5
  refine ⟨_,rfl,Uk (s:={ s with heap:=h',toks:=tk }) (n:="range_iterator") st' rfl rfl (by decide) ⟨.int (lo + i),H,I1,⟨t,?_⟩,⟨rfl,rfl⟩,st',λb hb=>(hf b hb).1⟩⟩
  rw [Int.mul_one]
 done:=by
  intro X hP hw hK hc i pins s σ H E I hf st hg
  subst hP hw hK
  obtain ⟨f0,f1,f2,f3,f4,f5⟩:=hf it (by simp)
  exact wpAny_pyNext_range_end (I.ok.hd hc) st (by have:n<=i:=hg; omega) λh' eb=>⟨rfl,I.turned (t':=s.toks) (λb o hb e=>eb b o hb e) f0 f1 f3 f4 f5⟩
 self:=λ_ _ _ _ _ st h=>wpAny_pyIter_rangeiter st h
end L2
namespace L2
open PySem PySem.Spec PyProof.Rows
section
variable {X:Cx} {tg:Expr}
theorem zJD {pins:List (Addr × Obj)} {σ:St} {H:Hp} {s:Shared} {R:It->Hp->Prop} {E:Value->Shared->Prop} {lo hi:Int} {t u v:Tok} {tk:Nat} (I:zE X pins σ H s) (h1 : -(2 ^ 62)<=lo) (h2:lo < 2 ^ 62) (h3 : -(2 ^ 62)<=hi) (h4:hi < 2 ^ 62)
  (q:R (ZR lo (hi - lo).toNat) H):wpAny (model X.prog X.w) X.A (pyIter (.ref s.heap.objs.size)) (PIE X pins σ tg R) E { s with heap:=s.heap.push { cls:=.type "range",data:=.fields #[.int lo t,.int hi u,.int 1 v] },toks:=tk }:=by
 refine wpAny_pyIter_range (IsRange.new ..) (small_one h1 h2 h3 h4) ?_
 have I1:zE X pins σ H { s with heap:=s.heap.push { cls:=.type "range",data:=.fields #[.int lo t,.int hi u,.int 1 v] },toks:=tk }:=I.kept λb o e=>cR _ e
 refine ⟨(s.heap.push { cls:=.type "range",data:=.fields #[.int lo t,.int hi u,.int 1 v] }).objs.size,[(s.heap.push { cls:=.type "range",data:=.fields #[.int lo t,.int hi u,.int 1 v] }).objs.size],_,_,H,rfl,
  I1.kept (t':=tk) λb o e=>cR _ e,zJr _ lo (hi - lo).toNat,?_,λb hb=>?_,q⟩
 ·have e1:lo + ((0:Nat):Int) * 1=lo:=by simp
  have e2:(((hi - lo).toNat:Nat):Int) - ((0:Nat):Int)=Builtin.Range.rangeSize lo hi 1:=by rw [rangeSize_one]; split <;> omega
  show IsRangeIter _ _ (lo + ((0:Nat):Int) * 1) ((((hi - lo).toNat:Nat):Int) - ((0:Nat):Int)) 1
  rw [e1,e2]
  exact dj _ rfl
 ·have e:b=(s.heap.push { cls:=.type "range",data:=.fields #[.int lo t,.int hi u,.int 1 v] }).objs.size:=by simpa using hb
  subst e
  exact I1.fpOk (cQ _) (I1.hok.fresh (cQ _))
def ZS (ta:TA):TI:=λσ H R=>ta σ H λvs H1=>∃ j:Int,vs=[.int j]/\-(2 ^ 62)<=j/\j < 2 ^ 62/\R (ZR 0 j.toNat) H1
def ZT (ta:TA):TI:=λσ H R=>ta σ H λvs H1=>∃ i j:Int,vs=[.int i,.int j]/\(-(2 ^ 62)<=i/\i < 2 ^ 62/\-(2 ^ 62)<=j/\j < 2 ^ 62)/\R (ZR i (j - i).toNat) H1
theorem zK4 {a:Expr} {ta:TA} {p pos:Pos} (hg:Gl X "range") (hm:X.mg "range" = none) (ha:PA X [a] ta) (hs:starEach [a] X.env=[(false,eval a X.env)]:=by rfl):PI X tg (.Call (.Name "range" p) [a] [] pos) (ZS ta):=by
 intro pins s σ H R I h
 refine Call_ (qK I hg hm boot_range (PyProof.Rows.callWith_type1 (zo (ha pos pins s σ H _ I h) λus s1 ⟨vs,H1,I1,r1,q1⟩=>?_) hs rfl))
 obtain ⟨j,e,q1,q2,q⟩:=q1
 subst e
 cases r1 with
 | cons r rr=>
  cases rr
  obtain ⟨t,rfl⟩:=r
  exact call_range_1 (zJD I1 (by omega) (by omega) q1 q2 (by simpa using q))
theorem zK3 {a b:Expr} {ta:TA} {p pos:Pos} (hg:Gl X "range") (hm:X.mg "range" = none) (ha:PA X [a,b] ta) (hs:starEach [a,b] X.env=[(false,eval a X.env),(false,eval b X.env)]:=by rfl) (hs2:starEach [b] X.env=[(false,eval b X.env)]:=by rfl) :
  PI X tg (.Call (.Name "range" p) [a,b] [] pos) (ZT ta):=by
 intro pins s σ H R I h
 refine Call_ (qK I hg hm boot_range (PyProof.Rows.callWith_type1 (zo (ha pos pins s σ H _ I h) λus s1 ⟨vs,H1,I1,r1,q1⟩=>?_) (by rw [hs,hs2]) (by rw [hs2]; rfl)))
 obtain ⟨i,j,e,⟨q1,q2,q3,q4⟩,q⟩:=q1
 subst e
 cases r1 with
 | cons r rr=>
  cases rr with
  | cons r' rr=>
   cases rr
   obtain ⟨t,rfl⟩:=r
   obtain ⟨t',rfl⟩:=r'
   exact call_range_2 (zJD I1 q1 q2 q3 q4 q)
def Uo (wi:TI) (g:TG) (tb:TS):TS:=λD σ H=>wi σ H λJ H1=>∃ W:Nat->Nat->St->Hp->Prop,(∃ m,W 0 m σ H1)/\∀ i m σ H,W i m σ H->
 (J.stop i H/\D.nx σ H)\/(J.go i H/\∃ N:St->Hp->Prop,(∀ σ' H',N σ' H'->∃ m',m' < m/\W (i + 1) m' σ' H')/\∀ x H',J.yld i H x H'->g x σ H' λσ2 H2=>tb { D with nx:=N,ct:=N,bk:=D.nx } σ2 H2)
def ZU (fp:List Addr) (h:Heap):List (Addr × Obj):=fp.filterMap λb=>(h.get? b).map λo=>(b,o)
theorem kL {fp:List Addr} {h:Heap} {b:Addr} {o:Obj} (hb:b∈fp) (e:h.get? b=some o):(b,o)∈ZU fp h:=lZ.mpr ⟨b,hb,by rw [e]; rfl⟩
theorem zLV {fp:List Addr} {h:Heap} {p:Addr × Obj} (hp:p∈ZU fp h):p.1∈fp/\h.get? p.1=some p.2:=by
 obtain ⟨b,hb,e⟩:=lZ.mp hp
 cases q:h.get? b with
 | none=>rw [q] at e; cases e
 | some o=>
  rw [q] at e
  have e':(b,o)=p:=Option.some.inj e
  subst e'
  exact ⟨hb,q⟩
theorem zE.pinned {pins:List (Addr × Obj)} {σ:St} {H:Hp} {s:Shared} {fp:List Addr} (I:zE X pins σ H s) (hf:∀ b∈fp,yQ X pins H b) (ho:∀ b∈fp,∃ o,s.heap.get? b=some o/\∀ v,o.data≠.cell v):zE X (pins++ZU fp s.heap) σ H s:=
 I.pins_of λp hp=>(dX.mp hp).elim (λz=>I.pin p (cY _ z)) λz=>by
  obtain ⟨hb,e⟩:=zLV z
  obtain ⟨f0,f1,f2,_⟩:=hf p.1 hb
  obtain ⟨o,e',d⟩:=ho p.1 hb
  rw [e] at e'; cases e'
  exact ⟨e,f0,f1,f2,d⟩
theorem zE.unpinned {pins pl:List (Addr × Obj)} {σ:St} {H:Hp} {s:Shared} (I:zE X (pins++pl) σ H s):zE X pins σ H s:=I.pins_of λp hp=>I.pin p (cY _ (iC _ hp))
theorem zRW {iter:Expr} {body:List Stmt} {wi:TI} {g:TG} {tb:TS} {pos:Pos} (hp:PassesOwn (model X.prog X.w) X.A X.env X.xe) (hc:X.calm=true) (hi:PI X tg iter wi) (hg:PG X tg g) (hb:xG X body tb)
  (hs:∀ x,foldedSetIterable iter X.env x=pure x:=by intro _; rfl):PS X (.For tg iter body [] pos) (Uo wi g tb):=by
 intro pins s σ H D I h
 refine wpAny_For (zo (hi pins s σ H _ I h) λv s1 h1=>zo h1 λitv s2 h2=>?_) hs
 obtain ⟨it,fp,tn,J,H2,e,I2,T,st2,f2,W,⟨m0,w0⟩,zj⟩:=h2
 subst e
 have stat:∀ {H':Hp},(∀ b∈fp,H' b=none)->∀ b∈fp,yQ X pins H' b:=λhn b hb=>⟨hn b hb,(f2 b hb).2⟩
 refine codeAny_forLoop_any (λn s'=>∃ i σ' H',zE X pins σ' H' s'/\tn i s'.heap/\(∀ b∈fp,H' b=none)/\W i n σ' H') ?_ m0 ⟨0,σ,H2,I2,st2,λb hb=>(f2 b hb).1,w0⟩
 rintro n s3 ⟨i,σ3,H3,I3,st3,fr3,w3⟩
 rcases zj i n σ3 H3 w3 with ⟨stop,qn⟩ | ⟨go,N,hN,step⟩
 ·refine wpAny_passesOwn hp (zo (T.done X rfl rfl rfl hc i pins s3 σ3 H3 X.xe I3 (stat fr3) st3 stop) λr s4 ⟨hr,I4⟩=>?_)
  subst hr
  exact wpAny_execs_nil ⟨σ3,H3,I4,qn⟩
 ·refine wpAny_passesOwn hp (zo (T.item X rfl rfl rfl hc i pins s3 σ3 H3 X.xe I3 (stat fr3) st3 go) λr s4 ⟨u,hr,h4⟩=>?_)
  subst hr
  refine wpAny_passesOwn hp (zo h4 λ_ s5 ⟨x,H5,I5,r5,y5,st5,fr5⟩=>?_)
  have I5':=I5.pinned (stat fr5) (T.obj _ _ st5)
  refine wpAny_passesOwn hp (zo (hg _ s5 σ3 H5 x u _ I5' r5 (step x H5 y5)) λ_ s6 ⟨σ6,H6,I6,q6⟩=>?_)
  refine wpAny_passesOwn hp (zo (hb _ s6 σ6 H6 _ I6 q6) λf s7 q7=>?_)
  have again:∀ {σ7:St} {H7:Hp},zE X (pins++ZU fp s5.heap) σ7 H7 s7->N σ7 H7->∃ m,m < n/\∃ i σ' H',zE X pins σ' H' s7/\tn i s7.heap/\(∀ b∈fp,H' b=none)/\W i m σ' H':=λ{σ7 H7} I7 n7=>by
   obtain ⟨m',hm,w7⟩:=hN σ7 H7 n7
   refine ⟨m',hm,i + 1,σ7,H7,I7.unpinned,T.keep _ _ _ st5 λb hb o e=>(I7.pin (b,o) (cY _ (cY _ (kL hb e)))).1,λb hb=>?_,w7⟩
   obtain ⟨o,e,d⟩:=T.obj _ _ st5 b hb
   exact (I7.pin (b,o) (cY _ (cY _ (kL hb e)))).2.1
  cases f with
  | next=>obtain ⟨σ7,H7,I7,n7⟩:=q7; exact again I7 n7
  | cont=>obtain ⟨σ7,H7,I7,n7⟩:=q7; exact again I7 n7
  | brk=>obtain ⟨σ7,H7,I7,q7⟩:=q7; exact ⟨σ7,H7,I7.unpinned,q7⟩
  | ret v=>obtain ⟨x7,σ7,H7,I7,r7,q7⟩:=q7; exact ⟨x7,σ7,H7,I7.unpinned,r7,q7⟩
end
theorem zMk {c:TT} {tb:TS} {D:xn} {σ:St} {H:Hp} (Pv:St->Hp->Prop) (μ:St->Hp->Nat) (h0:Pv σ H)
  (hs:∀ σ H,Pv σ H->c σ H λb H1=>if b=true then tb { D with nx:=λσ' H'=>Pv σ' H'/\μ σ' H' < μ σ H,ct:=λσ' H'=>Pv σ' H'/\μ σ' H' < μ σ H,bk:=D.nx } σ H1 else D.nx σ H1)
  (mono:∀ σ H Q Q',(∀ b H1,Q b H1->Q' b H1)->c σ H Q->c σ H Q'):zOO c tb D σ H:=by
 refine ⟨λm σ H=>m=μ σ H/\Pv σ H,⟨_,rfl,h0⟩,?_⟩
 rintro m σ H ⟨rfl,p⟩
 refine mono σ H _ _ (λb H1 q=>?_) (hs σ H p)
 cases b with
 | true=>exact ⟨_,λσ' H' ⟨p',l⟩=>⟨_,l,rfl,p'⟩,q⟩
 | false=>exact q
end L2
namespace L2
open PySem PySem.Spec PyProof.Rows
abbrev R2:=V->V->Hp->VK->Prop
def xE (X:Cx) (f:Value->Value->Sem Value) (r:R2):Prop:=
 ∀ (pins:List (Addr × Obj)) (s:Shared) (σ:St) (H:Hp) (x y:V) (v u:Value) (Q:VK),zE X pins σ H s->zV x v->zV y u->r x y H Q->
  wpAny (model X.prog X.w) X.A (f v u) (EP X pins σ Q) X.xe s
def Up (X:Cx) (f:Value->Sem Value) (r:V->Hp->VK->Prop):Prop:=
 ∀ (pins:List (Addr × Obj)) (s:Shared) (σ:St) (H:Hp) (x:V) (v:Value) (Q:VK),zE X pins σ H s->zV x v->r x H Q->
  wpAny (model X.prog X.w) X.A (f v) (EP X pins σ Q) X.xe s
def wz (X:Cx) (f:Value) (r:List V->Hp->VK->Prop):Prop:=
 ∀ (pins:List (Addr × Obj)) (s:Shared) (σ:St) (H:Hp) (xs:List V) (us:List Value) (Q:VK),zE X pins σ H s->zM xs us->r xs H Q->
  wpAny (model X.prog X.w) X.A (call f us) (EP X pins σ Q) X.xe s
def qt (r:R2) (ta tb:TE):TE:=λσ H Q=>ta σ H λx H1=>tb σ H1 λy H2=>r x y H2 Q
def tUn (r:V->Hp->VK->Prop) (ta:TE):TE:=λσ H Q=>ta σ H λx H1=>r x H1 Q
def rI (C:Int->Int->Prop) (g:Int->Int->V):R2:=λx y H Q=>∃ i j,x=.int i/\y=.int j/\C i j/\Q (g i j) H
def ue (g:Int->Int->V):R2:=λx y H Q=>∃ i j,x=.int i/\y=.int j/\Q (g i j) H
def rU (g:Int->V):V->Hp->VK->Prop:=λx H Q=>∃ i,x=.int i/\Q (g i) H
section
variable {X:Cx} {a b c:Expr} {ta tb tc:TE} {pos:Pos}
theorem qu (ha:PE X a ta) (hb:PE X b tb) {pins:List (Addr × Obj)} {s:Shared} {σ:St} {H:Hp} {R:V->V->Hp->Prop} (I:zE X pins σ H s)
  (h:ta σ H λx H1=>tb σ H1 λy H2=>R x y H2) {Q:Value->Shared->Prop} {f:Value->Value->Sem Value}
  (hf:∀ v u s2 x y H2,zE X pins σ H2 s2->zV x v->zV y u->R x y H2->wpAny (model X.prog X.w) X.A (f v u) Q X.xe s2) :
  wpAny (model X.prog X.w) X.A (eval a X.env) (λv s₁=>wpAny (model X.prog X.w) X.A (eval b X.env) (λu s₂=>wpAny (model X.prog X.w) X.A (f v u) Q X.xe s₂) X.xe s₁) X.xe s:=by
 refine zo (ha pins s σ H _ I h) λv s1 ⟨x,H1,I1,r1,q1⟩=>?_
 refine zo (hb pins s1 σ H1 _ I1 q1) λu s2 ⟨y,H2,I2,r2,q2⟩=>?_
 exact hf v u s2 x y H2 I2 r1 r2 q2
theorem Uq {op:Operator} {r:R2} (ho:xE X (binaryOp op) r) (ha:PE X a ta) (hb:PE X b tb):PE X (.BinOp a op b pos) (qt r ta tb):=by
 intro pins s σ H Q I h
 exact wpAny_BinOp (qu ha hb I h λv u s2 x y H2 I2 rx ry q=>ho pins s2 σ H2 x y v u Q I2 rx ry q)
theorem ZV {op:UnaryOp} {r:V->Hp->VK->Prop} (ho:Up X (unaryOp op) r) (ha:PE X a ta):PE X (.UnaryOp op a pos) (tUn r ta):=by
 intro pins s σ H Q I h
 exact UnaryOp_ (zo (ha pins s σ H _ I h) λv s1 ⟨x,H1,I1,r1,q1⟩=>ho pins s1 σ H1 x v Q I1 r1 q1)
theorem WB {f:Value->Value->Sem Value} {C:Int->Int->Prop} {g:Int->Int->Int}
  (rule:∀ (i j:Int) (t u:Tok) (s:Shared) (Q:Value->Shared->Prop) (E:Value->Shared->Prop),C i j->Q (.int (g i j) s.toks) { s with toks:=s.toks + 1 }->wpAny (model X.prog X.w) X.A (f (.int i t) (.int j u)) Q E s) :
  xE X f (rI C λi j=>.int (g i j)):=by
 intro pins s σ H x y v u Q I rx ry h
 obtain ⟨i,j,rfl,rfl,hc,q⟩:=h
 obtain ⟨t,rfl⟩:=rx
 obtain ⟨t',rfl⟩:=ry
 exact rule i j t t' s _ _ hc ⟨.int (g i j),H,I.tok _,⟨_,rfl⟩,q⟩
theorem ZW {f:Value->Value->Sem Value} {g:Int->Int->Int}
  (rule:∀ (i j:Int) (t u:Tok) (s:Shared) (Q:Value->Shared->Prop) (E:Value->Shared->Prop),Q (.int (g i j) s.toks) { s with toks:=s.toks + 1 }->wpAny (model X.prog X.w) X.A (f (.int i t) (.int j u)) Q E s) :
  xE X f (ue λi j=>.int (g i j)):=by
 intro pins s σ H x y v u Q I rx ry h
 obtain ⟨i,j,rfl,rfl,q⟩:=h
 obtain ⟨t,rfl⟩:=rx
 obtain ⟨t',rfl⟩:=ry
 exact rule i j t t' s _ _ ⟨.int (g i j),H,I.tok _,⟨_,rfl⟩,q⟩
theorem jm {f:Value->Value->Sem Value} {g:Int->Int->Bool}
  (rule:∀ (i j:Int) (t u:Tok) (s:Shared) (Q:Value->Shared->Prop) (E:Value->Shared->Prop),Q (.bool (g i j)) s->wpAny (model X.prog X.w) X.A (f (.int i t) (.int j u)) Q E s) :
  xE X f (ue λi j=>.bl (g i j)):=by
 intro pins s σ H x y v u Q I rx ry h
 obtain ⟨i,j,rfl,rfl,q⟩:=h
 obtain ⟨t,rfl⟩:=rx
 obtain ⟨t',rfl⟩:=ry
 exact rule i j t t' s _ _ ⟨.bl (g i j),H,I,rfl,q⟩
def qv (i j:Int):Prop:=0<=j/\j<=1000000/\i.natAbs < 2 ^ 64
theorem zRz:xE X (binaryOp .Add) (ue λi j=>.int (i + j)):=ZW λ_ _ _ _ _ _ _ q=>add_int q
theorem zRr:xE X (binaryOp .Sub) (ue λi j=>.int (i - j)):=ZW λ_ _ _ _ _ _ _ q=>sub_int q
theorem zLI:xE X (binaryOp .Mod) (rI (λ_ j=>j≠0) λi j=>.int (i.fmod j)):=WB λ_ _ _ _ _ _ _ hc q=>mod_int' hc q
theorem zRt:xE X (binaryOp .Pow) (rI qv λi j=>.int (i ^ j.toNat)):=WB λ_ _ _ _ _ _ _ hc q=>pow_int_small hc.1 hc.2.1 hc.2.2 q
theorem unI {f:Value->Sem Value} {g:Int->Int}
  (rule:∀ (i:Int) (t:Tok) (s:Shared) (Q:Value->Shared->Prop) (E:Value->Shared->Prop),Q (.int (g i) s.toks) { s with toks:=s.toks + 1 }->wpAny (model X.prog X.w) X.A (f (.int i t)) Q E s) :
  Up X f (rU λi=>.int (g i)):=by
 intro pins s σ H x v Q I rx h
 obtain ⟨i,rfl,q⟩:=h
 obtain ⟨t,rfl⟩:=rx
 exact rule i t s _ _ ⟨.int (g i),H,I.tok _,⟨_,rfl⟩,q⟩
theorem zQu:Up X (unaryOp .USub) (rU λi=>.int (-i)):=unI λ_ _ _ _ _ q=>neg_int q
end
def ZX:V->V->Bool
 | .non,.non=>true | .non,.int _=>true | .int _,.non=>true | .non,.bl _=>true | .bl _,.non=>true | .non,.str _=>true | .str _,.non=>true
 | .int _,.int _=>true | .bl _,.bl _=>true | .str _,.str _=>true | .byt _,.byt _=>true
 | .int _,.str _=>true | .str _,.int _=>true | .bl _,.str _=>true | .str _,.bl _=>true
 | _,_=>false
def rEq:R2:=λx y H Q=>ZX x y=true/\Q (.bl (decide (x=y))) H
def rNe:R2:=λx y H Q=>ZX x y=true/\Q (.bl (!decide (x=y))) H
theorem WC {i j:Int}:decide (V.int i=V.int j)=(i == j):=by
 rw [fH]
 simp
theorem WD {i j:Bool}:decide (V.bl i=V.bl j)=(i == j):=by
 rw [fH]
 simp
theorem WE {i j:Str}:decide (V.str i=V.str j)=(i == j):=by
 rw [fH]
 simp
theorem zMI {i j:Array UInt8}:decide (V.byt i=V.byt j)=(i.toList == j.toList):=by
 rw [fH]
 cases i
 cases j
 simp
section
variable {X:Cx} {a b c:Expr} {ta tb tc:TE} {pos:Pos}
theorem xL {pins:List (Addr × Obj)} {σ:St} {H:Hp} {s:Shared} {Q:VK} {k k':Bool} (I:zE X pins σ H s) (q:Q (.bl k) H) (e:k=k'):EP X pins σ Q (.bool k') s:=by
 subst e
 exact ⟨.bl k,H,I,rfl,q⟩
theorem zRy:xE X (compareOp .Eq) rEq:=by
 intro pins s σ H x y v u Q I rx ry h
 obtain ⟨hs,q⟩:=h
 cases x with
 | non=>
  cases rx
  cases y with
  | non=>cases ry; exact PySem.EqNone.eq_none_none (xL I q (by simp))
  | bl j=>cases ry; exact PySem.EqNone.eq_none_bool (xL I q (by simp))
  | int j=>obtain ⟨t',rfl⟩:=ry; exact PySem.EqNone.eq_none_int (xL I q (by simp))
  | str j=>obtain ⟨t',rfl⟩:=ry; exact PySem.EqNone.eq_none_str (xL I q (by simp))
  | _=>exact absurd (show false=true from hs) du
 | bl i=>
  cases rx
  cases y with
  | non=>cases ry; exact PySem.EqNone.eq_bool_none (xL I q (by simp))
  | bl j=>cases ry; exact eq_bool (xL I q WD)
  | str j=>obtain ⟨t',rfl⟩:=ry; exact PySem.EqMixed.eq_bool_str (xL I q (by simp))
  | _=>exact absurd (show false=true from hs) du
 | int i=>
  obtain ⟨t,rfl⟩:=rx
  cases y with
  | non=>cases ry; exact PySem.EqNone.eq_int_none (xL I q (by simp))
  | int j=>obtain ⟨t',rfl⟩:=ry; exact eq_int (xL I q WC)
  | str j=>obtain ⟨t',rfl⟩:=ry; exact PySem.EqMixed.eq_int_str (xL I q (by simp))
  | _=>exact absurd (show false=true from hs) du
 | str i=>
  obtain ⟨t,rfl⟩:=rx
  cases y with
  | non=>cases ry; exact PySem.EqNone.eq_str_none (xL I q (by simp))
  | bl j=>cases ry; exact PySem.EqMixed.eq_str_bool (xL I q (by simp))
  | int j=>obtain ⟨t',rfl⟩:=ry; exact PySem.EqMixed.eq_str_int (xL I q (by simp))
  | str j=>obtain ⟨t',rfl⟩:=ry; exact eq_str (xL I q WE)
  | _=>exact absurd (show false=true from hs) du
 | byt i=>
  obtain ⟨t,rfl⟩:=rx
  cases y with
  | byt j=>obtain ⟨t',rfl⟩:=ry; exact PySem.W.eq_bytes (xL I q zMI)
  | _=>exact absurd (show false=true from hs) du
 | _=>cases y <;> exact absurd (show false=true from hs) du
theorem Ur:xE X (compareOp .NotEq) rNe:=by
 intro pins s σ H x y v u Q I rx ry h
 obtain ⟨hs,q⟩:=h
 cases x with
 | non=>
  cases rx
  cases y with
  | non=>cases ry; exact PySem.EqNone.ne_none_none (xL I q (by simp))
  | bl j=>cases ry; exact PySem.EqNone.ne_none_bool (xL I q (by simp))
  | int j=>obtain ⟨t',rfl⟩:=ry; exact PySem.EqNone.ne_none_int (xL I q (by simp))
  | str j=>obtain ⟨t',rfl⟩:=ry; exact PySem.EqNone.ne_none_str (xL I q (by simp))
  | _=>exact absurd (show false=true from hs) du
 | bl i=>
  cases rx
  cases y with
  | non=>cases ry; exact PySem.EqNone.ne_bool_none (xL I q (by simp))
  | bl j=>cases ry; exact ne_bool (xL I q (congrArg not WD))
  | str j=>obtain ⟨t',rfl⟩:=ry; exact PySem.EqMixed.ne_bool_str (xL I q (by simp))
  | _=>exact absurd (show false=true from hs) du
 | int i=>
  obtain ⟨t,rfl⟩:=rx
  cases y with
  | non=>cases ry; exact PySem.EqNone.ne_int_none (xL I q (by simp))
  | int j=>obtain ⟨t',rfl⟩:=ry; exact ne_int (xL I q (congrArg not WC))
  | str j=>obtain ⟨t',rfl⟩:=ry; exact PySem.EqMixed.ne_int_str (xL I q (by simp))
  | _=>exact absurd (show false=true from hs) du
 | str i=>
  obtain ⟨t,rfl⟩:=rx
  cases y with
  | non=>cases ry; exact PySem.EqNone.ne_str_none (xL I q (by simp))
  | bl j=>cases ry; exact PySem.EqMixed.ne_str_bool (xL I q (by simp))
  | int j=>obtain ⟨t',rfl⟩:=ry; exact PySem.EqMixed.ne_str_int (xL I q (by simp))
  | str j=>obtain ⟨t',rfl⟩:=ry; exact ne_str (xL I q (congrArg not WE))
  | _=>exact absurd (show false=true from hs) du
 | byt i=>
  obtain ⟨t,rfl⟩:=rx
  cases y with
  | byt j=>obtain ⟨t',rfl⟩:=ry; exact PySem.W.ne_bytes (xL I q (congrArg not zMI))
  | _=>exact absurd (show false=true from hs) du
 | _=>cases y <;> exact absurd (show false=true from hs) du
theorem zRu:xE X (compareOp .Lt) (ue λi j=>.bl (decide (i < j))):=jm λ_ _ _ _ _ _ _ q=>lt_int q
theorem ZY:xE X (compareOp .LtE) (ue λi j=>.bl (decide (i<=j))):=jm λ_ _ _ _ _ _ _ q=>le_int q
theorem zRw:xE X (compareOp .Gt) (ue λi j=>.bl (decide (j < i))):=jm λ_ _ _ _ _ _ _ q=>gt_int q
theorem zRx:xE X (compareOp .GtE) (ue λi j=>.bl (decide (j<=i))):=jm λ_ _ _ _ _ _ _ q=>ge_int q
theorem zRv:xE X (compareOp .Is) (λx y H Q=>y=.non/\Q (.bl (decide (x=.non))) H):=by
 intro pins s σ H x y v u Q I rx ry h
 obtain ⟨rfl,q⟩:=h
 cases ry
 refine is_none_gen (xL I q ?_)
 cases x <;> first
  | (cases rx; rfl)
  | (obtain ⟨t,rfl⟩:=rx; rfl)
theorem zPj:xE X (compareOp .IsNot) (λx y H Q=>y=.non/\Q (.bl (!decide (x=.non))) H):=by
 intro pins s σ H x y v u Q I rx ry h
 obtain ⟨rfl,q⟩:=h
 cases ry
 refine isnot_none_gen (xL I q ?_)
 cases x <;> first
  | (cases rx; rfl)
  | (obtain ⟨t,rfl⟩:=rx; rfl)
def isObj:HO->Bool
 | .lst _=>true
 | .ins _ _ _=>true
 | _=>false
theorem xE.or {f:Value->Value->Sem Value} {r r':R2} (h:xE X f r) (h':xE X f r'):xE X f (λx y H Q=>r x y H Q\/r' x y H Q):=by
 intro pins s σ H x y v u Q I rx ry q
 rcases q with q | q
 ·exact h pins s σ H x y v u Q I rx ry q
 ·exact h' pins s σ H x y v u Q I rx ry q
theorem w4 (b:Expr) {op:CmpOp} (h:op≠.In:=by decide) (h2:op≠.NotIn:=by decide):behindInMarks op b=false:=by
 have e1:(op == CmpOp.In)=false:=by cases op <;> first | rfl | exact absurd rfl h
 have e2:(op == CmpOp.NotIn)=false:=by cases op <;> first | rfl | exact absurd rfl h2
 cases b <;> simp [behindInMarks,e1,e2]
theorem zPf {op:CmpOp} {r:R2} (ho:xE X (compareOp op) r) (ha:PE X a ta) (hb:PE X b tb) (hm:behindInMarks op b=false):PE X (.Compare a [op] [b] pos) (qt r ta tb):=by
 intro pins s σ H Q I h
 exact wpAny_Compare1 (qu ha hb I h λv u s2 x y H2 I2 rx ry q=>ho pins s2 σ H2 x y v u Q I2 rx ry q) hm
def zQ0 (t:TE):TT:=λσ H Q=>t σ H λx H'=>∃ k,x=.bl k/\Q k H'
theorem zKz {op:CmpOp} {r:R2} (ho:xE X (compareOp op) r) (ha:PE X a ta) (hb:PE X b tb) (hm:behindInMarks op b=false):PT X (.Compare a [op] [b] pos) (zQ0 (qt r ta tb)):=by
 intro pins s σ H Q I h
 refine wpAny_isTrue_Compare1 (zo (ha pins s σ H _ I h) λv s1 ⟨x,H1,I1,r1,q1⟩=>zo (hb pins s1 σ H1 _ I1 q1) λu s2 ⟨y,H2,I2,r2,q2⟩=>
  zo (ho pins s2 σ H2 x y v u _ I2 r1 r2 q2) λc s3 ⟨z,H3,I3,r3,k,e,q3⟩=>?_) hm
 subst e
 cases r3
 exact wpAny_truthy_bool ⟨H3,I3,q3⟩
theorem ZZ:(sizeLine:Nat) < 2 ^ 63:=by rw [sizeLine_eq]; decide
theorem uf {x:V} {us:List Value} (r:zM [x] us):∃ u,us=[u]/\zV x u:=by
 cases r with
 | cons r1 r2=>cases r2; exact ⟨_,rfl,r1⟩
theorem Za {x y:V} {us:List Value} (r:zM [x,y] us):∃ u w',us=[u,w']/\zV x u/\zV y w':=by
 cases r with
 | cons r1 r2=>
  cases r2 with
  | cons r3 r4=>cases r4; exact ⟨_,_,rfl,r1,r3⟩
theorem zJj:wz X (.builtin "abs") (λxs H Q=>∃ i,xs=[.int i]/\Q (.int (if i < 0 then -i else i)) H):=by
 intro pins s σ H xs us Q I r h
 obtain ⟨i,rfl,q⟩:=h
 obtain ⟨u,rfl,t,rfl⟩:=uf r
 exact call_abs_int λu tk=>⟨.int (if i < 0 then -i else i),H,I.tok _,⟨_,rfl⟩,q⟩
theorem zH3 (hc:X.calm=true):wz X (.builtin "max") (λxs H Q=>∃ i j,xs=[.int i,.int j]/\Q (.int (if j > i then j else i)) H):=by
 intro pins s σ H xs us Q I r h
 obtain ⟨i,j,rfl,q⟩:=h
 obtain ⟨u,w',rfl,⟨t,rfl⟩,⟨t',rfl⟩⟩:=Za r
 refine max_two_ints (I.ok.hd hc) λh' tk k=>⟨_,H,I.kept k,?_,q⟩
 by_cases hj:j > i
 ·rw [if_pos hj,if_pos hj]; exact ⟨_,rfl⟩
 ·rw [if_neg hj,if_neg hj]; exact ⟨_,rfl⟩
theorem Ut:wz X (.type "int") (λxs H Q=>(∃ i,xs=[.int i]/\Q (.int i) H)\/∃ k,xs=[.bl k]/\Q (.int (if k then 1 else 0)) H):=by
 intro pins s σ H xs us Q I r h
 rcases h with ⟨i,rfl,q⟩ | ⟨k,rfl,q⟩
 ·obtain ⟨u,rfl,t,rfl⟩:=uf r
  exact call_int_int ⟨.int i,H,I,⟨_,rfl⟩,q⟩
 ·obtain ⟨u,rfl,r1⟩:=uf r
  cases r1
  exact call_int_bool ⟨.int (if k then 1 else 0),H,I.tok _,⟨_,rfl⟩,q⟩
end
end L2
namespace L2
open PySem PySem.Spec PyProof.Rows
structure vU (h:Heap) (x dx C:Addr) (mA:Str->Option Value):Prop where
 obj:h.get? x=some (fb C dx)
 ns:h.Ns1 dx mA
 ne:dx≠x
theorem zLl {h:Heap} {dx:Addr} {mA:Str->Option Value} (n:h.Ns1 dx mA):∃ od,h.get? dx=some od/\∀ name,iR name od=some (mA name):=by
 obtain ⟨o,es,ep,ho,hd,hk,_,hm⟩:=n
 refine ⟨o,ho,λname=>?_⟩
 have e:=hm name
 unfold nsFind findBy at e
 rw [<- Array.find?_toList] at e
 unfold iR
 rw [hd]
 dsimp only
 split
 ·rename_i y q
  rw [q] at e
  exact congrArg some e
 ·rename_i q
  rw [q] at e
  have a:es.toList.any (·.refKey)=false:=by
   rw [List.any_eq_false]
   intro y hy
   obtain ⟨z,t,hkey⟩:=hk y (Array.mem_toList_iff.mp hy)
   simp [DictEntry.refKey,hkey]
  have a':¬ es.toList.any (·.refKey)=true:=by rw [a]; exact du
  rw [if_neg a']
  exact congrArg some e
theorem vU.look {h:Heap} {x dx C:Addr} {mA:Str->Option Value} (I:vU h x dx C mA):∃ od,PySem.W.InstAt h x (fb C dx) C (some od)/\∀ name,iR name od=some (mA name):=
 let ⟨od,ho,hl⟩:=zLl I.ns
 ⟨od,⟨I.obj,rfl,rfl,ho⟩,hl⟩
section
variable {prog:Program} {w:World} {A:Around} {E:Value->Shared->Prop} {s:Shared} {K:cI} {x dx C f:Addr} {mA:Str->Option Value} {name:Str} {v:Value}
theorem kM {expr:Bool} {Q:Value->Shared->Prop} (X:K.In s.heap) (I:vU s.heap x dx C mA) (hg:iz K C name=true) (hh:iZ K C=true)
  (ha:eK K (.ref C) name=some none) (hv:mA name=some v) (hv':mM v=true) (h:Q v { s with toks:=s.toks + 1 }) :
  wpAny (model prog w) A (getAttr (.ref x) name expr) Q E s:=by
 obtain ⟨od,J,hl⟩:=I.look
 exact PySem.W.get_value X J (iF hg).1 (PySem.W.findObj_own hh ha rfl (by rw [hl,hv])) hv' h
theorem zNu {pl:Sem Bool} {Q:Value × List Value->Shared->Prop} (X:K.In s.heap) (I:vU s.heap x dx C mA) (hg:iz K C name=true)
  (hf:eK K (.ref C) name=some (some (.ref f))) (ht:mz K (.ref f)=true) (hv:mA name=none) (h:Q (.ref f,[.ref x]) s) :
  wpAny (model prog w) A (getMethod (.ref x) name pl) Q E s:=by
 obtain ⟨od,J,hl⟩:=I.look
 exact PySem.W.method_fn X J (iF hg).1 (iF hg).2 hf (beq_iff_eq.mp ht) (by show (iR name od).map (·.isSome)=some false; rw [hl,hv]; rfl) h
theorem zPH {ns:List Str} {Q:Unit->Shared->Prop} (X:K.In s.heap) (I:vU s.heap x dx C mA)
  (hs:eK K (.ref C) "__setattr__" = some (some (.builtin "object.__setattr__"))) (hp:mi K C=true) (ht:lB K C name=some none) (hh:iZ K C=true)
  (hw:PySem.Within mA ns) (hsz:ns.length<=sizeLine)
  (h:∀ h',vU h' x dx C (λy=>if y=name then some v else mA y)->Heap.SameBut dx s.heap h'->Q () { s with heap:=h',toks:=s.toks + 2 }) :
  wpAny (model prog w) A (setAttr (.ref x) name v) Q E s:=by
 obtain ⟨od,J,hl⟩:=I.look
 refine PySem.W.set_plain X J hs (PySem.W.osa_open (s:={ s with toks:=s.toks + 1 }) (r:=none) X J hp ht λb=>?_)
 obtain ⟨cd,hc,hd'⟩:=PySem.W.any_some hh
 have hx:s.heap.get? x=some ⟨.ref C,some dx,.plain,#[]⟩:=I.obj
 refine wpAny_bind (wpAny_pure (wpAny_bind (wpAny_bind (wpAny_loadPart hx (wpAny_bind (PySem.W.Looks.here (s:={ s with toks:=s.toks + 1 }) (PySem.W.looks_clsIn X hc) ?_))))))
 rw [hd']
 refine wpAny_pure (a:=some dx) (wpAny_bind (wpAny_pure (wpAny_bind ?_)))
 refine wpAny_nsSet1 (s:={ s with toks:=s.toks + 1 }) I.ns λh' hn2 hs2=>?_
 obtain ⟨oD,esD,epD,hoD,hdD,hcD⟩:=hn2.count (PySem.Within.cons name v hw)
 refine wpAny_bind (wpAny_lookBehind hoD (by rw [hdD]; exact pastItsLine_dict (eA hcD (by rw [dB]; omega))) ?_)
 exact wpAny_pure (h _ ⟨(hs2.2 _ (Ne.symm I.ne)).trans I.obj,hn2,I.ne⟩ hs2)
theorem zNi {R:Result->Shared->Prop} {vs:List Value} {kw:List (Str × Value)} (X:K.In s.heap) (hm:mV K C=true)
  (hi:eK K (.ref C) "__init__" = some (some (.ref f))) (hf:PySem.W.typeIn K (.ref f)=some (.type "function"))
  (h:codeAny (model prog w) (A.under (.builtin "type.__call__" ⟨.ref C :: vs,kw⟩)) (.call (.ref f) ⟨.ref (s.heap.objs.size + 1) :: vs,kw⟩) (PySem.W.InitBack (s.heap.objs.size + 1) R)
   { s with heap:=(s.heap.push eI).push (fb C s.heap.objs.size) }) :
  codeAny (model prog w) A (.call (.ref C) ⟨vs,kw⟩) R s:=by
 obtain ⟨hh,g,d,t,os⟩:=s
 exact PySem.W.make_core (PySem.W.makes_of X hm) (PySem.W.looks_findIn X hi) (λself=>PySem.W.bind_fn X self hf) (.inl rfl) h
end
def yu (f:Str) (v:V):List (Str × V)->List (Str × V)
 | []=>[(f,v)]
 | (g,x) :: r=>if g=f then (g,v) :: r else (g,x) :: yu f v r
theorem zFZ (f g:Str) (v:V):∀ fs:List (Str × V),(yu f v fs).lookup g=if g=f then some v else fs.lookup g
 | []=>by
  show fX g [(f,v)]=_
  by_cases h:g=f
  ·have hb:(g == f)=true:=beq_iff_eq.mpr h
   simp only [fX,hb,if_pos h]
  ·have hb:(g == f)=false:=beq_eq_false_iff_ne.mpr h
   simp only [fX,hb,if_neg h]
 | (k,x) :: r=>by
  have ih:=zFZ f g v r
  rw [show yu f v ((k,x) :: r)=(if k=f then (k,v) :: r else (k,x) :: yu f v r) from rfl]
  by_cases hk:k=f
  ·rw [if_pos hk]
   by_cases h:g=k
   ·have hb:(g == k)=true:=beq_iff_eq.mpr h
    simp only [fX,hb,if_pos (h.trans hk)]
   ·have hb:(g == k)=false:=beq_eq_false_iff_ne.mpr h
    simp only [fX,hb,if_neg (λe:g=f=>h (e.trans hk.symm))]
  ·rw [if_neg hk]
   by_cases h:g=k
   ·have hb:(g == k)=true:=beq_iff_eq.mpr h
    simp only [fX,hb,if_neg (λe:g=f=>hk (h.symm.trans e))]
   ·have hb:(g == k)=false:=beq_eq_false_iff_ne.mpr h
    simp only [fX,hb]
    exact ih
theorem Uu (f:Str) (v:V):∀ fs:List (Str × V),f∈(yu f v fs).map (·.1)/\∀ g,g∈fs.map (·.1)->g∈(yu f v fs).map (·.1)
 | []=>⟨by simp [yu],λg h=>by simp at h⟩
 | (k,x) :: r=>by
  obtain ⟨i1,i2⟩:=Uu f v r
  rw [show yu f v ((k,x) :: r)=(if k=f then (k,v) :: r else (k,x) :: yu f v r) from rfl]
  by_cases hk:k=f
  ·rw [if_pos hk]
   subst hk
   exact ⟨by simp,λg h=>by simpa using h⟩
  ·rw [if_neg hk]
   refine ⟨?_,λg h=>?_⟩
   ·rw [dD]
    exact cK _ i1
   ·rw [dD] at h |-
    rcases de.mp h with e | e
    ·exact de.mpr (.inl e)
    ·exact cK _ (i2 g e)
theorem zFb (f:Str) (v:V):∀ fs:List (Str × V),(yu f v fs).length<=fs.length + 1
 | []=>by simp [yu]
 | (k,x) :: r=>by
  have ih:=zFb f v r
  rw [show yu f v ((k,x) :: r)=(if k=f then (k,v) :: r else (k,x) :: yu f v r) from rfl]
  by_cases hk:k=f
  ·rw [if_pos hk,dB,dB]; omega
  ·rw [if_neg hk,dB,dB]; omega
theorem wH.some_of {v:V} {o:Option Value} (r:wH (some v) o):∃ u,o=some u/\zV v u:=by
 cases o with
 | none=>exact (show False from r).elim
 | some u=>exact ⟨u,rfl,r⟩
theorem wH.none_of {o:Option Value} (r:wH none o):o=none:=by
 cases o with
 | none=>rfl
 | some u=>exact (show False from r).elim
theorem zLr {v:V} {u:Value} (r:zV v u):mM u=true:=by
 cases v with
 | non=>cases (show u=Value.none from r); rfl
 | bl b=>cases (show u=Value.bool b from r); rfl
 | int i=>obtain ⟨t,e⟩:=(show ∃ t,u=Value.int i t from r); cases e; rfl
 | str x=>obtain ⟨t,e⟩:=(show ∃ t,u=Value.str x t from r); cases e; rfl
 | byt b=>obtain ⟨t,e⟩:=(show ∃ t,u=Value.bytes b t from r); cases e; rfl
 | flt b=>obtain ⟨t,e⟩:=(show ∃ t,u=Value.float b t from r); cases e; rfl
 | ref a=>cases (show u=Value.ref a from r); rfl
 | ty n=>cases (show u=Value.type n from r); rfl
section
variable {P:Program} {w:World} {H H':Hp} {h h':Heap} {a C dx:Addr} {fs fs':List (Str × V)}
theorem WF (hok:xc P w H h) (e:H a=some (.ins C dx fs)):∃ mA,vU h a dx C mA/\(∀ f,wH (fs.lookup f) (mA f))/\PySem.Within mA (fs.map (·.1))/\fs.length<=1000/\H dx=some (.own a):=by
 obtain ⟨d,z,ne,ob,mA,n,r,q⟩:=(show wO P w H h a (.ins C dx fs) from hok a _ e)
 exact ⟨mA,⟨ob,n,ne⟩,r,q,z,d⟩
end
structure uz (K:cI) (C:Addr):Prop where
 pg:iz K C Str.empty=true
 hd:iZ K C=true
 po:mi K C=true
 sa:eK K (.ref C) "__setattr__" = some (some (.builtin "object.__setattr__"))
theorem uz.get {K:cI} {C:Addr} (c:uz K C) (f:Str):iz K C f=true:=c.pg
def vJ (K:cI) (C:Addr) (f:Str):Prop:=eK K (.ref C) f=some none
theorem vJ.taker {K:cI} {C:Addr} {f:Str} (n:vJ K C f):lB K C f=some none:=by
 unfold lB
 rw [show eK K (.ref C) f=some none from n]
 rfl
structure qw (K:cI) (C:Addr) (m:Str) (f:Addr):Prop where
 at_:eK K (.ref C) m=some (some (.ref f))
 fn:mz K (.ref f)=true
 kp:e9 K (.ref f)=true
section
variable {X:Cx} {pins:List (Addr × Obj)} {σ:St} {H:Hp} {s:Shared} {a C dx:Addr} {fs:List (Str × V)} {f:Str} {v:V} {A:Around} {E:Value->Shared->Prop}
theorem zKK {b:Bool} {Q:Value->Shared->Prop} (I:zE X pins σ H s) (e:H a=some (.ins C dx fs)) (c:uz X.K C) (n:vJ X.K C f) (l:fs.lookup f=some v)
  (h:∀ u s',zE X pins σ H s'->zV v u->Q u s'):wpAny (model X.prog X.w) A (getAttr (.ref a) f b) Q E s:=by
 obtain ⟨mA,O,r,_,_,_⟩:=WF I.hok e
 obtain ⟨u,hu,ru⟩:=wH.some_of (v:=v) (o:=mA f) (by rw [<- l]; exact r f)
 exact kM I.kIn O (c.get f) c.hd n hu (zLr ru) (h u _ (I.tok _) ru)
theorem zKJ {m:Str} {g:Addr} {pl:Sem Bool} {Q:Value × List Value->Shared->Prop} (I:zE X pins σ H s) (e:H a=some (.ins C dx fs)) (c:uz X.K C) (k:qw X.K C m g) (l:fs.lookup m=none)
  (h:Q (.ref g,[.ref a]) s):wpAny (model X.prog X.w) A (getMethod (.ref a) m pl) Q E s:=by
 obtain ⟨mA,O,r,_,_,_⟩:=WF I.hok e
 have hn:mA m=none:=wH.none_of (by rw [<- l]; exact r m)
 exact zNu I.kIn O (c.get m) k.at_ k.fn hn h
theorem zJs {y:V} {u:Value} {Q:Unit->Shared->Prop} (I:zE X pins σ H s) (e:H a=some (.ins C dx fs)) (c:uz X.K C) (n:vJ X.K C f) (hl:fs.length < 1000) (ry:zV y u)
  (h:∀ s',zE X pins σ (zh H a (.ins C dx (yu f y fs))) s'->Q () s'):wpAny (model X.prog X.w) A (setAttr (.ref a) f u) Q E s:=by
 obtain ⟨mA,O,r,wi,_,ho⟩:=WF I.hok e
 have hz:(fs.map (·.1)).length<=sizeLine:=by rw [a_,sizeLine_eq]; omega
 refine zPH I.kIn O c.sa c.po n.taker c.hd wi hz λh' O' sb=>h _ ?_
 have hd:∃ o,h'.get? dx=some o:=let ⟨o,_,_,e',_⟩:=O'.ns; ⟨o,e'⟩
 refine I.write (x:=a) (e:=dx) (by rw [e]; exact True.intro) (.inr ho) (λb q hb z=>(sb.2 b hb).trans z) hd ?_
 refine ⟨by rw [yH O.ne]; exact ho,?_,O.ne,O'.obj,_,O'.ns,λg=>?_,λg hg=>?_⟩
 ·have:=zFb f y fs; omega
 ·show wH ((yu f y fs).lookup g) (if g=f then some u else mA g)
  rw [zFZ]
  by_cases q:g=f
  ·rw [if_pos q,if_pos q]; exact ry
  ·rw [if_neg q,if_neg q]; exact r g
 ·by_cases q:g=f
  ·rw [q]; exact (Uu f y fs).1
  ·refine (Uu f y fs).2 g (wi g λz=>hg ?_)
   show (if g=f then some u else mA g)=none
   rw [if_neg q]; exact z
theorem zE.made (I:zE X pins σ H s):zE X pins σ (zh (zh H s.heap.objs.size (.own (s.heap.objs.size + 1))) (s.heap.objs.size + 1) (.ins C s.heap.objs.size []))
  { s with heap:=(s.heap.push eI).push (fb C s.heap.objs.size) }:=by
 have e1:(s.heap.push eI).get? s.heap.objs.size=some eI:=dj s.heap rfl
 have e2:((s.heap.push eI).push (fb C s.heap.objs.size)).get? (s.heap.objs.size + 1)=some (fb C s.heap.objs.size):=by
  have:=dj (s.heap.push eI) (o:=fb C s.heap.objs.size) rfl
  rwa [ft] at this
 have e3:(s.heap.push eI).Ns s.heap.objs.size (λ_=>none):=⟨eI,#[],_,e1,rfl,(λe he=>absurd he (by simp)),λ_=>rfl⟩
 have I1:=I.laid (a:=s.heap.objs.size) (o:=.own (s.heap.objs.size + 1)) (h':=s.heap.push eI) (t':=s.toks) (λb u q=>cR _ q) (cQ _) ⟨_,e1⟩
 refine I1.laid (a:=s.heap.objs.size + 1) (o:=.ins C s.heap.objs.size []) (t':=s.toks) (λb u q=>cR _ q) (Nat.le_of_eq (ft _ _)) ?_
 have ne:s.heap.objs.size≠s.heap.objs.size + 1:=dL (dW _)
 refine ⟨by rw [yH ne,wD],ib _,ne,e2,λ_=>none,(Heap.Ns1.of_empty e3).at λo q=>cR _ q,λ_=>True.intro,λy hy=>absurd rfl hy⟩
theorem zQe {prog:Program} {w:World} {env:Env} {e:Expr} {f:Str} {pos:Pos} {s:Shared} {Q:Value->Shared->Prop} (hb:attributeBase e f env (eval e env)=eval e env)
  (h:wpAny (model prog w) A (eval e env) (λo s₁=>wpAny (model prog w) A (getAttr o f true) Q E s₁) E s):wpAny (model prog w) A (eval (.Attribute e f pos) env) Q E s:=
 Attribute_any_ h (by rw [arm_eval_Attribute,hb])
end
def Uv (K:cI) (ta:TE) (f:Str):TE:=λσ H Q=>ta σ H λx H1=>∃ a C dx fs v,x=.ref a/\H1 a=some (.ins C dx fs)/\uz K C/\vJ K C f/\fs.lookup f=some v/\Q v H1
def Zb (K:cI) (ta tv:TE) (f:Str):TS:=λD σ H=>tv σ H λy H1=>ta σ H1 λx H2=>∃ a C dx fs,x=.ref a/\H2 a=some (.ins C dx fs)/\uz K C/\vJ K C f/\fs.length < 1000∧
 D.nx σ (zh H2 a (.ins C dx (yu f y fs)))
section
variable {X:Cx} {o e value:Expr} {f:Str} {pos pos' tpos:Pos} {ta tv:TE}
theorem zRi (he:PE X e ta) (hb:attributeBase e f X.env (eval e X.env)=eval e X.env):PE X (.Attribute e f pos) (Uv X.K ta f):=by
 intro pins s σ H Q I h
 refine zQe hb (zo (he pins s σ H _ I h) λu s1 ⟨x,H1,I1,rx,a,C,dx,fs,v,ex,ea,c,n,l,q⟩=>?_)
 subst ex
 obtain rfl:u=Value.ref a:=rx
 exact zKK I1 ea c n l λu' s2 I2 ru=>⟨v,H1,I2,ru,q⟩
theorem jn (ha:PE X o ta) (hv:PE X value tv) (hs:swapsWith value (some (.Attribute o f pos')) pos.line X.env=pure false):PS X (.Assign [.Attribute o f pos'] value pos) (Zb X.K ta tv f):=by
 intro pins s σ H D I h
 refine plainObj_wpAny_Assign_Attribute (zo (hv pins s σ H _ I h) λu s1 ⟨y,H1,I1,ry,q⟩=>zo (ha pins s1 σ H1 _ I1 q) λov s2 ⟨x,H2,I2,rx,a,C,dx,fs,ex,ea,c,n,l,q2⟩=>?_) hs
 subst ex
 obtain rfl:ov=Value.ref a:=rx
 exact zJs I2 ea c n l ry λs3 I3=>⟨σ,_,I3,q2⟩
end
section
variable {X:Cx} {pins:List (Addr × Obj)} {σ:St} {H:Hp} {s:Shared} {A:Around} {E:Value->Shared->Prop} {Q:Value->Shared->Prop} {c:Value} {b:Bool}
inductive yb (K:cI) (H:Hp):V->Value->Prop where
 | non:yb K H .non (.type "NoneType")
 | bl (x:Bool):yb K H (.bl x) (.type "bool")
 | int (i:Int):yb K H (.int i) (.type "int")
 | str (x:Str):yb K H (.str x) (.type "str")
 | flt (x:UInt64):yb K H (.flt x) (.type "float")
 | lst {a:Addr} {xs:List V} (e:H a=some (.lst xs)):yb K H (.ref a) (.type "list")
 | frz {a:Addr} {o:Obj} {xs:List V} (e:H a=some (.frz o (.lst xs))):yb K H (.ref a) (.type "list")
 | tup {a:Addr} {xs:List V} (e:H a=some (.tup xs)):yb K H (.ref a) (.type "tuple")
 | dK {a:Addr} {kvs:List (wN × V)} (e:H a=some (.dK kvs)):yb K H (.ref a) (.type "dict")
 | dT {a:Addr} {kvs:List (List wN × V)} (e:H a=some (.dT kvs)):yb K H (.ref a) (.type "dict")
 | ins {a C dx:Addr} {fs:List (Str × V)} (e:H a=some (.ins C dx fs)) (cl:uz K C) (ha:eK K (.ref C) "__class__" = some (some (.builtin "object.__class__")))
   (hn:mj K (.builtin "object.__class__") "__get__" = some (some (.builtin "getset_descriptor.__get__"))) (htk:mW K (.builtin "object.__class__")=some true)
   (hm:nD K C (.type "object")=some true):yb K H (.ref a) (.ref C)
theorem zHq {x:V} {u t:Value} (I:zE X pins σ H s) (rx:zV x u) (ty:yb X.K H x t) (e:dy X.K t c=some b) (h:∀ tk,Q (.bool b) { s with toks:=tk }) :
  wpAny (model X.prog X.w) A (call (.builtin "isinstance") [u,c]) Q E s:=by
 cases ty with
 | non=>cases (show u=Value.none from rx); exact eE PySem.W.kitx_none I.kIn True.intro e (λz=>nomatch z) h
 | bl y=>cases (show u=Value.bool y from rx); exact eE PySem.W.kitx_bool I.kIn True.intro e (λz=>nomatch z) h
 | int i=>obtain ⟨t,q⟩:=(show ∃ t,u=Value.int i t from rx); cases q; exact eE PySem.W.kitx_int I.kIn True.intro e (λz=>nomatch z) h
 | str y=>obtain ⟨t,q⟩:=(show ∃ t,u=Value.str y t from rx); cases q; exact eE PySem.W.kitx_str I.kIn True.intro e (λz=>nomatch z) h
 | flt y=>obtain ⟨t,q⟩:=(show ∃ t,u=Value.float y t from rx); cases q; exact eE PySem.W.kitx_float I.kIn True.intro e (λz=>nomatch z) h
 | @lst a xs ea=>
  cases (show u=Value.ref a from rx)
  obtain ⟨_,_,n,_,h1⟩:=(show wO X.prog X.w H s.heap a (.lst xs) from I.hok a _ ea)
  exact eE ml I.kIn ⟨_,h1,rfl⟩ e (λz=>nomatch z) h
 | @frz a ob xs ea=>
  cases (show u=Value.ref a from rx)
  obtain ⟨_,_,_,n,_,h1⟩:=(show wO X.prog X.w H s.heap a (.frz ob (.lst xs)) from I.hok a _ ea)
  exact eE ml I.kIn ⟨_,h1,rfl⟩ e (λz=>nomatch z) h
 | @tup a xs ea=>
  cases (show u=Value.ref a from rx)
  obtain ⟨_,_,_,p⟩:=(show wO X.prog X.w H s.heap a (.tup xs) from I.hok a _ ea)
  obtain ⟨o,h1,h2,_⟩:=p
  exact eE PySem.W.kitx_tuple I.kIn ⟨o,h1,h2⟩ e (λz=>nomatch z) h
 | @dK a kvs ea=>
  cases (show u=Value.ref a from rx)
  obtain ⟨_,_,vs,_,p⟩:=(show wO X.prog X.w H s.heap a (.dK kvs) from I.hok a _ ea)
  obtain ⟨o,es,ep,h1,h2,_⟩:=p
  exact eE mn I.kIn ⟨o,h1,h2.1⟩ e (λz=>nomatch z) h
 | @dT a kvs ea=>
  cases (show u=Value.ref a from rx)
  obtain ⟨_,_,xs,_,o,es,ep,h1,h2,_⟩:=(show wO X.prog X.w H s.heap a (.dT kvs) from I.hok a _ ea)
  exact eE mn I.kIn ⟨o,h1,h2.1⟩ e (λz=>nomatch z) h
 | @ins a C dx fs ea cl ha hn htk hm=>
  cases (show u=Value.ref a from rx)
  obtain ⟨mA,O,_⟩:=WF I.hok ea
  obtain ⟨od,J,_⟩:=O.look
  exact eE (PySem.W.kitx_own (cl.get _) cl.hd ha hn htk hm) I.kIn J e (λz=>nomatch z) h
end
end L2
namespace L2
open PySem PySem.Spec PyProof.Rows
structure zc (k:Nat) (A:Around):Prop where
 hd:A.handled=none
 dp:A.depth + 3 * k + 5 < recursionLimit
 un:A.units + 16 * k + 200 < cLine
theorem zc.mono {j k:Nat} {A:Around} (r:zc k A) (h:j<=k):zc j A:=⟨r.hd,by have:=r.dp; omega,by have:=r.un; omega⟩
theorem zc.deeper {k:Nat} {A:Around} (r:zc (k + 1) A) (env:Env):zc k (A.deeper env):=
 ⟨r.hd,by have:=r.dp; show A.depth + 1 + 3 * k + 5 < _; omega,by have:=r.un; show A.units + 3 + 16 * k + 200 < _; omega⟩
theorem zc.in1 {k:Nat} {A:Around} (r:zc (k + 1) A):zc k A.in1:=
 ⟨r.hd,by have:=r.dp; show A.depth + 3 * k + 5 < _; omega,by have:=r.un; show A.units + 1 + 16 * k + 200 < _; omega⟩
theorem zKH {A:Around} {C:Addr} {us:List Value} {kw:List (Str × Value)}:(A.under (.builtin "type.__call__" ⟨.ref C :: us,kw⟩)).depth=A.depth + 1:=by
 first | rfl | simp [Around.under,Code.weight,Code.isCreation,Code.isGuard,Code.isCaller,Code.frames,Code.isFrame,guardIds]
theorem zKG {A:Around} {C:Addr} {us:List Value} {kw:List (Str × Value)}:(A.under (.builtin "type.__call__" ⟨.ref C :: us,kw⟩)).units=A.units + 1:=by
 first | rfl | simp [Around.under,Code.cUnits,Code.frames,Code.isFrame]
theorem zc.make {k:Nat} {A:Around} (r:zc (k + 1) A) (C:Addr) (us:List Value) (kw:List (Str × Value)):zc k (A.under (.builtin "type.__call__" ⟨.ref C :: us,kw⟩)):=
 ⟨r.hd,by have:=r.dp; rw [zKH]; omega,by have:=r.un; rw [zKG]; omega⟩
theorem zc.depth {k:Nat} {A:Around} (r:zc k A):A.depth < recursionLimit:=by have:=r.dp; omega
theorem zc.units {k:Nat} {A:Around} (r:zc k A):A.units + 64 < cLine:=by have:=r.un; omega
def vV:TA:=λ_ H Q=>Q [] H
def qx (ta:TE) (tr:TA):TA:=λσ H Q=>ta σ H λx H1=>tr σ H1 λxs H2=>Q (x :: xs) H2
section
variable {X:Cx} {e:Expr} {es:List Expr} {te:TE} {t:TA} {pos:Pos}
theorem ym:PA X [] vV:=λ_ _ _ _ H Q I h=>Calls.spliced_nil ⟨[],H,I,.nil,h⟩
theorem yA (ha:PE X e te) (hr:PA X es t) (hs:starEach (e :: es) X.env=(false,eval e X.env) :: starEach es X.env:=by rfl):PA X (e :: es) (qx te t):=by
 intro pos pins s σ H Q I h
 rw [hs]
 show wpAny _ _ (spliced ((false,eval e X.env) :: backTo pos (starEach es X.env))) _ _ s
 refine Calls.spliced_cons (zo (ha pins s σ H _ I h) λu s1 ⟨x,H1,I1,r1,q1⟩=>?_)
 exact zo (hr pos pins s1 σ H1 _ I1 q1) λus s2 ⟨xs,H2,I2,r2,q2⟩=>⟨x :: xs,H2,I2,.cons r1 r2,q2⟩
def Uw (t:TA):TE:=λσ H Q=>t σ H λxs H1=>xs.length<=sizeLine/\∀ p,H1 p=none->Q (.ref p) (zh H1 p (.tup xs))
def Ux (t:TA):TE:=λσ H Q=>t σ H λxs H1=>xs.length<=sizeLine/\∀ p,H1 p=none->Q (.ref p) (zh H1 p (.lst xs))
theorem zRe {x1} (h:PA X es t):PE X (.Tuple es x1 pos) (Uw t):=by
 intro pins s σ H Q I hq
 refine wpAny_Tuple_spliced (zo (h pos pins s σ H _ I hq) λus s1 ⟨xs,H1,I1,r,z,q⟩=>⟨by rw [<- r.length]; exact z,?_⟩)
 have hf:H1 s1.heap.objs.size=none:=I1.hok.fresh (cQ _)
 refine ⟨.ref s1.heap.objs.size,zh H1 s1.heap.objs.size (.tup xs),I1.laid (t':=s1.toks) (λb u e=>cR _ e) (cQ _) ?_,rfl,q _ hf⟩
 exact ⟨z,us,r,⟨_,dj _ rfl,rfl,_,rfl⟩⟩
theorem zOY (h:PA X es t):PE X (.List es pos) (Ux t):=by
 intro pins s σ H Q I hq
 refine wpAny_List_spliced (zo (h pos pins s σ H _ I hq) λus s1 ⟨xs,H1,I1,r,z,q⟩=>⟨by rw [<- r.length]; exact z,?_⟩)
 have hf:H1 s1.heap.objs.size=none:=I1.hok.fresh (cQ _)
 refine ⟨.ref s1.heap.objs.size,zh H1 s1.heap.objs.size (.lst xs),I1.laid (t':=s1.toks) (λb u e=>cR _ e) (cQ _) ?_,rfl,q _ hf⟩
 exact ⟨z,us,0,r,dj _ rfl⟩
end
abbrev Sp:=List V->Hp->VK->XK->Prop
abbrev uG:=List Env->Hp->Shared->XK->Value->Shared->Prop
structure xx (P:Program) (w:World) (K:cI) (mg:Str->Option Value) (base:Heap) (A:Around) (outer:List Env) (s:Shared) (H:Hp):Prop where
 frames:A.frames=some outer
 mod:Mod K mg base
 bs:∀ b o,base.get? b=some o->s.heap.get? b=some o/\H b=none
 bsz:base.objs.size<=s.heap.objs.size
 funs:s.heap.FunFrames base outer
 frf:∀ b∈vS outer,H b=none
 hok:xc P w H s.heap
 bare:AllBare s.gens
def CE (outer:List Env) (P:Program) (w:World) (H:Hp) (s:Shared) (Q:VK) (u:Value) (s':Shared):Prop:=
 ∃ v H',s'.os=s.os/\AllBare s'.gens/\Un (vS outer) [] H H' s.heap s'.heap/\xc P w H' s'.heap/\zV v u/\Q v H'
def CR (CX:uG) (outer:List Env) (P:Program) (w:World) (H:Hp) (s:Shared) (Q:VK) (E:XK) (r:Result) (s':Shared):Prop:=
 match r with
 | .ok (.ret u)=>CE outer P w H s Q u s'
 | .ok _=>False
 | .error e=>CX outer H s E e s'
structure zF (P:Program) (w:World) (K:cI) (mg:Str->Option Value) (base:Heap) (CX:uG) (k:Nat) (f:Addr) (fd:FuncData) (ps:List Str) (sp:Sp):Prop where
 len:∀ vs H Q E,sp vs H Q E->vs.length=ps.length
 run:∀ (A:Around) (outer:List Env) (s:Shared) (H:Hp) (args:Args) (us:List Value) (vs:List V) (Q:VK) (E:XK),zc k A->xx P w K mg base A outer s H->BindsTo s fd args (ps.zip us)->zM vs us->sp vs H Q E->
  codeAny (model P w) A (.call (.ref f) args) (CR CX outer P w H s Q E) s
theorem zF.mono {P:Program} {w:World} {K:cI} {mg:Str->Option Value} {base:Heap} {CX:uG} {j k:Nat} {f:Addr} {fd:FuncData} {ps:List Str} {sp:Sp} (F:zF P w K mg base CX j f fd ps sp) (h:j<=k) :
  zF P w K mg base CX k f fd ps sp:=⟨F.len,λA outer s H args us vs Q E hr=>F.run A outer s H args us vs Q E (hr.mono h)⟩
theorem xx.make {P:Program} {w:World} {K:cI} {mg:Str->Option Value} {base:Heap} {A:Around} {outer:List Env} {s:Shared} {H:Hp} (e:xx P w K mg base A outer s H) (C:Addr) (us:List Value) (kw:List (Str × Value)) :
  xx P w K mg base (A.under (.builtin "type.__call__" ⟨.ref C :: us,kw⟩)) outer s H:=⟨by first | exact e.frames | (simpa [Around.under,Code.envs,Code.isFrame,pushEnvs] using e.frames),e.mod,e.bs,e.bsz,e.funs,e.frf,e.hok,e.bare⟩
theorem xx.in1 {P:Program} {w:World} {K:cI} {mg:Str->Option Value} {base:Heap} {A:Around} {outer:List Env} {s:Shared} {H:Hp} (e:xx P w K mg base A outer s H) :
  xx P w K mg base A.in1 outer s H:=⟨e.frames,e.mod,e.bs,e.bsz,e.funs,e.frf,e.hok,e.bare⟩
section
variable {X:Cx} {pins:List (Addr × Obj)} {σ:St} {H:Hp} {s s':Shared}
theorem zE.env0 (I:zE X pins σ H s):xx X.prog X.w X.K X.mg X.base X.A X.stack s H:=
 ⟨I.ok.frames,I.ok.mod,I.bs,eA I.ok.bsz I.sz,I.stack,I.stkFree,I.hok,I.bare⟩
theorem zE.after {Q:VK} {u:Value} (I:zE X pins σ H s) (h:CE X.stack X.prog X.w H s Q u s'):EP X pins σ Q u s':=by
 obtain ⟨v,H',os,bare,un,hok,r,q⟩:=h
 obtain ⟨hh,g,d,t,os'⟩:=s'
 obtain rfl:os'=s.os:=os
 exact ⟨v,H',I.call (h':=hh) (g':=g) (d':=d) (t':=t) (ch:=[]) un hok bare (λb z=>absurd z (by simp)),r,q⟩
end
def Uy (sp:Sp) (dvs:List V) (E:XK) (t:TA):TE:=λσ H Q=>t σ H λvs H1=>sp (vs++dvs) H1 Q E
def zQ2 (C:Addr) (m:Str) (sp:Sp) (dvs:List V) (E:XK) (ta:TE) (t:TA):TE:=λσ H Q=>ta σ H λx H1=>∃ a dx fs,x=.ref a/\H1 a=some (.ins C dx fs)/\fs.lookup m=none∧
 t σ H1 λvs H2=>sp (x :: (vs++dvs)) H2 Q E
def WG (C:Addr) (sp:Sp) (dvs:List V) (E:XK) (t:TA):TE:=λσ H Q=>t σ H λvs H1=>∀ x dx,H1 x=none->H1 dx=none->dx≠x->
 sp (.ref x :: (vs++dvs)) (zh (zh H1 dx (.own x)) x (.ins C dx [])) (λv H2=>v=.non/\Q (.ref x) H2) E
def vW (K:cI) (fd:FuncData) (ps:List Str) (ds:List Value):Prop:=
 ∀ (s:Shared) (us:List Value),K.In s.heap->(us++ds).length=ps.length->BindsTo s fd ⟨us,[]⟩ (ps.zip (us++ds))
theorem vW.all {K:cI} {fd:FuncData} {ps:List Str} (h:∀ us:List Value,us.length=ps.length->bindArgs fd ⟨us,[]⟩=pure (ps.zip us)):vW K fd ps []:=λs us _ hl=>by
 rw [fy] at hl |-
 exact .of_eq (h us hl)
def kN (CX:uG) (X:Cx) (E:XK):Prop:=∀ (pins:List (Addr × Obj)) (σ:St) (H:Hp) (s:Shared) (e:Value) (s':Shared),zE X pins σ H s->CX X.stack H s E e s'->X.xe e s'
section
variable {X:Cx} {CX:uG} {k:Nat} {f C:Addr} {fd:FuncData} {ps:List Str} {sp:Sp} {dvs:List V} {ds:List Value} {E:XK} {x m:Str} {p pos apos:Pos} {e o:Expr} {es:List Expr} {ta:TE} {t:TA}
theorem zOQ {pins:List (Addr × Obj)} {σ:St} {H:Hp} {s:Shared} {Q:VK} {us:List Value} {vs:List V} (F:zF X.prog X.w X.K X.mg X.base CX k f fd ps sp) (hr:zc k X.A) (hb:vW X.K fd ps ds) (hd:zM dvs ds) (hx:kN CX X E)
  (I:zE X pins σ H s) (r:zM vs us) (h:sp (vs++dvs) H Q E):wpAny (model X.prog X.w) X.A (call (.ref f) us) (EP X pins σ Q) X.xe s:=by
 have r2:zM (vs++dvs) (us++ds):=r.append hd
 have hl:(us++ds).length=ps.length:=by rw [<- r2.length]; exact F.len _ _ _ _ h
 refine wpAny_call (codeAny_mono (F.run X.A X.stack s H ⟨us,[]⟩ (us++ds) (vs++dvs) Q E hr I.env0 (hb s us I.kIn hl) r2 h) λr s' hq=>?_)
 cases r with
 | error e=>exact hx pins σ H s e s' I hq
 | ok fl=>
  cases fl with
  | ret u=>exact I.after hq
  | next=>exact False.elim hq
  | brk=>exact False.elim hq
  | cont=>exact False.elim hq
theorem zLC (F:zF X.prog X.w X.K X.mg X.base CX k f fd ps sp) (hr:zc k X.A) (hg:Gl X x) (hm:X.mg x=some (.ref f)) (hk:e9 X.K (.ref f)=true) (hb:vW X.K fd ps ds) (hd:zM dvs ds) (hx:kN CX X E)
  (ha:PA X (e :: es) t) (hdb:(x == ("__debug__" : Str))=false:=by decide) (he:starEach (e :: es) X.env=(false,eval e X.env) :: starEach es X.env:=by rfl) (hpl:(backTo pos (starEach es X.env)).any (·.1)=false:=by rfl) :
  PE X (.Call (.Name x p) (e :: es) [] pos) (Uy sp dvs E t):=by
 intro pins s σ H Q I h
 refine wpAny_Call_Name_kw (UV I hg hm ?_ hdb)
 refine l6 (h₀:=X.base) I.ok.mod.kin hk (zo (ha pos pins s σ H _ I h) λus s1 ⟨vs,H1,I1,r,q⟩=>⟨I1.kIn,?_⟩) he hpl
 exact zOQ F hr hb hd hx I1 r q
theorem zNI {pl:Sem Bool} (he:PE X o ta) (c:uz X.K C) (hm:qw X.K C m f) (F:zF X.prog X.w X.K X.mg X.base CX k f fd ps sp) (hr:zc k X.A) (hb:vW X.K fd ps ds) (hd:zM dvs ds) (hx:kN CX X E)
  (ht:eval (.Call (.Attribute o m apos) [] [] pos) X.env=(do
   let ov <- eval o X.env
   standAt apos.atName
   let (f,first) <- holding [ov] (getMethod ov m pl)
   callWith pos f first (backTo pos (starEach [] X.env)) (backToKw pos (keywordEach [] X.env))):=by rfl) :
  PE X (.Call (.Attribute o m apos) [] [] pos) (zQ2 C m sp dvs E ta vV):=by
 intro pins s σ H Q I h
 refine PySem.W.methodCall_KW (pl:=pl) (zo (he pins s σ H _ I h) λu s1 ⟨x,H1,I1,rx,a,dx,fs,ex,ea,l,q⟩=>?_) ht
 subst ex
 obtain rfl:u=Value.ref a:=rx
 refine zKJ I1 ea c hm l ?_
 exact PySem.W.callWith_K0 (first:=[.ref a]) I1.kIn hm.kp (zOQ (us:=[.ref a]) (vs:=[.ref a]) F hr hb hd hx I1 (.cons rfl .nil) q)
structure Mk (K:cI) (C f:Addr):Prop where
 makes:mV K C=true
 init:eK K (.ref C) "__init__" = some (some (.ref f))
 fn:mz K (.ref f)=true
 kp:e9 K (.ref C)=true
theorem zM7 {pins:List (Addr × Obj)} {σ:St} {H:Hp} {s:Shared} {Q:VK} {us:List Value} {vs:List V} (M:Mk X.K C f) (F:zF X.prog X.w X.K X.mg X.base CX k f fd ps sp) (hr:zc (k + 1) X.A) (hb:vW X.K fd ps ds) (hd:zM dvs ds)
  (hx:kN CX X E) (I:zE X pins σ H s) (r:zM vs us)
  (h:∀ x dx,H x=none->H dx=none->dx≠x->sp (.ref x :: (vs++dvs)) (zh (zh H dx (.own x)) x (.ins C dx [])) (λv H2=>v=.non/\Q (.ref x) H2) E) :
  wpAny (model X.prog X.w) X.A (call (.ref C) us) (EP X pins σ Q) X.xe s:=by
 have hq:=h (s.heap.objs.size + 1) s.heap.objs.size (I.hok.fresh (Nat.le_succ _)) (I.hok.fresh (cQ _)) (dL (dW _))
 have I2:=zE.made (C:=C) I
 have r2:zM (V.ref (s.heap.objs.size + 1) :: (vs++dvs)) (Value.ref (s.heap.objs.size + 1) :: (us++ds)):=.cons rfl (r.append hd)
 have hl:(Value.ref (s.heap.objs.size + 1) :: us++ds).length=ps.length:=by
  have e:=r2.length
  rw [F.len _ _ _ _ hq] at e
  exact e.symm
 refine wpAny_call (zNi (f:=f) I.kIn M.makes M.init (beq_iff_eq.mp M.fn) (codeAny_mono (F.run _ X.stack _ _ ⟨Value.ref (s.heap.objs.size + 1) :: us,[]⟩ (Value.ref (s.heap.objs.size + 1) :: (us++ds)) _ _ E (hr.make C us [])
  (I2.env0.make C us []) (hb _ (Value.ref (s.heap.objs.size + 1) :: us) I2.kIn hl) r2 hq) λr s' hq'=>?_))
 cases r with
 | error e=>exact hx pins σ _ _ e s' I2 hq'
 | ok fl=>
  cases fl with
  | ret u=>
   obtain ⟨v,H',I3,rv,ev,q3⟩:=I2.after hq'
   subst ev
   exact ⟨rv,⟨V.ref (s.heap.objs.size + 1),H',I3,rfl,q3⟩⟩
  | next=>exact False.elim hq'
  | brk=>exact False.elim hq'
  | cont=>exact False.elim hq'
theorem zPd (M:Mk X.K C f) (F:zF X.prog X.w X.K X.mg X.base CX k f fd ps sp) (hr:zc (k + 1) X.A) (hg:Gl X x) (hm:X.mg x=some (.ref C)) (hb:vW X.K fd ps ds) (hd:zM dvs ds) (hx:kN CX X E)
  (ha:PA X (e :: es) t) (hdb:(x == ("__debug__" : Str))=false:=by decide) (he:starEach (e :: es) X.env=(false,eval e X.env) :: starEach es X.env:=by rfl) (hpl:(backTo pos (starEach es X.env)).any (·.1)=false:=by rfl) :
  PE X (.Call (.Name x p) (e :: es) [] pos) (WG C sp dvs E t):=by
 intro pins s σ H Q I h
 refine wpAny_Call_Name_kw (UV I hg hm ?_ hdb)
 refine l6 (h₀:=X.base) I.ok.mod.kin M.kp (zo (ha pos pins s σ H _ I h) λus s1 ⟨vs,H1,I1,r,q⟩=>⟨I1.kIn,?_⟩) he hpl
 exact zM7 M F hr hb hd hx I1 r q
end
structure zf (N P:List Str) (sc:Scope):Prop where
 kind:sc.kind=.function
 co:sc.isCoroutine=false
 gen:sc.isGenerator=false
 nd:N.Nodup
 pre:N.take P.length=P
 par:∀ x∈P,sc.names.lookup x=some .local\/sc.names.lookup x=some .cell
 nofree:∀ y∈sc.names,y.2≠.free
theorem zf.a {N P:List Str} {s:Scope} (a:s.kind=.function:=by rfl) (b:s.isCoroutine=false:=by rfl) (c:s.isGenerator=false:=by rfl) (d:N.Nodup:=by decide +kernel) (e:N.take P.length=P:=by rfl) (f:∀ x∈P,s.names.lookup x=some .local\/s.names.lookup x=some .cell:=by decide +kernel) (g:∀ y∈s.names,y.2≠.free:=by decide +kernel):zf N P s:=⟨a,b,c,d,e,f,g⟩
theorem zH7 {kindOf:Str->Option NameKind} {x:Str}:∀ {binds:List (Str × Value)} {m:Str->Option Value},(∀ v,(x,v)∉binds)->bindL kindOf binds m x=m x
 | [],_,_=>rfl
 | (n,v) :: r,m,h=>by
  unfold bindL
  rw [zH7 λw hw=>h w (cK _ hw)]
  split
  ·have:x≠n:=by rintro rfl; exact h v cO
   simp [this]
  ·rfl
theorem zH9 {kindOf:Str->Option NameKind} {x:Str}:∀ {binds:List (Str × Value)} {m:Str->Option Value},(∀ v,(x,v)∉binds)->bindC kindOf binds m x=m x
 | [],_,_=>rfl
 | (n,v) :: r,m,h=>by
  unfold bindC
  rw [zH9 λw hw=>h w (cK _ hw)]
  split
  ·rfl
  ·have:x≠n:=by rintro rfl; exact h v cO
   simp [this]
theorem zH8 {kindOf:Str->Option NameKind} {x:Str} {v:Value}:∀ {P:List Str} {vs:List Value} {i:Nat} {m:Str->Option Value},P.Nodup->P[i]? = some x->vs[i]? = some v->kindOf x=some .local->
  bindL kindOf (P.zip vs) m x=some v
 | [],_,_,_,_,h,_,_=>by simp at h
 | _ :: _,[],_,_,_,_,h,_=>by simp at h
 | p :: P,w :: vs,0,m,nd,h1,h2,hk=>by
  simp at h1 h2; subst h1; subst h2
  show bindL kindOf ((p,w) :: P.zip vs) m p=_
  unfold bindL
  rw [zH7 λv hv=>(fI.mp nd).1 (d8 hv).1,if_pos hk]
  simp
 | p :: P,w :: vs,i + 1,m,nd,h1,h2,hk=>by
  show bindL kindOf ((p,w) :: P.zip vs) m x=_
  unfold bindL
  exact zH8 (i:=i) (fI.mp nd).2 (by simpa using h1) (by simpa using h2) hk
theorem zIA {kindOf:Str->Option NameKind} {x:Str} {v:Value}:∀ {P:List Str} {vs:List Value} {i:Nat} {m:Str->Option Value},P.Nodup->P[i]? = some x->vs[i]? = some v->kindOf x≠some .local->
  bindC kindOf (P.zip vs) m x=some v
 | [],_,_,_,_,h,_,_=>by simp at h
 | _ :: _,[],_,_,_,_,h,_=>by simp at h
 | p :: P,w :: vs,0,m,nd,h1,h2,hk=>by
  simp at h1 h2; subst h1; subst h2
  show bindC kindOf ((p,w) :: P.zip vs) m p=_
  unfold bindC
  rw [zH9 λv hv=>(fI.mp nd).1 (d8 hv).1,if_neg hk]
  simp
 | p :: P,w :: vs,i + 1,m,nd,h1,h2,hk=>by
  show bindC kindOf ((p,w) :: P.zip vs) m x=_
  unfold bindC
  exact zIA (i:=i) (fI.mp nd).2 (by simpa using h1) (by simpa using h2) hk
def yq (N:List Str) (vs:List V):St:=vs.map some++cS (N.length - vs.length) none
def xP (CX:uG) (P:Program) (w:World) (K:cI) (mg:Str->Option Value) (base:Heap) (N:List Str) (qual:Str) (scope:Scope) (f:Addr) (cd:Value) (A:Around) (outer:List Env) (s:Shared) (H:Hp) (E:XK):Cx where
 prog:=P
 w:=w
 K:=K
 mg:=mg
 base:=base
 A:=A.deeper (envOfC qual scope s.heap.objs.size f cd)
 N:=N
 s₀:=s
 H₀:=H
 env:=envOfC qual scope s.heap.objs.size f cd
 outer:=outer
 stack:=envOfC qual scope s.heap.objs.size f cd :: outer
 ex:=[]
 calm:=true
 fn:=λ_=>true
 pn:=[]
 xe:=λe s'=>wpAny (model P w) (A.deeper (envOfC qual scope s.heap.objs.size f cd)) (leaving (envOfC qual scope s.heap.objs.size f cd) e) (λ_ s''=>CX outer H s E e s'') (λe' s''=>CX outer H s E e' s'') s'
theorem zJf {sc:Scope} {n:Nat} {x:Str} (h:sc.names.lookup x=some .cell):∃ c,(cellsFrom n sc.names []).lookup x=some c:=by
 have q:=eU sc.names n [] (.inl h)
 exact eJ.mp q
theorem zLn {CX:uG} {P:Program} {w:World} {K:cI} {mg:Str->Option Value} {base:Heap} {N ps:List Str} {qual:Str} {scope:Scope} {f:Addr} {cd:Value} {A:Around} {outer:List Env} {s s1:Shared} {H:Hp} {E:XK} {us:List Value} {vs:List V}
  (S:zf N ps scope) (hd:A.handled=none) (e0:xx P w K mg base A outer s H) (hl:vs.length=ps.length) (r:zM vs us)
  (x:InCallC s s.heap.objs.size (bindL (envOfC qual scope s.heap.objs.size f cd).kindOf (ps.zip us) λ_=>none) (cellsFrom (s.heap.objs.size + 1) scope.names []) (bindC (envOfC qual scope s.heap.objs.size f cd).kindOf (ps.zip us) λ_=>none) s1) :
  zE (xP CX P w K mg base N qual scope f cd A outer s H E) [] (yq N vs) H s1:=by
 have hpl:ps.length<=N.length:=by have:=congrArg fY S.pre; rw [cU] at this; omega
 obtain ⟨h1,tk,rfl,hk⟩:=x.done
 have noA:∀ b:Addr,b∉(xP CX P w K mg base N qual scope f cd A outer s H E).ex:=λb z=>absurd (show b∈([]:List Addr) from z) (by simp)
 refine ⟨⟨e0.mod,S.kind,rfl,rfl,cQ _,λy z c h1 h2=>?_,λy hy=>?_,λy c _ h=>?_,λ_=>hd,Around.frames_deeper e0.frames,.inr ⟨rfl,rfl⟩,λb z=>absurd z (noA b),e0.bs,e0.bsz,λb _ _=>noA b,λb z=>absurd z (noA b),e0.funs,e0.frf⟩,
  rfl,e0.bare,Un.kept hk,⟨_,x.toInCall.ns,λi y v h1 h2 h3=>?_⟩,λy c h=>⟨_,x.cell y c h⟩,e0.hok.fresh (cQ _),λy c h=>?_,λp hp=>absurd (show p∈([]:List (Addr × Obj)) from hp) (by simp),e0.hok.kept hk,?_⟩
 ·exact name_of_addr x.apart (PySem.mem_of_lookup h1) (PySem.mem_of_lookup h2)
 ·have hy:scope.names.lookup y=some .cell\/scope.names.lookup y=some .free:=hy
  rcases hy with hy | hy
  ·exact zJf hy
  ·exact absurd rfl (S.nofree _ (PySem.mem_of_lookup hy))
 ·exact iL (x.above y c (PySem.mem_of_lookup h))
 ·have hi:i < vs.length:=by
   unfold yq at h2
   by_cases hi:i < vs.length
   ·exact hi
   ·rw [dC (by simpa using hi)] at h2
    rw [i9] at h2
    split at h2 <;> cases h2
  have ha:vs[i]? = some v:=by
   unfold yq at h2
   rw [dR (by simpa using hi),c_] at h2
   cases e:vs[i]? with
   | none=>rw [e] at h2; cases h2
   | some a=>rw [e] at h2; cases h2; rfl
  obtain ⟨u,hu,rv⟩:=r.get ha
  have hp:ps[i]? = some y:=by
   rw [<- S.pre,f9 (by omega)]; exact h1
  have ndP:ps.Nodup:=by rw [<- S.pre]; exact S.nd.sublist (List.take_sublist _ _)
  refine ⟨u,rv,?_⟩
  rcases S.par y (dz hp) with k | k
  ·exact .inl ⟨k,zH8 ndP hp hu k⟩
  ·obtain ⟨c,e⟩:=zJf (n:=s.heap.objs.size + 1) k
   refine .inr ⟨.inl k,c,e,?_⟩
   have q:=x.cell y c e
   rw [zIA ndP hp hu (by show scope.names.lookup y≠_; rw [k]; decide)] at q
   exact q
 ·exact e0.hok.fresh (iL (x.above y c (PySem.mem_of_lookup h)))
 ·unfold yq
  show _=N.length
  rw [cJ,a_,eY]
  omega
theorem Uz {CX:uG} {P:Program} {w:World} {K:cI} {mg:Str->Option Value} {base:Heap} {k:Nat} {f:Addr} {name qual:Str} {params:Arguments} {body:List Stmt} {scope:Scope} {dV kV doc pm cdv ct oc:Value} {an od:Option Addr}
  {osl:Array (Option Value)} {N ps:List Str} {sp:Sp} (lk:K.lookup f=some ⟨oc,od,.func (e_ name qual params body scope dV kV doc pm an cdv ct),osl⟩) (hcd:ij K cdv qual=true) (S:zf N ps scope)
  (len:∀ vs H Q E,sp vs H Q E->vs.length=ps.length)
  (hbody:∀ (A:Around) (outer:List Env) (s:Shared) (H:Hp) (vs:List V) (Q:VK) (E:XK),zc k (A.deeper (envOfC qual scope s.heap.objs.size f cdv))->sp vs H Q E->
   ∃ t,xG (xP CX P w K mg base N qual scope f cdv A outer s H E) body t/\t { nx:=λ_ H'=>Q .non H',rt:=Q } (yq N vs) H) :
  zF P w K mg base CX (k + 1) f (e_ name qual params body scope dV kV doc pm an cdv ct) ps sp:=by
 refine ⟨len,λA outer s H args us vs Q E hr e0 hb r hsp=>?_⟩
 have hl:=len _ _ _ _ hsp
 have KX:K.In s.heap:=e0.mod.kin.keeps λb o e=>(e0.bs b o e).1
 have lim:s.heap.NoLimit:=e0.mod.nolimit.keeps λb o e=>(e0.bs b o e).1
 have hkind:∀ y∈ps.zip us,scope.names.lookup y.1=some .local\/(scope.names.lookup y.1=some .cell/\((cellsFrom (s.heap.objs.size + 1) scope.names []).lookup y.1).isSome=true):=λ⟨n,v⟩ hy=>by
  rcases S.par n (d8 hy).1 with q | q
  ·exact .inl q
  ·exact .inr ⟨q,eU _ _ _ (.inl q)⟩
 refine codeAny_call_function hr.depth (KX _ _ lk) rfl S.co S.gen rfl (PySem.W.codeRec_of KX hcd) (hb _ _ _ _ ?_)
 refine wpAny_newFunctionEnv_cells S.kind hkind λenv he s1 x=>?_
 subst he
 refine ⟨lim.keeps x.toInCall.keep,codeAny_func ?_⟩
 obtain ⟨t,ht,hq⟩:=hbody A outer s H vs Q E (hr.deeper _) hsp
 have I:zE (xP CX P w K mg base N qual scope f cdv A outer s H E) [] (yq N vs) H s1:=zLn S hr.hd e0 hl r x
 refine wpAny_mono (ht [] s1 (yq N vs) H _ I hq) (λfl s' hs=>?_) λe s' hs=>hs
 have fin:∀ {σ':St} {H':Hp} {v:V} {u:Value},zE (xP CX P w K mg base N qual scope f cdv A outer s H E) [] σ' H' s'->zV v u->Q v H'->CE outer P w H s Q u s':=
  λ{σ' H' v u} J rv q=>⟨v,H',J.os,J.bare,J.base,J.hok,rv,q⟩
 cases fl with
 | ret u=>
  obtain ⟨v,σ',H',J,rv,q⟩:=hs
  exact fin J rv q
 | next=>
  obtain ⟨σ',H',J,q⟩:=hs
  exact fin (v:=V.non) (u:=Value.none) J rfl q
 | brk=>
  obtain ⟨_,_,_,q⟩:=hs
  exact False.elim q
 | cont=>
  obtain ⟨_,_,_,q⟩:=hs
  exact False.elim q
end L2
namespace L2
open PySem PySem.Spec PyProof.Rows
section
variable {X:Cx} {x:Str} {p pos:Pos} {e:Expr} {es:List Expr} {t:TA} {id T:String} {r:List V->Hp->VK->Prop}
def Zc (r:List V->Hp->VK->Prop) (t:TA):TE:=λσ H Q=>t σ H λvs H1=>r vs H1 Q
theorem wo (hc:wz X (.builtin id) r) (hg:Gl X x) (hm:X.mg x=none) (hv:bootBuiltins x=some (.builtin id)) (ha:PA X (e :: es) t) (hn:x≠"__name__":=by decide) (hdb:(x == ("__debug__" : Str))=false:=by decide)
  (he:starEach (e :: es) X.env=(false,eval e X.env) :: starEach es X.env:=by rfl) (hpl:(backTo pos (starEach es X.env)).any (·.1)=false:=by rfl):PE X (.Call (.Name x p) (e :: es) [] pos) (Zc r t):=by
 intro pins s σ H Q I h
 refine wpAny_Call_Name_kw (qK I hg hm hv ?_ hn hdb)
 exact PyProof.Rows.callWith_builtin1 (zo (ha pos pins s σ H _ I h) λus s1 ⟨vs,H1,I1,r1,q1⟩=>hc pins s1 σ H1 vs us Q I1 r1 q1) he hpl
theorem WH (hc:wz X (.type T) r) (hg:Gl X x) (hm:X.mg x=none) (hv:bootBuiltins x=some (.type T)) (ha:PA X (e :: es) t) (hn:x≠"__name__":=by decide) (hdb:(x == ("__debug__" : Str))=false:=by decide)
  (he:starEach (e :: es) X.env=(false,eval e X.env) :: starEach es X.env:=by rfl) (hpl:(backTo pos (starEach es X.env)).any (·.1)=false:=by rfl):PE X (.Call (.Name x p) (e :: es) [] pos) (Zc r t):=by
 intro pins s σ H Q I h
 refine wpAny_Call_Name_kw (qK I hg hm hv ?_ hn hdb)
 exact PyProof.Rows.callWith_type1 (zo (ha pos pins s σ H _ I h) λus s1 ⟨vs,H1,I1,r1,q1⟩=>hc pins s1 σ H1 vs us Q I1 r1 q1) he hpl
end
end L2
namespace HT
open PySem PyProof.Rows
section
variable {prog:Program} {w:World} {A:Around} {E:Value->Shared->Prop} {s:Shared}
theorem cat_tup {t b:Addr} {vs ws:List Value} {Q:Value->Shared->Prop} (ht:IsTup s.heap t vs.toArray) (hb:IsTup s.heap b ws.toArray) (hv:vs≠[])
  (h1:ws=[]->Q (.ref t) s) (h2:ws≠[]->Q (.ref s.heap.objs.size) { s with heap:=s.heap.push { cls:=.type "tuple",data:=.seq (vs++ws).toArray } })
  (hsz:vs.length + ws.length<=sizeLine):wpAny (model prog w) A (binaryOp .Add (.ref t) (.ref b)) Q E s:=by
 obtain ⟨⟨cls,dd,data,sl⟩,ho,hc,n,hd⟩:=id ht
 obtain ⟨⟨cls2,dd2,data2,sl2⟩,ho2,hc2,n2,hd2⟩:=id hb
 simp only at hc hd hc2 hd2
 subst hc hd hc2 hd2
 have e:vs.toArray++ws.toArray=(vs++ws).toArray:=by simp
 by_cases hw:ws=[]
 ·exact concat_meets ⟨_,ho,rfl⟩ ⟨_,ho2,rfl⟩ noFill_tuple_add seq_tuple_add h7 f_ (f' _ _)
   (tuple_addW1 t b vs.toArray ws.toArray n n2 dd dd2 sl sl2 (by simpa using hv) (by simp [hw])) ⟨ho,ho2,h1 hw⟩
 ·refine concat_meets ⟨_,ho,rfl⟩ ⟨_,ho2,rfl⟩ noFill_tuple_add seq_tuple_add h7 f_ (f' _ _)
   (tuple_addW2 t b vs.toArray ws.toArray n n2 dd dd2 sl sl2 (by simpa using hv) (by simpa using hw) (by rw [cW,cW]; exact hsz)) ⟨ho,ho2,?_⟩
  rw [e]
  exact h2 hw
def sIx (n d:Nat):Option Int->Nat
 | none=>d
 | some v=>if v < 0 then (v + (n:Int)).toNat else min v.toNat n
theorem sIx_none (n d:Nat):sIx n d none=d:=rfl
theorem sIx_nat (n d k:Nat):sIx n d (some (k:Int))=min k n:=by
 show (if (k:Int) < 0 then ((k:Int) + (n:Int)).toNat else min (k:Int).toNat n)=min k n
 rw [if_neg (by omega),fO]
theorem zRD (n d:Nat) (hd:d<=n) (o:Option Int):sIx n d o<=n:=by
 cases o with
 | none=>exact hd
 | some v=>
  show (if v < 0 then (v + (n:Int)).toNat else min v.toNat n)<=n
  by_cases hv:v < 0
  ·rw [if_pos hv]; omega
  ·rw [if_neg hv]; exact Nat.min_le_right _ _
theorem zMM (v:Int) (n d:Nat):(if v < 0 then max (v + (n:Int)) 0 else min v (n:Int))=((sIx n d (some v):Nat):Int):=by
 show (if v < 0 then max (v + (n:Int)) 0 else min v (n:Int))=(((if v < 0 then (v + (n:Int)).toNat else min v.toNat n):Nat):Int)
 by_cases hv:v < 0
 ·simp only [if_pos hv]; omega
 ·simp only [if_neg hv]; omega
theorem zKP (lo hi:Option Int) (n:Nat):Builtin.Slice.sliceAdjust lo hi 1 (n:Int)=(((sIx n 0 lo:Nat):Int),((sIx n n hi:Nat):Int)):=by
 have h1:¬ ((1:Int) < 0):=by omega
 unfold Builtin.Slice.sliceAdjust
 simp only [h1,if_false]
 refine Prod.ext ?_ ?_
 ·cases lo with
  | none=>rfl
  | some v=>exact zMM v n 0
 ·cases hi with
  | none=>rfl
  | some v=>exact zMM v n n
theorem zJ1 (i j:Nat):Builtin.Slice.slicePlaces (i:Int) (j:Int) 1=j - i:=by
 unfold Builtin.Slice.slicePlaces
 have h1:(1:Int) > 0:=by omega
 simp only [h1,if_true,Int.ediv_one]
 split <;> omega
theorem zF0 {v:Value} {o:Option Int} {Q:Option Int->Shared->Prop} (p:IsPart v o) (h:Q o s):wpAny (model prog w) A (Builtin.Slice.slicePartIndex v) Q E s:=by
 cases p with
 | none=>exact slicePart_none h
 | int i t=>exact slicePart_int h
theorem zC1 {sl:Addr} {vl vu:Value} {lo hi:Option Int} {n:Nat} {Q:Int × Int × Nat->Shared->Prop} (hs:s.heap.IsSliceOf sl vl vu .none) (pl:IsPart vl lo) (pu:IsPart vu hi)
  (h:Q (((sIx n 0 lo:Nat):Int),1,sIx n n hi - sIx n 0 lo) s):wpAny (model prog w) A (Builtin.Slice.sliceApplied (.ref sl) (pure (n:Int))) Q E s:=by
 obtain ⟨os,hos,hcs,hds⟩:=id hs
 unfold Builtin.Slice.sliceApplied Builtin.Slice.sliceFields
 refine wpAny_bind (wpAny_bind (wpAny_field hos hds (x:=vl) rfl (wpAny_bind (wpAny_field hos hds (x:=vu) rfl (wpAny_bind (wpAny_field hos hds (x:=.none) rfl (wpAny_pure ?_)))))))
 refine wpAny_bind (slicePart_none ?_)
 show wpAny _ _ (if ((1:Int) == 0)=true then _ else _) _ _ s
 rw [if_neg (by decide)]
 refine wpAny_bind (zF0 pl (wpAny_bind (zF0 pu (wpAny_bind (wpAny_pure ?_)))))
 show wpAny _ _ (match Builtin.Slice.sliceAdjust lo hi 1 (n:Int) with | (lo,hi)=>pure (lo,(1:Int),Builtin.Slice.slicePlaces lo hi 1)) _ _ s
 rw [zKP lo hi n]
 show wpAny _ _ (pure (((sIx n 0 lo:Nat):Int),(1:Int),Builtin.Slice.slicePlaces ((sIx n 0 lo:Nat):Int) ((sIx n n hi:Nat):Int) 1)) _ _ s
 rw [zJ1]
 exact wpAny_pure h
theorem zNG (xs:Array Value) (i k:Nat):((df k).filterMap λ(m:Nat)=>xs[((i:Int) + (m:Int) * 1).toNat]?).toArray=((xs.toList.drop i).take k).toArray:=by
 have e:(λ(m:Nat)=>xs[((i:Int) + (m:Int) * 1).toNat]?)=λm=>xs[i + m]?:=by
  funext m
  have:((i:Int) + (m:Int) * 1).toNat=i + m:=by omega
  rw [this]
 rw [e]
 have:=pick_run xs i k
 rw [List.filterMap_map] at this
 have e2:((λx=>xs[x]?) ∘ λx=>i + x)=λm=>xs[i + m]?:=rfl
 rw [e2] at this
 rw [this]
theorem getItem_tuple_cut {t sl:Addr} {items:Array Value} {vl vu:Value} {lo hi:Option Int} {Q:Value->Shared->Prop} (ht:IsTup s.heap t items) (hs:s.heap.IsSliceOf sl vl vu .none) (pl:IsPart vl lo) (pu:IsPart vu hi)
  (hw:¬ (sIx items.size 0 lo=0/\sIx items.size items.size hi=items.size))
  (h:Q (.ref s.heap.objs.size) { s with heap:=s.heap.push { cls:=.type "tuple",data:=.seq ((items.toList.drop (sIx items.size 0 lo)).take (sIx items.size items.size hi - sIx items.size 0 lo)).toArray } })
  (hsz:items.size<=sizeLine):wpAny (model prog w) A (getItem (.ref t) (.ref sl)) Q E s:=by
 have htake:sizeOk (.seq ((items.toList.drop (sIx items.size 0 lo)).take (sIx items.size items.size hi - sIx items.size 0 lo)).toArray):=by
  show ((items.toList.drop (sIx items.size 0 lo)).take (sIx items.size items.size hi - sIx items.size 0 lo)).toArray.size<=sizeLine
  rw [cW,cU,fq,eV]
  omega
 have hj:sIx items.size items.size hi<=items.size:=zRD _ _ (cQ _) hi
 obtain ⟨os,hos,hcs,hds⟩:=id hs
 have hTs:s.TypeIs (.ref sl) "slice":=⟨os,hos,hcs⟩
 unfold getItem
 try with_reducible refine wpAny_holding ?_
 first | refine wpAny_bind (wpAny_pure ?_) | skip
 refine wpAny_bind (wpAny_sequenceKey ht.typeIs (by decide) ?_)
 refine wpAny_bind (wpAny_callSpecial?_slot (name:=dZ "__getitem__") ht.typeIs PyProof.Rows.slot_tuple_getitem
  (wpAny_call_entry PyProof.Rows.slot_tuple_getitem ht.typeIs entry_tuple_getitem ?_ (args_tuple_getitem _ _)))
 show wpAny _ _ (Builtin.Tuple.tupleItemsOf (.ref t) >>= _) _ _ s
 refine wpAny_bind (tupleItemsOf_ ht ?_)
 refine wpAny_bind (wpAny_typeOf hTs ?_)
 rw [if_pos (by decide)]
 refine wpAny_bind (zC1 hs pl pu ?_)
 have hno:¬ ((((sIx items.size 0 lo:Nat):Int) == 0 && (1:Int) == 1 && (sIx items.size items.size hi - sIx items.size 0 lo) == items.size)=true):=by
  intro q
  rw [fE,fE] at q
  have q1:((sIx items.size 0 lo:Nat):Int)=0:=eq_of_beq q.1.1
  have q2:sIx items.size items.size hi - sIx items.size 0 lo=items.size:=eq_of_beq q.2
  exact hw ⟨by omega,by omega⟩
 show wpAny _ _ (if (((sIx items.size 0 lo:Nat):Int) == 0 && (1:Int) == 1 && (sIx items.size items.size hi - sIx items.size 0 lo) == items.size)=true then _ else _) _ _ s
 rw [if_neg hno,zNG]
 first
  | exact wpAny_bind (m:=Builtin.Tuple.tupleExact _) (wpAny_newObj_type (wpAny_pure ⟨_,rfl,wpAny_pure h⟩) htake)
  | exact wpAny_bind (m:=Builtin.Tuple.tupleExact _) (wpAny_newObj_type (wpAny_bind (wpAny_pure (wpAny_pure ⟨_,rfl,wpAny_pure h⟩))) htake)
  | exact wpAny_bind (wpAny_bind (m:=Builtin.Tuple.tupleExact _) (wpAny_newObj_type (wpAny_pure (wpAny_pure ⟨_,rfl,wpAny_pure h⟩)) htake))
  | exact wpAny_bind (wpAny_bind (m:=Builtin.Tuple.tupleExact _) (wpAny_newObj_type (wpAny_pure ⟨_,rfl,wpAny_pure h⟩) htake))
end
end HT
namespace L2
open PySem PySem.Spec PyProof.Rows
abbrev TO:=St->Hp->(Option Int->Hp->Prop)->Prop
def PO (X:Cx) (e:Option Expr) (t:TO):Prop:=
 ∀ (pins:List (Addr × Obj)) (s:Shared) (σ:St) (H:Hp) (Q:Option Int->Hp->Prop),zE X pins σ H s->t σ H Q->
  wpAny (model X.prog X.w) X.A (evalPart e X.env) (λu s'=>∃ o H',zE X pins σ H' s'/\IsPart u o/\Q o H') X.xe s
def zPA:TO:=λ_ H Q=>Q none H
def Zd (t:TE):TO:=λσ H Q=>t σ H λx H1=>∃ i,x=.int i/\Q (some i) H1
section
variable {X:Cx} {e:Expr} {te:TE} {lo hi:Option Expr} {tl th:TO} {pos p2:Pos}
theorem zPY:PO X none zPA:=by
 intro pins s σ H Q I h
 rw [evalPart_none]
 exact wpAny_pure ⟨none,H,I,.none,h⟩
theorem zPX (h:PE X e te):PO X (some e) (Zd te):=by
 intro pins s σ H Q I hw
 rw [evalPart_some]
 refine zo (h pins s σ H _ I hw) λu s1 ⟨x,H1,I1,r1,q1⟩=>?_
 obtain ⟨i,rfl,q⟩:=q1
 obtain ⟨t,rfl⟩:=r1
 exact ⟨some i,H1,I1,.int i t,q⟩
def qy (X:Cx) (r:V->Option Int->Option Int->Hp->VK->Prop):Prop:=
 ∀ (pins:List (Addr × Obj)) (s:Shared) (σ:St) (H:Hp) (x:V) (v vl vu:Value) (lo hi:Option Int) (sl:Addr) (Q:VK),zE X pins σ H s->zV x v->s.heap.IsSliceOf sl vl vu .none->IsPart vl lo->IsPart vu hi->r x lo hi H Q->
  ∃ T id,typeLookup (.type T) "__getitem__" = pure (some (.builtin id))/\s.TypeIs v T/\wpAny (model X.prog X.w) X.A (getItem v (.ref sl)) (EP X pins σ Q) X.xe s
def tSl (r:V->Option Int->Option Int->Hp->VK->Prop) (te:TE) (tl th:TO):TE:=λσ H Q=>te σ H λx H1=>tl σ H1 λl H2=>th σ H2 λu H3=>r x l u H3 Q
theorem zJJ {r:V->Option Int->Option Int->Hp->VK->Prop} (hr:qy X r) (he:PE X e te) (hl:PO X lo tl) (hu:PO X hi th):PE X (.Subscript e (.Slice lo hi none p2) pos) (tSl r te tl th):=by
 intro pins s σ H Q I h
 refine Subscript_ (zo (he pins s σ H _ I h) λv s1 ⟨x,H1,I1,r1,q1⟩=>?_)
 refine wpAny_Slice (zo (hl pins s1 σ H1 _ I1 q1) λvl s2 ⟨l,H2,I2,pl,q2⟩=>zo (hu pins s2 σ H2 _ I2 q2) λvu s3 ⟨u,H3,I3,pu,q3⟩=>?_)
 rw [evalPart_none]
 refine wpAny_pure ?_
 have I4:zE X pins σ H3 { s3 with heap:=s3.heap.push { cls:=.type "slice",data:=.fields #[vl,vu,.none] } }:=I3.kept (t':=s3.toks) λb ob q=>cR _ q
 obtain ⟨T,id,hT,ht,hg⟩:=hr pins { s3 with heap:=s3.heap.push { cls:=.type "slice",data:=.fields #[vl,vu,.none] } } σ H3 x v vl vu l u s3.heap.objs.size Q I4 r1 (Heap.IsSliceOf.new ..) pl pu q3
 show wpAny (model X.prog X.w) X.A (subscriptTail e (.Slice lo hi none p2) v (.ref s3.heap.objs.size)) (EP X pins σ Q) X.xe { s3 with heap:=s3.heap.push { cls:=.type "slice",data:=.fields #[vl,vu,.none] } }
 exact tail_any (ops:=[.ref s3.heap.objs.size,v]) ht hT hg (by with_unfolding_all rfl)
def w6 (xs:List V) (lo hi:Option Int):List V:=(xs.drop (HT.sIx xs.length 0 lo)).take (HT.sIx xs.length xs.length hi - HT.sIx xs.length 0 lo)
theorem zFi (xs:List V) (lo hi:Option Int):(w6 xs lo hi).length<=xs.length:=by
 unfold w6
 rw [cU,fq]
 omega
def U0 (K:cI):V->Option Int->Option Int->Hp->VK->Prop:=λx lo hi H Q=>∃ a xs,x=.ref a/\yj K H a xs∧
 ¬ (HT.sIx xs.length 0 lo=0/\HT.sIx xs.length xs.length hi=xs.length)/\∀ p,H p=none->Q (.ref p) (zh H p (.tup (w6 xs lo hi)))
theorem zRC:qy X (U0 X.K):=by
 intro pins s σ H x v vl vu lo hi sl Q I rx hs pl pu h
 obtain ⟨a,xs,rfl,hx,hw,q⟩:=h
 cases rx
 obtain ⟨its,r,ht,hz⟩:=I.tuple hx
 have hlen:its.toArray.size=xs.length:=by rw [cW]; exact r.length.symm
 refine ⟨"tuple",_,PyProof.Rows.slot_tuple_getitem.lookup,ht.typeIs,?_⟩
 refine HT.getItem_tuple_cut ht hs pl pu (by rw [hlen]; exact hw) ?_ (by rw [hlen]; exact hz)
 rw [hlen]
 refine ⟨.ref s.heap.objs.size,_,I.laid (t':=s.toks) (o:=.tup (w6 xs lo hi)) (λb ob q=>cR _ q) (cQ _) ?_,rfl,q _ (I.hok.fresh (cQ _))⟩
 exact ⟨eA (zFi xs lo hi) hz,_,(r.drop (HT.sIx xs.length 0 lo)).take (HT.sIx xs.length xs.length hi - HT.sIx xs.length 0 lo),IsTup.new _ _⟩
def Ze (K:cI):R2:=λx y H Q=>∃ a b xs ys,x=.ref a/\y=.ref b/\yj K H a xs/\yj K H b ys/\xs≠[]/\xs.length + ys.length<=sizeLine∧
 (ys=[]->Q (.ref a) H)/\(ys≠[]->∀ p,H p=none->Q (.ref p) (zh H p (.tup (xs++ys))))
theorem zM.nil_iff {xs:List V} {us:List Value} (r:zM xs us):us=[] ↔ xs=[]:=by
 cases r with
 | nil=>simp
 | cons _ _=>simp
theorem zPn:xE X (binaryOp .Add) (Ze X.K):=by
 intro pins s σ H x y v u Q I rx ry h
 obtain ⟨a,b,xs,ys,rfl,rfl,ha,hb,hx,hz,q1,q2⟩:=h
 cases rx
 cases ry
 obtain ⟨its,r1,p1,_⟩:=I.tuple ha
 obtain ⟨its2,r2,p2,_⟩:=I.tuple hb
 refine HT.cat_tup p1 p2 (λz=>hx (r1.nil_iff.mp z)) (λz=>⟨.ref a,H,I,rfl,q1 (r2.nil_iff.mp z)⟩) (λz=>?_) (by rw [<- r1.length,<- r2.length]; exact hz)
 refine ⟨.ref s.heap.objs.size,_,I.laid (t':=s.toks) (o:=.tup (xs++ys)) (λb ob q=>cR _ q) (cQ _) ?_,rfl,q2 (λw=>z (r2.nil_iff.mpr w)) _ (I.hok.fresh (cQ _))⟩
 exact ⟨by rw [cJ]; exact hz,_,r1.append r2,IsTup.new _ _⟩
end
end L2
namespace L2
open PySem PySem.Spec PyProof.Rows
def xw (n:Nat) (i:Int):Option Nat:=if 0<=i then (if i < n then some i.toNat else none) else if -(n:Int)<=i then some (i + n).toNat else none
def yo {α:Type} (xs:List α) (i:Int):Option α:=(xw xs.length i).bind λj=>xs[j]?
theorem WI {n:Nat} {i:Int} {j:Nat} (h:xw n i=some j):seqIndex? i n=some j/\j < n/\-(n:Int)<=i/\i < n:=by
 unfold xw at h
 by_cases h0:0<=i
 ·rw [if_pos h0] at h
  by_cases h1:i < n
  ·rw [if_pos h1] at h
   have e:i.toNat=j:=Option.some.inj h
   exact ⟨by rw [seqIndex_of h0 h1,e],by omega,by omega,h1⟩
  ·rw [if_neg h1] at h; cases h
 ·rw [if_neg h0] at h
  by_cases h1 : -(n:Int)<=i
  ·rw [if_pos h1] at h
   have e:(i + n).toNat=j:=Option.some.inj h
   exact ⟨by rw [seqIndex_neg (by omega) h1,e],by omega,h1,by omega⟩
  ·rw [if_neg h1] at h; cases h
theorem zMa {α:Type} {xs:List α} {i:Int} {v:α} (h:yo xs i=some v):∃ j,seqIndex? i xs.length=some j/\xs[j]? = some v/\j < xs.length/\-(xs.length:Int)<=i/\i < xs.length:=by
 unfold yo at h
 cases e:xw xs.length i with
 | none=>rw [e] at h; cases h
 | some j=>
  rw [e] at h
  obtain ⟨h1,h2,h3,h4⟩:=WI e
  exact ⟨j,h1,h,h2,h3,h4⟩
theorem zQg {α:Type} {xs:List α} {j:Nat} {v:α} (h:xs[j]? = some v):yo xs (j:Int)=some v:=by
 have hj:j < xs.length:=(cT.mp h).1
 have e:xw xs.length (j:Int)=some j:=by
  unfold xw
  rw [if_pos (by omega),if_pos (by omega)]; simp
 unfold yo; rw [e]; exact h
def WJ (b:Expr):Prop:=∀ o i,subscripted b false o i=operate [o,i] (getItem o i)
def WK (X:Cx) (r:R2):Prop:=
 ∀ (value slice:Expr) (pins:List (Addr × Obj)) (s:Shared) (σ:St) (H:Hp) (x y:V) (v u:Value) (Q:VK),zE X pins σ H s->zV x v->zV y u->r x y H Q->
  subscripted slice false v u=operate [v,u] (getItem v u)->wpAny (model X.prog X.w) X.A (subscriptTail value slice v u) (EP X pins σ Q) X.xe s
def MtR (X:Cx) (id:String) (r:V->List V->Hp->VK->Prop):Prop:=
 ∀ (pins:List (Addr × Obj)) (s:Shared) (σ:St) (H:Hp) (x:V) (xs:List V) (v:Value) (us:List Value) (Q:VK),zE X pins σ H s->zV x v->zM xs us->r x xs H Q->
  wpAny (model X.prog X.w) X.A (call (.builtin id) (v :: us)) (EP X pins σ Q) X.xe s
section
variable {X:Cx} {a b:Expr} {ta tb:TE} {pos:Pos}
theorem U1 {r:R2} (hr:WK X r) (ha:PE X a ta) (hb:PE X b tb) (hs:WJ b):PE X (.Subscript a b pos) (qt r ta tb):=by
 intro pins s σ H Q I h
 exact Subscript_ (qu ha hb I h λv u s2 x y H2 I2 rx ry q=>hr a b pins s2 σ H2 x y v u Q I2 rx ry q (hs _ _))
def Zf (K:cI):R2:=λx y H Q=>∃ p xs i v,x=.ref p/\y=.int i/\zp K H p xs/\yo xs i=some v/\Q v H
def U2 (K:cI):R2:=λx y H Q=>∃ p xs i v,x=.ref p/\y=.int i/\yj K H p xs/\yo xs i=some v/\Q v H
theorem U3:WK X (Zf X.K):=by
 intro value slice pins s σ H x y v u Q I rx ry h hs
 obtain ⟨p,xs,i,z,rfl,rfl,hq,he,q⟩:=h
 cases rx
 obtain ⟨t,rfl⟩:=ry
 obtain ⟨its,r,pl,hz⟩:=I.list hq
 obtain ⟨j,h1,h2,h3,h4,h5⟩:=zMa he
 obtain ⟨w,ew,rw'⟩:=r.get h2
 have hl:=r.length
 have hn:=ZZ
 have fin:EP X pins σ Q w s:=⟨z,H,I,rw',q⟩
 by_cases h0:0<=i
 ·have hj:i.toNat=j:=by
   rw [seqIndex_of h0 h5] at h1
   exact Option.some.inj h1
  exact item_listR pl.isList h0 (by omega) (by rw [hj]; simpa using ew) fin hs
 ·have hj:(i + (its.toArray.size:Int)).toNat=j:=by
   rw [seqIndex_neg (by omega) h4] at h1
   rw [cW,<- hl]
   exact Option.some.inj h1
  exact subscriptTail_builtinR (x:=w) pl.isList.typeIs slot_list_getitem.lookup
   (wpAny_getItem_list_neg (Q:=λr s'=>r=w/\EP X pins σ Q r s') pl.isList (by omega) (by rw [cW] <;> omega) (by omega) (by rw [hj]; simpa using ew) ⟨rfl,fin⟩) hs
theorem zSM:WK X (U2 X.K):=by
 intro value slice pins s σ H x y v u Q I rx ry h hs
 obtain ⟨p,xs,i,z,rfl,rfl,hq,he,q⟩:=h
 cases rx
 obtain ⟨t,rfl⟩:=ry
 obtain ⟨its,r,pl,hz⟩:=I.tuple hq
 obtain ⟨j,h1,h2,h3,h4,h5⟩:=zMa he
 obtain ⟨w,ew,rw'⟩:=r.get h2
 have hl:=r.length
 have hn:=ZZ
 have fin:EP X pins σ Q w s:=⟨z,H,I,rw',q⟩
 exact subscriptTail_builtinR (x:=w) pl.typeIs slot_tuple_getitem.lookup
  (getItem_tuple (j:=j) (Q:=λr s'=>r=w/\EP X pins σ Q r s') pl (by omega) (by omega) (by rw [cW,<- hl]; exact h1) (by simpa using ew) ⟨rfl,fin⟩) hs
theorem zKF (its:List Value) (n j:Nat) (u:Value):Obj.mapSeq (·.setIfInBounds j u) { cls:=.type "list",data:=.seq its.toArray n }={ cls:=.type "list",data:=.seq (its.set j u).toArray n }:=by
 simp [Obj.mapSeq]
theorem zE.lst {pins:List (Addr × Obj)} {σ:St} {H:Hp} {s:Shared} {p:Addr} {xs:List V} (I:zE X pins σ H s) (h:H p=some (.lst xs)) :
  ∃ (its:List Value) (n:Nat),zM xs its/\s.heap.get? p=some { cls:=.type "list",data:=.seq its.toArray n }/\xs.length<=sizeLine:=by
 obtain ⟨z,its,n,r,e⟩:=I.hok p _ h
 exact ⟨its,n,r,e,z⟩
theorem zE.lstUpd {pins:List (Addr × Obj)} {σ:St} {H:Hp} {s:Shared} {p:Addr} {xs ys:List V} {its its':List Value} {n n':Nat} {f:Obj->Obj} (I:zE X pins σ H s) (h:H p=some (.lst xs))
  (ho:s.heap.get? p=some { cls:=.type "list",data:=.seq its.toArray n }) (hf:f { cls:=.type "list",data:=.seq its.toArray n }={ cls:=.type "list",data:=.seq its'.toArray n' }) (r:zM ys its') (hz:ys.length<=sizeLine) (t:Nat) :
  zE X pins σ (zh H p (.lst ys)) { s with heap:=s.heap.update p f,toks:=t }:=by
 have e:(s.heap.update p f).get? p=some { cls:=.type "list",data:=.seq its'.toArray n' }:=by
  rw [lC f ho (by rw [hf] <;> rfl),hf]
 refine I.write (x:=p) (e:=p) (by rw [h]; trivial) (.inl rfl) (λb u hb q=>(h8 _ _ (Ne.symm hb)).trans q) ⟨_,e⟩ ?_
 exact ⟨hz,its',n',r,e⟩
def Zg:V->V->V->Hp->(Hp->Prop)->Prop:=λo i v H Q=>∃ p xs k j,o=.ref p/\i=.int k/\H p=some (.lst xs)/\xw xs.length k=some j/\Q (zh H p (.lst (xs.set j v)))
theorem zM1:qr X Zg:=by
 intro pins s σ H o i v ov iv u Q I ro ri rv h
 obtain ⟨p,xs,k,j,rfl,rfl,hp,hj,q⟩:=h
 cases ro
 obtain ⟨t,rfl⟩:=ri
 obtain ⟨its,n,r,ho,hz⟩:=I.lst hp
 obtain ⟨h1,h2,h3,h4⟩:=WI hj
 have hl:=r.length
 have hn:=ZZ
 have I':zE X pins σ (zh H p (.lst (xs.set j v))) { s with heap:=s.heap.update p (Obj.mapSeq (·.setIfInBounds j u)) }:=
  I.lstUpd hp ho (zKF its n j u) (r.set rv j) (by rw [dE]; exact hz) s.toks
 by_cases h0:0<=k
 ·have hk:k.toNat=j:=by
   rw [seqIndex_of h0 h4] at h1
   exact Option.some.inj h1
  exact PySem.W.ki_setAt ho h0 (by omega) (by rw [cW,<- hl]; exact h4) (by rw [hk]; exact ⟨_,I',q⟩)
 ·have hk:(k + (its.toArray.size:Int)).toNat=j:=by
   rw [seqIndex_neg (by omega) h3] at h1
   rw [cW,<- hl]
   exact Option.some.inj h1
  exact PySem.W.ki_setBack ho (by omega) (by rw [cW,<- hl]; exact h3) (by omega) (by rw [hk]; exact ⟨_,I',q⟩)
theorem zHQ (lo hi:Option Int) (n:Nat):(sliceBounds lo hi none n).1=((HT.sIx n 0 lo:Nat):Int)/\(sliceBounds lo hi none n).2.1=((HT.sIx n n hi:Nat):Int)/\(sliceBounds lo hi none n).2.2=1:=by
 refine ⟨?_,?_,rfl⟩
 ·cases lo with
  | none=>simp [sliceBounds,HT.sIx]
  | some i=>
   simp only [sliceBounds,HT.sIx,mN,show (1:Int) > 0 by decide,if_true]
   by_cases h:i < 0
   ·simp only [h,if_true] <;> omega
   ·simp only [h,if_false] <;> omega
 ·cases hi with
  | none=>simp [sliceBounds,HT.sIx]
  | some i=>
   simp only [sliceBounds,HT.sIx,mN,show (1:Int) > 0 by decide,if_true]
   by_cases h:i < 0
   ·simp only [h,if_true] <;> omega
   ·simp only [h,if_false] <;> omega
theorem zGM (its:List Value) (lo hi:Option Int):slicePick its.toArray lo hi none=((its.drop (HT.sIx its.length 0 lo)).take (HT.sIx its.length its.length hi - HT.sIx its.length 0 lo)).toArray:=by
 obtain ⟨h1,h2,h3⟩:=zHQ lo hi its.toArray.size
 unfold slicePick
 rw [h1,h2,h3]
 simp only [sliceRange_one,pick_run,cW] <;> rfl
def U4 (K:cI):V->Option Int->Option Int->Hp->VK->Prop:=λx lo hi H Q=>∃ a xs,x=.ref a/\zp K H a xs/\∀ p,H p=none->Q (.ref p) (zh H p (.lst (w6 xs lo hi)))
theorem zKe:qy X (U4 X.K):=by
 intro pins s σ H x v vl vu lo hi sl Q I rx hs pl pu h
 obtain ⟨a,xs,rfl,hx,q⟩:=h
 cases rx
 obtain ⟨its,r,ht,hz⟩:=I.list hx
 have hlen:=r.length
 refine ⟨"list",_,slot_list_getitem.lookup,ht.isList.typeIs,?_⟩
 refine wpAny_getItem_list_slice ht.isList hs pl pu .none (by simp) ?_ (by rw [cW] <;> omega)
 rw [zGM,<- hlen]
 refine ⟨.ref s.heap.objs.size,_,I.laid (t':=s.toks) (o:=.lst (w6 xs lo hi)) (λb ob q=>cR _ q) (cQ _) ?_,rfl,q _ (I.hok.fresh (cQ _))⟩
 exact ⟨eA (zFi xs lo hi) hz,_,0,(r.drop (HT.sIx xs.length 0 lo)).take (HT.sIx xs.length xs.length hi - HT.sIx xs.length 0 lo),dj _ rfl⟩
theorem xf:wz X (.builtin "len") (λxs H Q=>∃ p ys,xs=[.ref p]/\(zp X.K H p ys\/yj X.K H p ys)/\Q (.int ys.length) H):=by
 intro pins s σ H xs us Q I r h
 obtain ⟨p,ys,rfl,hq,q⟩:=h
 obtain ⟨u,rfl,rx⟩:=uf r
 cases rx
 have hn:=ZZ
 rcases hq with hq | hq
 ·obtain ⟨its,r',pl,hz⟩:=I.list hq
  have hlen:=r'.length
  exact Calls.call_len_list pl.isList (by simp only [cW] <;> omega) ⟨.int ys.length,H,I.tok _,⟨s.toks + 1,by rw [cW,hlen]⟩,q⟩
 ·obtain ⟨its,r',pl,hz⟩:=I.tuple hq
  have hlen:=r'.length
  exact len_tuple pl (by simp only [cW] <;> omega) ⟨.int ys.length,H,I.tok _,⟨s.toks + 1,by rw [cW,hlen]⟩,q⟩
theorem u3:wz X (.type "list") (λxs H Q=>∃ p ys,xs=[.ref p]/\(zp X.K H p ys\/yj X.K H p ys)/\∀ l,H l=none->Q (.ref l) (zh H l (.lst ys))):=by
 intro pins s σ H xs us Q I r h
 obtain ⟨p,ys,rfl,hq,q⟩:=h
 obtain ⟨u,rfl,rx⟩:=uf r
 cases rx
 have fin:∀ (its:List Value),zM ys its->ys.length<=sizeLine->∀ (h':Heap) (c':Nat),(∀ b o',s.heap.get? b=some o'->h'.get? b=some o')->
   h'.get? s.heap.objs.size=some { cls:=.type "list",dict:=none,data:=.seq its.toArray c',slots:=#[] }->EP X pins σ Q (.ref s.heap.objs.size) { s with heap:=h' }:=λits r' hz h' c' kp e=>
  ⟨.ref s.heap.objs.size,_,I.laid (t':=s.toks) kp (cQ _) (show wO X.prog X.w _ h' _ (.lst ys) from ⟨hz,its,c',r',e⟩),rfl,q _ (I.hok.fresh (cQ _))⟩
 rcases hq with hq | hq
 ·obtain ⟨its,r',pl,hz⟩:=I.list hq
  have hlen:=r'.length
  obtain ⟨o,ho,hc,n,hd⟩:=pl.isList
  exact call_list_seq p (.inl rfl) ho hc hd (λh' c' kp e=>fin its r' hz h' c' kp e) (by simp only [cW] <;> omega)
 ·obtain ⟨its,r',pl,hz⟩:=I.tuple hq
  have hlen:=r'.length
  obtain ⟨o,ho,hc,n,hd⟩:=pl
  exact call_list_seq p (.inr rfl) ho hc hd (λh' c' kp e=>fin its r' hz h' c' kp e) (by simp only [cW] <;> omega)
theorem jS:wz X (.type "tuple") (λxs H Q=>∃ p ys,xs=[.ref p]/\((zp X.K H p ys/\∀ l,H l=none->Q (.ref l) (zh H l (.tup ys)))\/(yj X.K H p ys/\Q (.ref p) H))):=by
 intro pins s σ H xs us Q I r h
 obtain ⟨p,ys,rfl,h⟩:=h
 obtain ⟨u,rfl,rx⟩:=uf r
 cases rx
 rcases h with ⟨hq,q⟩ | ⟨hq,q⟩
 ·obtain ⟨its,r',pl,hz⟩:=I.list hq
  have hlen:=r'.length
  refine call_tuple_list pl.isList (λh' kp=>?_) (by simp only [cW] <;> omega)
  have I1:zE X pins σ H { s with heap:=h' }:=I.kept (t':=s.toks) kp
  have I2:zE X pins σ (zh H h'.objs.size (.tup ys)) { s with heap:=h'.push { cls:=.type "tuple",data:=.seq its.toArray } }:=
   I1.laid (t':=s.toks) (λb o e=>cR _ e) (cQ _) (show wO X.prog X.w _ _ _ (.tup ys) from ⟨hz,its,r',IsTup.new _ _⟩)
  exact ⟨.ref h'.objs.size,_,I2,rfl,q _ (I1.hok.fresh (cQ _))⟩
 ·obtain ⟨its,r',pl,hz⟩:=I.tuple hq
  exact call_tuple_same pl ⟨.ref p,H,I,rfl,q⟩
def tyV (K:cI) (T:String) (x:V) (H:Hp):Prop:=match x with
 | .str _=>T = "str"
 | .int _=>T = "int"
 | .ref p=>(T = "list"/\∃ xs,zp K H p xs)\/(T = "tuple"/\∃ o,K.lookup p=some o/\o.cls=.type "tuple"/\o.dict=none)∨
   (T = "dict"/\((∃ kvs,H p=some (.dK kvs))\/∃ kvs,H p=some (.dT kvs)))\/(T = "set"/\∃ S n,H p=some (.set S n))
 | _=>False
theorem zQv {pins:List (Addr × Obj)} {σ:St} {H:Hp} {s:Shared} {T:String} {x:V} {v:Value} (I:zE X pins σ H s) (r:zV x v) (ty:tyV X.K T x H) :
  s.TypeIs v T/\∀ a,v=.ref a->∃ ob,s.heap.get? a=some ob/\ob.dict=none:=by
 cases x with
 | str z=>
  obtain ⟨t,rfl⟩:=r
  cases (show T = "str" from ty)
  exact ⟨typeIs_str s z t,λ_ e=>nomatch e⟩
 | int i=>
  obtain ⟨t,rfl⟩:=r
  cases (show T = "int" from ty)
  exact ⟨typeIs_int s i t,λ_ e=>nomatch e⟩
 | ref p=>
  cases r
  rcases ty with ⟨rfl,xs,hq⟩ | ⟨rfl,o,hk,hc,hd⟩ | ⟨rfl,hk⟩ | ⟨rfl,S,n,hk⟩
  ·obtain ⟨its,_,pl,_⟩:=I.list hq
   refine ⟨pl.isList.typeIs,λa e=>?_⟩
   cases e
   obtain ⟨o,n,e,c,hd,_⟩:=pl
   exact ⟨o,e,hd⟩
  ·refine ⟨⟨o,I.kIn p o hk,hc⟩,λa e=>?_⟩
   cases e
   exact ⟨o,I.kIn _ o hk,hd⟩
  ·have z:∃ o,s.heap.get? p=some o/\o.ExactDict:=by
    rcases hk with ⟨kvs,hk⟩ | ⟨kvs,hk⟩
    ·obtain ⟨_,_,_,_,o,_,_,e,ex,_⟩:=I.hok p _ hk
     exact ⟨o,e,ex⟩
    ·obtain ⟨_,_,_,_,o,_,_,e,ex,_⟩:=I.hok p _ hk
     exact ⟨o,e,ex⟩
   obtain ⟨o,e,ex⟩:=z
   refine ⟨⟨o,e,ex.1⟩,λa e2=>?_⟩
   cases e2
   exact ⟨o,e,ex.2.1⟩
  ·obtain ⟨o,_,_,_,e,ex,_⟩:=I.hok p _ hk
   refine ⟨⟨o,e,ex.1⟩,λa e2=>?_⟩
   cases e2
   exact ⟨o,e,ex.2.1⟩
 | _=>exact False.elim ty
def U5 (K:cI) (T:String) (r:V->List V->Hp->VK->Prop) (to:TE) (t:TA):TE:=λσ H Q=>to σ H λx H1=>tyV K T x H1/\t σ H1 λxs H2=>r x xs H2 Q
variable {o e:Expr} {es:List Expr} {to:TE} {t:TA} {name:Str} {apos cpos:Pos} {T id:String} {r:V->List V->Hp->VK->Prop}
theorem wq (pa:PlainAttrs T) (slot:Slot T name id) (hty:typeOf (.builtin id)=pure (.type "method_descriptor")) (hm:MtR X id r) (ho:PE X o to) (ha:PA X (e :: es) t)
  (hbase:attributeBase o name X.env (eval o X.env)=eval o X.env:=by rfl)
  (hfew:((backTo cpos (starEach (e :: es) X.env)).all (λx=>!x.1) && (backToKw cpos (keywordEach [] X.env)).all (λx=>x.1.isSome)
   && decide ((e :: es).length + ([]:List Keyword).length + (if ([]:List Keyword).isEmpty then 0 else 1) < 30))=true:=by rfl)
  (hline:(apos.endLine == cpos.line)=true:=by rfl) (hs:starEach (e :: es) X.env=(false,eval e X.env) :: starEach es X.env:=by rfl) (hplain:(backTo cpos (starEach es X.env)).any (·.1)=false:=by rfl) :
  PE X (.Call (.Attribute o name apos) (e :: es) [] cpos) (U5 X.K T r to t):=by
 intro pins s σ H Q I h
 refine wpAny_Call_method_late hbase hfew hline rfl (zo (ho pins s σ H _ I h) λv s1 ⟨x,H1,I1,r1,ty,q1⟩=>?_)
 obtain ⟨h1,h2⟩:=zQv I1 r1 ty
 refine ⟨T,id,pa,slot,hty,h1,h2,?_⟩
 have hA:=ha cpos pins s1 σ H1 _ I1 q1
 rw [hs] at hA |-
 refine Calls.callWith_builtin (by show (false || (backTo cpos (starEach es X.env)).any (·.1))=false; rw [hplain] <;> rfl) (Calls.evalArgs_plain ?_)
 exact zo hA λus s2 ⟨vs,H2,I2,r2,q2⟩=>hm pins s2 σ H2 x vs v us Q I2 r1 r2 q2
/- xs.append(e),list.index on a module's tuple .. are MtR facts of 06m -/
end
end L2
namespace L2
open PySem PySem.Spec PyProof.Rows
def U6 (X:Cx) (id:String) (r:V->List V->Hp->VK->Prop):Prop:=
 ∀ (pins:List (Addr × Obj)) (s:Shared) (σ:St) (H:Hp) (x:V) (xs:List V) (v:Value) (us:List Value) (Q:VK),zE X pins σ H s->zV x v->zM xs us->r x xs H Q->
  wpAny (model X.prog X.w) X.A (call (.builtin id) (v :: us)) (EP X pins σ Q) X.xe s
theorem zM.one:∀ {x:V} {us:List Value},zM [x] us->∃ u,us=[u]/\zV x u
 | _,_,.cons r .nil=>⟨_,rfl,r⟩
theorem zM.rep {xs:List V} {us:List Value} (h:zM xs us):∀ k:Nat,zM (cS k xs).flatten (cS k us).flatten
 | 0=>.nil
 | k + 1=>by
  rw [ff,ff,fP,fP]
  exact zM.append h (zM.rep h k)
theorem zHs (its:List Value):∀ (k:Nat) (acc:List Value),
  lO (λx1 x2=>x1++x2) acc.toArray (cS k its.toArray)=(acc++(cS k its).flatten).toArray
 | 0,acc=>by simp
 | k + 1,acc=>by
  have e:acc.toArray++its.toArray=(acc++its).toArray:=by simp
  have e2:(acc++its)++(cS k its).flatten=acc++(cS (k + 1) its).flatten:=by
   rw [ff,fP,fA]
  rw [<- e2,<- zHs its k (acc++its),<- e,ff,gV]
section
variable {X:Cx} {pins:List (Addr × Obj)} {σ:St} {H:Hp} {s:Shared} {l b:Addr} {xs ys zs:List V}
theorem zE.lset {its its':List Value} {n:Nat} {f:Array Value->Array Value} {t':Nat} (I:zE X pins σ H s) (hH:H l=some (.lst xs))
  (e:s.heap.get? l=some { cls:=.type "list",data:=.seq its.toArray n }) (hf:f its.toArray=its'.toArray) (hv:zM ys its') (hz:ys.length<=sizeLine) :
  zE X pins σ (zh H l (.lst ys)) { s with heap:=s.heap.update l (Obj.mapSeq f),toks:=t' }:=by
 have q:=PySem.IsL.update e f
 rw [hf] at q
 refine I.write (x:=l) (e:=l) (by rw [hH]; exact trivial) (.inl rfl) (λb' u hb hu=>(h8 s.heap (Obj.mapSeq f) (Ne.symm hb)).trans hu) ⟨_,q⟩ ?_
 exact ⟨hz,its',_,hv,q⟩
theorem zE.lnew {its:List Value} {t':Nat} (I:zE X pins σ H s) (hv:zM ys its) (hz:ys.length<=sizeLine) :
  zE X pins σ (zh H s.heap.objs.size (.lst ys)) { s with heap:=s.heap.push { cls:=.type "list",data:=.seq its.toArray },toks:=t' }:=
 I.laid (λ_ _ q=>cR _ q) (cQ _) ⟨hz,its,0,hv,dj _ rfl⟩
theorem zE.fresh (I:zE X pins σ H s):H s.heap.objs.size=none:=I.hok.fresh (cQ _)
theorem zE.lstM (I:zE X pins σ H s) (hH:H l=some (.lst xs)):xs.length<=sizeLine/\∃ (its:List Value) (n:Nat),zM xs its/\xs.length=its.length/\s.heap.get? l=some { cls:=.type "list",data:=.seq its.toArray n }:=by
 obtain ⟨z,its,n,r,e⟩:=I.hok l _ hH
 exact ⟨z,its,n,r,r.length,e⟩
theorem zNe {n:Nat} (h:n<=sizeLine):Builtin.List.listTooLong n=false:=by
 unfold Builtin.List.listTooLong
 exact decide_eq_false (by omega)
end
section
variable {X:Cx}
def zPL:V->List V->Hp->VK->Prop:=λx vs H Q=>∃ l xs y,x=.ref l/\vs=[y]/\H l=some (.lst xs)/\xs.length < sizeLine/\Q .non (zh H l (.lst (xs++[y])))
theorem zLZ:U6 X "list.append" zPL:=by
 intro pins s σ H x vs v us Q I rx rv h
 obtain ⟨l,xs,y,rfl,rfl,hH,hz,q⟩:=h
 cases rx
 obtain ⟨u,rfl,ru⟩:=rv.one
 obtain ⟨z,its,n,r,hl,e⟩:=I.lstM hH
 refine call_meets F.slot_list_append ⟨_,e,rfl⟩ F.entry_list_append (F.args_list_append_2 _ _) (PySem.list_append l its.toArray n u (by rw [cW]; omega)) ⟨e,?_⟩
 refine ⟨.non,_,I.lset (its':=its++[u]) hH e (by simp) (r.append (.cons ru .nil)) ?_,rfl,q⟩
 rw [cJ,fJ]
 omega
def qz:R2:=λx y H Q=>∃ l b xs zs,x=.ref l/\y=.ref b/\H l=some (.lst xs)/\H b=some (.lst zs)/\xs.length + zs.length<=sizeLine/\∀ p,H p=none->Q (.ref p) (zh H p (.lst (xs++zs)))
theorem zOc:xE X (binaryOp .Add) qz:=by
 intro pins s σ H x y v u Q I rx ry h
 obtain ⟨l,b,xs,zs,rfl,rfl,hH,hB,hz,q⟩:=h
 cases rx
 cases ry
 obtain ⟨z,its,n,r,hl,e⟩:=I.lstM hH
 obtain ⟨z2,its2,n2,r2,hl2,e2⟩:=I.lstM hB
 refine PySem.P.add_list e e2 ?_ (by rw [cW,cW]; omega)
 have ea:its.toArray++its2.toArray=(its++its2).toArray:=by simp
 rw [ea]
 exact ⟨.ref _,_,I.lnew (t':=s.toks) (r.append r2) (by rw [cJ]; omega),rfl,q _ I.fresh⟩
def Zh:R2:=λx y H Q=>∃ l k xs,x=.ref l/\y=.int k/\H l=some (.lst xs)/\-(2 ^ 63)<=k/\k < 2 ^ 63/\xs.length * k.toNat<=sizeLine∧
 ∀ p,H p=none->Q (.ref p) (zh H p (.lst (cS k.toNat xs).flatten))
theorem zP4 {α:Type} (xs:List α) (k:Nat):(cS k xs).flatten.length=k * xs.length:=by
 induction k with
 | zero=>simp
 | succ k ih=>rw [ff,fP,cJ,ih,Nat.succ_mul,Nat.add_comm]
theorem zRs:xE X (binaryOp .Mult) Zh:=by
 intro pins s σ H x y v u Q I rx ry h
 obtain ⟨l,k,xs,rfl,rfl,hH,h1,h2,hz,q⟩:=h
 cases rx
 obtain ⟨t,rfl⟩:=ry
 obtain ⟨z,its,n,r,hl,e⟩:=I.lstM hH
 have hlen:its.toArray.size * k.toNat<=sizeLine:=by rw [cW,<- hl]; exact hz
 have hcap:¬ its.toArray.size * k.toNat > (2 ^ 63 - 1) / 8:=by
  have:(sizeLine:Nat)<=(2 ^ 63 - 1) / 8:=by decide
  omega
 have hfit:¬ (!Builtin.List.listFitsIndex k)=true:=by
  rw [fitsIndex_both h1 h2]
  exact du
 have hlong:¬ Builtin.List.listTooLong (its.toArray.size * k.toNat)=true:=by
  rw [zNe hlen]
  exact du
 have hnew:lO (λx1 x2=>x1++x2) #[] (cS (if its.toArray.isEmpty=true then 0 else k.toNat) its.toArray)=(cS k.toNat its).flatten.toArray:=by
  have f0:∀ m:Nat,lO (λx1 x2=>x1++x2) #[] (cS m its.toArray)=(cS m its).flatten.toArray:=λm=>by
   have:=zHs its m []
   rw [mX] at this
   exact this
  rw [f0]
  cases its with
  | nil=>simp
  | cons a r'=>rw [if_neg (by simp)]
 refine wpAny_binaryOp_repeat_ref (T:="list") (U:="int") (by decide) ⟨_,e,rfl⟩ (λs'=>typeIs_int s' k t) noFill_list_mul F.fills_int_mul F.slot_int_rmul repeat_list F.slot_int_index.lookup
  (call_meets F.slot_int_rmul (typeIs_int s k t) F.entry_int_rmul (F.args_int_rmul_2 _ _) (int___rmul___int_list k t l its.toArray n)
   ⟨e,rfl,⟨_,e,rfl⟩,call_meets F.slot_list_mul ⟨_,e,rfl⟩ F.entry_list_mul (F.args_list_mul_2 _ _) (AutoListH.list___mul___list_int_3 l its.toArray n k t hfit hcap hlong) ⟨e,?_⟩⟩)
 rw [hnew]
 exact ⟨.ref _,_,I.lnew (t':=s.toks) (r.rep k.toNat) (by rw [zP4,mB]; exact hz),rfl,q _ I.fresh⟩
end
end L2
namespace Att
open PySem PySem.W PySem.Calls PyProof.Rows
theorem zFd {P:Params} {h:Heap}:∀ (ns:List Int) (vs:List Value),WellAll P h vs (ns.map WData.int)->IntsAre vs ns:=by
 intro ns
 induction ns with
 | nil=>
  intro vs w
  rw [mC] at w
  cases w
  exact .nil
 | cons n ns ih=>
  intro vs w
  rw [dD] at w
  cases w with
  | cons a b=>
   cases a
   exact .cons _ _ (ih _ b)
theorem zKg {l:OpenLaw} {n:Nat} (hn:l.most=some n) {P:Params} {h:Heap} {args:List WData} {vals:List Value}
  (hpre:l.row.toRowW.claim.pre args=true) (hwl:WellAll P h vals args) :
  ∃ a vs ns,vals=[Value.ref a]/\args=[WData.list (ns.map WData.int)]/\h.get? a=some { cls:=.type "list",data:=.seq vs.toArray }/\IntsAre vs ns/\ns.length<=n:=by
 have hsh:WShape.hasAll [] args [.list .int]=true:=(pre_splitW hpre).1
 have hc:l.pre.holds [] { args:=args }=true:=(pre_splitW hpre).2
 obtain ⟨d,r,rfl,h1,h2⟩:=hasAllW_cons hsh
 obtain rfl:=hasAllW_nil h2
 obtain ⟨xs,rfl,h3⟩:=hasW_list h1
 obtain ⟨ns,rfl⟩:=items_int h3
 have hlen:ns.length<=n:=by
  unfold OpenLaw.pre at hc
  have h4:(WTm.not (.lt (.lit (.int (n:Int))) (.len (.arg 0)))).holds [] { args:=[.list (ns.map .int)] }=true:=by
   have h4:=(holds_andW hc).1
   rw [hn] at h4
   exact h4
  have h5:=condW_of h4 (w_not (w_lt w_lit (w_len_list (w_arg rfl))))
  rw [a_] at h5
  refine Nat.le_of_not_lt λq=>?_
  have q':(n:Int) < ((ns.length:Nat):Int):=by omega
  first
   | (rw [decide_eq_true q'] at h5; exact absurd h5 (by decide))
   | (simp at h5; omega)
 cases hwl with
 | cons w1 w2=>
  cases w2
  cases w1 with
  | list ho hall=>exact ⟨_,_,ns,rfl,rfl,ho,zFd ns _ hall,hlen⟩
theorem zK0 (l:OpenLaw) (args:List WData):l.row.toRowW.claim.post args (.bool true) args=true:=
 postW_of (r:=l.row.toRowW) (X:=(true == true))
  (show WShape.has [] (.bool true) .bool=true by first | rfl | decide | simp [WShape.has,WShape.arms,WShape.armsAll])
  (show (WTm.eq .res (.lit (.bool true))).value [] { args:=args,res:=some (.bool true),after:=args }=some (.bool (true == true)) from w_eq_bool (w_res rfl) w_lit) rfl
theorem attach_call {l:OpenLaw} {n:Nat} {q:Program} {loose:List Str} {XP:(Str->Option Value)->Heap->Prop} {YP:World->Heap->Prop} {d:DefRec}
  (hn:l.most=some n) (hdf:d.params.defaults=[])
  (call:∀ (w:World) (s₀ s₁:Shared) (mg mb:Str->Option Value) (fa:Addr) (o:Obj) (pm cd doc:Value) (a:Addr) (vs:List Value) (ns:List Int),
   Ground q loose [] XP w s₀ mg mb s₁.heap->YP w s₁.heap->
   s₁.heap.get? fa=some o->o.data=.func (docDef d.name d.params d.body d.scope pm cd doc)->s₁.heap.CodeRec cd d.name->mg d.name=some (.ref fa)->
   s₁.heap.get? a=some { cls:=.type "list",data:=.seq vs.toArray }->IntsAre vs ns->ns.length<=n->s₁.gens=#[]->
   codeAny (model l.prog w) callerA (.call (.ref fa) ⟨[.ref a],[]⟩) (λr s'=>r=.ok (.ret (.bool true))/\OldK s₁.heap s'.heap/\s'.os=s₁.os/\AllBare s'.gens) s₁) :
  WalkO q loose XP YP l.row.toRowW d [] (λf vs=>PySem.call f vs):=by
 intro w s₀ s₁ mg mb G Y fa o pm cd doc dV kV ho hd hcd hD hmg hg args vals as hpre hlay hrd hwl hlo
 obtain rfl:dV=.none:=Dflts.none hD hdf
 obtain rfl:kV=.none:=Dflts.noKw hD
 obtain ⟨a,vs,ns,rfl,rfl,hobj,hints,hlen⟩:=zKg hn hpre hwl
 refine enter_call (codeAny_mono (call w s₀ s₁ mg mb fa o pm cd doc a vs ns G Y ho (fd_plain hd) hcd hmg hobj hints hlen hg) λr s' hq=>?_)
 obtain ⟨rfl,h2,h3,h4⟩:=hq
 exact ⟨.inl ⟨.bool true,.bool true,[],rfl,λ_=>rfl,.bool true,zK0 l _,λ_=>⟨List.Pairwise.nil,λ_ hm=>(nomatch hm)⟩⟩,h2,h3,h4⟩
end Att
namespace L2
open PySem PySem.Spec PyProof.Rows
theorem zHN:∀ {vs:List Value} {ns:List Int},IntsAre vs ns->zM (ns.map V.int) vs
 | _,_,.nil=>.nil
 | _,_,.cons n t h=>.cons ⟨t,rfl⟩ (zHN h)
end L2
namespace L2
open PySem PySem.Spec PyProof.Rows
def Zi (s:Stmt) (j:Nat):Stmt:=match s with
 | .ClassDef _ _ _ body _ _ _ _ _ _ _=>body.getD j (.Pass ⟨0,0,0,0⟩)
 | _=>.Pass ⟨0,0,0,0⟩
def w8 (s:Stmt):Arguments:=match s with
 | .FunctionDef _ a _ _ _ _ _ _ _ _=>a
 | _=>{ posonlyargs:=[],args:=[],vararg:=none,kwonlyargs:=[],kw_defaults:=[],kwarg:=none,defaults:=[] }
def xg (s:Stmt):List Stmt:=match s with
 | .FunctionDef _ _ b _ _ _ _ _ _ _=>b
 | _=>[]
def zS (s:Stmt):Scope:=match s with
 | .FunctionDef _ _ _ _ _ _ sc _ _ _=>sc
 | _=>{ kind:=.function,names:=[],isGenerator:=false,isCoroutine:=false }
abbrev zY:uG:=λ_ _ _ _ _ _=>False
abbrev E0:XK:=λ_ _ _=>False
theorem WL {X:Cx}:kN zY X E0:=λ_ _ _ _ _ _ _ h=>h.elim
structure zi (K:cI) (x qual:Str) (st:Stmt) (f:Addr) (fd:FuncData):Prop where
 ex:∃ (oc:Value) (od:Option Addr) (kV doc pm:Value) (an:Option Addr) (cdv ct:Value) (osl:Array (Option Value)),
  fd=e_ x qual (w8 st) (xg st) (zS st) .none kV doc pm an cdv ct/\K.lookup f=some ⟨oc,od,.func fd,osl⟩/\ij K cdv qual=true
 kp:e9 K (.ref f)=true
section
variable {P:Program} {w:World} {K:cI} {mg:Str->Option Value} {base:Heap}
theorem zi.ok {x qual:Str} {st:Stmt} {f:Addr} {fd:FuncData} {N ps:List Str} {k:Nat} {sp:Sp} (F:zi K x qual st f fd) (S:zf N ps (zS st)) (len:∀ vs H Q E,sp vs H Q E->vs.length=ps.length)
  (hbody:∀ (cdv:Value) (A:Around) (outer:List Env) (s:Shared) (H:Hp) (vs:List V) (Q:VK) (E:XK),zc k (A.deeper (envOfC qual (zS st) s.heap.objs.size f cdv))->sp vs H Q E->
   ∃ t,xG (xP zY P w K mg base N qual (zS st) f cdv A outer s H E).nox (xg st) t/\t { nx:=λ_ H'=>Q .non H',rt:=Q } (yq N vs) H):zF P w K mg base zY (k + 1) f fd ps sp:=by
 obtain ⟨oc,od,kV,doc,pm,an,cdv,ct,osl,rfl,lk,hcd⟩:=F.ex
 refine Uz lk hcd S len λA outer s H vs Q E hr hsp=>?_
 obtain ⟨t,h,q⟩:=hbody cdv A outer s H vs Q E hr hsp
 exact ⟨t,h.nox,q⟩
theorem zi.binds {x qual:Str} {st:Stmt} {f:Addr} {fd:FuncData} {ps:List Str} (F:zi K x qual st f fd)
  (h:∀ (kV doc pm:Value) (an:Option Addr) (cdv ct:Value) (us:List Value),us.length=ps.length->bindArgs (e_ x qual (w8 st) (xg st) (zS st) .none kV doc pm an cdv ct) ⟨us,[]⟩=pure (ps.zip us)):vW K fd ps []:=by
 obtain ⟨oc,od,kV,doc,pm,an,cdv,ct,osl,rfl,lk,hcd⟩:=F.ex
 exact .all (h kV doc pm an cdv ct)
theorem U7 {x qual:Str} {st:Stmt} {f:Addr} {oc:Value} {od an:Option Addr} {osl:Array (Option Value)} {kV doc pm cdv ct:Value} (l:K.lookup f=some ⟨oc,od,.func (e_ x qual (w8 st) (xg st) (zS st) .none kV doc pm an cdv ct),osl⟩)
  (c:ij K cdv qual=true) (k:e9 K (.ref f)=true):zi K x qual st f (e_ x qual (w8 st) (xg st) (zS st) .none kV doc pm an cdv ct):=⟨⟨oc,od,kV,doc,pm,an,cdv,ct,osl,rfl,l,c⟩,k⟩
end
theorem U8 {n:Nat} (h:n<=1000):n < sizeLine:=iM h (by decide)
section
variable {X:Cx}
theorem pv (i:Nat) {x:Str} {pos:Pos} (hN:X.N[i]? = some x:=by rfl) (hv:qJ X.env.scope x:=by first | exact Or.inl rfl | exact Or.inr (Or.inl rfl) | exact Or.inr (Or.inr rfl)) (hd:(x == ("__debug__" : Str))=false:=by decide)
  (hcd:(x == ("__classdict__" : Str))=false:=by decide):PE X (.Name x pos) (jj i):=UU hN hv hd hcd
end
theorem U9 {A B:Prop} (h:B):if false=true then A else B:=by
 rw [if_neg du]
 exact h
theorem Zj {c A B:Prop} [Decidable c] (hc:c) (h:B):if (!decide c)=true then A else B:=by
 rw [decide_eq_true hc]
 exact U9 h
def zR (H H':Hp):Prop:=∀ b o,H b=some o->H' b=some o
theorem zR.refl (H:Hp):zR H H:=λ_ _ h=>h
theorem zR.trans {H H1 H2:Hp} (a:zR H H1) (b:zR H1 H2):zR H H2:=λc o h=>b c o (a c o h)
end L2
set_option maxHeartbeats 4000000
namespace Sh
theorem zNv (c r:Int):d_ r (c.fmod r)=d_ c r:=by
 rw [Int.fmod_def,Int.gcd_sub_mul_left_right,Int.gcd_comm]
theorem zLx {c r:Int} (h:r≠0):(c.fmod r).natAbs < r.natAbs:=by
 rcases Int.lt_or_gt_of_ne h with hr | hr
 ·have e:c.fmod r = -((-c).fmod (-r)):=by rw [Int.neg_fmod_neg,Int.neg_neg]
  have h1:=h9 (-c) (b:=-r) (by omega)
  have h2:=iN (-c) (b:=-r) (by omega)
  omega
 ·have h1:=h9 c hr
  have h2:=iN c hr
  omega
theorem zSx (i:Int):(if i < 0 then -i else i)=(i.natAbs:Int):=by
 split <;> omega
def cm (t b:Int):Int:=if b < 0 then -(d_ t b:Int) else (d_ t b:Int)
def zN (t b:Int):Int:=t.fdiv (cm t b)
def zK (t b:Int):Int:=b.fdiv (cm t b)
theorem WM {t b:Int} (h:b≠0):0 < (d_ t b:Int):=by
 have:0 < d_ t b:=Int.gcd_pos_of_ne_zero_right _ h
 omega
theorem zN4 (t b:Int):cm t b ∣ t:=by
 unfold cm
 split
 ·exact Int.neg_dvd.mpr (k_ t b)
 ·exact k_ t b
theorem zN5 (t b:Int):cm t b ∣ b:=by
 unfold cm
 split
 ·exact Int.neg_dvd.mpr (i4 t b)
 ·exact i4 t b
theorem zJQ (t b:Int):zN t b * cm t b=t:=lW (zN4 t b)
theorem JA (t b:Int):zK t b * cm t b=b:=lW (zN5 t b)
theorem u4 {t b:Int} (h:b≠0):0 < zK t b:=by
 have e:=JA t b
 have g:=WM (t:=t) h
 rcases ic (zK t b) 0 with hl | hl | hl
 ·exfalso
  unfold cm at e
  split at e
  ·rename_i hb
   have:=Int.mul_pos_of_neg_of_neg hl (show -(d_ t b:Int) < 0 by omega)
   omega
  ·have:=iS hl g
   omega
 ·exfalso
  rw [hl,Int.zero_mul] at e
  omega
 ·exact hl
theorem zLj {t b:Int} (h:b≠0):d_ (zN t b) (zK t b)=1:=by
 have g:=WM (t:=t) h
 have e:d_ (cm t b * zN t b) (cm t b * zK t b)=(cm t b).natAbs * d_ (zN t b) (zK t b):=Int.gcd_mul_left _ _ _
 rw [fK (cm t b),fK (cm t b),zJQ,JA] at e
 have c:(cm t b).natAbs=d_ t b:=by
  unfold cm
  split
  ·rw [nA,l7]
  ·rw [l7]
 rw [c] at e
 have g':0 < d_ t b:=by omega
 exact iU g' (by rw [Nat.mul_one]; exact e.symm)
theorem zLk {t b:Int} (h:b≠0):zN t b * b=t * zK t b:=by
 have e1:=zJQ t b
 have e2:=JA t b
 calc zN t b * b=zN t b * (zK t b * cm t b):=by rw [e2]
  _=(zN t b * cm t b) * zK t b:=by rw [nE,fK (zK t b)]
  _=t * zK t b:=by rw [e1]
end Sh
namespace Sh
def jT (st:Int × Int) (p:Int × Int × Int):Int × Int:=(st.1 * p.2.2 + p.1 * p.2.1 * st.2,st.2 * p.2.2)
def yC (ws:List Int) (pts:List (Int × Int)):Int × Int:=(ws.zip pts).foldl jT (0,1)
end Sh
namespace Sh
section
variable {β γ:Type}
def look (m:List (List Int × β)) (k:List Int):Option β:=(m.find? λkv=>decide (kv.1=k)).map (·.2)
def put (m:List (List Int × β)) (k:List Int) (v:β):List (List Int × β):=
 if (m.any λkv=>decide (kv.1=k))=true then m.map (λkv=>if kv.1=k then (kv.1,v) else kv) else m++[(k,v)]
end
section
variable (num:List Int->Int) (den:Int)
def hl (r:List Int × Int):Bool:=decide (num r.1<=r.2 * den)
variable (hden:0 < den) (lin:∀ (ws:List Int) (c:Int),num (ws.map (· * c))=num ws * c)
include hden lin
end
end Sh
namespace L2
open PySem
def u5 (env:Env) (cs:List (Str × Addr)) (p:Str × NameKind):List (Str × Addr):=if (p.2 == .free)=true then (p.1,(env.cells.lookup p.1).getD 0) :: cs else cs
def vX (scope:Scope) (env:Env):List (Str × Addr):=scope.names.foldl (u5 env) []
theorem zKM {env:Env}:∀ (names:List (Str × NameKind)) (cs:List (Str × Addr)),(∀ p∈names,p.2=.free->(env.cells.lookup p.1).isSome=true)->
  (forIn names cs (λ(p:Str × NameKind) (r:List (Str × Addr))=>(if (p.2 == .free)=true then do let a <- cellOf env p.1; pure (ForInStep.yield ((p.1,a) :: r)) else pure (ForInStep.yield r):Sem (ForInStep (List (Str × Addr))))))=pure (names.foldl (u5 env) cs):=by
 intro names
 induction names with
 | nil=>intro cs _; rfl
 | cons p r ih=>
  intro cs h
  obtain ⟨n,k⟩:=p
  rw [lD]
  by_cases hk:k=.free
  ·subst hk
   obtain ⟨c,hc⟩:=eJ.mp (h (n,.free) cO rfl)
   have e:cellOf env n=pure c:=by unfold cellOf; dsimp only at hc; rw [hc]
   have z:u5 env cs (n,.free)=(n,c) :: cs:=by unfold u5; dsimp only at hc |-; rw [hc]; rfl
   simp only [e,beq_self_eq_true,if_true,pure_bind,gV,z]
   exact ih _ λq hq=>h q (cK _ hq)
  ·have b:(k == NameKind.free)=false:=by simpa using hk
   have z:u5 env cs (n,k)=cs:=by unfold u5; dsimp only; rw [b]; rfl
   simp only [b,fG,if_false,pure_bind,gV,z]
   exact ih _ λq hq=>h q (cK _ hq)
theorem zGF {scope:Scope} {env:Env} (h:∀ p∈scope.names,p.2=.free->(env.cells.lookup p.1).isSome=true):closureFor scope env=pure (vX scope env):=by
 unfold closureFor vX
 have:=zKM scope.names [] h
 exact (congrArg (λm=>m >>= λr=>pure r) this).trans rfl
theorem zMK {env:Env}:∀ (names:List (Str × NameKind)) (cs:List (Str × Addr)) (x:Str) (c:Addr),(x,c)∈names.foldl (u5 env) cs->(x,c)∈cs\/((x,NameKind.free)∈names/\c=(env.cells.lookup x).getD 0):=by
 intro names
 induction names with
 | nil=>intro cs x c h; exact .inl h
 | cons p r ih=>
  intro cs x c h
  obtain ⟨n,k⟩:=p
  rw [gV] at h
  rcases ih _ x c h with h1 | ⟨h1,h2⟩
  ·unfold u5 at h1
   dsimp only at h1
   by_cases hk:k=.free
   ·subst hk
    simp only [beq_self_eq_true,if_true] at h1
    rcases de.mp h1 with e | h1
    ·injection e with e1 e2
     subst e1; subst e2
     exact .inr ⟨cO,rfl⟩
    ·exact .inl h1
   ·have b:(k == NameKind.free)=false:=by simpa using hk
    simp only [b,fG,if_false] at h1
    exact .inl h1
  ·exact .inr ⟨cK _ h1,h2⟩
theorem kO {α β:Type} [BEq α] [LawfulBEq α]:∀ {l:List (α × β)} {a:α} {b:β},l.lookup a=some b->(a,b)∈l
 | [],_,_,h=>by simp at h
 | (x,y) :: r,a,b,h=>by
  rw [dw] at h
  by_cases e:a=x
  ·subst e
   simp only [beq_self_eq_true,if_true] at h
   cases h
   exact cO
  ·have:(a == x)=false:=by simpa using e
   simp only [this] at h
   exact cK _ (kO h)
theorem zFa {α β:Type} [BEq α] [LawfulBEq α]:∀ {l:List (α × β)} {a:α} {b:β},(a,b)∈l->∃ c,l.lookup a=some c
 | [],_,_,h=>by cases h
 | (x,y) :: r,a,b,h=>by
  rw [dw]
  by_cases e:a=x
  ·subst e
   exact ⟨y,by simp⟩
  ·have z:(a == x)=false:=by simpa using e
   rcases de.mp h with q | q
   ·injection q with q1 _; exact absurd q1 e
   ·obtain ⟨c,hc⟩:=zFa q
    exact ⟨c,by simp only [z]; exact hc⟩
theorem zML {env:Env}:∀ (names:List (Str × NameKind)) (cs:List (Str × Addr)) (x:Str),((x,NameKind.free)∈names\/∃ c,(x,c)∈cs)->∃ c,(x,c)∈names.foldl (u5 env) cs:=by
 intro names
 induction names with
 | nil=>
  intro cs x h
  rcases h with h | h
  ·cases h
  ·exact h
 | cons p r ih=>
  intro cs x h
  rw [gV]
  refine ih _ x ?_
  rcases h with h | ⟨c,h⟩
  ·rcases de.mp h with e | h
   ·subst e
    exact .inr ⟨_,by unfold u5; simp only [beq_self_eq_true,if_true]; exact cO⟩
   ·exact .inl h
  ·refine .inr ⟨c,?_⟩
   unfold u5
   split
   ·exact cK _ h
   ·exact h
theorem q9 {scope:Scope} {env:Env} (h:∀ p∈scope.names,p.2=.free->(env.cells.lookup p.1).isSome=true) {x:Str} {c:Addr} (e:(vX scope env).lookup x=some c) :
  env.cells.lookup x=some c/\(x,NameKind.free)∈scope.names:=by
 rcases zMK scope.names [] x c (kO e) with z | ⟨z,q⟩
 ·cases z
 ·obtain ⟨d,hd⟩:=eJ.mp (h _ z rfl)
  dsimp only at hd
  rw [hd] at q
  exact ⟨by rw [hd,q]; rfl,z⟩
theorem JB {scope:Scope} {env:Env} {x:Str} (h:(x,NameKind.free)∈scope.names):∃ c,(vX scope env).lookup x=some c:=by
 obtain ⟨c,hc⟩:=zML (env:=env) scope.names [] x (.inl h)
 exact zFa hc
theorem zEd {scope:Scope} {env:Env} {x:Str} {k:NameKind} (h:(relabel scope env).names.lookup x=some k):(k=.cell/\((x,NameKind.free)∈scope.names\/(x,NameKind.cell)∈scope.names))\/(x,k)∈scope.names:=by
 have m:=kO h
 unfold relabel at m
 obtain ⟨⟨n,j⟩,hm,e⟩:=cP.mp m
 dsimp only at e
 split at e
 ·rename_i q
  injection e with e1 e2
  subst e1; subst e2
  have q1:j=NameKind.free:=by
   have:=(e7.mp (e7.mp q).1).1
   exact eq_of_beq this
  subst q1
  exact .inl ⟨rfl,.inl hm⟩
 ·injection e with e1 e2
  subst e1; subst e2
  exact .inr hm
end L2
namespace L2
open PySem PySem.Spec PyProof.Rows
def Bd (n:Nat) (i:Int):Prop:=i.natAbs < 2 ^ n
theorem Bd.mono {n m:Nat} {i:Int} (h:Bd n i) (k:n<=m:=by decide):Bd m i:=dg h (Nat.pow_le_pow_right (by decide) k)
theorem Bd.of_le {n:Nat} {i j:Int} (h:Bd n j) (k:i.natAbs<=j.natAbs):Bd n i:=iM k h
theorem Bd.mul {n m:Nat} {i j:Int} (h:Bd n i) (k:Bd m j):Bd (n + m) (i * j):=by
 unfold Bd
 rw [im,Nat.pow_add]
 rcases Nat.eq_zero_or_pos j.natAbs with z | z
 ·rw [z,Nat.mul_zero]
  exact mY (iG _) (iG _)
 ·exact dg (Nat.mul_lt_mul_of_pos_right h z) (iH _ (iL k))
theorem Bd.add {n:Nat} {i j:Int} (h:Bd n i) (k:Bd n j):Bd (n + 1) (i + j):=by
 have h':i.natAbs < 2 ^ n:=h
 have k':j.natAbs < 2 ^ n:=k
 unfold Bd
 rw [mD]
 have:=Int.natAbs_add_le i j
 omega
theorem Bd.neg {n:Nat} {i:Int} (h:Bd n i):Bd n (-i):=by
 unfold Bd
 rw [nA]
 exact h
theorem Bd.sub {n:Nat} {i j:Int} (h:Bd n i) (k:Bd n j):Bd (n + 1) (i - j):=by
 rw [Int.sub_eq_add_neg]
 exact h.add k.neg
theorem Bd.lit {n:Nat} {i:Int} (h:i.natAbs < 2 ^ n:=by decide):Bd n i:=h
theorem Bd.bits {n:Nat} {i:Int} (h:Bd n i):Builtin.Int.intBits i<=n:=by
 have h':i.natAbs < 2 ^ n:=h
 unfold Builtin.Int.intBits
 split
 ·exact ib _
 ·rename_i z
  have nz:i.natAbs≠0:=by
   intro q
   apply z
   rw [l8.mp q]
   rfl
  exact (Nat.log2_lt nz).mpr h'
theorem Bd.fdiv {n:Nat} {i:Int} (h:Bd n i) (j:Int):Bd n (i.fdiv j):=
 h.of_le (Int.natAbs_fdiv_le_natAbs i j)
def WN (i j:Int):Prop:=Bd 60000 i/\Bd 60000 j
def zSz (_ j:Int):Prop:=j≠0/\Bd 8000 j
section
variable {X:Cx}
theorem WN.ok {i j:Int} (h:WN i j):IntMulOk i j:=by
 have h1:=h.1.bits
 have h2:=h.2.bits
 have hc:Builtin.Int.intTooBig (Builtin.Int.intBits i + Builtin.Int.intBits j)=false:=by
  unfold Builtin.Int.intTooBig
  rw [bitsLine_eq]
  exact decide_eq_false (by omega)
 unfold IntMulOk
 rw [hc]
 simp
theorem zPl:xE X (binaryOp .Mult) (rI WN λi j=>.int (i * j)):=WB λ_ _ _ _ _ _ _ hc q=>mul_int q hc.ok
theorem zNO:xE X (binaryOp .FloorDiv) (rI zSz λi j=>.int (i.fdiv j)):=WB λ_ _ _ _ _ _ _ hc q=>by
 refine floordiv_int hc.1 q (.inl (PyProof.noPylong_of_log2 ?_))
 have h':_ < 2 ^ 8000:=hc.2
 have nz:_≠0:=λz=>hc.1 (l8.mp z)
 exact Nat.lt_trans ((Nat.log2_lt nz).mpr h') (by decide)
end
section
variable {X:Cx}
def zRI (K:cI):List V->Hp->VK->Prop:=λxs H Q=>∃ x c t b,xs=[x,.ty c]/\yb K H x t/\dy K t (.type c)=some b/\Q (.bl b) H
theorem vz:wz X (.builtin "isinstance") (zRI X.K):=by
 intro pins s σ H xs us Q I r h
 obtain ⟨x,c,t,b,rfl,ty,e,q⟩:=h
 obtain ⟨u,v,rfl,ru,rv⟩:=Za r
 cases (show v=Value.type c from rv)
 exact zHq I ru ty e λtk=>⟨.bl b,H,I.tok tk,rfl,q⟩
end
mutual
inductive Dp (K:cI) (H:Hp):V->PyData->Prop where
 | non:Dp K H .non .none
 | bl (b:Bool):Dp K H (.bl b) (.bool b)
 | int (i:Int):Dp K H (.int i) (.int i)
 | str (x:Str):Dp K H (.str x) (.str x)
 | lst {a:Addr} {xs:List V} {ds:List PyData} (e:zp K H a xs) (h:u6 K H xs ds):Dp K H (.ref a) (.list ds)
 | tup {a:Addr} {xs:List V} {ds:List PyData} (e:yj K H a xs) (h:u6 K H xs ds):Dp K H (.ref a) (.tuple ds)
inductive u6 (K:cI) (H:Hp):List V->List PyData->Prop where
 | nil:u6 K H [] []
 | cons {x:V} {xs:List V} {d:PyData} {ds:List PyData} (h:Dp K H x d) (t:u6 K H xs ds):u6 K H (x :: xs) (d :: ds)
end
section
variable {X:Cx} {pins:List (Addr × Obj)} {σ:St} {H:Hp} {s:Shared}
mutual
theorem Dp.reads (I:zE X pins σ H s):∀ {x:V} {d:PyData} {u:Value},Dp X.K H x d->zV x u->∃ as,Reads s.heap u d as
 | _,_,_,.non,r=>by cases r; exact ⟨_,.none⟩
 | _,_,_,.bl b,r=>by cases r; exact ⟨_,.bool b⟩
 | _,_,_,.int i,r=>by obtain ⟨t,rfl⟩:=r; exact ⟨_,.int i t⟩
 | _,_,_,.str x,r=>by obtain ⟨t,rfl⟩:=r; exact ⟨_,.str x t⟩
 | _,_,_,.lst e h,r=>by
  cases r
  obtain ⟨its,rv,⟨o,n,e1,e2,_,e3⟩,_⟩:=I.list e
  obtain ⟨as,q⟩:=u6.reads I h rv
  exact ⟨_,.list e1 e2 e3 (by simpa using q)⟩
 | _,_,_,.tup e h,r=>by
  cases r
  obtain ⟨its,rv,⟨o,e1,e2,n,e3⟩,_⟩:=I.tuple e
  obtain ⟨as,q⟩:=u6.reads I h rv
  exact ⟨_,.tuple e1 e2 e3 (by simpa using q)⟩
theorem u6.reads (I:zE X pins σ H s):∀ {xs:List V} {ds:List PyData} {us:List Value},u6 X.K H xs ds->zM xs us->∃ as,ReadsAll s.heap us ds as
 | _,_,_,.nil,r=>by cases r; exact ⟨_,.nil⟩
 | _,_,_,.cons h t,r=>by
  cases r with
  | cons r1 r2=>
   obtain ⟨_,q1⟩:=Dp.reads I h r1
   obtain ⟨_,q2⟩:=u6.reads I t r2
   exact ⟨_,.cons q1 q2⟩
end
end
section
variable {X:Cx}
theorem jU (hc:X.calm=true):wz X (.builtin "all") (λxs H Q=>∃ (p:Addr) (bs:List Bool),xs=[.ref p]/\zp X.K H p (bs.map V.bl)/\Q (.bl (bs.all id)) H):=by
 intro pins s σ H xs us Q I r h
 obtain ⟨p,bs,rfl,hq,q⟩:=h
 obtain ⟨u,rfl,ru⟩:=uf r
 cases ru
 obtain ⟨its,rv,pl,hz⟩:=I.list hq
 have hh:X.A.in1.handled=none:=I.ok.hd hc
 have hlt:p < s.heap.objs.size:=by obtain ⟨o,n,e,_⟩:=pl; exact cZ e
 refine call_all_walk (wpAny_pyIter_list pl.isList ?_)
 have hlen:its.length=bs.length:=by rw [<- rv.length,a_]
 refine ⟨s.heap.objs.size,_,_,_,_,_,λi=>bs.getD i true,rfl,Walks.list hh s.heap.objs.size p (dL hlt) its.toArray,⟨⟨_,dj _ rfl,rfl,rfl⟩,pl.isList.push _⟩,?_,λh' tk kk=>?_⟩
 ·intro i v s' Q' E' hP hQ'
  have e1:its[i]? = some v:=by simpa using hP
  have hi:i < its.length:=(cT.mp e1).1
  have hb:(bs.map V.bl)[i]? = some (.bl (bs.getD i true)):=by
   rw [c_,b_ (by omega),b',b_ (by omega)]
   rfl
  obtain ⟨u',e2,r2⟩:=rv.get hb
  rw [e1] at e2
  cases e2
  cases r2
  exact wpAny_truthy_bool hQ'
 ·have e:(df its.toArray.size).all (λi=>bs.getD i true)=bs.all id:=by
   rw [cW,hlen]
   rw [fH,di,di]
   constructor
   ·intro z b hb
    obtain ⟨i,hi,rfl⟩:=e8.mp hb
    have:=z i (dH.mpr hi)
    rw [b',b_ hi] at this
    exact this
   ·intro z i hi
    have hi':=dH.mp hi
    rw [b',b_ hi']
    exact z _ (d6 hi')
  refine ⟨.bl (bs.all id),H,I.kept (h':=h') (t':=tk) λb o eb=>kk b o ?_ (cR _ eb),?_,q⟩
  ·intro hb
   have:b=s.heap.objs.size:=by simpa using hb
   rw [this] at eb
   exact absurd (cZ eb) (dN _)
  ·rw [e]
   rfl
end
end L2
namespace L2
open PySem PySem.Spec PyProof.Rows
def uH (own:List Str) (caps:List (Nat × Str)) (σ:St):St:=own.map (λ_=>none)++caps.map λp=>(σ[p.1]?).getD none
abbrev zm (own:List Str) (caps:List (Nat × Str)):List Str:=own++caps.map (·.2)
theorem zEc {scope:Scope} {env:Env} {x:Str}:(relabel scope env).names.lookup x=(scope.names.lookup x).map λk=>if (k == .free && env.scope.kind == .function && env.kindOf x == some .cell)=true then .cell else k:=by
 unfold relabel
 generalize scope.names=l
 induction l with
 | nil=>rfl
 | cons p r ih=>
  obtain ⟨n,k⟩:=p
  rw [dD]
  by_cases e:x=n
  ·subst e
   by_cases c:(k == NameKind.free && env.scope.kind == .function && env.kindOf x == some .cell)=true
   ·simp only [c,if_true,dw,beq_self_eq_true,g_]
   ·simp only [c,if_false,dw,beq_self_eq_true,g_,fG]
  ·have z:(x == n)=false:=by simpa using e
   dsimp only
   split <;> simp only [dw,z] <;> exact ih
section
variable {X:Cx} {scope:Scope} {own:List Str} {caps:List (Nat × Str)} {pins:List (Addr × Obj)} {σ:St} {H:Hp} {s s4:Shared} {C D:Addr} {fp:List Addr}
theorem zN9 {i:Nat} {x:Str} {v:V} (h1:(zm own caps)[i]? = some x) (h2:(uH own caps σ)[i]? = some (some v)):∃ j,(j,x)∈caps/\σ[j]? = some (some v):=by
 unfold uH at h2
 by_cases hi:i < own.length
 ·rw [dR (by simpa using hi),c_] at h2
  cases e:own[i]? with
  | none=>rw [e] at h2; cases h2
  | some a=>rw [e] at h2; cases h2
 ·rw [dC (by simpa using hi),a_,c_] at h2
  unfold zm at h1
  rw [dC (by omega),c_] at h1
  cases e:caps[i - own.length]? with
  | none=>rw [e] at h1; cases h1
  | some p=>
   obtain ⟨j,n⟩:=p
   rw [e] at h1 h2
   cases h1
   refine ⟨j,dz e,?_⟩
   simp only [g_,Option.some.injEq] at h2
   cases q:σ[j]? with
   | none=>rw [q] at h2; cases h2
   | some o=>rw [q] at h2; exact congrArg some h2
abbrev xo (its:List Value) (k:Nat):Obj:={ cls:=.type "list",data:=.seq its.toArray k }
theorem zOA {Y:Cx} {its:List Value} {k:Nat} {y:Value} {pl:List (Addr × Obj)} {Q:Value->Shared->Prop} {E:Value->Shared->Prop} (I:zE Y ((D,xo its k) :: pl) σ H s) (hn:yQ Y [] H D) (hp:Y.pn=[]) (hz:its.length<=sizeLine)
  (q:∀ h' k' tk,(∀ b o,b≠D->s.heap.get? b=some o->h'.get? b=some o)->zE Y [(D,xo (its++[y]) k')] σ H { s with heap:=h',toks:=tk }->Q .none { s with heap:=h',toks:=tk }) :
  wpAny (model Y.prog Y.w) Y.A (call (.builtin "list.append") [.ref D,y]) Q E s:=by
 have pD:=I.pin (D,xo its k) (cY _ cO)
 have e:s.heap.get? D=some (xo its k):=pD.1
 refine call_meets F.slot_list_append ⟨_,e,rfl⟩ F.entry_list_append (F.args_list_append_2 _ _) (PySem.list_append D its.toArray k y (by rw [cW]; exact hz)) ⟨e,?_⟩
 have e2:=PySem.IsL.update e (·.push y)
 have ea:its.toArray.push y=(its++[y]).toArray:=by simp
 have keep:∀ b o,b≠D->s.heap.get? b=some o->(s.heap.update D (Obj.mapSeq (·.push y))).get? b=some o:=λb o hb eb=>(h8 s.heap _ (Ne.symm hb)).trans eb
 have I0:zE Y [] σ H s:=I.pins_of λp hp'=>by cases hp'
 have I1:zE Y [] σ H { s with heap:=s.heap.update D (Obj.mapSeq (·.push y)),toks:=s.toks }:=I0.turned keep hn.1 hn.2.1 hn.2.2.2.1 hn.2.2.2.2.1 hn.2.2.2.2.2
 have e3:(s.heap.update D (Obj.mapSeq (·.push y))).get? D=some (xo (its++[y]) _):=e2.trans (by rw [ea])
 have I2:zE Y [(D,xo (its++[y]) (if ((its++[y]).toArray.size == its.toArray.size)=true then k else k + 1))] σ H { s with heap:=s.heap.update D (Obj.mapSeq (·.push y)),toks:=s.toks }:=I1.pins_of λp hp'=>by
  rw [dh.mp hp']
  exact ⟨e3,hn.1,hn.2.1,hn.2.2.1,λv z=>by cases z⟩
 exact q _ _ s.toks keep I2
end
end L2
namespace L2
open PySem PySem.Spec PyProof.Rows
structure Fn (P:Program) (w:World) (K:cI) (mg:Str->Option Value) (base:Heap) (x:Str) (ps:List Str) (k:Nat) (sp:Sp):Prop where
 ex:∃ f fd,zF P w K mg base zY k f fd ps sp/\mg x=some (.ref f)/\e9 K (.ref f)=true/\vW K fd ps []
theorem Fn.mono {P:Program} {w:World} {K:cI} {mg:Str->Option Value} {base:Heap} {x:Str} {ps:List Str} {j k:Nat} {sp:Sp} (F:Fn P w K mg base x ps j sp) (h:j<=k:=by decide):Fn P w K mg base x ps k sp:=by
 obtain ⟨f,fd,a,b,c,d⟩:=F.ex
 exact ⟨f,fd,a.mono h,b,c,d⟩
theorem zNM {X:Cx} {x:Str} {ps:List Str} {k:Nat} {sp:Sp} {e:Expr} {es:List Expr} {t:TA} {p pos:Pos} (F:Fn X.prog X.w X.K X.mg X.base x ps k sp) (hr:zc k X.A) (hg:Gl X x) (ha:PA X (e :: es) t)
  (hdb:(x == ("__debug__" : Str))=false:=by decide) (he:starEach (e :: es) X.env=(false,eval e X.env) :: starEach es X.env:=by rfl) (hpl:(backTo pos (starEach es X.env)).any (·.1)=false:=by rfl) :
  PE X (.Call (.Name x p) (e :: es) [] pos) (Uy sp [] E0 t):=by
 obtain ⟨f,fd,a,b,c,d⟩:=F.ex
 exact zLC a hr hg b c d .nil WL ha hdb he hpl
end L2
namespace L2
open PySem PySem.Spec PyProof.Rows
theorem vY:bootBuiltins "isinstance" = some (.builtin "isinstance"):=by decide +kernel
theorem xh:bootBuiltins "len" = some (.builtin "len"):=by decide +kernel
theorem zH6:bootBuiltins "abs" = some (.builtin "abs"):=by decide +kernel
theorem jV:bootBuiltins "all" = some (.builtin "all"):=by decide +kernel
theorem Zk:bootBuiltins "int" = some (.type "int"):=by decide +kernel
theorem zGG:bootBuiltins "bool" = some (.type "bool"):=by decide +kernel
theorem uI:bootBuiltins "tuple" = some (.type "tuple"):=by decide +kernel
theorem wW:bootBuiltins "list" = some (.type "list"):=by decide +kernel
structure xa (K:cI) (x qual:Str) (st:Stmt) (f:Addr) (fd:FuncData) (d:Value):Prop where
 ex:∃ (oc:Value) (od:Option Addr) (kV doc pm:Value) (an:Option Addr) (cdv ct:Value) (osl:Array (Option Value)) (T:Addr) (oT:Obj) (n:Nat),
  fd=e_ x qual (w8 st) (xg st) (zS st) (.ref T) kV doc pm an cdv ct/\K.lookup f=some ⟨oc,od,.func fd,osl⟩/\ij K cdv qual=true/\K.lookup T=some oT/\oT.data=.seq #[d] n
 kp:e9 K (.ref f)=true
theorem xa.ok {P:Program} {w:World} {K:cI} {mg:Str->Option Value} {base:Heap} {x qual:Str} {st:Stmt} {f:Addr} {fd:FuncData} {d:Value} {N ps:List Str} {k:Nat} {sp:Sp} (F:xa K x qual st f fd d) (S:zf N ps (zS st))
  (len:∀ vs H Q E,sp vs H Q E->vs.length=ps.length)
  (hbody:∀ (cdv:Value) (A:Around) (outer:List Env) (s:Shared) (H:Hp) (vs:List V) (Q:VK) (E:XK),zc k (A.deeper (envOfC qual (zS st) s.heap.objs.size f cdv))->sp vs H Q E->
   ∃ t,xG (xP zY P w K mg base N qual (zS st) f cdv A outer s H E).nox (xg st) t/\t { nx:=λ_ H'=>Q .non H',rt:=Q } (yq N vs) H):zF P w K mg base zY (k + 1) f fd ps sp:=by
 obtain ⟨oc,od,kV,doc,pm,an,cdv,ct,osl,T,oT,n,rfl,lk,hcd,_⟩:=F.ex
 refine Uz lk hcd S len λA outer s H vs Q E hr hsp=>?_
 obtain ⟨t,h,q⟩:=hbody cdv A outer s H vs Q E hr hsp
 exact ⟨t,h.nox,q⟩
end L2
namespace L2
open PySem PySem.Spec PyProof.Rows
theorem zQB {K:cI} {x qual:Str} {st:Stmt} {f T:Addr} {oc kV doc pm cdv ct d:Value} {od an:Option Addr} {osl:Array (Option Value)} {oT:Obj} {n:Nat} (l:K.lookup f=some ⟨oc,od,.func (e_ x qual (w8 st) (xg st) (zS st) (.ref T) kV doc pm an cdv ct),osl⟩)
  (c:ij K cdv qual=true) (k:e9 K (.ref f)=true) (t:K.lookup T=some oT) (e:oT.data=.seq #[d] n):xa K x qual st f (e_ x qual (w8 st) (xg st) (zS st) (.ref T) kV doc pm an cdv ct) d:=
 ⟨⟨oc,od,kV,doc,pm,an,cdv,ct,osl,T,oT,n,rfl,l,c,t,e⟩,k⟩
theorem xa.binds {K:cI} {x qual:Str} {st:Stmt} {f:Addr} {fd:FuncData} {d:Value} {ps:List Str} (F:xa K x qual st f fd d)
  (h:∀ (T:Addr) (kV doc pm:Value) (an:Option Addr) (cdv ct:Value) (us:List Value),us.length=ps.length->∃ k:Option (Array Value)->Sem (List (Str × Value)),
   bindArgs (e_ x qual (w8 st) (xg st) (zS st) (.ref T) kV doc pm an cdv ct) ⟨us,[]⟩=seqItems? (.ref T) >>= k/\k (some #[d])=pure (ps.zip us)):vW K fd ps []:=by
 obtain ⟨oc,od,kV,doc,pm,an,cdv,ct,osl,T,oT,n,rfl,lk,hcd,t,e⟩:=F.ex
 intro s us X hl
 rw [fy] at hl |-
 obtain ⟨k,h1,h2⟩:=h T kV doc pm an cdv ct us hl
 exact .of_defaults (T:=T) rfl (X T oT t) e h1 h2
end L2
namespace L2
open PySem PySem.Spec PyProof.Rows
structure wr (P:Program) (w:World) (K:cI) (mg:Str->Option Value) (base:Heap) (x:Str) (ps:List Str) (k:Nat) (sp:Sp) (dv:V):Prop where
 ex:∃ f fd d,zF P w K mg base zY k f fd ps sp/\mg x=some (.ref f)/\e9 K (.ref f)=true/\vW K fd ps []/\vW K fd ps [d]/\zV dv d
theorem wr.mono {P:Program} {w:World} {K:cI} {mg:Str->Option Value} {base:Heap} {x:Str} {ps:List Str} {j k:Nat} {sp:Sp} {dv:V} (F:wr P w K mg base x ps j sp dv) (h:j<=k:=by decide):wr P w K mg base x ps k sp dv:=by
 obtain ⟨f,fd,d,a,b,c,e⟩:=F.ex
 exact ⟨f,fd,d,a.mono h,b,c,e⟩
theorem wr.fn {P:Program} {w:World} {K:cI} {mg:Str->Option Value} {base:Heap} {x:Str} {ps:List Str} {k:Nat} {sp:Sp} {dv:V} (F:wr P w K mg base x ps k sp dv):Fn P w K mg base x ps k sp:=by
 obtain ⟨f,fd,d,a,b,c,e,_⟩:=F.ex
 exact ⟨f,fd,a,b,c,e⟩
theorem zLB {X:Cx} {x:Str} {ps:List Str} {k:Nat} {sp:Sp} {e:Expr} {es:List Expr} {t:TA} {p pos:Pos} {dv:V} (F:wr X.prog X.w X.K X.mg X.base x ps k sp dv) (hr:zc k X.A) (hg:Gl X x) (ha:PA X (e :: es) t)
  (hdb:(x == ("__debug__" : Str))=false:=by decide) (he:starEach (e :: es) X.env=(false,eval e X.env) :: starEach es X.env:=by rfl) (hpl:(backTo pos (starEach es X.env)).any (·.1)=false:=by rfl) :
  PE X (.Call (.Name x p) (e :: es) [] pos) (Uy sp [dv] E0 t):=by
 obtain ⟨f,fd,d,a,b,c,_,h2,r⟩:=F.ex
 exact zLC a hr hg b c h2 (.cons r .nil) WL ha hdb he hpl
theorem xa.binds1 {K:cI} {x qual:Str} {st:Stmt} {f:Addr} {fd:FuncData} {d:Value} {ps:List Str} (F:xa K x qual st f fd d)
  (h:∀ (T:Addr) (kV doc pm:Value) (an:Option Addr) (cdv ct:Value) (us:List Value),us.length + 1=ps.length->∃ k:Option (Array Value)->Sem (List (Str × Value)),
   bindArgs (e_ x qual (w8 st) (xg st) (zS st) (.ref T) kV doc pm an cdv ct) ⟨us,[]⟩=seqItems? (.ref T) >>= k/\k (some #[d])=pure (ps.zip (us++[d]))):vW K fd ps [d]:=by
 obtain ⟨oc,od,kV,doc,pm,an,cdv,ct,osl,T,oT,n,rfl,lk,hcd,t,e⟩:=F.ex
 intro s us X hl
 rw [cJ,fJ] at hl
 obtain ⟨k,h1,h2⟩:=h T kV doc pm an cdv ct us hl
 exact .of_defaults (T:=T) rfl (X T oT t) e h1 h2
theorem zIr:bootBuiltins "range" = some (.type "range"):=by decide +kernel
end L2
namespace L2
theorem Zl {b:Bool} {A B:Prop} (e:b=true) (h:A):if b=true then A else B:=by
 rw [if_pos e]
 exact h
theorem zSh {i j:Int} (h:i≠j):decide (V.int i=V.int j)=false:=decide_eq_false λe=>h (by injection e)
theorem zP0 {i j:Int} (h:i≠j):(!decide (V.int i=V.int j))=true:=by rw [zSh h]; rfl
end L2
set_option maxRecDepth 100000
namespace L2
open PySem
section
variable {prog:Program} {w:World} {A:Around} {E:Value->Shared->Prop} {s:Shared}
theorem zME (hh:A.handled=none) (it t:Addr) (hne:t≠it) (items:Array Value) :
  Draws prog w A it [it,t] items.size (λi v=>items[i]? = some v) (λi h=>h.IsTupleIter it t i/\h.IsTuple t items) where
 live:=λ_ _ st=>let ⟨o,ho,_⟩:=st.1; ⟨o,ho⟩
 frame:=λ_ _ _ st hk=>⟨let ⟨o,e,r⟩:=st.1; ⟨o,hk it (by simp) o e,r⟩,let ⟨o,e,r⟩:=st.2; ⟨o,hk t (by simp) o e,r⟩⟩
 item:=λi s Q E hi st hQ=>by
  obtain ⟨hit,ht⟩:=st
  obtain ⟨o,ho,hc,hd⟩:=id hit
  obtain ⟨ol,hol,_,nl,hdl⟩:=id ht
  have hx:items[i]? = some items[i]:=by simp [hi]
  unfold Builtin.SmallTypes.nextOf
  refine wpAny_bind (wpAny_callSpecial?_slot (name:=dZ "__next__") hit.typeIs F.slot_tuple_iterator_next (wpAny_call_entry F.slot_tuple_iterator_next hit.typeIs F.entry_tuple_iterator_next ?_ (F.args_tuple_iterator_next_1 _)))
  change wpAny _ _ (field (.ref it) 0 >>= _) _ _ s
  refine wpAny_bind (wpAny_field ho hd (x:=.ref t) rfl ?_)
  change wpAny _ _ (if (Value.ref t == Value.none)=true then _ else _) _ _ s
  rw [if_neg (show (Value.ref t == Value.none)≠true from du)]
  change wpAny _ _ (field (.ref it) 1 >>= _) _ _ s
  refine wpAny_bind (wpAny_field ho hd (x:=.int i 0) rfl ?_)
  change wpAny _ _ (seqItems? (.ref t) >>= _) _ _ s
  refine wpAny_bind (wpAny_seqItems hol hdl ?_)
  simp only [fO,hx]
  refine wpAny_bind (wpAny_setField ho hd (by simp) (wpAny_pure ⟨items[i],rfl,wpAny_pure (hQ _ _ s.toks hx ⟨?_,?_⟩ (Heap.SameBut.update ..))⟩))
  ·exact ⟨_,lC _ ho (Obj.isFreed_of_fields (Obj.data_mapFields hd _)),(Obj.cls_mapFields ..).trans hc,by rw [Obj.data_mapFields hd]; simp [rawInt]⟩
  ·exact ht.extBut (Heap.SameBut.update ..).extBut hne
 done:=λs Q E st hE=>by
  obtain ⟨hit,ht⟩:=st
  obtain ⟨o,ho,hc,hd⟩:=id hit
  obtain ⟨ol,hol,_,nl,hdl⟩:=id ht
  have hx:items[items.size]? = none:=by simp
  unfold Builtin.SmallTypes.nextOf
  refine wpAny_bind (wpAny_callSpecial?_slot (name:=dZ "__next__") hit.typeIs F.slot_tuple_iterator_next (wpAny_call_entry F.slot_tuple_iterator_next hit.typeIs F.entry_tuple_iterator_next ?_ (F.args_tuple_iterator_next_1 _)))
  change wpAny _ _ (field (.ref it) 0 >>= _) _ _ s
  refine wpAny_bind (wpAny_field ho hd (x:=.ref t) rfl ?_)
  change wpAny _ _ (if (Value.ref t == Value.none)=true then _ else _) _ _ s
  rw [if_neg (show (Value.ref t == Value.none)≠true from du)]
  change wpAny _ _ (field (.ref it) 1 >>= _) _ _ s
  refine wpAny_bind (wpAny_field ho hd (x:=.int items.size 0) rfl ?_)
  change wpAny _ _ (seqItems? (.ref t) >>= _) _ _ s
  refine wpAny_bind (wpAny_seqItems hol hdl ?_)
  simp only [fO,hx]
  refine wpAny_bind (wpAny_rule (wpAny_bind (wpAny_setField ho hd (by simp) ?_)))
  change wpAny _ _ (newExc (.type "StopIteration") [] >>= _) _ _ _
  refine wpAny_bind ?_
  simp only [newExc,newTuple]
  refine wpAny_bind (wpAny_newObj_type ?_ (by size_fits))
  refine wpAny_bind (m:=firstArgMember _ _) (wpAny_of_eq (a:=Value.none) (by first | rfl | (simp only [firstArgMember]; rfl)) ?_)
  refine wpAny_newObj_type ?_ (by size_fits)
  simp only [raiseNew]
  refine wpAny_bind (wpAny_handled ?_)
  first | rw [show A.in1.handled=none from hh] | rw [hh]
  refine wpAny_bind (wpAny_pure (wpAny_throw ?_))
  exact hE _ _ (((Heap.SameBut.update ..).extBut.push _).push _) ⟨_,dj _ rfl,rfl⟩
structure Zp (z TI TO i1 i2:Addr) (f1 f2:List Addr):Prop where
 a1:TI≠z
 a2:TO≠z
 a3:i1≠z
 a4:i2≠z
 a5:TI≠TO
 a6:TI≠i1
 a7:TI≠i2
 a8:TO≠i1
 a9:TO≠i2
 b1:z∉f1
 b2:z∉f2
 b3:TO∉f1
 b4:TO∉f2
 b5:i1∉f2
 b6:i2∉f1
theorem zMj {z TI TO i1 i2:Addr} {f1 f2:List Addr} {n1 n2 k:Nat} {P1 P2:Nat->Value->Prop} {S1 S2:Nat->Heap->Prop} {a b:Value} {Q:Value->Shared->Prop}
  (D1:Draws prog w A i1 f1 n1 P1 S1) (D2:Draws prog w A i2 f2 n2 P2 S2) (Z:Zp z TI TO i1 i2 f1 f2) (hz:IsZip s.heap z TI TO .none) (hI:IsPair s.heap TI (.ref i1) (.ref i2)) (hO:IsPair s.heap TO a b)
  (s1:S1 k s.heap) (s2:S2 k s.heap) (k1:k < n1) (k2:k < n2)
  (hQ:∀ x y h' tk,P1 k x->P2 k y->IsZip h' z TI TO (rawInt s.heap.objs.size)->IsPair h' TI (.ref i1) (.ref i2)->IsPair h' TO x y->S1 (k + 1) h'->S2 (k + 1) h'->IsPair h' s.heap.objs.size x y->
   (∀ c o,c≠z->c≠TO->c≠i1->c≠i2->s.heap.get? c=some o->h'.get? c=some o)->Q (.ref s.heap.objs.size) { s with heap:=h',toks:=tk }) :
  wpAny (model prog w) A (Builtin.«zip.__next__» ⟨[.ref z],[]⟩) (λfin s'=>∃ v,fin=.done (.ret v)/\Q v s') E s:=by
 change wpAny _ _ (field (.ref z) 2 >>= _) _ _ _
 refine wpAny_bind (wpAny_field hz rfl (x:=.bool false) rfl ?_)
 change wpAny _ _ (field (.ref z) 3 >>= _) _ _ _
 refine wpAny_bind (wpAny_field hz rfl (x:=.ref TI) rfl ?_)
 refine wpAny_bind (wpAny_seqItems hI rfl ?_)
 change wpAny _ _ (Builtin.SmallTypes.ownedTupleIsFree (.ref z) >>= _) _ _ _
 refine wpAny_bind ?_
 unfold Builtin.SmallTypes.ownedTupleIsFree
 refine wpAny_bind (wpAny_field hz rfl (x:=.none) rfl (wpAny_pure ?_))
 simp only [if_true]
 refine wpAny_bind (wpAny_rule ?_)
 refine wpAny_bind (wpAny_field hz rfl (x:=.ref TO) rfl ?_)
 refine wpAny_bind (wpAny_setField_rec hz (by simp) λg1 z1 m1=>?_)
 replace z1:IsZip g1 z TI TO .ellipsis:=z1
 refine wpAny_bind ?_
 simp only [mO,mZ,lD,lR]
 refine wpAny_bind (wpAny_bind (wpAny_onRaise ?_))
 change wpAny _ _ (Builtin.SmallTypes.nextOf (.ref i1) >>= _) _ _ _
 refine wpAny_bind (D1.item k _ _ _ k1 (D1.frame _ _ _ s1 λc hc o e=>m1.extBut c o (λq=>Z.b1 (q ▸ hc)) e) λx g2 t2 px s12 m2=>wpAny_pure ?_)
 have o2:IsPair g2 TO a b:=m2.extBut _ _ Z.a8 (m1.extBut _ _ Z.a2 hO)
 refine wpAny_bind (wpAny_seqItems o2 rfl ?_)
 refine wpAny_bind (wpAny_updateSeq_pair o2 λg3 o3 m3=>?_)
 replace o3:IsPair g3 TO x b:=o3
 refine wpAny_bind (wpAny_letGo (wpAny_pure ?_))
 refine wpAny_bind (wpAny_bind (wpAny_onRaise ?_))
 change wpAny _ _ (Builtin.SmallTypes.nextOf (.ref i2) >>= _) _ _ _
 refine wpAny_bind (D2.item k _ _ _ k2 (D2.frame _ _ _ s2 λc hc o e=>m3.extBut c o (λq=>Z.b4 (q ▸ hc)) (m2.extBut c o (λq=>Z.b5 (q ▸ hc)) (m1.extBut c o (λq=>Z.b2 (q ▸ hc)) e))) λy g4 t4 py s24 m4=>wpAny_pure ?_)
 have o4:IsPair g4 TO x b:=m4.extBut _ _ Z.a9 o3
 refine wpAny_bind (wpAny_seqItems o4 rfl ?_)
 refine wpAny_bind (wpAny_updateSeq_pair o4 λg5 o5 m5=>?_)
 replace o5:IsPair g5 TO x y:=o5
 refine wpAny_bind (wpAny_letGo (wpAny_pure (wpAny_pure ?_)))
 refine wpAny_bind (wpAny_seqItems o5 rfl ?_)
 refine wpAny_bind (wpAny_newTuple ?_)
 have sz:g5.objs.size=s.heap.objs.size:=by
  have q5:g5.objs.size=g4.objs.size:=m5.1
  have q4:g4.objs.size=g3.objs.size:=m4.1
  have q3:g3.objs.size=g2.objs.size:=m3.1
  have q2:g2.objs.size=g1.objs.size:=m2.1
  have q1:g1.objs.size=s.heap.objs.size:=m1.1
  omega
 have all5:∀ c o,c≠z->c≠TO->c≠i1->c≠i2->s.heap.get? c=some o->g5.get? c=some o:=λc o c1 c2 c3 c4 e=>m5.extBut _ _ c2 (m4.extBut _ _ c4 (m3.extBut _ _ c2 (m2.extBut _ _ c3 (m1.extBut _ _ c1 e))))
 have z5:IsZip g5 z TI TO .ellipsis:=m5.extBut _ _ Z.a2.symm (m4.extBut _ _ Z.a4.symm (m3.extBut _ _ Z.a2.symm (m2.extBut _ _ Z.a3.symm z1)))
 have I5:IsPair g5 TI (.ref i1) (.ref i2):=all5 _ _ Z.a1 Z.a5 Z.a6 Z.a7 hI
 have u1:S1 (k + 1) g5:=D1.frame _ _ _ s12 λc hc o e=>m5.extBut c o (λq=>Z.b3 (q ▸ hc)) (m4.extBut c o (λq=>Z.b6 (q ▸ hc)) (m3.extBut c o (λq=>Z.b3 (q ▸ hc)) e))
 have u2:S2 (k + 1) g5:=D2.frame _ _ _ s24 λc hc o e=>m5.extBut c o (λq=>Z.b4 (q ▸ hc)) e
 have lt:z < g5.objs.size:=cZ z5
 change wpAny _ _ (Builtin.SmallTypes.ownedTupleHandOut (.ref z) (.ref g5.objs.size) >>= _) _ _ _
 refine wpAny_bind ?_
 unfold Builtin.SmallTypes.ownedTupleHandOut
 have z6:IsZip (g5.push { cls:=.type "tuple",data:=.seq #[x,y] }) z TI TO .ellipsis:=cR _ z5
 refine wpAny_bind (wpAny_setField_rec z6 (by simp) λg7 z7 m7=>?_)
 replace z7:IsZip g7 z TI TO (rawInt g5.objs.size):=z7
 refine wpAny_setField_rec z7 (by simp) λg8 z8 m8=>?_
 replace z8:IsZip g8 z TI TO (rawInt g5.objs.size):=z8
 have up:∀ c o,c≠z->g5.get? c=some o->g8.get? c=some o:=λc o c1 e=>m8.extBut _ _ c1 (m7.extBut _ _ c1 (cR _ e))
 have T8:IsPair g8 g5.objs.size x y:=m8.extBut _ _ (ip lt) (m7.extBut _ _ (ip lt) (dj _ rfl))
 rw [sz] at z8 T8
 refine wpAny_pure ⟨_,rfl,?_⟩
 change Q (.ref g5.objs.size) _
 rw [sz]
 exact hQ x y g8 _ px py z8 (up _ _ Z.a1 I5) (up _ _ Z.a2 o5) (D1.frame _ _ _ u1 λc hc o e=>up c o (λq=>Z.b1 (q ▸ hc)) e) (D2.frame _ _ _ u2 λc hc o e=>up c o (λq=>Z.b2 (q ▸ hc)) e) T8
  λc o c1 c2 c3 c4 e=>up c o c1 (all5 c o c1 c2 c3 c4 e)
theorem zMg {z TI TO i1 i2:Addr} {f1 f2:List Addr} {n1 n2 k:Nat} {P1 P2:Nat->Value->Prop} {S1 S2:Nat->Heap->Prop} {a b:Value} {Q:Fin->Shared->Prop}
  (D1:Draws prog w A i1 f1 n1 P1 S1) (D2:Draws prog w A i2 f2 n2 P2 S2) (Z:Zp z TI TO i1 i2 f1 f2) (hz:IsZip s.heap z TI TO .none) (hI:IsPair s.heap TI (.ref i1) (.ref i2)) (hO:IsPair s.heap TO a b)
  (s1:S1 k s.heap) (s2:S2 k s.heap) (k1:k<=n1) (k2:k<=n2) (ke:k=n1\/k=n2)
  (hE:∀ h' e tk,(∀ c o,c≠z->c≠TO->c≠i1->c≠i2->s.heap.get? c=some o->h'.get? c=some o)->(∃ o,h'.get? e=some o/\o.cls=.type "StopIteration")->E (.ref e) { s with heap:=h',toks:=tk }) :
  wpAny (model prog w) A (Builtin.«zip.__next__» ⟨[.ref z],[]⟩) Q E s:=by
 change wpAny _ _ (field (.ref z) 2 >>= _) _ _ _
 refine wpAny_bind (wpAny_field hz rfl (x:=.bool false) rfl ?_)
 change wpAny _ _ (field (.ref z) 3 >>= _) _ _ _
 refine wpAny_bind (wpAny_field hz rfl (x:=.ref TI) rfl ?_)
 refine wpAny_bind (wpAny_seqItems hI rfl ?_)
 change wpAny _ _ (Builtin.SmallTypes.ownedTupleIsFree (.ref z) >>= _) _ _ _
 refine wpAny_bind ?_
 unfold Builtin.SmallTypes.ownedTupleIsFree
 refine wpAny_bind (wpAny_field hz rfl (x:=.none) rfl (wpAny_pure ?_))
 simp only [if_true]
 refine wpAny_bind (wpAny_rule ?_)
 refine wpAny_bind (wpAny_field hz rfl (x:=.ref TO) rfl ?_)
 refine wpAny_bind (wpAny_setField_rec hz (by simp) λg1 z1 m1=>?_)
 replace z1:IsZip g1 z TI TO .ellipsis:=z1
 refine wpAny_bind ?_
 simp only [mO,mZ,lD,lR]
 refine wpAny_bind (wpAny_bind (wpAny_onRaise ?_))
 change wpAny _ _ (Builtin.SmallTypes.nextOf (.ref i1) >>= _) _ _ _
 have s1':S1 k g1:=D1.frame _ _ _ s1 λc hc o e=>m1.extBut c o (λq=>Z.b1 (q ▸ hc)) e
 by_cases c1:k=n1
 ·subst c1
  refine wpAny_bind (D1.done _ _ _ s1' λg2 e m2 he=>?_)
  obtain ⟨oe,he1,he2⟩:=he
  have z2:IsZip g2 z TI TO .ellipsis:=m2 _ _ Z.a3.symm z1
  have nez:e≠z:=λq=>by subst q; rw [z2] at he1; cases he1; simp at he2
  exact wpAny_setField_rec z2 (by simp) λg3 _ m3=>hE g3 e _ (λc o c1 c2 c3 c4 q=>m3.extBut _ _ c1 (m2 _ _ c3 (m1.extBut _ _ c1 q))) ⟨oe,m3.extBut _ _ nez he1,he2⟩
 ·have c2:k=n2:=ke.resolve_left c1
  subst c2
  refine wpAny_bind (D1.item k _ _ _ (by omega) s1' λx g2 t2 px s12 m2=>wpAny_pure ?_)
  have o2:IsPair g2 TO a b:=m2.extBut _ _ Z.a8 (m1.extBut _ _ Z.a2 hO)
  refine wpAny_bind (wpAny_seqItems o2 rfl ?_)
  refine wpAny_bind (wpAny_updateSeq_pair o2 λg3 o3 m3=>?_)
  refine wpAny_bind (wpAny_letGo (wpAny_pure ?_))
  refine wpAny_bind (wpAny_bind (wpAny_onRaise ?_))
  change wpAny _ _ (Builtin.SmallTypes.nextOf (.ref i2) >>= _) _ _ _
  refine wpAny_bind (D2.done _ _ _ (D2.frame _ _ _ s2 λc hc o e=>m3.extBut c o (λq=>Z.b4 (q ▸ hc)) (m2.extBut c o (λq=>Z.b5 (q ▸ hc)) (m1.extBut c o (λq=>Z.b2 (q ▸ hc)) e))) λg4 e m4 he=>?_)
  obtain ⟨oe,he1,he2⟩:=he
  have z4:IsZip g4 z TI TO .ellipsis:=m4 _ _ Z.a4.symm (m3.extBut _ _ Z.a2.symm (m2.extBut _ _ Z.a3.symm z1))
  have nez:e≠z:=λq=>by subst q; rw [z4] at he1; cases he1; simp at he2
  exact wpAny_setField_rec z4 (by simp) λg5 _ m5=>hE g5 e _ (λc o c1 c2 c3 c4 q=>m5.extBut _ _ c1 (m4 _ _ c4 (m3.extBut _ _ c2 (m2.extBut _ _ c3 (m1.extBut _ _ c1 q))))) ⟨oe,m5.extBut _ _ nez he1,he2⟩
end
section
variable {prog:Program} {w:World} {A:Around} {E:Value->Shared->Prop} {s:Shared}
theorem zMh {z TI TO i1 i2:Addr} {f1 f2:List Addr} {n1 n2 k:Nat} {P1 P2:Nat->Value->Prop} {S1 S2:Nat->Heap->Prop} {a b:Value} {Q:Option Value->Shared->Prop}
  (D1:Draws prog w A.in1 i1 f1 n1 P1 S1) (D2:Draws prog w A.in1 i2 f2 n2 P2 S2) (Z:Zp z TI TO i1 i2 f1 f2) (hz:IsZip s.heap z TI TO .none) (hI:IsPair s.heap TI (.ref i1) (.ref i2)) (hO:IsPair s.heap TO a b)
  (s1:S1 k s.heap) (s2:S2 k s.heap) (k1:k < n1) (k2:k < n2)
  (hQ:∀ x y h' tk,P1 k x->P2 k y->IsZip h' z TI TO (rawInt s.heap.objs.size)->IsPair h' TI (.ref i1) (.ref i2)->IsPair h' TO x y->S1 (k + 1) h'->S2 (k + 1) h'->IsPair h' s.heap.objs.size x y->
   (∀ c o,c≠z->c≠TO->c≠i1->c≠i2->s.heap.get? c=some o->h'.get? c=some o)->Q (some (.ref s.heap.objs.size)) { s with heap:=h',toks:=tk }) :
  wpAny (model prog w) A (pyNext (.ref z)) Q E s:=by
 have ty:s.TypeIs (.ref z) "zip":=⟨_,hz,rfl⟩
 unfold pyNext
 refine wpAny_bind (wpAny_attempt (wpAny_callSpecial?_slot (name:=dZ "__next__") ty F.slot_zip_next (wpAny_call_entry F.slot_zip_next ty F.entry_zip_next ?_ (F.args_zip_next_1 _))))
 exact zMj D1 D2 Z hz hI hO s1 s2 k1 k2 λx y h' tk c1 c2 c3 c4 c5 c6 c7 c8 c9=>wpAny_pure (hQ x y h' tk c1 c2 c3 c4 c5 c6 c7 c8 c9)
theorem zO4 {z TI TO i1 i2:Addr} {f1 f2:List Addr} {n1 n2 k:Nat} {P1 P2:Nat->Value->Prop} {S1 S2:Nat->Heap->Prop} {a b:Value} {Q:Option Value->Shared->Prop}
  (D1:Draws prog w A.in1 i1 f1 n1 P1 S1) (D2:Draws prog w A.in1 i2 f2 n2 P2 S2) (Z:Zp z TI TO i1 i2 f1 f2) (hz:IsZip s.heap z TI TO .none) (hI:IsPair s.heap TI (.ref i1) (.ref i2)) (hO:IsPair s.heap TO a b)
  (s1:S1 k s.heap) (s2:S2 k s.heap) (k1:k<=n1) (k2:k<=n2) (ke:k=n1\/k=n2)
  (hQ:∀ h' tk,(∀ c o,c≠z->c≠TO->c≠i1->c≠i2->s.heap.get? c=some o->h'.get? c=some o)->Q none { s with heap:=h',toks:=tk }) :
  wpAny (model prog w) A (pyNext (.ref z)) Q E s:=by
 have ty:s.TypeIs (.ref z) "zip":=⟨_,hz,rfl⟩
 unfold pyNext
 refine wpAny_bind (wpAny_attempt (wpAny_callSpecial?_slot (name:=dZ "__next__") ty F.slot_zip_next (wpAny_call_entry F.slot_zip_next ty F.entry_zip_next
  (zMg D1 D2 Z hz hI hO s1 s2 k1 k2 ke λh' e tk keep he=>?_) (F.args_zip_next_1 _))))
 obtain ⟨o,ho,hc⟩:=he
 refine wpAny_bind (wpAny_isInstance (T:="StopIteration") (b:=true) ⟨o,ho,hc⟩ isSubtype_stop ?_)
 exact wpAny_pure (hQ _ _ keep)
end
end L2
namespace L2
open PySem PySem.Spec PyProof.Rows
theorem Zm {vs:Array Value} (v:Option Value):Data.fields vs≠Data.cell v:=λz=>by cases z
theorem zE2 {vs:Array Value} {n:Nat} (v:Option Value):Data.seq vs n≠Data.cell v:=λz=>by cases z
theorem zE.turnT {X:Cx} {pins:List (Addr × Obj)} {σ:St} {H:Hp} {s:Shared} {h':Heap} {tk:Nat} {ch:List Addr} {T:Addr} {x y:V} {u v:Value} (I:zE X pins σ H s) (hf:∀ b∈ch,yQ X pins H b) (keep:∀ b o,b∉ch->s.heap.get? b=some o->h'.get? b=some o)
  (hT:s.heap.objs.size<=T) (p:IsPair h' T u v) (rx:zV x u) (ry:zV y v):zE X pins σ (zh H T (.tup [x,y])) { s with heap:=h',toks:=tk }:=by
 have fr:H T=none:=I.hok.fresh hT
 have nT:∀ b o,s.heap.get? b=some o->b≠T:=λb o e z=>by rw [z] at e; exact absurd (dg (cZ e) hT) (dN _)
 have jR:∀ b o,H b=some o->b∉ch:=λb o e z=>by rw [(hf b z).1] at e; cases e
 refine I.step (ch:=ch) (λb hb=>⟨(hf b hb).2.2.2.1,(hf b hb).2.1,(hf b hb).2.2.2.2.1,(hf b hb).2.2.2.2.2⟩) (λb o _ _ hc e _=>keep b o hc e) (λb o _ _ hc e _=>⟨o.slots,keep b o hc e⟩)
  (λb o _ e n=>by rw [yH (nT b o e)]; exact n) (λb o hc e=>⟨o,keep b o hc e⟩) (λb xs e=>by rw [yH (wn e fr)]; exact e) (λb o w e=>by rw [yH (wn e fr)]; exact e)
  (λb ps e=>⟨#[],by rw [yH (wn e fr),e]; simp⟩) (λm hm=>?_) (λb w e=>?_) I.bare
 ·obtain ⟨o,es,ep,ho,r⟩:=hm
  exact ⟨o,es,ep,keep _ o (λz=>(hf _ z).2.1 rfl) ho,r⟩
 ·by_cases hb:b=T
  ·subst hb
   rw [wD] at e
   cases e
   exact ⟨by show 2<=sizeLine; decide,[u,v],.cons rx (.cons ry .nil),⟨_,p,rfl,_,rfl⟩⟩
  ·rw [yH hb] at e
   refine (I.hok b w e).stay (λc q hc ec=>keep c q ?_ ec) (λc ec=>by rw [yH (wn ec fr)]; exact ec) λc xs ec=>by rw [yH (wn ec fr)]; exact ec
   rcases hc with z | z
   ·rw [z]
    exact jR b w e
   ·exact jR c _ z
theorem zE.turnN {X:Cx} {pins:List (Addr × Obj)} {σ:St} {H:Hp} {s:Shared} {h':Heap} {tk:Nat} {ch:List Addr} (I:zE X pins σ H s) (hf:∀ b∈ch,yQ X pins H b) (keep:∀ b o,b∉ch->s.heap.get? b=some o->h'.get? b=some o) :
  zE X pins σ H { s with heap:=h',toks:=tk }:=by
 have jR:∀ b o,H b=some o->b∉ch:=λb o e z=>by rw [(hf b z).1] at e; cases e
 refine I.step (ch:=ch) (λb hb=>⟨(hf b hb).2.2.2.1,(hf b hb).2.1,(hf b hb).2.2.2.2.1,(hf b hb).2.2.2.2.2⟩) (λb o _ _ hc e _=>keep b o hc e) (λb o _ _ hc e _=>⟨o.slots,keep b o hc e⟩)
  (λb o _ e n=>n) (λb o hc e=>⟨o,keep b o hc e⟩) (λb xs e=>e) (λb o w e=>e) (λb ps e=>⟨#[],by rw [e]; simp⟩) (λm hm=>?_) (λb w e=>?_) I.bare
 ·obtain ⟨o,es,ep,ho,r⟩:=hm
  exact ⟨o,es,ep,keep _ o (λz=>(hf _ z).2.1 rfl) ho,r⟩
 ·refine (I.hok b w e).stay (λc q hc ec=>keep c q ?_ ec) (λc ec=>ec) λc xs ec=>ec
  rcases hc with z | z
  ·rw [z]
   exact jR b w e
  ·exact jR c _ z
theorem uJ {x y z:Nat} (h1:x≠y) (h2:x≠z):x∉[y,z]:=by simp [h1,h2]
theorem Zn (n a b:Nat) (la:a < n) (lb:b < n):Zp (n + 4) (n + 2) (n + 3) n (n + 1) [n,a] [n + 1,b]:=by
 have e:∀ x y:Nat,x≠y->(x:Addr)≠y:=λ_ _ h=>h
 exact ⟨e _ _ (by omega),e _ _ (by omega),e _ _ (by omega),e _ _ (by omega),e _ _ (by omega),e _ _ (by omega),e _ _ (by omega),e _ _ (by omega),e _ _ (by omega),
  uJ (by omega) (by omega),uJ (by omega) (by omega),uJ (by omega) (by omega),uJ (by omega) (by omega),uJ (by omega) (by omega),uJ (by omega) (by omega)⟩
end L2
namespace L2
open PySem PySem.Spec PyProof.Rows
def JC (J:It) (g:TG) (tc:TT) (te:TE) (Q:VK) (σ0:St) (H0:Hp):Prop:=∃ W:Nat->Nat->List V->St->Hp->Prop,(∃ m,W 0 m [] σ0 H0)/\∀ i m ys σ1 H,W i m ys σ1 H->
 (J.stop i H/\∀ p,H p=none->Q (.ref p) (zh H p (.lst ys)))\/(J.go i H/\ys.length < sizeLine/\∃ (N:V->St->Hp->Prop) (N0:St->Hp->Prop),(∀ y σ' H',N y σ' H'->∃ m',m' < m/\W (i + 1) m' (ys++[y]) σ' H')/\(∀ σ' H',N0 σ' H'->∃ m',m' < m/\W (i + 1) m' ys σ' H')∧
    ∀ x H',J.yld i H x H'->g x σ1 H' λσ2 H2=>tc σ2 H2 λb H3=>if b=true then te σ2 H3 λy H4=>N y σ2 H4 else N0 σ2 H3)
def zOP (own:List Str) (caps:List (Nat × Str)) (wi:TI) (g:TG) (tc:TT) (te:TE):TE:=λσ H Q=>wi σ H λJ H1=>JC J g tc te Q (uH own caps σ) H1
end L2
namespace L2
open PySem PySem.Spec PyProof.Rows
section
variable {X:Cx}
theorem JD (hu:X.A.units + 64 < cLine):xE X (compareOp .NotEq) (λx y H Q=>∃ d e:PyData,Dp X.K H x d/\Dp X.K H y e/\d.canLay0=true/\e.canLay0=true/\d.depth<=60/\e.depth<=60/\Q (.bl (!PyData.eqv d e)) H):=by
 intro pins s σ H x y v u Q I rx ry h
 obtain ⟨d,e,hx,hy,hc,hc',hd,hd',q⟩:=h
 obtain ⟨_,r1⟩:=hx.reads I rx
 obtain ⟨_,r2⟩:=hy.reads I ry
 exact SeqAt.compareNe_reads r1 r2 hc hc' (by omega) ⟨.bl _,H,I,rfl,q⟩
end
end L2
namespace L2
open PySem
theorem JE:bootBuiltins "max" = some (.builtin "max"):=by decide +kernel
end L2
namespace L2
open PySem PySem.Spec PyProof.Rows
theorem zH5:bootBuiltins "sum" = some (.builtin "sum"):=by decide +kernel
theorem zHr:∀ {ns:List Int} {its:List Value},zM (ns.map V.int) its->∃ zs:List (Int × Tok),its=zs.map (λp=>Value.int p.1 p.2)/\zs.map (·.1)=ns
 | [],_,.nil=>⟨[],rfl,rfl⟩
 | n :: r,_,.cons h t=>by
  obtain ⟨zs,e1,e2⟩:=zHr t
  obtain ⟨tk,rfl⟩:=h
  exact ⟨(n,tk) :: zs,by rw [e1]; rfl,by rw [dD,e2]⟩
section
variable {X:Cx}
theorem zJi (hc:X.calm=true):wz X (.builtin "sum") (λxs H Q=>∃ (p:Addr) (ns:List Int),xs=[.ref p]/\zp X.K H p (ns.map V.int)/\Q (.int ns.sum) H):=by
 intro pins s σ H xs us Q I r h
 obtain ⟨p,ns,rfl,hq,q⟩:=h
 obtain ⟨u,rfl,ru⟩:=uf r
 cases ru
 obtain ⟨its,rv,pl,hz⟩:=I.list hq
 obtain ⟨zs,e1,e2⟩:=zHr rv
 have e3:its.toArray=intItems zs.toArray:=by
  rw [e1]
  unfold intItems
  simp
 have hl:=pl.isList
 rw [e3] at hl
 refine sum_intListG (I.ok.hd hc) hl λh' tk t' kk=>⟨.int ns.sum,H,I.kept (h':=h') (t':=tk) kk,⟨t',?_⟩,q⟩
 rw [preSum_eq,cV (by simp),e2]
end
end L2
namespace L2
open PySem PySem.Spec PyProof.Rows
theorem Zo {a b c d:Nat} (h1:a < b) (h2:b<=c) (h3:c + 1<=d):d≠a:=by omega
theorem JF {a b c:Nat} (h1:c=a + 1) (h2:c + 1<=b):b≠a:=by omega
theorem WO {x:Str} {c:Addr}:∀ (names:List (Str × NameKind)) (n:Nat) (acc:List (Str × Addr)),(cellsFrom n names acc).lookup x=some c->((x,NameKind.cell)∈names/\n<=c)\/acc.lookup x=some c
 | [],_,_,h=>.inr h
 | (y,k) :: r,n,acc,h=>by
  unfold cellsFrom at h
  split at h
  ·rename_i hk
   rcases WO r (n + 1) ((y,n) :: acc) h with ⟨a,b⟩ | z
   ·exact .inl ⟨cK _ a,by omega⟩
   ·rw [dw] at z
    by_cases e:(x == y)=true
    ·simp only [e] at z
     have e1:x=y:=eq_of_beq e
     have e2:k=.cell:=eq_of_beq hk
     subst e1
     subst e2
     cases z
     exact .inl ⟨cO,cQ _⟩
    ·have e':(x == y)=false:=by simpa using e
     simp only [e'] at z
     exact .inr z
  ·rcases WO r n acc h with ⟨a,b⟩ | z
   ·exact .inl ⟨cK _ a,b⟩
   ·exact .inr z
theorem JG {x:Str}:∀ (names:List (Str × NameKind)) (n:Nat) (acc:List (Str × Addr)),(x,NameKind.cell)∉names->(cellsFrom n names acc).lookup x=acc.lookup x
 | [],_,_,_=>rfl
 | (y,k) :: r,n,acc,h=>by
  have hr:(x,NameKind.cell)∉r:=λz=>h (cK _ z)
  unfold cellsFrom
  split
  ·rename_i hk
   have e2:k=.cell:=eq_of_beq hk
   rw [JG r _ _ hr,dw]
   have e':(x == y)=false:=by
    cases q:x == y with
    | false=>rfl
    | true=>exact absurd (by rw [eq_of_beq q,e2]; exact cO) h
   simp only [e']
  ·exact JG r _ _ hr
theorem JH:∀ (names:List (Str × NameKind)) (n:Nat) (acc:List (Str × Addr)),(∀ x c,acc.lookup x=some c->c < n)->(∀ x y c,acc.lookup x=some c->acc.lookup y=some c->x=y)->
  ∀ x y c,(cellsFrom n names acc).lookup x=some c->(cellsFrom n names acc).lookup y=some c->x=y
 | [],_,_,_,h2=>h2
 | (z,k) :: r,n,acc,h1,h2=>by
  unfold cellsFrom
  split
  ·have look:∀ x c,((z,n) :: acc).lookup x=some c->(x=z/\c=n)\/acc.lookup x=some c:=λx c e=>by
    rw [dw] at e
    cases q:x == z with
    | true=>
     simp only [q] at e
     exact .inl ⟨eq_of_beq q,(Option.some.inj e).symm⟩
    | false=>
     simp only [q] at e
     exact .inr e
   refine JH r (n + 1) ((z,n) :: acc) (λx c e=>?_) λx y c e1 e2=>?_
   ·rcases look x c e with ⟨_,e⟩ | e
    ·rw [e]
     exact dW n
    ·exact fQ (h1 x c e)
   ·rcases look x c e1 with ⟨a1,b1⟩ | a1 <;> rcases look y c e2 with ⟨a2,b2⟩ | a2
    ·rw [a1,a2]
    ·have:=h1 y c a2
     rw [b1] at this
     exact absurd this (dN n)
    ·have:=h1 x c a1
     rw [b2] at this
     exact absurd this (dN n)
    ·exact h2 x y c a1 a2
  ·exact JH r n acc h1 h2
theorem JI {x:Str} {c:Addr}:∀ (names:List (Str × NameKind)) (h:Heap) (acc:List (Str × Addr)),(cellsFrom h.objs.size names acc).lookup x=some c->acc.lookup x=some c\/(pushCells h names).IsCell c none
 | [],_,_,e=>.inl e
 | (y,k) :: r,h,acc,e=>by
  unfold cellsFrom at e
  unfold pushCells
  split at e
  ·rename_i hk
   rw [if_pos hk]
   have q:=JI (x:=x) (c:=c) r (h.push { cls:=.type "cell",data:=.cell none }) ((y,h.objs.size) :: acc) (by rw [ft]; exact e)
   rcases q with q | q
   ·rw [dw] at q
    cases z:x == y with
    | true=>
     simp only [z] at q
     cases q
     exact .inr ⟨_,pushCells_keeps r _ _ _ (dj _ rfl),rfl⟩
    | false=>
     simp only [z] at q
     exact .inl q
   ·exact .inr q
  ·rename_i hk
   rw [if_neg hk]
   exact JI r h acc e
theorem kP:∀ {l:List (Str × NameKind)} {x:Str} {k:NameKind},(l.map (·.1)).Nodup->(x,k)∈l->l.lookup x=some k
 | [],_,_,_,h=>by cases h
 | (y,j) :: r,x,k,nd,h=>by
  rw [dD,fI] at nd
  rw [dw]
  rcases de.mp h with e | h
  ·cases e
   rw [beq_self_eq_true]
  ·have ne:(x == y)=false:=by
    cases q:x == y with
    | false=>rfl
    | true=>exact absurd (by rw [<- eq_of_beq q]; exact cP.mpr ⟨(x,k),h,rfl⟩) nd.1
   simp only [ne]
   exact kP nd.2 h
theorem zGz {M:Model} {A:Around} {E:Value->Shared->Prop} {s:Shared} {scope:Scope} {globals:Addr} {closure:List (Str × Addr)} {qual:Str} {func:Option Addr} {code:Value} {env:Env} {builtins:Addr} {Q:Env->Shared->Prop}
  (h:Q (newEnv scope s.heap.objs.size globals (cellsFrom (s.heap.objs.size + 1) scope.names closure) qual func code (some env) builtins) { s with heap:=pushCells (s.heap.push { cls:=.type "dict",data:=.dict #[] }) scope.names }) :
  wpAny M A (newFunctionEnv scope globals closure [] qual func code (some env) builtins) Q E s:=by
 simp only [newFunctionEnv,Option.isSome_some,if_true]
 refine wpAny_bind (wpAny_alloc ?_)
 refine wpAny_bind (wpAny_layCells _ (λname kind cells=>by cases hkc:kind == NameKind.cell <;> simp [hkc]) _ _ _ _ ?_)
 rw [show ({ s with heap:=s.heap.push { cls:=.type "dict",data:=.dict #[] } }:Shared).heap.objs.size=s.heap.objs.size + 1 from ft ..]
 simp only [lR]
 exact wpAny_bind (wpAny_pure (wpAny_pure h))
abbrev yx (X:Cx) (scope:Scope) (N:List Str) (C:Addr) (s₀:Shared) (H₀:Hp) (ex:List Addr):Cx:=
 { X with N:=N,s₀:=s₀,H₀:=H₀,env:=compEnvC scope (cellsFrom (C + 1) scope.names (vX scope X.env)) C X.env,outer:=X.stack,ex:=ex,fn:=λx=>scope.names.lookup x == some .cell,pn:=[],xe:=λ_ _=>False }
structure v4 (X:Cx) (scope:Scope) (own:List Str) (caps:List (Nat × Str)):Prop where
 kind:scope.kind=.function
 nod:(scope.names.map (·.1)).Nodup
 locs:∀ y∈scope.names,y.2=.local->scope.names.lookup y.1=some .local
 free:∀ y∈scope.names,y.2=.free->(X.env.cells.lookup y.1).isSome=true
 caps:∀ p∈caps,X.N[p.1]? = some p.2/\scope.names.lookup p.2=some .free/\(X.env.kindOf p.2=some .cell\/X.env.kindOf p.2=some .free)
section
variable {X:Cx} {scope:Scope} {own:List Str} {caps:List (Nat × Str)} {pins:List (Addr × Obj)} {σ:St} {H:Hp} {s s4:Shared} {C D:Addr} {fp:List Addr}
theorem WP (B:v4 X scope own caps) {x:Str} {c n:Nat} (e:(cellsFrom n scope.names (vX scope X.env)).lookup x=some c):((x,NameKind.cell)∈scope.names/\n<=c)\/X.env.cells.lookup x=some c:=
 (WO _ _ _ e).imp id λz=>(q9 B.free z).1
theorem zJg (I:zE X pins σ H s) {x:Str} {c:Addr} (e:X.env.cells.lookup x=some c):c < s.heap.objs.size:=by
 obtain ⟨v,o,ho,_⟩:=I.cell x c e
 exact cZ ho
theorem zQa (B:v4 X scope own caps) (I:zE X pins σ H s) (hf:∀ b∈fp,yQ X pins H b) (hC:s.heap.objs.size<=C) (hlt:∀ b∈fp,b < s.heap.objs.size):(yx X scope (zm own caps) C s H fp).Ok where
 mod:=I.ok.mod
 kind:=B.kind
 glob:=I.ok.glob
 blt:=I.ok.blt
 above:=hC
 inj:=JH _ _ _ (λx c e=>dg (zJg I (q9 B.free e).1) (Nat.le_succ_of_le hC)) λx y c h1 h2=>I.ok.inj x y c (q9 B.free h1).1 (q9 B.free h2).1
 has:=λx h=>by
  have fr:(x,NameKind.free)∈scope.names->∃ c,(cellsFrom (C + 1) scope.names (vX scope X.env)).lookup x=some c:=λz=>by
   obtain ⟨c,e⟩:=JB (env:=X.env) z
   exact eJ.mp (eU _ _ _ (.inr (by rw [e]; rfl)))
  have ce:(x,NameKind.cell)∈scope.names->∃ c,(cellsFrom (C + 1) scope.names (vX scope X.env)).lookup x=some c:=λz=>
   eJ.mp (eU _ _ _ (.inl (kP B.nod z)))
  rcases h with h | h
  ·rcases zEd (show (relabel scope X.env).names.lookup x=some .cell from h) with ⟨_,z | z⟩ | z
   ·exact fr z
   ·exact ce z
   ·exact ce z
  ·rcases zEd (show (relabel scope X.env).names.lookup x=some .free from h) with ⟨z,_⟩ | z
   ·cases z
   ·exact fr z
 cab:=λx c h e=>by
  have hx:scope.names.lookup x=some .cell:=eq_of_beq h
  rcases WO _ _ _ e with ⟨_,z⟩ | z
  ·exact eA hC (mq z)
  ·have:=kP B.nod (q9 B.free z).2
   rw [hx] at this
   cases this
 hd:=I.ok.hd
 frames:=I.ok.frames
 stk:=.inl rfl
 exf:=λb hb=>⟨λe=>by have:=hlt b hb; rw [e] at this; exact absurd (dg this hC) (dN _),λx c e=>by
  rcases WP B e with ⟨_,z⟩ | z
  ·exact Zo (hlt b hb) hC z
  ·exact (hf b hb).2.2.2.2.1 x c z⟩
 bs:=I.bs
 bsz:=eA I.ok.bsz I.sz
 noex:=λb o e hb=>by
  rcases (hf b hb).2.2.2.1 with z | z
  ·exact I.ok.noex b o e z
  ·exact absurd (dg (cZ e) (eA I.ok.bsz z)) (dN _)
 exfs:=λb hb z=>by
  rcases de.mp (I.stkSub b z) with e | z
  ·exact (hf b hb).2.1 e
  ·exact (hf b hb).2.2.1 z
 funs:=I.stack
 frf:=I.stkFree
theorem zOB (B:v4 X scope own caps) (I:zE X pins σ H s) (hf:∀ b∈fp,yQ X pins H b) (hC:s.heap.objs.size<=C) (hlt:∀ b∈fp,b < s.heap.objs.size)
  {m:Str->Option Value} (hn:s4.heap.Ns C m) (hk:∀ b o,s.heap.get? b=some o->s4.heap.get? b=some o) (hcell:∀ x c,(cellsFrom (C + 1) scope.names (vX scope X.env)).lookup x=some c->(vX scope X.env).lookup x=some c\/s4.heap.IsCell c none) (ho:s4.os=s.os) (hb:AllBare s4.gens) :
  zE (yx X scope (zm own caps) C s H fp) [] (uH own caps σ) H s4 where
 ok:=zQa B I hf hC hlt
 os:=ho
 bare:=hb
 base:=Un.kept hk
 loc:=⟨m,hn,λi x v h1 h2 h3=>by
  obtain ⟨j,hm,hs⟩:=zN9 h1 h2
  obtain ⟨c1,c2,c3⟩:=B.caps _ hm
  obtain ⟨m',_,hl⟩:=I.loc
  have vis:qJ X.env.scope x:=c3.elim (λz=>.inr (.inl z)) λz=>.inr (.inr z)
  obtain ⟨u,r,l⟩:=hl j x v c1 hs vis
  refine ⟨u,r,.inr ?_⟩
  have hm2:(x,NameKind.free)∈scope.names:=kO c2
  obtain ⟨c',hc'⟩:=JB (env:=X.env) hm2
  have hc2:=(q9 B.free hc').1
  have noc:(x,NameKind.cell)∉scope.names:=λz=>by
   have:=kP B.nod z
   rw [c2] at this
   cases this
  refine ⟨?_,c',(JG _ _ _ noc).trans hc',?_⟩
  ·show (relabel scope X.env).names.lookup x=some .cell\/(relabel scope X.env).names.lookup x=some .free
   rw [zEc,c2,g_]
   split
   ·exact .inl rfl
   ·exact .inr rfl
  ·rcases l with ⟨k,_⟩ | ⟨_,c,e,z⟩
   ·rcases c3 with c3 | c3 <;> rw [c3] at k <;> cases k
   ·rw [hc2] at e
    cases e
    obtain ⟨o,e1,e2⟩:=z
    exact ⟨o,hk _ o e1,e2⟩⟩
 cell:=λx c e=>by
  rcases hcell x c e with z | z
  ·obtain ⟨v,o,e1,e2⟩:=I.cell x c (q9 B.free z).1
   exact ⟨v,o,hk _ o e1,e2⟩
  ·exact ⟨none,z⟩
 free:=I.hok.fresh hC
 freeC:=λx c e=>by
  rcases WP B e with ⟨_,z⟩ | z
  ·exact I.hok.fresh (eA hC (mq z))
  ·exact I.freeC x c z
 pin:=λp hp=>by simp at hp
 hok:=I.hok.kept hk
 len:=by
  show (uH own caps σ).length=(zm own caps).length
  unfold uH zm
  simp
end
theorem zOC {X:Cx} {scope S:Scope} {own N:List Str} {caps:List (Nat × Str)} (k:scope.kind=.function) (nd:(scope.names.map (·.1)).Nodup)
  (hS:X.env.scope=S) (hc:∃ n,X.env.cells=cellsFrom n S.names []) (hN:X.N=N) (fr:scope.names.all (λy=>y.2 != .free || S.names.lookup y.1 == some .cell)=true)
  (cp:caps.all (λp=>N[p.1]? == some p.2 && scope.names.lookup p.2 == some .free && S.names.lookup p.2 == some .cell)=true):v4 X scope own caps:=by
 obtain ⟨nn,hc⟩:=hc
 refine ⟨k,nd,λy hy e=>?_,λy hy e=>?_,λp hp=>?_⟩
 ·exact kP nd (by rw [<- e]; exact hy)
 ·have q:=di.mp fr y hy
  rw [e] at q
  have q2:S.names.lookup y.1=some .cell:=by simpa using q
  rw [hc]
  exact eU S.names nn [] (.inl q2)
 ·have q:=di.mp cp p hp
  simp only [fE,beq_iff_eq] at q
  refine ⟨by rw [hN]; exact q.1.1,q.1.2,.inl ?_⟩
  show X.env.scope.names.lookup p.2=some .cell
  rw [hS]
  exact q.2
theorem zSq {Y:Cx} {scope S:Scope} {own own0:List Str} {caps caps0:List (Nat × Str)} {C:Addr} {s₀:Shared} {H₀:Hp} {ex:List Addr} (k:scope.kind=.function) (nd:(scope.names.map (·.1)).Nodup)
  (ndS:(S.names.map (·.1)).Nodup) (fr:scope.names.all (λy=>y.2 != .free || S.names.lookup y.1 == some .cell || S.names.lookup y.1 == some .free)=true)
  (cp:caps.all (λp=>(zm own0 caps0)[p.1]? == some p.2 && scope.names.lookup p.2 == some .free)=true):v4 (yx Y S (zm own0 caps0) C s₀ H₀ ex) scope own caps:=by
 have fr':∀ y∈scope.names,y.2=.free->S.names.lookup y.1=some .cell\/S.names.lookup y.1=some .free:=λy hy e=>by
  have q:=di.mp fr y hy
  rw [e] at q
  simpa using q
 refine ⟨k,nd,λy hy e=>?_,λy hy e=>?_,λp hp=>?_⟩
 ·exact kP nd (by rw [<- e]; exact hy)
 ·show ((cellsFrom (C + 1) S.names (vX S Y.env)).lookup y.1).isSome=true
  refine eU _ _ _ ?_
  rcases fr' y hy e with z | z
  ·exact .inl z
  ·obtain ⟨c,e⟩:=JB (env:=Y.env) (kO z)
   exact .inr (by rw [e]; rfl)
 ·have q:=di.mp cp p hp
  simp only [fE,beq_iff_eq] at q
  refine ⟨q.1,q.2,?_⟩
  show (relabel S Y.env).names.lookup p.2=some .cell\/(relabel S Y.env).names.lookup p.2=some .free
  rw [zEc]
  rcases fr' _ (kO q.2) rfl with z | z
  ·left
   show (S.names.lookup p.2).map _=_
   rw [z]
   rfl
  ·show (S.names.lookup p.2).map _=_\/(S.names.lookup p.2).map _=_
   rw [z,g_]
   split
   ·exact .inl rfl
   ·exact .inr rfl
end L2
namespace Sh
open PySem L2
theorem kQ {H:Hp} {p:Addr} (h:H p=none) (o:HO):zR H (zh H p o):=λb u q=>by rw [yH (wn q h)]; exact q
def Tp (H:Hp) (v:V) (xs:List V):Prop:=∃ a,v=.ref a/\H a=some (.tup xs)
theorem zF9 {α β:Type} {R:α->β->Prop}:∀ {xs:List α} {ys:List β} {i:Nat} {x:α},Paired R xs ys->xs[i]? = some x->∃ y,ys[i]? = some y/\R x y
 | _,_,_,_,.nil,e=>by simp at e
 | _,_,0,_,.cons r _,e=>by simp at e; subst e; exact ⟨_,rfl,r⟩
 | _,_,i + 1,x,.cons _ t,e=>by
  obtain ⟨y,h1,h2⟩:=zF9 (i:=i) (x:=x) t (by simpa using e)
  exact ⟨y,by simpa using h1,h2⟩
theorem Zq {α β:Type} {R:α->β->Prop} {x:α} {y:β} (r:R x y):∀ {xs:List α} {ys:List β},Paired R xs ys->Paired R (xs++[x]) (ys++[y])
 | _,_,.nil=>.cons r .nil
 | _,_,.cons q t=>.cons q (Zq r t)
theorem kR {α β:Type} {R:α->β->Prop}:∀ {xs zs:List α} {ys us:List β},Paired R xs ys->Paired R zs us->Paired R (xs++zs) (ys++us)
 | _,_,_,_,.nil,h=>h
 | _,_,_,_,.cons q t,h=>.cons q (kR t h)
theorem uK {α:Type} {l:List α} {i:Nat} {x:α} (h:l[i]? = some x):l.take (i + 1)=l.take i++[x]:=by
 obtain ⟨hi,e⟩:=cT.mp h
 rw [hZ hi,e]
abbrev Zr (H:Hp) (vs:List V) (ks:List (List Int)):Prop:=Paired (λv (k:List Int)=>Tp H v (k.map V.int)) vs ks
end Sh
namespace L2
open PySem PySem.Spec PyProof.Rows
section
variable {X:Cx}
def gA (K:cI):R2:=λx y H Q=>∃ d e:PyData,Dp K H x d/\Dp K H y e/\d.canLay0=true/\e.canLay0=true/\d.depth<=60/\e.depth<=60/\Q (.bl (fR d e)) H
theorem WQ (hu:X.A.units + 64 < cLine):xE X (compareOp .Eq) (gA X.K):=by
 intro pins s σ H x y v u Q I rx ry h
 obtain ⟨d,e,hx,hy,hc,hc',hd,hd',q⟩:=h
 obtain ⟨_,r1⟩:=hx.reads I rx
 obtain ⟨_,r2⟩:=hy.reads I ry
 exact SeqAt.compareEq_reads r1 r2 hc hc' (by omega) ⟨.bl _,H,I,rfl,q⟩
end
end L2
namespace Sh
open PySem L2
theorem zHv:∀ ns ms:List Int,fB (ns.map PyData.int) (ms.map PyData.int)=decide (ns=ms)
 | [],[]=>by simp [fB]
 | [],_ :: _=>by simp [fB]
 | _ :: _,[]=>by simp [fB]
 | a :: r,b :: t=>by
  have ih:=zHv r t
  simp only [dD,fB,fR,ih,List.cons.injEq]
  by_cases h1:a=b <;> by_cases h2:r=t <;> simp [h1,h2]
def JJ (ws:List Int) (b:Int) (pts:List (Int × Int)):Bool:=decide ((yC ws pts).1<=b * (yC ws pts).2)
def lin (n:Nat) (c:Nat->Int) (r:List Int):Int:=((df n).map λi=>r.getD i 0 * c i).sum
end Sh
namespace L2
open PySem PySem.Spec PyProof.Rows
def JK (K:cI) (a:Addr):It:=
 ⟨λi H=>∃ xs x,zp K H a xs/\xs[i]? = some x,
  λi H v H'=>∃ T x,v=.ref T/\H T=none/\H'=zh H T (.tup [.int (i:Int),x])/\∀ xs,zp K H a xs->xs[i]? = some x,
  λi H=>∃ xs,zp K H a xs/\i=xs.length⟩
theorem zR7 {c x y:Addr} (h:c∉[x,y]):c≠x/\c≠y:=by
 simp only [de,d7,or_false,not_or] at h
 exact h
theorem zKW {P:Program} {w:World} {K:cI} {es:List Expr} {kk:Nat} {tp:Pos} {a e it:Addr} (ne:e≠it) :
  vT P w K (.Tuple es kk tp) (JK K a) [e,it] e (λi h=>(∃ old,IsEnum h e it i old)/\h.IsListIter it a i) where
 mem:=by simp
 obj:=λi h ⟨⟨old,t1⟩,t2⟩ c hc=>by
  simp only [de,d7,or_false] at hc
  rcases hc with rfl | rfl
  ·exact ⟨_,t1,Zm⟩
  ·obtain ⟨o,e,_,d⟩:=t2
   exact ⟨o,e,by rw [d]; exact Zm⟩
 keep:=λi h h' ⟨⟨old,t1⟩,t2⟩ k=>⟨⟨old,k e (by simp) _ t1⟩,(by obtain ⟨o,q,r⟩:=t2; exact ⟨o,k it (by simp) o q,r⟩)⟩
 item:=by
  intro X hP hw hK hc i pins s σ H E I hf ⟨⟨old,t1⟩,t2⟩ hg
  subst hP hw hK
  obtain ⟨xs,x,hq,hx⟩:=hg
  obtain ⟨its,rv,p,_⟩:=I.list hq
  obtain ⟨u,hu,ru⟩:=rv.get hx
  refine wpAny_pyNext_enum_item t1 t2 p.isList (x:=u) (by simpa using hu) ne ?_
  intro h1 z1 z2 z3 z4 keep
  refine ⟨_,rfl,wpAny_letOwnedTupleGo_enum (s:={ s with heap:=h1,toks:=s.toks + 1 }) z1 λh2 z5 sb=>?_⟩
  have elt:e < s.heap.objs.size:=cZ t1
  have keep2:∀ c o,c∉[e,it]->s.heap.get? c=some o->h2.get? c=some o:=λc o hc q=>by
   obtain ⟨c1,c2⟩:=zR7 hc
   exact sb.extBut c o c1 (keep c o c1 c2 q)
  have pT:IsPair h2 s.heap.objs.size (.int i s.toks) u:=sb.extBut _ _ (ip elt) z3
  have I':=I.turnT (h':=h2) (tk:=s.toks + 1) (ch:=[e,it]) (x:=.int (i:Int)) (y:=x) hf keep2 (cQ _) pT ⟨_,rfl⟩ ru
  refine ⟨.ref s.heap.objs.size,_,I',rfl,⟨s.heap.objs.size,x,rfl,I.hok.fresh (cQ _),rfl,λxs' q=>by rw [I.list_inj q hq]; exact hx⟩,
   ⟨⟨u,by simpa using z5⟩,z2.extBut sb.extBut (Ne.symm ne)⟩,λc hc=>?_⟩
  have:=(hf c hc).1
  rw [yH]
  ·exact this
  ·intro q
   obtain ⟨o,e1⟩:∃ o,s.heap.get? c=some o:=by
    simp only [de,d7,or_false] at hc
    rcases hc with rfl | rfl
    ·exact ⟨_,t1⟩
    ·obtain ⟨o,e1,_⟩:=t2; exact ⟨o,e1⟩
   rw [q] at e1
   exact absurd (cZ e1) (dN _)
 done:=by
  intro X hP hw hK hc i pins s σ H E I hf ⟨⟨old,t1⟩,t2⟩ hg
  subst hP hw hK
  obtain ⟨xs,hq,e1⟩:=hg
  obtain ⟨its,rv,p,_⟩:=I.list hq
  have n1:its.length=xs.length:=rv.length.symm
  refine wpAny_pyNext_enum_end (I.ok.hd hc) t1 t2 p.isList (by simp; omega) ?_
  intro h1 ext
  refine ⟨rfl,I.turnN (h':=h1) (tk:=s.toks) (ch:=[e,it]) hf λc o hc q=>?_⟩
  exact ext c o (zR7 hc).2 q
 self:=λ_ _ _ _ _ ⟨⟨_,st⟩,_⟩ h=>wpAny_pyIter_enum st h
section
variable {X:Cx} {es:List Expr} {kk:Nat} {tp:Pos}
def Zs (K:cI) (ta:TA):TI:=λσ H R=>ta σ H λvs H1=>∃ a,vs=[.ref a]/\(∃ xs,zp K H1 a xs)/\R (JK K a) H1
theorem zPa {e1:Expr} {ta:TA} {p pos:Pos} (hg:Gl X "enumerate") (hm:X.mg "enumerate" = none) (ha:PA X [e1] ta) (hs:starEach [e1] X.env=[(false,eval e1 X.env)]:=by rfl) (hs2:starEach [] X.env=[]:=by rfl) :
  PI X (.Tuple es kk tp) (.Call (.Name "enumerate" p) [e1] [] pos) (Zs X.K ta):=by
 intro pins s σ H R I h
 refine Call_ (qK I hg hm (show bootBuiltins "enumerate" = some (.type "enumerate") by decide +kernel) (PyProof.Rows.callWith_type1 (zo (ha pos pins s σ H _ I h) λus s1 ⟨vs,H1,I1,r1,q1⟩=>?_) (by rw [hs,hs2]) (by rw [hs2]; rfl)))
 obtain ⟨a,e,⟨xs,hx⟩,q⟩:=q1
 subst e
 obtain ⟨u,rfl,ru⟩:=uf r1
 cases ru
 obtain ⟨its,rv,p1,_⟩:=I1.list hx
 have la:a < s1.heap.objs.size:=by obtain ⟨o,n,e,_⟩:=p1; exact cZ e
 refine call_enumerate_list p1.isList λh' z1 z2 _ keep=>wpAny_pyIter_enum z1 ?_
 have I2:zE X pins σ H1 { s1 with heap:=h' }:=I1.kept (t':=s1.toks) keep
 refine ⟨s1.heap.objs.size + 1,[s1.heap.objs.size + 1,s1.heap.objs.size],_,_,H1,rfl,I2,zKW (a:=a) (Nat.succ_ne_self _),⟨⟨_,z1⟩,z2⟩,λc hc=>?_,q⟩
 have ge:s1.heap.objs.size<=c:=by
  simp only [de,d7,or_false] at hc
  rcases hc with rfl | rfl
  ·exact eQ _ 1
  ·exact cQ _
 exact I1.fpOk ge (I1.hok.fresh ge)
end
end L2
namespace Sh
open PySem L2
inductive Kd where
 | int | bool | non | str | lst | tup | dic
 deriving DecidableEq
def Kd.nm:Kd->String
 | .int=>"int" | .bool=>"bool" | .non=>"NoneType" | .str=>"str" | .lst=>"list" | .tup=>"tuple" | .dic=>"dict"
def Kd.whole:Kd->Bool
 | .int=>true
 | _=>false
def Kd.isInt:Kd->Bool
 | .int=>true
 | .bool=>true
 | _=>false
def Kd.isBool:Kd->Bool
 | .bool=>true
 | _=>false
def Kd.isTup:Kd->Bool
 | .tup=>true
 | _=>false
def Kd.isLst:Kd->Bool
 | .lst=>true
 | _=>false
section
variable (K:cI)
theorem qL (k:Kd):dy K (.type k.nm) (.type "int")=some k.isInt:=by
 cases k <;> first | rfl | decide +kernel | (unfold dy; rw [if_pos (by decide +kernel)]; rfl) | (unfold dy; rw [if_neg (by decide +kernel)]; rfl)
theorem qM (k:Kd):dy K (.type k.nm) (.type "bool")=some k.isBool:=by
 cases k <;> first | rfl | decide +kernel | (unfold dy; rw [if_pos (by decide +kernel)]; rfl) | (unfold dy; rw [if_neg (by decide +kernel)]; rfl)
theorem qN (k:Kd):dy K (.type k.nm) (.type "tuple")=some k.isTup:=by
 cases k <;> first | rfl | decide +kernel | (unfold dy; rw [if_pos (by decide +kernel)]; rfl) | (unfold dy; rw [if_neg (by decide +kernel)]; rfl)
theorem qO (k:Kd):dy K (.type k.nm) (.type "list")=some k.isLst:=by
 cases k <;> first | rfl | decide +kernel | (unfold dy; rw [if_pos (by decide +kernel)]; rfl) | (unfold dy; rw [if_neg (by decide +kernel)]; rfl)
end
end Sh
namespace L2
open PySem PySem.Spec PyProof.Rows
structure xy (K:cI) (mg:Str->Option Value) (x:Str) (C:Addr):Prop where
 cl:uz K C
 mgC:mg x=some (.ref C)
 ha:eK K (.ref C) "__class__" = some (some (.builtin "object.__class__"))
 hn:mj K (.builtin "object.__class__") "__get__" = some (some (.builtin "getset_descriptor.__get__"))
 htk:mW K (.builtin "object.__class__")=some true
 hm:nD K C (.type "object")=some true
theorem xy.ty {K:cI} {mg:Str->Option Value} {x:Str} {C a dx:Addr} {H:Hp} {fs:List (Str × V)} (T:xy K mg x C) (e:H a=some (.ins C dx fs)):yb K H (.ref a) (.ref C):=.ins e T.cl T.ha T.hn T.htk T.hm
structure jW (P:Program) (w:World) (K:cI) (mg:Str->Option Value) (base:Heap) (C:Addr) (m:Str) (ps:List Str) (k:Nat) (sp:Sp):Prop where
 ex:∃ f fd,zF P w K mg base zY k f fd ps sp/\qw K C m f/\vW K fd ps []
structure qP (P:Program) (w:World) (K:cI) (mg:Str->Option Value) (base:Heap) (C:Addr) (ps:List Str) (k:Nat) (sp:Sp):Prop where
 ex:∃ f fd,zF P w K mg base zY k f fd ps sp/\Mk K C f/\vW K fd ps []
theorem jW.mono {P:Program} {w:World} {K:cI} {mg:Str->Option Value} {base:Heap} {C:Addr} {m:Str} {ps:List Str} {j k:Nat} {sp:Sp} (F:jW P w K mg base C m ps j sp) (h:j<=k:=by decide):jW P w K mg base C m ps k sp:=by
 obtain ⟨f,fd,a,b,c⟩:=F.ex
 exact ⟨f,fd,a.mono h,b,c⟩
theorem qP.mono {P:Program} {w:World} {K:cI} {mg:Str->Option Value} {base:Heap} {C:Addr} {ps:List Str} {j k:Nat} {sp:Sp} (F:qP P w K mg base C ps j sp) (h:j<=k:=by decide):qP P w K mg base C ps k sp:=by
 obtain ⟨f,fd,a,b,c⟩:=F.ex
 exact ⟨f,fd,a.mono h,b,c⟩
section
variable {X:Cx} {C:Addr} {m x:Str} {ps:List Str} {k:Nat} {sp:Sp} {o e:Expr} {es:List Expr} {ta:TE} {t:TA} {p pos apos:Pos} {dv:V}
theorem zK9 {pl:Sem Bool} (F:jW X.prog X.w X.K X.mg X.base C m ps k sp) (T:xy X.K X.mg x C) (hr:zc k X.A) (he:PE X o ta)
  (ht:eval (.Call (.Attribute o m apos) [] [] pos) X.env=(do
   let ov <- eval o X.env
   standAt apos.atName
   let (f,first) <- holding [ov] (getMethod ov m pl)
   callWith pos f first (backTo pos (starEach [] X.env)) (backToKw pos (keywordEach [] X.env))):=by rfl) :
  PE X (.Call (.Attribute o m apos) [] [] pos) (zQ2 C m sp [] E0 ta vV):=by
 obtain ⟨f,fd,a,b,c⟩:=F.ex
 exact zNI he T.cl b a hr c .nil WL ht
theorem zNJ (F:qP X.prog X.w X.K X.mg X.base C ps k sp) (T:xy X.K X.mg x C) (hr:zc (k + 1) X.A) (hg:Gl X x) (ha:PA X (e :: es) t)
  (hdb:(x == ("__debug__" : Str))=false:=by decide) (he:starEach (e :: es) X.env=(false,eval e X.env) :: starEach es X.env:=by rfl) (hpl:(backTo pos (starEach es X.env)).any (·.1)=false:=by rfl) :
  PE X (.Call (.Name x p) (e :: es) [] pos) (WG C sp [] E0 t):=by
 obtain ⟨f,fd,a,b,c⟩:=F.ex
 exact zPd b a hr hg T.mgC c .nil WL ha hdb he hpl
theorem zRj (T:xy X.K X.mg x C) (hg:Gl X x) (hd:(x == ("__debug__" : Str))=false:=by decide):PE X (.Name x pos) (tC (.ref C)):=zLA hg T.mgC rfl hd
def zOU (K:cI):List V->Hp->VK->Prop:=λxs H Q=>∃ x C t b,xs=[x,.ref C]/\yb K H x t/\dy K t (.ref C)=some b/\Q (.bl b) H
theorem zH4:wz X (.builtin "isinstance") (zOU X.K):=by
 intro pins s σ H xs us Q I r h
 obtain ⟨x,C,t,b,rfl,ty,e,q⟩:=h
 obtain ⟨u,v,rfl,ru,rv⟩:=Za r
 cases (show v=Value.ref C from rv)
 exact zHq I ru ty e λtk=>⟨.bl b,H,I.tok tk,rfl,q⟩
end
end L2
namespace L2
open PySem PySem.Spec PyProof.Rows
open PySem
def SqE (K:cI) (H:Hp) (a:Addr) (xs:List V):Prop:=yj K H a xs\/zp K H a xs
section
variable {X:Cx} {es:List Expr} {kk:Nat} {tp:Pos}
theorem JL {pins:List (Addr × Obj)} {σ:St} {H:Hp} {s:Shared} (I:zE X pins σ H s) {c:Addr} (hc:c∈[s.heap.objs.size + 4,s.heap.objs.size + 2,s.heap.objs.size + 3,s.heap.objs.size,s.heap.objs.size + 1]):yQ X pins H c:=by
 have ge:s.heap.objs.size<=c:=by
  simp only [de,d7,or_false] at hc
  rcases hc with rfl | rfl | rfl | rfl | rfl
  ·exact eQ _ 4
  ·exact eQ _ 2
  ·exact eQ _ 3
  ·exact cQ _
  ·exact eQ _ 1
 exact I.fpOk ge (I.hok.fresh ge)
def Zu (K:cI):R2:=λx y H Q=>∃ p xs i v,x=.ref p/\y=.int i/\SqE K H p xs/\yo xs i=some v/\Q v H
theorem zP7:WK X (Zu X.K):=by
 intro value slice pins s σ H x y v u Q I rx ry h hs
 obtain ⟨p,xs,i,z,e1,e2,hq,he,q⟩:=h
 rcases hq with hq | hq
 ·exact zSM value slice pins s σ H x y v u Q I rx ry ⟨p,xs,i,z,e1,e2,hq,he,q⟩ hs
 ·exact U3 value slice pins s σ H x y v u Q I rx ry ⟨p,xs,i,z,e1,e2,hq,he,q⟩ hs
end
section
variable {prog:Program} {w:World} {A:Around} {E:Value->Shared->Prop}
theorem zSg {it l:Addr} {xs:Array Value} (ne:l≠it):∀ (m j:Nat) (s:Shared) (R:List Value->Shared->Prop),s.heap.IsListIter it l j->s.heap.IsList l xs->j + m<=xs.size->
  (∀ g,g.IsListIter it l (j + m)->Heap.SameBut it s.heap g->R ((xs.toList.drop j).take m) { s with heap:=g })->wpAny (model prog w) A (draw (.ref it) m) R E s
 | 0,j,s,R,hi,_,_,k=>wpAny_pure (by simpa using k s.heap hi (Heap.SameBut.refl ..))
 | m + 1,j,s,R,hi,hl,le,k=>by
  have lt:j < xs.size:=by omega
  have step:=λg (z:Heap.SameBut it s.heap g)=>(hl.extBut z.extBut ne:g.IsList l xs)
  show wpAny _ _ (pyNext (.ref it) >>= _) R E s
  refine wpAny_bind (wpAny_pyNext_list_item hi hl (x:=xs[j]) (by simp [lt]) λg1 i1 b1=>?_)
  refine wpAny_bind (wpAny_holding (zSg ne m (j + 1) _ _ i1 (step g1 b1) (by omega) λg2 i2 b2=>wpAny_pure ?_))
  have z:=k g2 (by rw [show j + (m + 1)=j + 1 + m by omega]; exact i2) (b1.trans b2)
  rw [show xs.toList.drop j=xs[j] :: xs.toList.drop (j + 1) by simp [List.drop_eq_getElem_cons,lt],iI] at z
  exact z
theorem zSO {s:Shared} {l:Addr} {xs:Array Value} {R:List Value->Shared->Prop} (hd:A.handled=none) (hl:s.heap.IsList l xs)
  (k:∀ g,Heap.ExtBut s.heap.objs.size s.heap g->R xs.toList { s with heap:=g }):wpAny (model prog w) A (unpackItems (.ref l) xs.size none) R E s:=by
 have ne:l≠s.heap.objs.size:=by
  obtain ⟨o,eo,_⟩:=hl
  exact dL (cZ eo)
 unfold unpackItems
 refine wpAny_bind ?_
 unfold notIterableAtAll
 refine wpAny_bind (wpAny_specialOf hl.typeIs slot_list_iter.lookup ?_)
 refine wpAny_pure ?_
 simp only [fG,if_false]
 refine wpAny_bind (wpAny_holding (wpAny_pyIter_list hl ?_))
 refine wpAny_bind (wpAny_holding (zSg ne xs.size 0 _ _ ⟨_,dj _ rfl,rfl,rfl⟩ (hl.push _) (by omega) λg1 i1 b1=>?_))
 rw [show List.take xs.size (List.drop 0 xs.toList)=xs.toList by rw [fU]; exact cV (by simp),if_neg (by simp)]
 refine wpAny_bind (wpAny_holding (wpAny_pyNext_list_end hd i1 ((hl.push _).extBut b1.extBut ne) (by simp) λg2 x2=>?_))
 simp only [Option.isSome_none,fG,if_false]
 exact wpAny_pure (k g2 λc o n e=>x2 c o n (b1.extBut c o n (cR _ e)))
end
section
variable {X:Cx} {pos:Pos}
def JM (K:cI) (n:Nat) (t:jk):TG:=λv σ H Q=>∃ a xs,v=.ref a/\zp K H a xs/\xs.length=n/\t xs σ H Q
theorem zRd {es:List Expr} {k:Nat} {t:jk} {n:Nat} (hc:X.calm=true) (h:kK X es t)
  (hn:(assignEach es X.env).length=n:=by rfl) (hst:(assignEach es X.env).findIdx? (·.1)=none:=by rfl):PG X (.Tuple es k pos) (JM X.K n t):=by
 intro pins s σ H v u Q I r hw
 obtain ⟨a,xs,e1,hq,hl,hw⟩:=hw
 subst e1
 cases r
 obtain ⟨its,rv,ht,hz⟩:=I.list hq
 rw [assign_Tuple]
 refine wpAny_bind (wpAny_standAt ?_)
 unfold unpack
 rw [show (assignEach es X.env).length=its.toArray.size by simp [hn,<- hl,rv.length],hst]
 refine wpAny_bind (wpAny_holding (zSO (I.ok.hd hc) ht.isList λg hx=>?_))
 have I1:zE X pins σ H { s with heap:=g }:=I.kept (t':=s.toks) λb o e=>hx b o (dL (cZ e)) e
 exact h pins _ σ H xs _ Q I1 (by simpa using rv) hw
end
end L2
namespace L2
open PySem PySem.Spec PyProof.Rows
inductive uL (i:Nat) (σ:St) (H:Hp) (Q:VK):Prop
 | mk (v:V) (_:σ[i]? = some (some v)) (_:Q v H):uL i σ H Q
inductive gB (x:V) (vs:List V) (H:Hp) (Q:VK):Prop
 | mk (l:Addr) (xs:List V) (y:V) (_:x=.ref l) (_:vs=[y]) (_:H l=some (.lst xs)) (_:xs.length < sizeLine) (_:Q .non (zh H l (.lst (xs++[y])))):gB x vs H Q
inductive gC (o i v:V) (H:Hp) (Q:Hp->Prop):Prop
 | mk (p:Addr) (xs:List V) (k:Int) (j:Nat) (_:o=.ref p) (_:i=.int k) (_:H p=some (.lst xs)) (_:xw xs.length k=some j) (_:Q (zh H p (.lst (xs.set j v)))):gC o i v H Q
section
variable {X:Cx}
theorem y6:U6 X "list.append" gB:=λpins s σ H x xs v us Q I rx rv ⟨l,ys,y,h1,h2,h3,h4,q⟩=>zLZ pins s σ H x xs v us Q I rx rv ⟨l,ys,y,h1,h2,h3,h4,q⟩
theorem gD:qr X gC:=λpins s σ H o i v ov iv u Q I h1 h2 h3 ⟨p,xs,k,j,a,b,c,d,q⟩=>zM1 pins s σ H o i v ov iv u Q I h1 h2 h3 ⟨p,xs,k,j,a,b,c,d,q⟩
theorem xM (i:Nat) {x:Str} {pos:Pos} (hN:X.N[i]? = some x:=by rfl) (hv:qJ X.env.scope x:=by first | exact Or.inl rfl | exact Or.inr (Or.inl rfl) | exact Or.inr (Or.inr rfl)) (hd:(x == ("__debug__" : Str))=false:=by decide)
  (hcd:(x == ("__classdict__" : Str))=false:=by decide):PE X (.Name x pos) (uL i):=λpins s σ H Q I ⟨v,e,h⟩=>UU hN hv hd hcd pins s σ H Q I ⟨v,e,h⟩
end
end L2
namespace Sh
open PySem L2
def JN (H:Hp) (v:V) (r:List Int):Prop:=∃ a,v=.ref a/\H a=some (.lst (r.map V.int))
abbrev Zv (H:Hp) (vs:List V) (tab:List (List Int)):Prop:=Paired (JN H) vs tab
structure MD where
 rows:List (List Int)
 nexts:List (List Int)
 steer:List Int
 push:List (List Int)
 add:List Int
 div:Int
structure vZ (m:MD) (n p:Nat):Prop where
 rows:∀ r∈m.rows,r.length=n + 1
 few:m.rows.length<=900
 nexts:m.nexts.length=n/\∀ r∈m.nexts,r.length=n
 steer:m.steer.length=n
 push:m.push.length=n/\∀ r∈m.push,r.length=p
 add:m.add.length=n
 div:1<=m.div
 n3:n<=3
 p6:p<=12
def Zw (r n s p a:V) (d:Int):List (Str × V):=[("rows",r),("nexts",n),("steer",s),("push",p),("add",a),("divisor",.int d)]
structure zO1 (C:Addr) (H:Hp) (o:Addr) (m:MD) where
 dx:Addr
 r:Addr
 rv:List V
 n:Addr
 nv:List V
 s:Addr
 p:Addr
 pv:List V
 a:Addr
structure zO1.Ok {C:Addr} {H:Hp} {o:Addr} {m:MD} (M:zO1 C H o m):Prop where
 ins:H o=some (.ins C M.dx (Zw (.ref M.r) (.ref M.n) (.ref M.s) (.ref M.p) (.ref M.a) m.div))
 hr:H M.r=some (.lst M.rv)
 hrv:Zr H M.rv m.rows
 hn:H M.n=some (.lst M.nv)
 hnv:Zv H M.nv m.nexts
 hs:H M.s=some (.lst (m.steer.map V.int))
 hp:H M.p=some (.lst M.pv)
 hpv:Zv H M.pv m.push
 ha:H M.a=some (.lst (m.add.map V.int))
structure vA (n:Nat) (bs:List (Int × Int)) (ms:List MD):Prop where
 n1:1<=n
 n3:n<=3
 bok:∀ b∈bs,b.1<=b.2
 b6:bs.length<=6
 m1:1<=ms.length
 m40:ms.length<=40
 mok:∀ m∈ms,vZ m n bs.length
theorem zNm {K:cI} {C:Addr}:dy K (.ref C) (.ref C)=some true:=by
 unfold dy
 rw [if_pos (by simp)]
end Sh
namespace Sh
open PySem L2
def u7 (B:List Addr) (H H':Hp):Prop:=∀ b o,H b=some o->b∉B->H' b=some o
theorem u7.refl (B:List Addr) (H:Hp):u7 B H H:=λ_ _ e _=>e
theorem zKl {H:Hp} {x dx:Addr} (hx:H x=none) (hdx:H dx=none) (ne:dx≠x) (u o:HO):zR H (zh (zh H dx u) x o):=
 (kQ hdx _).trans (kQ ((yH (Ne.symm ne)).trans hx) _)
end Sh
namespace L2
open PySem PySem.Spec PyProof.Rows
theorem zF.no {P:Program} {w:World} {K:cI} {mg:Str->Option Value} {base:Heap} {CX:uG} {k:Nat} {f:Addr} {fd:FuncData} {ps:List Str} {sp:Sp} (hn:∀ vs H Q E,¬ sp vs H Q E):zF P w K mg base CX k f fd ps sp:=
 ⟨λ_ _ _ _ h=>(hn _ _ _ _ h).elim,λ_ _ _ _ _ _ _ _ _ _ _ _ _ h=>(hn _ _ _ _ h).elim⟩
end L2
namespace Sh
inductive RT where
 | str (ns:List Int) (a d:Int)
 | stp (t:RT) (lo hi:Int)
 | prt (row:List Int) (x y:RT)
def RT.dep:RT->Nat
 | .str _ _ _=>1
 | .stp t _ _=>t.dep + 1
 | .prt _ x y=>max x.dep y.dep + 1
def RT.rows:RT->List (List Int)
 | .str _ _ _=>[]
 | .stp t _ _=>t.rows
 | .prt r x y=>[r]++x.rows++y.rows
def xz (pts:List (Int × Int)):RT->Int × Int
 | .str ns a d=>(zN ((yC ns pts).1 + a * (yC ns pts).2) ((yC ns pts).2 * d),zK ((yC ns pts).1 + a * (yC ns pts).2) ((yC ns pts).2 * d))
 | .stp t lo hi=>if (xz pts t).1 < lo * (xz pts t).2 then (lo,1) else if hi * (xz pts t).2 < (xz pts t).1 then (hi,1) else xz pts t
 | .prt row x y=>if (yC (row.take pts.length) pts).1<=row.getD pts.length 0 * (yC (row.take pts.length) pts).2 then xz pts x else xz pts y
end Sh
namespace L2
open PySem PySem.Spec PyProof.Rows Sh
section
variable {X:Cx}
inductive zRJ (K:cI) (x y:V) (H:Hp) (Q:VK):Prop
 | mk (a b:Addr) (xs ys:List V) (_:x=.ref a) (_:y=.ref b) (_:H a=some (.tup xs)) (_:H b=some (.tup ys)) (_:xs≠[]) (_:xs.length + ys.length<=sizeLine) (_:∀ p H',zR H H'->H' p=some (.tup (xs++ys))->Q (.ref p) H'):zRJ K x y H Q
theorem zPm:xE X (binaryOp .Add) (zRJ X.K):=by
 intro pins s σ H x y v u Q I rx ry h
 obtain ⟨a,b,xs,ys,rfl,rfl,ha,hb,hne,hz,q⟩:=h
 exact zPn pins s σ H _ _ v u Q I rx ry ⟨a,b,xs,ys,rfl,rfl,yj.of ha,yj.of hb,hne,hz,λz=>q a H (zR.refl _) (ha.trans (by rw [z,fy])),λ_ p hp=>q p _ (kQ hp _) wD⟩
end
end L2
namespace Sh
section
variable {pts:List (Int × Int)} (hp:∀ p∈pts,0 < p.2)
include hp
end
end Sh
namespace L2
open PySem PySem.Spec PyProof.Rows
abbrev JO:=Array Value->Option Addr->Prop
def JP (base:Heap) (l:List Env) (e:Addr) (cls:Value) (P:JO) (fl:Value) (h:Heap):Prop:=
 base.StaysIn h/\base.get? e=none/\h.FunFrames base l/\∃ (oe:Obj) (vs:Array Value) (T:Addr) (oT:Obj) (ts:Array Value),h.get? e=some oe/\oe.cls=cls/\oe.data=.fields vs/\P vs oe.dict/\vs[1]? = some (.ref T)/\base.get? T=none/\T≠e/\h.get? T=some oT/\oT.data=.fields ts/\ts[3]? = some fl
def P0:JO:=λvs _=>vs[2]? = some .none
end L2
namespace L2
open PySem PySem.Spec PyProof.Rows
structure XL (P:Program) (w:World) (outer:List Env) (H H':Hp) (s s':Shared) (B:Heap) (e:Addr) (cls a0:Value):Prop where
 os:s'.os=s.os
 bare:AllBare s'.gens
 keep:∀ b o,s.heap.get? b=some o->H b=none->b∉vS outer->B.get? b=some o
 slot:∀ b o,s.heap.get? b=some o->H b=none->b∈vS outer->∃ sl,s'.heap.get? b=some { o with slots:=sl }
 free:∀ b o,s.heap.get? b=some o->H b=none->H' b=none
 there:∀ b o,s.heap.get? b=some o->b∉vS outer->∃ o',B.get? b=some o'
 tups:∀ b xs,H b=some (.tup xs)->H' b=some (.tup xs)
 frzs:∀ b o u,H b=some (.frz o u)->H' b=some (.frz o u)
 tbls:∀ b ps,H b=some (.tbl ps)->∃ more,H' b=some (.tbl (ps++more))
 hok:xc P w H' B
 fly:JP B outer e cls P0 .none s'.heap
end L2
namespace L2
open PySem PySem.Spec PyProof.Rows
def XP (X:Cx) (pins:List (Addr × Obj)) (ES:St->XK) (ev:Value) (s':Shared):Prop:=
 ∃ (σ1:St) (s1:Shared) (H1 H2:Hp) (e:Addr) (cls a0:Value) (B:Heap),zE X pins σ1 H1 s1/\ev=.ref e/\XL X.prog X.w X.stack H1 H2 s1 s' B e cls a0/\ES σ1 cls none H2
end L2
namespace Sh
open PySem L2
inductive AK where
 | int (i:Int)
 | bool (b:Bool)
 | non
 | str (x:Str)
 | dic
 | lst (as:List AK)
 | tup (as:List AK)
 | mode (r n s p a d:AK)
def AK.isInt:AK->Bool
 | .int _=>true
 | .bool _=>true
 | _=>false
def AK.isBool:AK->Bool
 | .bool _=>true
 | _=>false
def AK.isLst:AK->Bool
 | .lst _=>true
 | _=>false
def AK.isTup:AK->Bool
 | .tup _=>true
 | _=>false
inductive Zx where
 | made | bad | many
def Zx.str:Zx->Str
 | .made=>"made"
 | .bad=>"bad"
 | .many=>"many"
end Sh
namespace HT
open PySem PySem.Spec PyProof.Rows
section
variable {prog:Program} {w:World} {A:Around} {E:Value->Shared->Prop} {s:Shared}
theorem cat_tup0 {t b:Addr} {vs ws:List Value} {Q:Value->Shared->Prop} (ht:IsTup s.heap t vs.toArray) (hb:IsTup s.heap b ws.toArray) (hv:vs=[]) (h0:Q (.ref b) s):wpAny (model prog w) A (binaryOp .Add (.ref t) (.ref b)) Q E s:=by
 obtain ⟨⟨cls,dd,data,sl⟩,ho,hc,n,hd⟩:=id ht
 obtain ⟨⟨cls2,dd2,data2,sl2⟩,ho2,hc2,n2,hd2⟩:=id hb
 simp only at hc hd hc2 hd2
 subst hc hd hc2 hd2
 exact concat_meets ⟨_,ho,rfl⟩ ⟨_,ho2,rfl⟩ noFill_tuple_add seq_tuple_add h7 f_ (f' _ _)
  (tuple_addW0 t b vs.toArray ws.toArray n n2 dd dd2 sl sl2 (by simp [hv])) ⟨ho,ho2,h0⟩
theorem getItem_tuple_all {t sl:Addr} {items:Array Value} {vl vu:Value} {lo hi:Option Int} {Q:Value->Shared->Prop} (ht:IsTup s.heap t items) (hs:s.heap.IsSliceOf sl vl vu .none) (pl:IsPart vl lo) (pu:IsPart vu hi)
  (hw:sIx items.size 0 lo=0/\sIx items.size items.size hi=items.size) (h:Q (.ref t) s):wpAny (model prog w) A (getItem (.ref t) (.ref sl)) Q E s:=by
 obtain ⟨os,hos,hcs,hds⟩:=id hs
 have hTs:s.TypeIs (.ref sl) "slice":=⟨os,hos,hcs⟩
 unfold getItem
 try with_reducible refine wpAny_holding ?_
 first | refine wpAny_bind (wpAny_pure ?_) | skip
 refine wpAny_bind (wpAny_sequenceKey ht.typeIs (by decide) ?_)
 refine wpAny_bind (wpAny_callSpecial?_slot (name:=dZ "__getitem__") ht.typeIs PyProof.Rows.slot_tuple_getitem
  (wpAny_call_entry PyProof.Rows.slot_tuple_getitem ht.typeIs entry_tuple_getitem ?_ (args_tuple_getitem _ _)))
 show wpAny _ _ (Builtin.Tuple.tupleItemsOf (.ref t) >>= _) _ _ s
 refine wpAny_bind (tupleItemsOf_ ht ?_)
 refine wpAny_bind (wpAny_typeOf hTs ?_)
 rw [if_pos (by decide)]
 refine wpAny_bind (zC1 hs pl pu ?_)
 have hyes:(((sIx items.size 0 lo:Nat):Int) == 0 && (1:Int) == 1 && (sIx items.size items.size hi - sIx items.size 0 lo) == items.size)=true:=by
  rw [hw.1,hw.2]
  simp
 show wpAny _ _ (if (((sIx items.size 0 lo:Nat):Int) == 0 && (1:Int) == 1 && (sIx items.size items.size hi - sIx items.size 0 lo) == items.size)=true then _ else _) _ _ s
 rw [if_pos hyes]
 unfold Builtin.Tuple.tupleIsExact
 refine wpAny_bind (wpAny_bind (wpAny_typeOf ht.typeIs (wpAny_pure ?_)))
 rw [if_pos (by decide)]
 refine wpAny_bind (wpAny_rule ?_)
 exact wpAny_pure ⟨_,rfl,wpAny_pure h⟩
end
end HT
namespace L2
open PySem PySem.Spec PyProof.Rows
section
variable {X:Cx}
inductive JQ (x y:V) (H:Hp) (Q:VK):Prop
 | mk (a b:Addr) (xs ys:List V) (_:x=.ref a) (_:y=.ref b) (_:H a=some (.tup xs)) (_:H b=some (.tup ys)) (_:xs.length + ys.length<=sizeLine) (_:∀ p H',zR H H'->H' p=some (.tup (xs++ys))->Q (.ref p) H'):JQ x y H Q
theorem Zy:xE X (binaryOp .Add) JQ:=by
 intro pins s σ H x y v u Q I rx ry h
 obtain ⟨a,b,xs,ys,rfl,rfl,ha,hb,hz,q⟩:=h
 by_cases hne:xs=[]
 ·subst hne
  cases rx
  cases ry
  obtain ⟨its,r1,p1,_⟩:=I.tuple (yj.of ha)
  obtain ⟨its2,r2,p2,_⟩:=I.tuple (yj.of hb)
  exact HT.cat_tup0 p1 p2 (r1.nil_iff.mpr rfl) ⟨.ref b,H,I,rfl,q b H (zR.refl _) hb⟩
 ·exact zPm pins s σ H _ _ v u Q I rx ry ⟨a,b,xs,ys,rfl,rfl,ha,hb,hne,hz,q⟩
inductive Zz (x:V) (lo hi:Option Int) (H:Hp) (Q:VK):Prop
 | mk (a:Addr) (xs:List V) (_:x=.ref a) (_:H a=some (.tup xs)) (_:∀ p H',zR H H'->H' p=some (.tup (w6 xs lo hi))->Q (.ref p) H'):Zz x lo hi H Q
theorem zNn:qy X Zz:=by
 intro pins s σ H x v vl vu lo hi sl Q I rx hs pl pu h
 obtain ⟨a,xs,rfl,hx,q⟩:=h
 by_cases hw:HT.sIx xs.length 0 lo=0/\HT.sIx xs.length xs.length hi=xs.length
 ·cases rx
  obtain ⟨its,r,ht,hz⟩:=I.tuple (yj.of hx)
  have hlen:its.toArray.size=xs.length:=by rw [cW]; exact r.length.symm
  refine ⟨"tuple",_,PyProof.Rows.slot_tuple_getitem.lookup,ht.typeIs,?_⟩
  refine HT.getItem_tuple_all ht hs pl pu (by rw [hlen]; exact hw) ⟨.ref a,H,I,rfl,q a H (zR.refl _) (hx.trans ?_)⟩
  unfold w6
  rw [hw.1,hw.2,fU,iO,mP]
 ·exact zRC pins s σ H _ v vl vu lo hi sl Q I rx hs pl pu ⟨a,xs,rfl,yj.of hx,hw,λp hp=>q p _ (Sh.kQ hp _) wD⟩
end
end L2
set_option linter.all false
namespace Sh
def bt:List (Int × Int)->Int
 | []=>1
 | p :: ps=>p.2 * bt ps
def tp:List Int->List (Int × Int)->Int
 | w :: ws,p :: ps=>w * p.1 * bt ps + p.2 * tp ws ps
 | _,_=>0
def JR (r:Int) (c d:List Int):List Int:=eC (λx y=>r * x + y) c d
def comb (n:Nat):List Int->List (List Int)->List Int
 | r :: rs,c :: cs=>JR r c (comb n rs cs)
 | _,_=>cS n 0
def yI:List Int->List Int->Int
 | r :: rs,a :: as=>r * a + yI rs as
 | _,_=>0
def yE (nums:List Int) (ls:List (List Int)) (j:Nat):Int:=((nums.zip ls).map λq=>q.1 * q.2.getD j 0).sum
theorem zK2 (r:Int) (rs:List Int) (c:List Int) (cs:List (List Int)) (j:Nat):yE (r :: rs) (c :: cs) j=r * c.getD j 0 + yE rs cs j:=by
 simp only [yE,l',dD,nG]
end Sh
set_option linter.all false
namespace Sh
def yy (pl:Int) (n:Nat) (nu:Int):List Int:=(df n).map λ(i:Nat)=>if (i:Int)=pl then nu else 0
theorem v5 (pl:Int) (n:Nat) (nu:Int):(yy pl n nu).length=n:=by
 unfold yy
 rw [a_,cX]
def hB (pts:List (Int × Int)) (ws:List Int) (b:Int):Bool:=decide (tp ws pts<=b * bt pts)
def hR (pts:List (Int × Int)) (r:List Int):Bool:=hB pts (r.take pts.length) (r.getD pts.length 0)
end Sh
set_option linter.all false
namespace Sh
theorem zHX:∀ (ns:List Int) (ls:List (List Int)) (j:Nat),yE ns ls j=yI ns (ls.map λr=>r.getD j 0)
 | [],_,_=>by simp [yE,yI]
 | _ :: _,[],_=>by simp [yE,yI]
 | n :: ns,l :: ls,j=>by rw [zK2,dD,zHX ns ls j]; rfl
end Sh
set_option linter.all false
namespace Sh
def wu (f:Nat->Int):Nat->Nat->Option Nat
 | _,0=>none
 | p,m + 1=>if f p≠0 then some p else wu f (p + 1) m
def yf (rows:List (List Int)) (p f:Nat):List (List Int):=(rows.set p (rows.getD f [])).set f (rows.getD p [])
def uM (row piv:List Int) (p:Nat) (last:Int):List Int:=(row.zip piv).map λq=>(piv.getD p 0 * q.1 - row.getD p 0 * q.2).fdiv last
def u8 (l2:List (List Int)) (p:Nat) (last:Int):List (List Int):=(df l2.length).map λi=>if i=p then l2.getD i [] else uM (l2.getD i []) (l2.getD p []) p last
def vB (st:List (List Int) × Int) (p:Nat):Option (List (List Int) × Int):=
 (wu (λk=>(st.1.getD k []).getD p 0) p (st.1.length - p)).map λf=>(u8 (yf st.1 p f) p st.2,((yf st.1 p f).getD p []).getD p 0)
def yw (rows:List (List Int)):Nat->Option (List (List Int) × Int)
 | 0=>some (rows,1)
 | i + 1=>(yw rows i).bind λst=>vB st i
theorem JS {x a q:Int} (ha:a≠0) (h:x=a * q):x.fdiv a=q:=by rw [h]; exact i5 q ha
theorem zSW (x:Int):x.fdiv 1=x:=by rw [mE]
def r4 (a b c d:Int):List Int:=[a,b,c,d]
def vC (a0 a1 a2 b0 b1 b2 c0 c1 c2:Int):Int:=a0 * (b1 * c2 - b2 * c1) + a1 * (b2 * c0 - b0 * c2) + a2 * (b0 * c1 - b1 * c0)
def JT (R:Option (List (List Int) × Int)) (a0 a1 a2 b0 b1 b2:Int):Prop:=
 (R=none/\a0 * b1 - a1 * b0=0)\/∃ D E0 E1:Int,R=some ([[D,0,E0],[0,D,E1]],D)/\D≠0/\a0 * b1 - a1 * b0≠0/\a0 * E0 + a1 * E1=a2 * D/\b0 * E0 + b1 * E1=b2 * D
theorem zOn (a0 a1 a2 b0 b1 b2:Int) (ha:a0≠0):JT (vB (u8 [[a0,a1,a2],[b0,b1,b2]] 0 1,a0) 1) a0 a1 a2 b0 b1 b2:=by
 have e1:u8 [[a0,a1,a2],[b0,b1,b2]] 0 1=[[a0,a1,a2],[0,a0 * b1 - b0 * a1,a0 * b2 - b0 * a2]]:=by
  show [[a0,a1,a2],[(a0 * b0 - b0 * a0).fdiv 1,(a0 * b1 - b0 * a1).fdiv 1,(a0 * b2 - b0 * a2).fdiv 1]]=_
  simp only [zSW]
  rw [show a0 * b0 - b0 * a0=0 by grind]
 rw [e1]
 unfold vB
 have hf:wu (λk=>(([[a0,a1,a2],[0,a0 * b1 - b0 * a1,a0 * b2 - b0 * a2]]:List (List Int)).getD k []).getD 1 0) 1 1=if a0 * b1 - b0 * a1≠0 then some 1 else none:=rfl
 show JT (fF _ (wu _ 1 1)) _ _ _ _ _ _
 rw [hf]
 by_cases hd:a0 * b1 - b0 * a1≠0
 ·rw [if_pos hd]
  refine .inr ⟨a0 * b1 - b0 * a1,b1 * a2 - a1 * b2,a0 * b2 - b0 * a2,?_,hd,by grind,by grind,by grind⟩
  show some ([[((a0 * b1 - b0 * a1) * a0 - a1 * 0).fdiv a0,((a0 * b1 - b0 * a1) * a1 - a1 * (a0 * b1 - b0 * a1)).fdiv a0,((a0 * b1 - b0 * a1) * a2 - a1 * (a0 * b2 - b0 * a2)).fdiv a0],[0,a0 * b1 - b0 * a1,a0 * b2 - b0 * a2]],a0 * b1 - b0 * a1)=_
  rw [JS (q:=a0 * b1 - b0 * a1) ha (by grind),JS (q:=0) ha (by grind),JS (q:=b1 * a2 - a1 * b2) ha (by grind)]
 ·rw [if_neg hd]
  exact .inl ⟨rfl,by grind⟩
theorem Z3 (a0 a1 a2 b0 b1 b2:Int):JT (yw [[a0,a1,a2],[b0,b1,b2]] 2) a0 a1 a2 b0 b1 b2:=by
 have hf:wu (λk=>(([[a0,a1,a2],[b0,b1,b2]]:List (List Int)).getD k []).getD 0 0) 0 2=if a0≠0 then some 0 else if b0≠0 then some 1 else none:=rfl
 have hr:yw [[a0,a1,a2],[b0,b1,b2]] 2=(vB ([[a0,a1,a2],[b0,b1,b2]],1) 0).bind λst=>vB st 1:=rfl
 rw [hr]
 by_cases ha:a0≠0
 ·have hs:vB ([[a0,a1,a2],[b0,b1,b2]],1) 0=some (u8 [[a0,a1,a2],[b0,b1,b2]] 0 1,a0):=by
   unfold vB
   show fF _ (wu _ 0 2)=_
   rw [hf,if_pos ha]
   rfl
  rw [hs]
  exact zOn _ _ _ _ _ _ ha
 ·by_cases hb:b0≠0
  ·have hs:vB ([[a0,a1,a2],[b0,b1,b2]],1) 0=some (u8 [[b0,b1,b2],[a0,a1,a2]] 0 1,b0):=by
    unfold vB
    show fF _ (wu _ 0 2)=_
    rw [hf,if_neg ha,if_pos hb]
    rfl
   rw [hs]
   rcases zOn b0 b1 b2 a0 a1 a2 hb with ⟨h1,h2⟩ | ⟨D,E0,E1,h1,h2,h3,h4,h5⟩
   ·exact .inl ⟨h1,by grind⟩
   ·exact .inr ⟨D,E0,E1,h1,h2,by grind,h5,h4⟩
  ·have hs:vB ([[a0,a1,a2],[b0,b1,b2]],1) 0=none:=by
    unfold vB
    show fF _ (wu _ 0 2)=_
    rw [hf,if_neg ha,if_neg hb]
    rfl
   rw [hs]
   exact .inl ⟨rfl,by rw [show a0=0 by omega,show b0=0 by omega]; grind⟩
theorem Z4 (a0 a1:Int):(yw [[a0,a1]] 1=none/\a0=0)\/(yw [[a0,a1]] 1=some ([[a0,a1]],a0)/\a0≠0):=by
 have hr:yw [[a0,a1]] 1=vB ([[a0,a1]],1) 0:=rfl
 have hf:wu (λk=>(([[a0,a1]]:List (List Int)).getD k []).getD 0 0) 0 1=if a0≠0 then some 0 else none:=rfl
 rw [hr]
 unfold vB
 show (fF _ (wu _ 0 1)=_/\_)\/(fF _ (wu _ 0 1)=_/\_)
 rw [hf]
 by_cases ha:a0≠0
 ·rw [if_pos ha]
  exact .inr ⟨rfl,ha⟩
 ·rw [if_neg ha]
  exact .inl ⟨rfl,by omega⟩
def xq (rows:List (List Int)):Int:=
 if rows.length=1 then (rows.getD 0 []).getD 0 0
 else if rows.length=2 then (rows.getD 0 []).getD 0 0 * (rows.getD 1 []).getD 1 0 - (rows.getD 0 []).getD 1 0 * (rows.getD 1 []).getD 0 0
 else vC ((rows.getD 0 []).getD 0 0) ((rows.getD 0 []).getD 1 0) ((rows.getD 0 []).getD 2 0) ((rows.getD 1 []).getD 0 0) ((rows.getD 1 []).getD 1 0) ((rows.getD 1 []).getD 2 0) ((rows.getD 2 []).getD 0 0) ((rows.getD 2 []).getD 1 0) ((rows.getD 2 []).getD 2 0)
structure WR (rows L:List (List Int)) (D:Int) (n:Nat):Prop where
 run:yw rows n=some (L,D)
 ne:D≠0
 det:xq rows≠0
 len:L.length=n
 dia:∀ i,i < n->(L.getD i []).length=n + 1/\(L.getD i []).getD i 0=D
 eqs:∀ r∈rows,((df n).map λj=>r.getD j 0 * (L.getD j []).getD n 0).sum=r.getD n 0 * D
theorem zM0 {rows:List (List Int)} {n:Nat} (hl:rows.length=n) (hr:∀ r∈rows,r.length=n + 1) (h1:1<=n) (h3:n<=2):(yw rows n=none/\xq rows=0)\/∃ L D,WR rows L D n:=by
 rcases (by omega:n=1\/n=2) with rfl | rfl
 ·match rows,hl,hr with
  | [A],_,hr=>
   match A,hr A (by simp) with
   | [a0,a1],_=>
    rcases Z4 a0 a1 with ⟨e1,e2⟩ | ⟨e1,e2⟩
    ·exact .inl ⟨e1,e2⟩
    ·refine .inr ⟨_,_,e1,e2,e2,rfl,λi hi=>?_,λr hr=>?_⟩
     ·rcases (by omega:i=0) with rfl
      exact ⟨rfl,rfl⟩
     ·rw [dh.mp hr]
      show a0 * a1 + 0=a1 * a0
      grind
 ·match rows,hl,hr with
  | [A,B],_,hr=>
   match A,B,hr A (by simp),hr B (by simp) with
   | [a0,a1,a2],[b0,b1,b2],_,_=>
    rcases Z3 a0 a1 a2 b0 b1 b2 with ⟨e1,e2⟩ | ⟨D,E0,E1,e1,e2,e3,e4,e5⟩
    ·exact .inl ⟨e1,e2⟩
    ·refine .inr ⟨_,_,e1,e2,e3,rfl,λi hi=>?_,λr hr=>?_⟩
     ·rcases (by omega:i=0\/i=1) with rfl | rfl
      ·exact ⟨rfl,rfl⟩
      ·exact ⟨rfl,rfl⟩
     ·rcases de.mp hr with e | hr
      ·rw [e]
       show a0 * E0 + (a1 * E1 + 0)=a2 * D
       omega
      ·rw [dh.mp hr]
       show b0 * E0 + (b1 * E1 + 0)=b2 * D
       omega
end Sh
set_option linter.all false
namespace Sh
theorem zPW {a b:Int} (h:0 < a * b):(0 < a/\0 < b)\/(a < 0/\b < 0):=by
 rcases ic a 0 with x | x | x
 ·rcases ic b 0 with y | y | y
  ·exact .inr ⟨x,y⟩
  ·rw [y,mF] at h; omega
  ·have:=iS x y; omega
 ·rw [x,Int.zero_mul] at h; omega
 ·rcases ic b 0 with y | y | y
  ·have:=Int.mul_neg_of_pos_of_neg x y; omega
  ·rw [y,mF] at h; omega
  ·exact .inl ⟨x,y⟩
structure BR where
 p:Nat
 c:Int
 v:Int
def BR.ws (n:Nat) (r:BR):List Int:=yy (r.p:Int) n r.c
def BR.row (n:Nat) (r:BR):List Int:=r.ws n++[r.c * r.v]
def gE (rs:List BR) (cs:List Nat) (q:Nat):BR:=rs.getD (cs.getD q 0) ⟨0,1,0⟩
theorem u9 {α:Type} {l:List α} {i j:Nat} {x d:α} (h:i < l.length):(l.set i x).getD j d=if j=i then x else l.getD j d:=by
 rw [b',b']
 by_cases e:j=i
 ·rw [if_pos e,e,fh h]
  rfl
 ·rw [if_neg e,d5 (Ne.symm e)]
def tight (rs:List BR) (cs:List Nat) (r:BR):Bool:=decide (0 < r.c * (gE rs cs r.p).c) && decide (r.c * r.v < r.c * (gE rs cs r.p).v)
def jo (us:List Int) (rs:List BR) (count:Nat) (cs:List Nat) (q:Nat):Bool:=decide (us.getD q 0 * (gE rs cs q).c < 0) || (decide (count<=cs.getD q 0) && decide (us.getD q 0≠0))
end Sh
namespace Bl
def lsum (l:List Nat) (f:Nat->Rat):Rat:=l.foldr (λi s=>f i + s) 0
theorem lsum_cons (i:Nat) (l:List Nat) (f:Nat->Rat):lsum (i :: l) f=f i + lsum l f:=rfl
theorem JU (f g:Nat->Rat):∀ l:List Nat,lsum l f - lsum l g=lsum l λi=>f i - g i
 | []=>by show (0:Rat) - 0=0; grind
 | i :: l=>by
  have:=JU f g l
  rw [lsum_cons,lsum_cons,lsum_cons]
  grind
theorem zGA {f g:Nat->Rat}:∀ {l:List Nat},(∀ i∈l,f i=g i)->lsum l f=lsum l g
 | [],_=>rfl
 | i :: l,h=>by rw [lsum_cons,lsum_cons,h i cO,zGA λj hj=>h j (cK _ hj)]
theorem zFY {f:Nat->Rat}:∀ {l:List Nat},(∀ i∈l,0<=f i)->0<=lsum l f
 | [],_=>fZ
 | i :: l,h=>by
  have h1:=h i cO
  have h2:=zFY λj hj=>h j (cK _ hj)
  rw [lsum_cons]
  grind
theorem WS {f:Nat->Rat}:∀ {l:List Nat},(∀ i∈l,0<=f i)->(∃ i∈l,0 < f i)->0 < lsum l f
 | [],_,⟨_,h,_⟩=>by cases h
 | i :: l,h,⟨j,hj,pj⟩=>by
  have h1:=h i cO
  have h2:=zFY λj hj=>h j (cK _ hj)
  rw [lsum_cons]
  rcases de.mp hj with rfl | hj
  ·grind
  ·have:=WS (λj hj=>h j (cK _ hj)) ⟨j,hj,pj⟩
   grind
theorem zl {r:Nat->Nat}:∀ {m:Nat},0 < m->∃ u,u < m/\∀ t,t < m->r t<=r u
 | 0,h=>absurd h (dN 0)
 | 1,_=>⟨0,by decide,λt ht=>by rw [show t=0 by omega]; exact cQ _⟩
 | m + 2,_=>by
  obtain ⟨u,hu,h⟩:=zl (r:=r) (m:=m + 1) (lE m)
  by_cases c:r u<=r (m + 1)
  ·exact ⟨m + 1,by omega,λt ht=>by
    by_cases e:t=m + 1
    ·rw [e]; exact cQ _
    ·exact eA (h t (by omega)) c⟩
  ·exact ⟨u,by omega,λt ht=>by
    by_cases e:t=m + 1
    ·rw [e]; omega
    ·exact h t (by omega)⟩
section
variable {B:Nat->List Nat} {r p:Nat->Nat} {m:Nat}
def Nx (B B':List Nat) (p r:Nat):Prop:=p∈B/\r∉B/\∀ i,i∈B' ↔ (i∈B/\i≠p)\/i=r
theorem zQ6 (h:∀ t,t < m->Nx (B t) (B (t + 1)) (p t) (r t)) {i:Nat} (no:∀ t,t < m->p t≠i):∀ {s t:Nat},s<=t->t<=m->i∈B s->i∈B t:=by
 intro s t hst ht hi
 induction t with
 | zero=>rw [show s=0 by omega] at hi; exact hi
 | succ t ih=>
  by_cases e:s=t + 1
  ·rw [<- e]; exact hi
  ·exact ((h t (by omega)).2.2 i).mpr (.inl ⟨ih (by omega) (by omega),λz=>no t (by omega) z.symm⟩)
theorem zSl (h:∀ t,t < m->Nx (B t) (B (t + 1)) (p t) (r t)) {i:Nat} (no:∀ t,t < m->r t≠i):∀ {s t:Nat},s<=t->t<=m->i∈B t->i∈B s:=by
 intro s t hst ht hi
 induction t with
 | zero=>rw [show s=0 by omega]; exact hi
 | succ t ih=>
  by_cases e:s=t + 1
  ·rw [e]; exact hi
  ·rcases ((h t (by omega)).2.2 i).mp hi with z | z
   ·exact ih (by omega) (by omega) z.1
   ·exact absurd z.symm (no t (by omega))
theorem zGE (h:∀ t,t < m->Nx (B t) (B (t + 1)) (p t) (r t)) (c:∀ i,i∈B m ↔ i∈B 0) {u:Nat} (hu:u < m):∃ v,v < m/\p v=r u:=by
 apply da
 intro no
 have no':∀ t,t < m->p t≠r u:=λt ht z=>no ⟨t,ht,z⟩
 have i1:r u∈B (u + 1):=((h u hu).2.2 _).mpr (.inr rfl)
 have i2:=zQ6 h no' (show u + 1<=m by omega) (cQ m) i1
 exact (h u hu).2.1 (zQ6 h no' (ib u) (by omega) ((c _).mp i2))
theorem WT (h:∀ t,t < m->Nx (B t) (B (t + 1)) (p t) (r t)) (c:∀ i,i∈B m ↔ i∈B 0) {u v i:Nat} (hu:u < m) (hv:v < m) (iv:i∈B v) (iu:i∉B u):∃ t,t < m/\r t=i:=by
 apply da
 intro no
 have no':∀ t,t < m->r t≠i:=λt ht z=>no ⟨t,ht,z⟩
 have i0:=zSl h no' (ib v) (by omega) iv
 exact iu (zSl h no' (show u<=m by omega) (cQ m) ((c i).mpr i0))
theorem zKI (h:∀ t,t < m->Nx (B t) (B (t + 1)) (p t) (r t)) (c:∀ i,i∈B m ↔ i∈B 0) {v:Nat} (hv:v < m):∃ t,t < m/\r t=p v:=by
 have iv:=(h v hv).1
 have nv:p v∉B (v + 1):=λz=>by
  rcases ((h v hv).2.2 _).mp z with z | z
  ·exact z.2 rfl
  ·exact (h v hv).2.1 (z ▸ iv)
 by_cases e:v + 1 < m
 ·exact WT h c e hv iv nv
 ·have e1:v + 1=m:=by omega
  rw [e1] at nv
  exact WT h c (show 0 < m by omega) hv iv λz=>nv ((c _).mpr z)
end
structure FStep {P:Type} (val:Nat->P->Rat) (b:Nat->Rat) (count:Nat) (B B':List Nat) (x:P) (p r:Nat) (w:Nat->Rat):Prop where
 nx:∀ i,i∈B' ↔ (i∈B/\i≠p)\/i=r
 tight:∀ i∈B,val i x=b i
 brk:b r < val r x
 lt:r < count
 least:∀ i,i < r->val i x<=b i
 comb:∀ z:P,val r z=lsum B λi=>w i * val i z
 pin:p∈B
 pos:0 < w p
 pl:∀ i∈B,i < p->w i<=0
theorem FStep.out {P:Type} {val:Nat->P->Rat} {b:Nat->Rat} {count:Nat} {B B':List Nat} {x:P} {p r:Nat} {w:Nat->Rat} (h:FStep val b count B B' x p r w):Nx B B' p r:=⟨h.pin,λz=>by have:=h.tight r z; have:=h.brk; grind,h.nx⟩
theorem zL0 {P:Type} {val:Nat->P->Rat} {b:Nat->Rat} {count m:Nat} {B:Nat->List Nat} {x:Nat->P} {p r:Nat->Nat} {w:Nat->Nat->Rat} (m0:0 < m) (h:∀ t,t < m->FStep val b count (B t) (B (t + 1)) (x t) (p t) (r t) (w t)):¬ ∀ i,i∈B m ↔ i∈B 0:=λc=>by
 have N:∀ t,t < m->Nx (B t) (B (t + 1)) (p t) (r t):=λt ht=>(h t ht).out
 obtain ⟨u,hu,hT⟩:=zl (r:=r) m0
 obtain ⟨v,hv,ev⟩:=zGE N c hu
 have su:=h u hu
 have sv:=h v hv
 have nr:r v < r u:=by
  have l:=hT v hv
  have ne:r v≠r u:=λz=>(N v hv).2.1 (by rw [z,<- ev]; exact sv.pin)
  omega
 have e1:=sv.comb (x u)
 have e2:=sv.comb (x v)
 have d:=JU (λi=>w v i * val i (x u)) (λi=>w v i * val i (x v)) (B v)
 rw [<- e1,<- e2] at d
 have k1:=su.least (r v) nr
 have k2:=sv.brk
 have pos:0 < lsum (B v) λi=>w v i * val i (x u) - w v i * val i (x v):=by
  refine WS (λi hi=>?_) ⟨p v,sv.pin,?_⟩
  ·rw [sv.tight i hi]
   by_cases iu:i∈B u
   ·rw [su.tight i iu]
    grind
   ·by_cases ep:i=p v
    ·have k3:=su.brk
     rw [ep,ev]
     have k4:=sv.pos
     rw [ev] at k4
     have:=eG (dU k3) (dU k4)
     grind
    ·obtain ⟨t,ht,et⟩:=WT N c hu hv hi iu
     have lt:i < r u:=by
      have:=hT t ht
      have ne:i≠r u:=λz=>ep (z.trans ev.symm)
      omega
     have k5:=sv.pl i hi (by rw [ev]; exact lt)
     have k6:=su.least i lt
     have:=eG k6 (show 0<=-(w v i) by grind)
     grind
  ·rw [sv.tight _ sv.pin,ev]
   have k3:=su.brk
   have k4:=sv.pos
   rw [ev] at k4
   have:=iK k3 k4
   grind
 grind
structure CStep {P:Type} (val:Nat->P->Rat) (b:Nat->Rat) (obj:P->Rat) (count:Nat) (B B':List Nat) (x x' d:P) (p r:Nat) (y:Nat->Rat) (s:Rat):Prop where
 nx:∀ i,i∈B' ↔ (i∈B/\i≠p)\/i=r
 tight:∀ i∈B,val i x=b i
 feas:∀ i,i < count->val i x<=b i
 comb:∀ z:P,obj z=lsum B λi=>y i * val i z
 pin:p∈B
 fit:y p < 0\/(count<=p/\y p≠0)
 pl:∀ i∈B,i < p->¬ (y i < 0\/(count<=i/\y i≠0))
 dir:∀ i∈B,i≠p->val i d=0
 dp:val p d=if 0 < y p then 1 else -1
 lt:r < count
 up:0 < val r d
 first:∀ k,k < r->0 < val k d->(b r - val r x) * val k d < (b k - val k x) * val r d
 far:s * val r d=b r - val r x
 mv:∀ i,val i x'=val i x + s * val i d
 mo:obj x'=obj x + s * obj d
section
variable {P:Type} {val:Nat->P->Rat} {b:Nat->Rat} {obj:P->Rat} {count:Nat} {B B':List Nat} {x x' d:P} {p r:Nat} {y:Nat->Rat} {s:Rat}
theorem CStep.out (h:CStep val b obj count B B' x x' d p r y s):Nx B B' p r:=⟨h.pin,λz=>by
 by_cases e:r=p
 ·
  have k:=h.up
  have f:=h.fit
  have l:=h.lt
  rw [e] at k l
  rw [h.dp] at k
  have yp:¬ 0 < y p:=by
   rcases f with f | f
   ·grind
   ·omega
  rw [if_neg yp] at k
  grind
 ·have:=h.dir r z e
  have:=h.up
  grind,h.nx⟩
theorem CStep.nonneg (h:CStep val b obj count B B' x x' d p r y s):0<=s:=by
 have k:=h.far
 have f:=h.feas r h.lt
 have u:=h.up
 apply da
 intro c
 have c':s < 0:=by grind
 have:=dA c' u
 grind
theorem CStep.gain (h:CStep val b obj count B B' x x' d p r y s):0 < obj d:=by
 rw [h.comb]
 have pp:0 < y p * val p d:=by
  rw [h.dp]
  by_cases c:0 < y p
  ·rw [if_pos c]
   grind
  ·rw [if_neg c]
   rcases h.fit with f | f
   ·grind
   ·have:=f.2
    grind
 refine WS (λi hi=>?_) ⟨p,h.pin,pp⟩
 by_cases e:i=p
 ·rw [e]
  exact dU pp
 ·rw [h.dir i hi e]
  grind
theorem CStep.next (h:CStep val b obj count B B' x x' d p r y s):∀ i∈B',val i x'=b i:=λi hi=>by
 rw [h.mv i]
 rcases (h.nx i).mp hi with z | z
 ·rw [h.dir i z.1 z.2,h.tight i z.1]
  grind
 ·rw [z,h.far]
  grind
end
theorem zNj {f:Nat->Rat} {l:List Nat} (h:∀ i∈l,f i<=0) (k:∃ i∈l,f i < 0):lsum l f < 0:=by
 have z:=WS (f:=λi=>0 - f i) (l:=l) (λi hi=>by have:=h i hi; grind) (by
  obtain ⟨i,hi,q⟩:=k
  exact ⟨i,hi,by grind⟩)
 have e:=JU (λ_=>0) f l
 have z0:lsum l (λ_=>0)=0:=by
  clear z e h k
  induction l with
  | nil=>rfl
  | cons a l ih=>rw [lsum_cons,ih]; grind
 rw [<- e,z0] at z
 grind
theorem zKO {P:Type} {val:Nat->P->Rat} {b:Nat->Rat} {obj:P->Rat} {count m:Nat} {B:Nat->List Nat} {x d:Nat->P} {p r:Nat->Nat} {y:Nat->Nat->Rat} {s:Nat->Rat} (m0:0 < m) (h:∀ t,t < m->CStep val b obj count (B t) (B (t + 1)) (x t) (x (t + 1)) (d t) (p t) (r t) (y t) (s t)):¬ ∀ i,i∈B m ↔ i∈B 0:=λc=>by
 have N:∀ t,t < m->Nx (B t) (B (t + 1)) (p t) (r t):=λt ht=>(h t ht).out
 have same:obj (x m)=obj (x 0):=by
  obtain ⟨k,ek⟩:∃ k,m=k + 1:=⟨m - 1,by omega⟩
  have e0:=(h 0 m0).comb
  rw [e0 (x m),e0 (x 0)]
  refine zGA λi hi=>?_
  have i1:=(c i).mpr hi
  have t1:val i (x m)=b i:=by
   rw [ek] at i1 |-
   exact (h k (by omega)).next i i1
  rw [t1,(h 0 m0).tight i hi]
 have mono:∀ t,t < m->obj (x t)<=obj (x (t + 1)):=λt ht=>by
  have st:=h t ht
  have g:=dJ st.nonneg (dU st.gain)
  rw [st.mo]
  grind
 have up:∀ j t,t + j<=m->obj (x t)<=obj (x (t + j)):=λj=>by
  induction j with
  | zero=>exact λt _=>fZ
  | succ j ih=>
   intro t ht
   have h1:=ih t (by omega)
   have h2:=mono (t + j) (by omega)
   have e:t + (j + 1)=t + j + 1:=by omega
   rw [e]
   exact mG h1 h2
 have s0:∀ t,t < m->s t=0:=λt ht=>by
  have st:=h t ht
  have a1:=up t 0 (by omega)
  have a2:=up (m - (t + 1)) (t + 1) (by omega)
  rw [fL] at a1
  rw [show t + 1 + (m - (t + 1))=m by omega,same,st.mo] at a2
  have g:=st.gain
  have n:=st.nonneg
  apply da
  intro ne
  have ps:0 < s t:=by grind
  have:=ie ps g
  grind
 have pt:∀ t,t<=m->∀ i,val i (x t)=val i (x 0):=λt=>by
  induction t with
  | zero=>exact λ_ _=>rfl
  | succ t ih=>
   intro ht i
   rw [(h t (by omega)).mv i,s0 t (by omega),ih (by omega) i]
   grind
 obtain ⟨u,hu,hT⟩:=zl (r:=r) m0
 obtain ⟨v,hv,ev⟩:=zGE N c hu
 have su:=h u hu
 have sv:=h v hv
 have Tc:=su.lt
 have yT:y v (p v) < 0:=by
  rcases sv.fit with f | f
  ·exact f
  ·rw [ev] at f
   omega
 have yl:∀ i∈B v,i < r u->0<=y v i:=λi hi lt=>by
  have:=sv.pl i hi (by rw [ev]; exact lt)
  grind
 have g:=su.gain
 rw [sv.comb] at g
 have neg:lsum (B v) (λi=>y v i * val i (d u)) < 0:=by
  refine zNj (λi hi=>?_) ⟨p v,sv.pin,?_⟩
  ·by_cases eT:i=r u
   ·have:=su.up
    have k:=yT
    rw [ev] at k
    rw [eT]
    have:=dA k this
    grind
   by_cases iu:i∈B u
   ·by_cases ep:i=p u
    ·obtain ⟨t,ht,et⟩:=zKI N c hu
     have lt:i < r u:=by have:=hT t ht; omega
     have yi:=yl i hi lt
     have dpu:=su.dp
     have yn:¬ 0 < y u (p u):=by
      rcases su.fit with f | f
      ·grind
      ·omega
     rw [if_neg yn] at dpu
     rw [ep] at yi |-
     rw [dpu]
     grind
    ·rw [su.dir i iu ep]
     grind
   ·obtain ⟨t,ht,et⟩:=WT N c hu hv hi iu
    have lt:i < r u:=by have:=hT t ht; omega
    have yi:=yl i hi lt
    have ti:val i (x u)=b i:=by rw [pt u (by omega) i,<- pt v (by omega) i]; exact sv.tight i hi
    have vi:val i (d u)<=0:=by
     apply da
     intro k
     have k':0 < val i (d u):=by grind
     have f:=su.first i lt k'
     have fe:=su.feas (r u) Tc
     have:=dJ (show 0<=b (r u) - val (r u) (x u) by grind) (dU k')
     rw [ti] at f
     grind
    have:=dJ yi (show 0<=-(val i (d u)) by grind)
    grind
  ·have:=su.up
   have k:=yT
   rw [ev] at k |-
   have:=dA k this
   grind
 grind
theorem JV:∀ (M:Nat) (l:List Nat),l.Nodup->(∀ x∈l,x < M)->l.length<=M
 | 0,l,_,h=>by
  cases l with
  | nil=>exact cQ 0
  | cons a l=>exact absurd (h a cO) (eM a)
 | M + 1,l,nd,h=>by
  by_cases c:M∈l
  ·have e:=List.length_erase_of_mem c
   have p:0 < l.length:=List.length_pos_of_mem c
   have k:=JV M (l.erase M) (nd.erase M) λx hx=>by
    have h1:=h x (List.mem_of_mem_erase hx)
    have ne:x≠M:=λz=>(nd.not_mem_erase (a:=M)) (z ▸ hx)
    omega
   omega
  ·have k:=JV M l nd λx hx=>by
    have h1:=h x hx
    have ne:x≠M:=λz=>c (z ▸ hx)
    omega
   omega
def code (N:Nat):List Nat->Nat
 | []=>0
 | a :: l=>a + N * code N l
theorem zMJ {N:Nat}:∀ {l:List Nat},(∀ i∈l,i < N)->code N l < N ^ l.length
 | [],_=>by show 0 < N ^ 0; rw [Nat.pow_zero]; decide
 | a :: l,h=>by
  have h1:=h a cO
  have h2:=zMJ λi hi=>h i (cK _ hi)
  show a + N * code N l < N ^ (l.length + 1)
  rw [mD,mB (N ^ l.length) N]
  have h3:=iH N (show code N l + 1<=N ^ l.length from h2)
  rw [Nat.mul_add] at h3
  omega
theorem zJd {N:Nat}:∀ {l k:List Nat},l.length=k.length->(∀ i∈l,i < N)->(∀ i∈k,i < N)->code N l=code N k->l=k
 | [],[],_,_,_,_=>rfl
 | [],_ :: _,h,_,_,_=>nomatch h
 | _ :: _,[],h,_,_,_=>nomatch h
 | a :: l,c :: k,h,hl,hk,e=>by
  have a1:=hl a cO
  have c1:=hk c cO
  have e':a + N * code N l=c + N * code N k:=e
  have m1:(a + N * code N l) % N=a:=by rw [iV]; exact mQ a1
  have m2:(c + N * code N k) % N=c:=by rw [iV]; exact mQ c1
  have ac:a=c:=by rw [<- m1,<- m2,e']
  have np:0 < N:=by omega
  have q:code N l=code N k:=iU np (by omega)
  rw [ac,zJd (Nat.succ.inj h) (λi hi=>hl i (cK _ hi)) (λi hi=>hk i (cK _ hi)) q]
theorem zIn {N n:Nat} {S:List (List Nat)} (nd:S.Nodup) (h:∀ c∈S,c.length=n/\∀ i∈c,i < N):S.length<=N ^ n:=by
 have k:=JV (N ^ n) (S.map (code N)) (by
  refine mr.mpr (List.Pairwise.imp_of_mem ?_ nd)
  intro x y hx hy ne e
  exact ne (zJd ((h x hx).1.trans (h y hy).1.symm) (h x hx).2 (h y hy).2 e)) λz hz=>by
  obtain ⟨c,hc,rfl⟩:=cP.mp hz
  have:=zMJ (h c hc).2
  rw [(h c hc).1] at this
  exact this
 rw [a_] at k
 exact k
def d3 (a0 a1 a2 b0 b1 b2 c0 c1 c2:Rat):Rat:=a0 * (b1 * c2 - b2 * c1) + a1 * (b2 * c0 - b0 * c2) + a2 * (b0 * c1 - b1 * c0)
def d2 (a0 a1 b0 b1:Rat):Rat:=a0 * b1 - a1 * b0
theorem zHt {N n m:Nat} {B:Nat->List Nat} (ne:∀ s t,s < t->t<=m->B s≠B t) (h:∀ t,t<=m->(B t).length=n/\∀ i∈B t,i < N):m < N ^ n:=by
 have k:=zIn (N:=N) (n:=n) (S:=(df (m + 1)).map B) (by
  refine mr.mpr (List.Pairwise.imp_of_mem ?_ List.pairwise_lt_range)
  intro s t _ ht lt
  exact ne s t lt (by have:=dH.mp ht; omega)) λc hc=>by
  obtain ⟨t,ht,rfl⟩:=cP.mp hc
  exact h t (by have:=dH.mp ht; omega)
 rw [a_,cX] at k
 omega
theorem feas_few {P:Type} {val:Nat->P->Rat} {b:Nat->Rat} {count m N n:Nat} {B:Nat->List Nat} {x:Nat->P} {p r:Nat->Nat} {w:Nat->Nat->Rat} (h:∀ t,t < m->FStep val b count (B t) (B (t + 1)) (x t) (p t) (r t) (w t)) (k:∀ t,t<=m->(B t).length=n/\∀ i∈B t,i < N):m < N ^ n:=
 zHt (λs t st tm e=>zL0 (m:=t - s) (B:=λj=>B (s + j)) (x:=λj=>x (s + j)) (p:=λj=>p (s + j)) (r:=λj=>r (s + j)) (w:=λj=>w (s + j)) (by omega) (λj hj=>h (s + j) (by omega)) λi=>by
  show i∈B (s + (t - s)) ↔ i∈B (s + 0)
  rw [show s + (t - s)=t by omega,mH,e]) k
theorem climb_few {P:Type} {val:Nat->P->Rat} {b:Nat->Rat} {obj:P->Rat} {count m N n:Nat} {B:Nat->List Nat} {x d:Nat->P} {p r:Nat->Nat} {y:Nat->Nat->Rat} {s:Nat->Rat} (h:∀ t,t < m->CStep val b obj count (B t) (B (t + 1)) (x t) (x (t + 1)) (d t) (p t) (r t) (y t) (s t)) (k:∀ t,t<=m->(B t).length=n/\∀ i∈B t,i < N):m < N ^ n:=
 zHt (λs0 t st tm e=>zKO (m:=t - s0) (B:=λj=>B (s0 + j)) (x:=λj=>x (s0 + j)) (d:=λj=>d (s0 + j)) (p:=λj=>p (s0 + j)) (r:=λj=>r (s0 + j)) (y:=λj=>y (s0 + j)) (s:=λj=>s (s0 + j)) (by omega) (λj hj=>h (s0 + j) (by omega)) λi=>by
  show i∈B (s0 + (t - s0)) ↔ i∈B (s0 + 0)
  rw [show s0 + (t - s0)=t by omega,mH,e]) k
end Bl
set_option linter.all false
namespace Sh
def zG:Nat->(Nat->Rat)->Rat
 | 0,_=>0
 | n + 1,f=>zG n f + f n
theorem ye {f g:Nat->Rat}:∀ {n:Nat},(∀ j,j < n->f j=g j)->zG n f=zG n g
 | 0,_=>rfl
 | n + 1,h=>by
  show zG n f + f n=zG n g + g n
  rw [ye λj hj=>h j (fQ hj),h n (dW n)]
theorem qQ (f g:Nat->Rat):∀ n:Nat,zG n (λj=>f j + g j)=zG n f + zG n g
 | 0=>by show (0:Rat)=0 + 0; grind
 | n + 1=>by
  show zG n (λj=>f j + g j) + (f n + g n)=(zG n f + f n) + (zG n g + g n)
  rw [qQ f g n]
  grind
theorem vK (c:Rat) (f:Nat->Rat):∀ n:Nat,zG n (λj=>c * f j)=c * zG n f
 | 0=>by show (0:Rat)=c * 0; grind
 | n + 1=>by
  show zG n (λj=>c * f j) + c * f n=c * (zG n f + f n)
  rw [vK c f n]
  grind
theorem Z5:∀ n:Nat,zG n (λ_=>0)=0
 | 0=>rfl
 | n + 1=>by
  show zG n (λ_=>0) + 0=0
  rw [Z5 n]
  grind
theorem WU (f:Nat->Nat->Rat) (m:Nat):∀ n:Nat,zG n (λj=>zG m (λi=>f i j))=zG m (λi=>zG n (λj=>f i j))
 | 0=>by
  show (0:Rat)=zG m (λi=>0)
  rw [Z5]
 | n + 1=>by
  show zG n (λj=>zG m (λi=>f i j)) + zG m (λi=>f i n)=zG m (λi=>zG n (λj=>f i j) + f i n)
  rw [WU f m n,qQ]
theorem zKa {f g:Nat->Rat}:∀ {n:Nat},(∀ j,j < n->f j<=g j)->zG n f<=zG n g
 | 0,_=>fZ
 | n + 1,h=>by
  have h1:=zKa λj hj=>h j (fQ hj)
  have h2:=h n (dW n)
  show zG n f + f n<=zG n g + g n
  grind
theorem jp (f:Nat->Rat):∀ n:Nat,zG (n + 1) f=f 0 + zG n (λj=>f (j + 1))
 | 0=>by show (0:Rat) + f 0=f 0 + 0; grind
 | n + 1=>by
  show zG (n + 1) f + f (n + 1)=f 0 + (zG n (λj=>f (j + 1)) + f (n + 1))
  rw [jp f n]
  grind
def xH (ws:List Int) (q:Nat->Rat):Rat:=zG ws.length λj=>(ws.getD j 0:Rat) * q j
theorem JW:∀ {xs ys:List Int},xs.length=ys.length->((yI xs ys:Int):Rat)=zG xs.length λi=>(xs.getD i 0:Rat) * (ys.getD i 0:Rat)
 | [],[],_=>by show ((0:Int):Rat)=0; rfl
 | [],_ :: _,h=>nomatch h
 | _ :: _,[],h=>nomatch h
 | x :: xs,y :: ys,h=>by
  show ((x * y + yI xs ys:Int):Rat)=zG (xs.length + 1) λi=>((x :: xs).getD i 0:Rat) * ((y :: ys).getD i 0:Rat)
  rw [jp,eB,cM,JW (Nat.succ.inj h)]
  rfl
theorem vD {D:Int} (h:0 < D):(0:Rat) < (D:Rat):=by exact_mod_cast h
def zU (p:Int × Int):Rat:=(p.1:Rat) / (p.2:Rat)
def ze (pts:List (Int × Int)) (j:Nat):Rat:=zU (pts.getD j (0,1))
theorem vL {p:Int × Int} (h:0 < p.2):zU p * (p.2:Rat)=(p.1:Rat):=by
 unfold zU
 have d:=vD h
 have ne:(p.2:Rat)≠0:=λz=>by rw [z] at d; exact absurd d eX
 rw [dG,ef,d9 _ ne,eN]
theorem WV {p:Int × Int} {x:Rat} (h:0 < p.2) (e:(p.1:Rat)=x * (p.2:Rat)):zU p=x:=by
 have d:=vD h
 have ne:(p.2:Rat)≠0:=λz=>by rw [z] at d; exact absurd d eX
 unfold zU
 rw [e,dG,ef,dF _ ne,eN]
theorem zI0 (q:Nat->Rat):∀ (ws:List Int) (pts:List (Int × Int)) (st:Int × Int) (k:Nat),ws.length=pts.length->(∀ p∈pts,0 < p.2)->(∀ j,j < pts.length->q (k + j)=zU (pts.getD j (0,1)))->0 < st.2->
  0 < ((ws.zip pts).foldl jT st).2/\((((ws.zip pts).foldl jT st).1:Int):Rat)=(zU st + zG ws.length λj=>(ws.getD j 0:Rat) * q (k + j)) * ((((ws.zip pts).foldl jT st).2:Int):Rat)
 | [],[],st,k,_,_,_,s0=>⟨s0,by
  show (st.1:Rat)=(zU st + 0) * (st.2:Rat)
  rw [Rat.add_zero,vL s0]⟩
 | [],_ :: _,_,_,h,_,_,_=>nomatch h
 | _ :: _,[],_,_,h,_,_,_=>nomatch h
 | x :: ws,p :: pts,st,k,h,hp,hq,s0=>by
  have p0:=hp p cO
  have s1:0 < (jT st (x,p)).2:=eO s0 p0
  obtain ⟨z1,z2⟩:=zI0 q ws pts (jT st (x,p)) (k + 1) (Nat.succ.inj h) (λr hr=>hp r (cK _ hr)) (λj hj=>by
   have:=hq (j + 1) (fW hj)
   rw [show k + 1 + j=k + (j + 1) by omega,this]
   rfl) s1
  refine ⟨z1,z2.trans ?_⟩
  show _=(zU st + zG (ws.length + 1) λj=>((x :: ws).getD j 0:Rat) * q (k + j)) * _
  rw [jp]
  congr 1
  have e1:zU (jT st (x,p))=zU st + (x:Rat) * zU p:=WV s1 (by
   show ((st.1 * p.2 + x * p.1 * st.2:Int):Rat)=_ * ((st.2 * p.2:Int):Rat)
   rw [eB,cM,cM,cM,cM,<- vL s0,<- vL p0]
   grind)
  have e2:q (k + 0)=zU p:=hq 0 (lE _)
  have e3:(zG ws.length λj=>(ws.getD j 0:Rat) * q (k + 1 + j))=zG ws.length λj=>((x :: ws).getD (j + 1) 0:Rat) * q (k + (j + 1)):=ye λj _=>by
   rw [show k + 1 + j=k + (j + 1) by omega]
   rfl
  rw [e1,e3,e2,Rat.add_assoc]
  rfl
theorem jA {t b:Int} (h:b≠0):0 < zK t b/\zU (zN t b,zK t b)=(t:Rat) / (b:Rat):=by
 have p:=u4 (t:=t) h
 refine ⟨p,WV p ?_⟩
 have c:=zLk (t:=t) h
 have ne:(b:Rat)≠0:=λz=>h (by exact_mod_cast z)
 have c':((zN t b * b:Int):Rat)=((t * zK t b:Int):Rat):=by rw [c]
 rw [cM,cM] at c'
 show ((zN t b:Int):Rat)=(t:Rat) / (b:Rat) * ((zK t b:Int):Rat)
 rw [dG]
 have e:(zN t b:Rat)=(zN t b:Rat) * (b:Rat) * (b:Rat)⁻¹:=by rw [ef,dF _ ne,eN]
 rw [e,c']
 grind
end Sh
set_option linter.all false
namespace Sh
def vl (n:Nat) (r:List Int) (z:Nat->Rat):Rat:=zG n λj=>(r.getD j 0:Rat) * z j
def bo (n:Nat) (r:List Int):Rat:=((r.getD n 0:Int):Rat)
def kS (L:List (List Int)) (D:Int) (n:Nat):List (Int × Int):=(df n).map λi=>(zN ((L.getD i []).getD n 0) D,zK ((L.getD i []).getD n 0) D)
def yO (rows:List (List Int)) (n:Nat):List (Int × Int):=match yw rows n with
 | some (L,D)=>kS L D n
 | none=>[]
theorem Z6 {rows L:List (List Int)} {D:Int} {n:Nat} (S:WR rows L D n):yO rows n=kS L D n:=by
 unfold yO
 rw [S.run]
theorem zJh (f:Nat->Int):∀ n:Nat,((((df n).map f).sum:Int):Rat)=zG n λj=>(f j:Rat)
 | 0=>rfl
 | n + 1=>by
  rw [m9,db,List.sum_append,eB,zJh f n]
  show _ + (((f n + 0:Int)):Rat)=zG n (λj=>(f j:Rat)) + (f n:Rat)
  rw [Int.add_zero]
theorem zRR {L:List (List Int)} {D:Int} {n j:Nat} (h:j < n):(kS L D n).getD j (0,1)=(zN ((L.getD j []).getD n 0) D,zK ((L.getD j []).getD n 0) D):=by
 unfold kS
 rw [b',c_,eg h]
 rfl
theorem zPG {rows L:List (List Int)} {D:Int} {n:Nat} (S:WR rows L D n) {r:List Int} (hr:r∈rows):vl n r (ze (yO rows n))=bo n r:=by
 have ne:(D:Rat)≠0:=λz=>S.ne (by exact_mod_cast z)
 have e:∀ j,j < n->ze (yO rows n) j=(((L.getD j []).getD n 0:Int):Rat) * (D:Rat)⁻¹:=λj hj=>by
  unfold ze
  rw [Z6 S,zRR hj,(jA S.ne).2,dG]
 have z:=S.eqs r hr
 have z':((((df n).map λj=>r.getD j 0 * (L.getD j []).getD n 0).sum:Int):Rat)=((r.getD n 0 * D:Int):Rat):=by rw [z]
 rw [zJh,cM] at z'
 unfold vl bo
 rw [ye (g:=λj=>(D:Rat)⁻¹ * (((r.getD j 0 * (L.getD j []).getD n 0:Int)):Rat)) λj hj=>by rw [e j hj,cM]; grind,vK,z',fM,ef,dF _ ne,eN]
structure Sq (rows:List (List Int)) (n:Nat):Prop where
 len:rows.length=n
 row:∀ r∈rows,r.length=n + 1
 n1:1<=n
 n3:n<=2
theorem JX {rows:List (List Int)} {n:Nat} (h:Sq rows n) (d:xq rows≠0):∃ L D,WR rows L D n:=by
 rcases zM0 h.len h.row h.n1 h.n3 with ⟨_,z⟩ | z
 ·exact absurd z d
 ·exact z
theorem ug {rows:List (List Int)} {n:Nat} (h:Sq rows n) (d:xq rows≠0):(yO rows n).length=n/\(∀ p∈yO rows n,0 < p.2)/\∀ r∈rows,vl n r (ze (yO rows n))=bo n r:=by
 obtain ⟨L,D,S⟩:=JX h d
 refine ⟨?_,λp hp=>?_,λr hr=>zPG S hr⟩
 ·rw [Z6 S]
  unfold kS
  rw [a_,cX]
 ·rw [Z6 S] at hp
  obtain ⟨i,_,e⟩:=cP.mp hp
  rw [<- e]
  exact u4 S.ne
def xV (n:Nat) (f:Nat->Nat->Int):Int:=
 if n=1 then f 0 0 else if n=2 then f 0 0 * f 1 1 - f 0 1 * f 1 0 else vC (f 0 0) (f 0 1) (f 0 2) (f 1 0) (f 1 1) (f 1 2) (f 2 0) (f 2 1) (f 2 2)
theorem kT (rows:List (List Int)):xq rows=xV rows.length λq j=>(rows.getD q []).getD j 0:=rfl
theorem kU {n:Nat} {f g:Nat->Nat->Int} (n1:1<=n) (n3:n<=2) (h:∀ q j,q < n->j < n->f q j=g q j):xV n f=xV n g:=by
 rcases (by omega:n=1\/n=2\/n=3) with rfl | rfl | rfl
 ·exact h 0 0 (by decide) (by decide)
 ·show f 0 0 * f 1 1 - f 0 1 * f 1 0=_
  rw [h 0 0 (by decide) (by decide),h 1 1 (by decide) (by decide),h 0 1 (by decide) (by decide),h 1 0 (by decide) (by decide)]
  rfl
 ·show vC (f 0 0) (f 0 1) (f 0 2) (f 1 0) (f 1 1) (f 1 2) (f 2 0) (f 2 1) (f 2 2)=_
  rw [h 0 0 (by decide) (by decide),h 0 1 (by decide) (by decide),h 0 2 (by decide) (by decide),h 1 0 (by decide) (by decide),h 1 1 (by decide) (by decide),h 1 2 (by decide) (by decide),h 2 0 (by decide) (by decide),h 2 1 (by decide) (by decide),h 2 2 (by decide) (by decide)]
  rfl
theorem zMG {n:Nat} {f:Nat->Nat->Int} (n1:1<=n) (n3:n<=2):xV n (λq j=>f j q)=xV n f:=by
 rcases (by omega:n=1\/n=2\/n=3) with rfl | rfl | rfl
 ·rfl
 ·show f 0 0 * f 1 1 - f 1 0 * f 0 1=f 0 0 * f 1 1 - f 0 1 * f 1 0
  grind
 ·show vC (f 0 0) (f 1 0) (f 2 0) (f 0 1) (f 1 1) (f 2 1) (f 0 2) (f 1 2) (f 2 2)=vC (f 0 0) (f 0 1) (f 0 2) (f 1 0) (f 1 1) (f 1 2) (f 2 0) (f 2 1) (f 2 2)
  unfold vC
  grind
theorem zMH {n p:Nat} {f:Nat->Nat->Int} {R:Nat->Int} {w:Nat->Rat} (n1:1<=n) (n3:n<=2) (hp:p < n) (h:∀ j,j < n->(R j:Rat)=zG n λk=>(f k j:Rat) * w k) :
  ((xV n (λq j=>if q=p then R j else f q j):Int):Rat)=w p * ((xV n f:Int):Rat):=by
 rcases (by omega:n=1\/n=2\/n=3) with rfl | rfl | rfl
 ·have p0:p=0:=by omega
  subst p0
  have h0:=h 0 (by decide)
  have h0':(R 0:Rat)=0 + (f 0 0:Rat) * w 0:=h0
  show ((R 0:Int):Rat)=w 0 * ((f 0 0:Int):Rat)
  rw [h0']
  grind
 ·have h0:(R 0:Rat)=0 + (f 0 0:Rat) * w 0 + (f 1 0:Rat) * w 1:=h 0 (by decide)
  have h1:(R 1:Rat)=0 + (f 0 1:Rat) * w 0 + (f 1 1:Rat) * w 1:=h 1 (by decide)
  have e:((xV 2 f:Int):Rat)=(f 0 0:Rat) * (f 1 1:Rat) - (f 0 1:Rat) * (f 1 0:Rat):=by
   show ((f 0 0 * f 1 1 - f 0 1 * f 1 0:Int):Rat)=_
   rw [fg,cM,cM]
  rw [e]
  rcases (by omega:p=0\/p=1) with rfl | rfl
  ·show ((R 0 * f 1 1 - R 1 * f 1 0:Int):Rat)=_
   rw [fg,cM,cM,h0,h1]
   grind
  ·show ((f 0 0 * R 1 - f 0 1 * R 0:Int):Rat)=_
   rw [fg,cM,cM,h0,h1]
   grind
 ·have h0:(R 0:Rat)=0 + (f 0 0:Rat) * w 0 + (f 1 0:Rat) * w 1 + (f 2 0:Rat) * w 2:=h 0 (by decide)
  have h1:(R 1:Rat)=0 + (f 0 1:Rat) * w 0 + (f 1 1:Rat) * w 1 + (f 2 1:Rat) * w 2:=h 1 (by decide)
  have h2:(R 2:Rat)=0 + (f 0 2:Rat) * w 0 + (f 1 2:Rat) * w 1 + (f 2 2:Rat) * w 2:=h 2 (by decide)
  have dc:∀ a0 a1 a2 b0 b1 b2 c0 c1 c2:Int,((vC a0 a1 a2 b0 b1 b2 c0 c1 c2:Int):Rat)=(a0:Rat) * ((b1:Rat) * c2 - b2 * c1) + a1 * (b2 * c0 - b0 * c2) + a2 * (b0 * c1 - b1 * c0):=λa0 a1 a2 b0 b1 b2 c0 c1 c2=>by
   unfold vC
   simp only [eB,cM,fg]
  have e:((xV 3 f:Int):Rat)=_:=dc (f 0 0) (f 0 1) (f 0 2) (f 1 0) (f 1 1) (f 1 2) (f 2 0) (f 2 1) (f 2 2)
  rw [e]
  rcases (by omega:p=0\/p=1\/p=2) with rfl | rfl | rfl
  ·refine (dc (R 0) (R 1) (R 2) (f 1 0) (f 1 1) (f 1 2) (f 2 0) (f 2 1) (f 2 2)).trans ?_
   rw [h0,h1,h2]
   grind
  ·refine (dc (f 0 0) (f 0 1) (f 0 2) (R 0) (R 1) (R 2) (f 2 0) (f 2 1) (f 2 2)).trans ?_
   rw [h0,h1,h2]
   grind
  ·refine (dc (f 0 0) (f 0 1) (f 0 2) (f 1 0) (f 1 1) (f 1 2) (R 0) (R 1) (R 2)).trans ?_
   rw [h0,h1,h2]
   grind
end Sh
set_option linter.all false
namespace Sh
def y8 (rows:List (List Int)) (cs:List Nat):List (List Int):=cs.map λc=>rows.getD c []
def xr (rows:List (List Int)) (cs:List Nat) (us:List Int) (n:Nat):List (List Int):=(df n).map λj=>(cs.map λc=>(rows.getD c []).getD j 0)++[us.getD j 0]
def xQ (rows:List (List Int)) (cs:List Nat) (p:Nat) (nu:Int) (n:Nat):List (List Int):=cs.map λc=>(rows.getD c []).take n++[if c=cs.getD p 0 then nu else 0]
def vE (rows:List (List Int)) (cs:List Nat) (p:Nat) (n:Nat):List (List Int):=(df n).map λk=>(rows.getD (cs.getD k 0) []).take n++[if k=p then 1 else 0]
structure Cr (rows:List (List Int)) (n:Nat) (cs:List Nat):Prop where
 n1:1<=n
 n3:n<=2
 row:∀ r∈rows,r.length=n + 1
 len:cs.length=n
 lt:∀ c∈cs,c < rows.length
 det:xq (y8 rows cs)≠0
theorem jB {α β:Type} {f:α->β} {l:List α} {k:Nat} {d:α} {e:β} (h:k < l.length):(l.map f).getD k e=f (l.getD k d):=by
 rw [b',b',c_,b_ h]
 rfl
theorem kW {α:Type} {f:Nat->α} {n k:Nat} {d:α} (h:k < n):((df n).map f).getD k d=f k:=by
 rw [b',c_,eg h]
 rfl
theorem yc {α:Type} {l:List α} {k:Nat} {d:α} (h:k < l.length):l.getD k d∈l:=by
 rw [b',b_ h]
 exact d6 _
theorem jq {l:List Int} {x:Int} {n j:Nat} (hl:l.length=n) (h:j < n):(l++[x]).getD j 0=l.getD j 0:=by
 rw [b',dR (by omega),<- b']
theorem uN {l:List Int} {x:Int} {n:Nat} (hl:l.length=n):(l++[x]).getD n 0=x:=by
 rw [b',dC (by omega),hl,fN]
 rfl
theorem qR {l:List Int} {n j:Nat} (h:j < n):(l.take n).getD j 0=l.getD j 0:=by
 rw [b',f9 h,<- b']
theorem gF {n p:Nat} {c:Rat} {f:Nat->Rat} (hp:p < n):zG n (λk=>f k * (if k=p then c else 0))=f p * c:=by
 induction n with
 | zero=>omega
 | succ n ih=>
  show zG n (λk=>f k * (if k=p then c else 0)) + f n * (if n=p then c else 0)=f p * c
  by_cases e:p=n
  ·rw [if_pos e.symm,ye (g:=λ_=>0) λj hj=>by rw [if_neg (by omega)]; grind,Z5,e]
   grind
  ·rw [if_neg (λz=>e z.symm),ih (by omega)]
   grind
section
variable {rows:List (List Int)} {n:Nat} {cs:List Nat}
theorem Cr.at_ (C:Cr rows n cs) {k:Nat} (h:k < n):cs.getD k 0 < rows.length/\(rows.getD (cs.getD k 0) []).length=n + 1:=by
 have:=C.lt _ (yc (d:=0) (show k < cs.length by rw [C.len]; exact h))
 exact ⟨this,C.row _ (yc this)⟩
theorem Cr.sqC (C:Cr rows n cs):Sq (y8 rows cs) n:=⟨by unfold y8; rw [a_,C.len],λr hr=>by
 obtain ⟨c,hc,e⟩:=cP.mp hr
 rw [<- e]
 exact C.row _ (yc (C.lt c hc)),C.n1,C.n3⟩
theorem Cr.sqW (C:Cr rows n cs) (us:List Int):Sq (xr rows cs us n) n:=⟨by unfold xr; rw [a_,cX],λr hr=>by
 obtain ⟨c,hc,e⟩:=cP.mp hr
 rw [<- e,cJ,a_,C.len]
 rfl,C.n1,C.n3⟩
theorem Cr.sqD (C:Cr rows n cs) (p:Nat) (nu:Int):Sq (xQ rows cs p nu n) n:=⟨by unfold xQ; rw [a_,C.len],λr hr=>by
 obtain ⟨c,hc,e⟩:=cP.mp hr
 have:=C.row _ (yc (C.lt c hc) (d:=[]))
 rw [<- e,cJ,cU,this]
 show min n (n + 1) + 1=n + 1
 omega,C.n1,C.n3⟩
theorem Cr.sqP (C:Cr rows n cs) (p:Nat):Sq (vE rows cs p n) n:=⟨by unfold vE; rw [a_,cX],λr hr=>by
 obtain ⟨c,hc,e⟩:=cP.mp hr
 have:=(C.at_ (dH.mp hc)).2
 rw [<- e,cJ,cU,this]
 show min n (n + 1) + 1=n + 1
 omega,C.n1,C.n3⟩
theorem Cr.detC (C:Cr rows n cs):xV n (λq j=>(rows.getD (cs.getD q 0) []).getD j 0)≠0:=by
 have d:=C.det
 rw [kT,C.sqC.len] at d
 rw [kU (g:=λq j=>((y8 rows cs).getD q []).getD j 0) C.n1 C.n3 λq j hq hj=>?_]
 ·exact d
 ·unfold y8
  rw [jB (d:=0) (by rw [C.len]; exact hq)]
theorem Cr.detW (C:Cr rows n cs) (us:List Int):xq (xr rows cs us n)≠0:=by
 rw [kT,(C.sqW us).len,<- zMG C.n1 C.n3,kU (g:=λq j=>(rows.getD (cs.getD q 0) []).getD j 0) C.n1 C.n3 λq j hq hj=>?_]
 ·exact C.detC
 ·unfold xr
  rw [kW hj,jq (by rw [a_]; exact C.len) hq,jB (d:=0) (by rw [C.len]; exact hq)]
theorem Cr.detD (C:Cr rows n cs) (p:Nat) (nu:Int):xq (xQ rows cs p nu n)≠0:=by
 rw [kT,(C.sqD p nu).len,kU (g:=λq j=>(rows.getD (cs.getD q 0) []).getD j 0) C.n1 C.n3 λq j hq hj=>?_]
 ·exact C.detC
 ·unfold xQ
  rw [jB (d:=0) (by rw [C.len]; exact hq),jq (n:=n) (by rw [cU,(C.at_ hq).2]; omega) hj,qR hj]
theorem Cr.detP (C:Cr rows n cs) (p:Nat):xq (vE rows cs p n)≠0:=by
 rw [kT,(C.sqP p).len,kU (g:=λq j=>(rows.getD (cs.getD q 0) []).getD j 0) C.n1 C.n3 λq j hq hj=>?_]
 ·exact C.detC
 ·unfold vE
  rw [kW hq,jq (n:=n) (by rw [cU,(C.at_ hq).2]; omega) hj,qR hj]
def zW (rows:List (List Int)) (cs:List Nat) (n:Nat):List (Int × Int):=yO (y8 rows cs) n
def zg (rows:List (List Int)) (cs:List Nat) (us:List Int) (n:Nat):List (Int × Int):=yO (xr rows cs us n) n
theorem Cr.pt (C:Cr rows n cs) {k:Nat} (h:k < n):vl n (rows.getD (cs.getD k 0) []) (ze (zW rows cs n))=bo n (rows.getD (cs.getD k 0) []):=
 (ug C.sqC C.det).2.2 _ (by
  unfold y8
  exact cP.mpr ⟨_,yc (by rw [C.len]; exact h),rfl⟩)
theorem Cr.wt (C:Cr rows n cs) (us:List Int) {j:Nat} (h:j < n):((us.getD j 0:Int):Rat)=zG n λk=>(((rows.getD (cs.getD k 0) []).getD j 0:Int):Rat) * ze (zg rows cs us n) k:=by
 have z:=(ug (C.sqW us) (C.detW us)).2.2 ((cs.map λc=>(rows.getD c []).getD j 0)++[us.getD j 0]) (by
  unfold xr
  exact cP.mpr ⟨j,dH.mpr h,rfl⟩)
 unfold vl bo at z
 rw [uN (by rw [a_]; exact C.len)] at z
 rw [<- z]
 refine ye λk hk=>?_
 rw [jq (by rw [a_]; exact C.len) hk,jB (d:=0) (by rw [C.len]; exact hk)]
 rfl
theorem Cr.comb (C:Cr rows n cs) (us:List Int) (z:Nat->Rat):vl n us z=zG n λk=>ze (zg rows cs us n) k * vl n (rows.getD (cs.getD k 0) []) z:=by
 unfold vl
 rw [ye (g:=λj=>zG n λk=>ze (zg rows cs us n) k * ((((rows.getD (cs.getD k 0) []).getD j 0:Int):Rat) * z j)) λj hj=>?_,WU]
 ·exact ye λk hk=>vK _ _ n
 ·rw [C.wt us hj,fM,<- vK]
  exact ye λk _=>by grind
theorem Cr.way (C:Cr rows n cs) (p:Nat) (nu:Int) {k:Nat} (h:k < n):vl n (rows.getD (cs.getD k 0) []) (ze (yO (xQ rows cs p nu n) n))=if cs.getD k 0=cs.getD p 0 then (nu:Rat) else 0:=by
 have z:=(ug (C.sqD p nu) (C.detD p nu)).2.2 ((rows.getD (cs.getD k 0) []).take n++[if cs.getD k 0=cs.getD p 0 then nu else 0]) (by
  unfold xQ
  exact cP.mpr ⟨_,yc (by rw [C.len]; exact h),rfl⟩)
 have lt:((rows.getD (cs.getD k 0) []).take n).length=n:=by rw [cU,(C.at_ h).2]; omega
 unfold bo at z
 rw [uN lt] at z
 have e:vl n ((rows.getD (cs.getD k 0) []).take n++[if cs.getD k 0=cs.getD p 0 then nu else 0]) (ze (yO (xQ rows cs p nu n) n))=vl n (rows.getD (cs.getD k 0) []) (ze (yO (xQ rows cs p nu n) n)):=by
  unfold vl
  exact ye λj hj=>by rw [jq lt hj,qR hj]
 rw [<- e,z]
 split <;> rfl
theorem Cr.dual (C:Cr rows n cs) (p:Nat):∃ d:Nat->Rat,∀ k,k < n->vl n (rows.getD (cs.getD k 0) []) d=if k=p then 1 else 0:=by
 refine ⟨ze (yO (vE rows cs p n) n),λk h=>?_⟩
 have z:=(ug (C.sqP p) (C.detP p)).2.2 ((rows.getD (cs.getD k 0) []).take n++[if k=p then 1 else 0]) (by
  unfold vE
  exact cP.mpr ⟨k,dH.mpr h,rfl⟩)
 have lt:((rows.getD (cs.getD k 0) []).take n).length=n:=by rw [cU,(C.at_ h).2]; omega
 unfold bo at z
 rw [uN lt] at z
 have e:vl n ((rows.getD (cs.getD k 0) []).take n++[if k=p then 1 else 0]) (ze (yO (vE rows cs p n) n))=vl n (rows.getD (cs.getD k 0) []) (ze (yO (vE rows cs p n) n)):=by
  unfold vl
  exact ye λj hj=>by rw [jq lt hj,qR hj]
 rw [<- e,z]
 split <;> rfl
theorem Cr.inj (C:Cr rows n cs) {k l:Nat} (hk:k < n) (hl:l < n) (e:cs.getD k 0=cs.getD l 0):k=l:=by
 obtain ⟨d,hd⟩:=C.dual k
 have a:=hd k hk
 have b:=hd l hl
 rw [<- e,a,if_pos rfl] at b
 by_cases z:l=k
 ·exact z.symm
 ·rw [if_neg z] at b
  exact absurd b (by decide)
theorem Cr.nodup (C:Cr rows n cs):cs.Nodup:=by
 refine List.pairwise_iff_getElem.mpr λi j hi hj hij e=>?_
 have:=C.inj (k:=i) (l:=j) (by rw [<- C.len]; exact hi) (by rw [<- C.len]; exact hj) (by
  rw [b',b',b_ hi,b_ hj,e])
 omega
theorem Cr.uniq (C:Cr rows n cs) {v w:Nat->Rat} (h:∀ z,zG n (λk=>v k * vl n (rows.getD (cs.getD k 0) []) z)=zG n (λk=>w k * vl n (rows.getD (cs.getD k 0) []) z)) {p:Nat} (hp:p < n):v p=w p:=by
 obtain ⟨d,hd⟩:=C.dual p
 have z:=h d
 rw [ye (g:=λk=>v k * (if k=p then 1 else 0)) λk hk=>by rw [hd k hk],ye (f:=λk=>w k * _) (g:=λk=>w k * (if k=p then 1 else 0)) λk hk=>by rw [hd k hk],gF hp,gF hp] at z
 grind
theorem Cr.one (C:Cr rows n cs) {z z':Nat->Rat} (h:∀ k,k < n->vl n (rows.getD (cs.getD k 0) []) z=vl n (rows.getD (cs.getD k 0) []) z') {j:Nat} (hj:j < n):z j=z' j:=by
 have e:∀ y:Nat->Rat,vl n ((df n).map λi=>if i=j then 1 else 0) y=y j:=λy=>by
  unfold vl
  rw [ye (g:=λi=>y i * (if i=j then 1 else 0)) λi hi=>?_,gF hj]
  ·grind
  ·rw [kW hi]
   split
   ·show ((1:Int):Rat) * y i=y i * 1
    grind
   ·show ((0:Int):Rat) * y i=y i * 0
    grind
 have a:=C.comb ((df n).map λi=>if i=j then 1 else 0) z
 have b:=C.comb ((df n).map λi=>if i=j then 1 else 0) z'
 rw [e] at a b
 rw [a,b]
 exact ye λk hk=>by rw [h k hk]
theorem Cr.exch (C:Cr rows n cs) {p r:Nat} (hp:p < n) (hr:r < rows.length) (w0:ze (zg rows cs (rows.getD r []) n) p≠0):Cr rows n (cs.set p r):=by
 have lp:p < cs.length:=by rw [C.len]; exact hp
 have D:((xV n (λq j=>if q=p then (rows.getD r []).getD j 0 else (rows.getD (cs.getD q 0) []).getD j 0):Int):Rat)=_:=zMH (f:=λq j=>(rows.getD (cs.getD q 0) []).getD j 0) (R:=λj=>(rows.getD r []).getD j 0) C.n1 C.n3 hp λj hj=>C.wt (rows.getD r []) hj
 refine ⟨C.n1,C.n3,C.row,by rw [dE]; exact C.len,λc hc=>?_,λz=>?_⟩
 ·rcases fu hc with hc | hc
  ·exact C.lt c hc
  ·rw [hc]; exact hr
 ·have e:xq (y8 rows (cs.set p r))=xV n (λq j=>if q=p then (rows.getD r []).getD j 0 else (rows.getD (cs.getD q 0) []).getD j 0):=by
   rw [kT,show (y8 rows (cs.set p r)).length=n by unfold y8; rw [a_,dE,C.len]]
   refine kU C.n1 C.n3 λq j hq hj=>?_
   unfold y8
   rw [jB (d:=0) (by rw [dE,C.len]; exact hq),u9 lp]
   by_cases eq:q=p
   ·rw [if_pos eq,if_pos eq]
   ·rw [if_neg eq,if_neg eq]
  rw [<- e,z] at D
  have c0:((xV n λq j=>(rows.getD (cs.getD q 0) []).getD j 0:Int):Rat)≠0:=λy=>C.detC (by exact_mod_cast y)
  have D':(0:Rat)=ze (zg rows cs (rows.getD r []) n) p * ((xV n λq j=>(rows.getD (cs.getD q 0) []).getD j 0:Int):Rat):=D
  have h:=Rat.mul_eq_zero.mp D'.symm
  rcases h with h | h
  ·exact w0 h
  ·exact c0 h
end
end Sh
set_option linter.all false
namespace Sh
theorem Z7 {α:Type} (S:α->α->Prop) (M:Nat) (h:∀ (B:Nat->α) (m:Nat),(∀ t,t < m->S (B t) (B (t + 1)))->m < M) {P:α->Prop} (step:∀ a,(∀ b,S a b->P b)->P a) (a:α):P a:=by
 apply da
 intro na
 have nx:∀ a:{ a // ¬ P a },∃ b:{ b // ¬ P b },S a.1 b.1:=λa=>by
  apply da
  intro no
  exact a.2 (step a.1 λb sb=>da λnb=>no ⟨⟨b,nb⟩,sb⟩)
 let f:=λa=>Classical.choose (nx a)
 have hf:∀ a,S a.1 (f a).1:=λa=>iq (nx a)
 let B:Nat->{ a // ¬ P a }:=λt=>Nat.rec (⟨a,na⟩:{ a // ¬ P a }) (λ_ b=>f b) t
 have:=h (λt=>(B t).1) M λt _=>hf (B t)
 exact dN _ this
theorem zLi (g:Nat->Rat):∀ l:List Nat,Bl.lsum l g=zG l.length λk=>g (l.getD k 0)
 | []=>rfl
 | a :: l=>by
  rw [Bl.lsum_cons,zLi g l]
  show _=zG (l.length + 1) _
  rw [jp]
  rfl
theorem WW (n:Nat) (r:List Int) (z d:Nat->Rat) (s:Rat):vl n r (λj=>z j + s * d j)=vl n r z + s * vl n r d:=by
 unfold vl
 rw [<- vK,<- qQ]
 exact ye λj _=>by grind
theorem zMn {n:Nat} {r:List Int} {z z':Nat->Rat} (h:∀ j,j < n->z j=z' j):vl n r z=vl n r z':=by
 unfold vl
 exact ye λj hj=>by rw [h j hj]
theorem kX {cs:List Nat} (nd:cs.Nodup) {k:Nat} (h:k < cs.length):cs.idxOf (cs.getD k 0)=k:=by
 rw [b',b_ h]
 exact nd.idxOf_getElem k h
theorem zLe {cs:List Nat} (nd:cs.Nodup) {p r i:Nat} (hp:p < cs.length):i∈cs.set p r ↔ (i∈cs/\i≠cs.getD p 0)\/i=r:=by
 have at_:∀ k,k < cs.length->cs.getD k 0=cs[k]!:=λk hk=>by
  rw [b',b_ hk]
  simp [hk]
 constructor
 ·intro h
  obtain ⟨k,hk,e⟩:=eW h
  rw [dE] at hk
  by_cases z:p=k
  ·rw [iA,if_pos z] at e
   exact .inr e.symm
  ·rw [iA,if_neg z] at e
   refine .inl ⟨by rw [<- e]; exact d6 _,λy=>z ?_⟩
   have e1:=kX nd hp
   rw [<- y,<- e] at e1
   rw [<- e1]
   exact nd.idxOf_getElem k hk
 ·rintro (⟨h,ne⟩ | rfl)
  ·obtain ⟨k,hk,e⟩:=eW h
   have z:p≠k:=λz=>ne (by
    subst z
    rw [<- e,b',b_ hk]
    rfl)
   rw [<- e]
   refine e8.mpr ⟨k,by rw [dE]; exact hk,?_⟩
   rw [iA,if_neg z]
  ·exact e8.mpr ⟨p,by rw [dE]; exact hp,by rw [iA,if_pos rfl]⟩
section
variable (rows:List (List Int)) (n:Nat)
abbrev VA (i:Nat) (z:Nat->Rat):Rat:=vl n (rows.getD i []) z
abbrev BA (i:Nat):Rat:=bo n (rows.getD i [])
abbrev XC (cs:List Nat):Nat->Rat:=ze (zW rows cs n)
abbrev YC (cs:List Nat) (us:List Int):Nat->Rat:=ze (zg rows cs us n)
def Ax (count:Nat) (cs:List Nat):Prop:=∀ i,i < count->∀ k,k < n->count<=cs.getD k 0->YC rows n cs (rows.getD i []) k=0
def Fe (count:Nat) (cs:List Nat):Prop:=∀ i,i < count->VA rows n i (XC rows n cs)<=BA rows n i
end
section
variable {rows:List (List Int)} {n count:Nat} {cs:List Nat} {us:List Int}
theorem Cr.tight (C:Cr rows n cs):∀ i∈cs,VA rows n i (XC rows n cs)=BA rows n i:=λi hi=>by
 obtain ⟨k,hk,e⟩:=eW hi
 have z:=C.pt (k:=k) (by rw [<- C.len]; exact hk)
 have ek:cs.getD k 0=i:=by
  rw [b',b_ hk]
  exact e
 rw [ek] at z
 exact z
theorem Cr.combL (C:Cr rows n cs) (us:List Int) (z:Nat->Rat):vl n us z=Bl.lsum cs λi=>YC rows n cs us (cs.idxOf i) * VA rows n i z:=by
 rw [zLi,C.len,C.comb us z]
 exact ye λk hk=>by rw [kX C.nodup (by rw [C.len]; exact hk)]
theorem Cr.next (C:Cr rows n cs) {p r:Nat} (hp:p < n) (hr:r < rows.length) (w0:YC rows n cs (rows.getD r []) p≠0) (us:List Int) {k:Nat} (hk:k < n) :
  YC rows n (cs.set p r) us k=if k=p then YC rows n cs us p / YC rows n cs (rows.getD r []) p else YC rows n cs us k - YC rows n cs us p / YC rows n cs (rows.getD r []) p * YC rows n cs (rows.getD r []) k:=by
 have C':=C.exch hp hr w0
 have lp:p < cs.length:=by rw [C.len]; exact hp
 generalize hc:YC rows n cs us p / YC rows n cs (rows.getD r []) p=c
 have ec:c * YC rows n cs (rows.getD r []) p=YC rows n cs us p:=by
  rw [<- hc,dG,ef,d9 _ w0,eN]
 refine C'.uniq (v:=YC rows n (cs.set p r) us) (w:=λk=>if k=p then c else YC rows n cs us k - c * YC rows n cs (rows.getD r []) k) (λz=>?_) hk
 rw [<- C'.comb us z]
 have e1:=C.comb us z
 have e2:=C.comb (rows.getD r []) z
 have e:zG n (λk=>(if k=p then c else YC rows n cs us k - c * YC rows n cs (rows.getD r []) k) * vl n (rows.getD ((cs.set p r).getD k 0) []) z)=zG n λk=>(YC rows n cs us k * vl n (rows.getD (cs.getD k 0) []) z + (-c) * (YC rows n cs (rows.getD r []) k * vl n (rows.getD (cs.getD k 0) []) z)) + (vl n (rows.getD r []) z) * (if k=p then c else 0):=ye λk hk=>by
  rw [u9 lp]
  by_cases e:k=p
  ·rw [if_pos e,if_pos e,if_pos e,e,<- ec]
   grind
  ·rw [if_neg e,if_neg e,if_neg e]
   grind
 rw [e,qQ,qQ,vK,<- e1,<- e2,gF hp]
 grind
theorem Ax.exch (C:Cr rows n cs) (A:Ax rows n count cs) (hc:count<=rows.length) {p r:Nat} (hp:p < n) (hr:r < count) (w0:YC rows n cs (rows.getD r []) p≠0):Ax rows n count (cs.set p r):=λi hi k hk hk2=>by
 have lp:p < cs.length:=by rw [C.len]; exact hp
 rw [C.next hp (by omega) w0 _ hk]
 rw [u9 lp] at hk2
 by_cases e:k=p
 ·rw [if_pos e] at hk2
  omega
 ·rw [if_neg e] at hk2 |-
  rw [A i hi k hk hk2,A r hr k hk hk2]
  grind
theorem zLz (C:Cr rows n cs) (hc:count<=rows.length) {r p:Nat} (hr:r < count) (hb:BA rows n r < VA rows n r (XC rows n cs)) (hl:∀ i,i < r->VA rows n i (XC rows n cs)<=BA rows n i) (hp:p < n)
  (fp:0 < YC rows n cs (rows.getD r []) p) (lp:∀ k,k < n->0 < YC rows n cs (rows.getD r []) k->cs.getD p 0<=cs.getD k 0) :
  Bl.FStep (VA rows n) (BA rows n) count cs (cs.set p r) (XC rows n cs) (cs.getD p 0) r λi=>YC rows n cs (rows.getD r []) (cs.idxOf i):=by
 have lcp:p < cs.length:=by rw [C.len]; exact hp
 refine ⟨λi=>zLe C.nodup lcp,C.tight,hb,hr,hl,C.combL _,yc lcp,?_,λi hi lt=>?_⟩
 ·rw [kX C.nodup lcp]
  exact fp
 ·obtain ⟨k,hk,e⟩:=eW hi
  have ek:cs.getD k 0=i:=by
   rw [b',b_ hk]
   exact e
  rw [<- ek] at lt |-
  rw [kX C.nodup hk]
  have:=lp k (by rw [<- C.len]; exact hk)
  grind
def xI (rows:List (List Int)) (n count:Nat) (us:List Int) (cs:List Nat) (k:Nat):Prop:=YC rows n cs us k < 0\/(count<=cs.getD k 0/\YC rows n cs us k≠0)
structure vb (rows:List (List Int)) (n count:Nat) (x d:Nat->Rat) (r:Nat):Prop where
 lt:r < count
 up:0 < VA rows n r d
 first:∀ k,k < r->0 < VA rows n k d->(BA rows n r - VA rows n r x) * VA rows n k d < (BA rows n k - VA rows n k x) * VA rows n r d
 all:∀ k,k < count->0 < VA rows n k d->(BA rows n r - VA rows n r x) * VA rows n k d<=(BA rows n k - VA rows n k x) * VA rows n r d
structure gG (rows:List (List Int)) (n:Nat) (cs:List Nat) (us:List Int) (p:Nat) (d:Nat->Rat):Prop where
 at_:∀ k,k < n->k≠p->VA rows n (cs.getD k 0) d=0
 p:VA rows n (cs.getD p 0) d=if 0 < YC rows n cs us p then 1 else -1
theorem gG.val (C:Cr rows n cs) {p:Nat} (hp:p < n) {d:Nat->Rat} (W:gG rows n cs us p d) (vs:List Int):vl n vs d=YC rows n cs vs p * (if 0 < YC rows n cs us p then 1 else -1):=by
 rw [C.comb vs d,ye (g:=λk=>YC rows n cs vs k * (if k=p then (if 0 < YC rows n cs us p then 1 else -1) else 0)) λk hk=>?_,gF hp]
 by_cases e:k=p
 ·rw [if_pos e,e]
  rw [show vl n (rows.getD (cs.getD p 0) []) d=_ from W.p]
 ·rw [if_neg e,show vl n (rows.getD (cs.getD k 0) []) d=_ from W.at_ k hk e]
theorem WX (C:Cr rows n cs) (hc:count<=rows.length) {p r:Nat} (hp:p < n) {d:Nat->Rat} (W:gG rows n cs us p d) (hr:r < count) (up:0 < VA rows n r d):Cr rows n (cs.set p r)/\YC rows n cs (rows.getD r []) p≠0:=by
 have z:YC rows n cs (rows.getD r []) p≠0:=λz=>by
  have e:=W.val C hp (rows.getD r [])
  have up':0 < vl n (rows.getD r []) d:=up
  rw [e,z] at up'
  grind
 exact ⟨C.exch hp (by omega) z,z⟩
theorem JY (C:Cr rows n cs) (hc:count<=rows.length) {p r:Nat} (hp:p < n) {d:Nat->Rat} (W:gG rows n cs us p d) (hr:r < count) (up:0 < VA rows n r d) {s:Rat} (far:s * VA rows n r d=BA rows n r - VA rows n r (XC rows n cs)) (vs:List Int) :
  vl n vs (XC rows n (cs.set p r))=vl n vs (XC rows n cs) + s * vl n vs d:=by
 have C':=(WX C hc hp W hr up).1
 have lp:p < cs.length:=by rw [C.len]; exact hp
 rw [<- WW]
 refine zMn λj hj=>C'.one (z:=XC rows n (cs.set p r)) (z':=λj=>XC rows n cs j + s * d j) (λk hk=>?_) hj
 have e:vl n (rows.getD ((cs.set p r).getD k 0) []) (XC rows n (cs.set p r))=bo n (rows.getD ((cs.set p r).getD k 0) []):=C'.tight _ (yc (by rw [C'.len]; exact hk))
 rw [e,WW,u9 lp]
 by_cases z:k=p
 ·rw [if_pos z]
  have:s * vl n (rows.getD r []) d=bo n (rows.getD r []) - vl n (rows.getD r []) (XC rows n cs):=far
  grind
 ·rw [if_neg z]
  have h1:vl n (rows.getD (cs.getD k 0) []) d=0:=W.at_ k hk z
  have h2:=C.pt hk
  rw [h1]
  show bo n (rows.getD (cs.getD k 0) [])=vl n (rows.getD (cs.getD k 0) []) (ze (zW rows cs n)) + s * 0
  rw [h2]
  grind
theorem zKN (C:Cr rows n cs) (F:Fe rows n count cs) (hc:count<=rows.length) {p r:Nat} (hp:p < n) (fp:xI rows n count us cs p) (lp:∀ k,k < n->xI rows n count us cs k->cs.getD p 0<=cs.getD k 0) {d:Nat->Rat} (W:gG rows n cs us p d) (M:vb rows n count (XC rows n cs) d r) :
  ∃ s,Bl.CStep (VA rows n) (BA rows n) (vl n us) count cs (cs.set p r) (XC rows n cs) (XC rows n (cs.set p r)) d (cs.getD p 0) r (λi=>YC rows n cs us (cs.idxOf i)) s:=by
 have lcp:p < cs.length:=by rw [C.len]; exact hp
 have ne:VA rows n r d≠0:=λz=>by have:=M.up; rw [z] at this; exact absurd this eX
 have far:((BA rows n r - VA rows n r (XC rows n cs)) / VA rows n r d) * VA rows n r d=BA rows n r - VA rows n r (XC rows n cs):=by
  rw [dG,ef,d9 _ ne,eN]
 have fitI:∀ k,k < n->(xI rows n count us cs k ↔ (YC rows n cs us (cs.idxOf (cs.getD k 0)) < 0\/(count<=cs.getD k 0/\YC rows n cs us (cs.idxOf (cs.getD k 0))≠0))):=λk hk=>by
  rw [kX C.nodup (by rw [C.len]; exact hk)]
  exact Iff.rfl
 refine ⟨(BA rows n r - VA rows n r (XC rows n cs)) / VA rows n r d,λi=>zLe C.nodup lcp,C.tight,F,C.combL us,yc lcp,(fitI p hp).mp fp,λi hi lt=>?_,λi hi ne=>?_,?_,M.lt,M.up,M.first,far,λi=>JY C hc hp W M.lt M.up far _,JY C hc hp W M.lt M.up far us⟩
 ·obtain ⟨k,hk,e⟩:=eW hi
  have ek:cs.getD k 0=i:=by
   rw [b',b_ hk]
   exact e
  rw [<- ek] at lt |-
  have hkn:k < n:=by rw [<- C.len]; exact hk
  intro z
  have:=lp k hkn ((fitI k hkn).mpr z)
  omega
 ·obtain ⟨k,hk,e⟩:=eW hi
  have ek:cs.getD k 0=i:=by
   rw [b',b_ hk]
   exact e
  rw [<- ek] at ne |-
  exact W.at_ k (by rw [<- C.len]; exact hk) λz=>ne (by rw [z])
 ·show VA rows n (cs.getD p 0) d=if 0 < YC rows n cs us (cs.idxOf (cs.getD p 0)) then 1 else -1
  rw [kX C.nodup lcp]
  exact W.p
theorem zN7 (C:Cr rows n cs) (F:Fe rows n count cs) (hc:count<=rows.length) {p r:Nat} (hp:p < n) {d:Nat->Rat} (W:gG rows n cs us p d) (M:vb rows n count (XC rows n cs) d r):Fe rows n count (cs.set p r):=λi hi=>by
 have up:=M.up
 have ne:VA rows n r d≠0:=λz=>by rw [z] at up; exact absurd up eX
 obtain ⟨s,far⟩:∃ s,s * VA rows n r d=BA rows n r - VA rows n r (XC rows n cs):=⟨(BA rows n r - VA rows n r (XC rows n cs)) / VA rows n r d,by
  rw [dG,ef,d9 _ ne,eN]⟩
 have e:VA rows n i (XC rows n (cs.set p r))=VA rows n i (XC rows n cs) + s * VA rows n i d:=JY C hc hp W M.lt up far _
 rw [e]
 have fr:=F r M.lt
 have s0:0<=s:=by
  apply da
  intro c
  have:=dA (show s < 0 by grind) up
  grind
 have fi:=F i hi
 by_cases z:0 < VA rows n i d
 ·have a:=M.all i hi z
  rw [<- far] at a
  apply da
  intro c
  have c':BA rows n i - VA rows n i (XC rows n cs) < s * VA rows n i d:=by grind
  have:=dA c' up
  grind
 ·have:=dJ s0 (show 0<=-(VA rows n i d) by grind)
  grind
end
end Sh
set_option linter.all false
namespace Sh
def zx (pts:List (Int × Int)):Int:=pts.foldl (λD p=>(D * p.2).fdiv (d_ D p.2:Int)) 1
def zq (pts:List (Int × Int)):List Int:=pts.map λp=>p.1 * (zx pts).fdiv p.2
theorem zHo {D b:Int} (hD:0 < D) (hb:0 < b):0 < (D * b).fdiv (d_ D b:Int)/\D ∣ (D * b).fdiv (d_ D b:Int)/\b ∣ (D * b).fdiv (d_ D b:Int):=by
 have g0:(0:Int) < (d_ D b:Int):=by
  have:=Int.gcd_pos_of_ne_zero_left b (show D≠0 by omega)
  omega
 obtain ⟨x,hx⟩:(d_ D b:Int) ∣ D:=k_ ..
 obtain ⟨y,hy⟩:(d_ D b:Int) ∣ b:=i4 ..
 generalize (d_ D b:Int)=g at *
 have e1:(D * b).fdiv g=D * y:=by
  rw [show D * b=(D * y) * g by rw [hy]; grind]
  exact Int.mul_fdiv_cancel _ (by omega)
 have e2:D * y=x * b:=by rw [hx,hy]; grind
 rw [e1]
 refine ⟨?_,⟨y,rfl⟩,⟨x,by rw [e2,fK]⟩⟩
 refine eO hD ?_
 rw [hy] at hb
 rcases zPW hb with ⟨_,z⟩ | ⟨z,_⟩
 ·exact z
 ·omega
theorem JZ:∀ (pts:List (Int × Int)) (D:Int),0 < D->(∀ p∈pts,0 < p.2)->0 < pts.foldl (λD p=>(D * p.2).fdiv (d_ D p.2:Int)) D/\D ∣ pts.foldl (λD p=>(D * p.2).fdiv (d_ D p.2:Int)) D/\∀ p∈pts,p.2 ∣ pts.foldl (λD p=>(D * p.2).fdiv (d_ D p.2:Int)) D
 | [],D,h,_=>⟨h,Int.dvd_refl _,λp hp=>nomatch hp⟩
 | q :: pts,D,h,hp=>by
  obtain ⟨c1,c2,c3⟩:=zHo h (hp q cO)
  obtain ⟨i1,i2,i3⟩:=JZ pts _ c1 λp hp'=>hp p (cK _ hp')
  refine ⟨i1,nH c2 i2,λp hp'=>?_⟩
  rcases de.mp hp' with rfl | hp'
  ·exact nH c3 i2
  ·exact i3 p hp'
theorem WY {pts:List (Int × Int)} (h:∀ p∈pts,0 < p.2):0 < zx pts:=(JZ pts 1 (by decide) h).1
theorem WZ {pts:List (Int × Int)} (h:∀ p∈pts,0 < p.2) {k:Nat} (hk:k < pts.length):(((zq pts).getD k 0:Int):Rat)=(zx pts:Rat) * ze pts k:=by
 obtain ⟨D0,_,dv⟩:=JZ pts 1 (by decide) h
 have hm:=yc (d:=(0,1)) hk
 have p0:=h _ hm
 obtain ⟨c,hc⟩:=dv _ hm
 unfold zq ze
 rw [jB (d:=(0,1)) hk]
 have e:(zx pts).fdiv (pts.getD k (0,1)).2=c:=by
  rw [show zx pts=(pts.getD k (0,1)).2 * c from hc]
  exact i5 _ (by omega)
 rw [e,show zx pts=(pts.getD k (0,1)).2 * c from hc,cM,cM,<- vL p0]
 grind
theorem Z8 (pts:List (Int × Int)):(zq pts).length=pts.length:=by unfold zq; rw [a_]
def jr (count:Nat) (cs:List Nat) (xs:List Int):List Int:=(cs.zip xs).foldl (λns q=>if q.1 < count then ns.set q.1 q.2 else ns) (cS count 0)
theorem zMy {count c:Nat} {ns:List Int} {s:Int} {f:Nat->Rat} (hc:c < count) (hl:ns.length=count):zG count (λi=>(((ns.set c s).getD i 0:Int):Rat) * f i)=zG count (λi=>((ns.getD i 0:Int):Rat) * f i) + ((s:Rat) - ((ns.getD c 0:Int):Rat)) * f c:=by
 have e:zG count (λi=>(((ns.set c s).getD i 0:Int):Rat) * f i)=zG count λi=>((ns.getD i 0:Int):Rat) * f i + f i * (if i=c then ((s:Rat) - ((ns.getD c 0:Int):Rat)) else 0):=ye λi hi=>by
  rw [u9 (by omega)]
  by_cases z:i=c
  ·rw [if_pos z,if_pos z,z]
   grind
  ·rw [if_neg z,if_neg z]
   grind
 rw [e,qQ,gF hc]
 grind
theorem zI7 {count:Nat} (f:Nat->Rat):∀ (cs:List Nat) (xs:List Int) (ns:List Int),ns.length=count->cs.Nodup->cs.length=xs.length->(∀ c∈cs,ns.getD c 0=0)->
  ((cs.zip xs).foldl (λns q=>if q.1 < count then ns.set q.1 q.2 else ns) ns).length=count∧
  zG count (λi=>((((cs.zip xs).foldl (λns q=>if q.1 < count then ns.set q.1 q.2 else ns) ns).getD i 0:Int):Rat) * f i)=zG count (λi=>((ns.getD i 0:Int):Rat) * f i) + zG cs.length λk=>if cs.getD k 0 < count then ((xs.getD k 0:Int):Rat) * f (cs.getD k 0) else 0
 | [],[],ns,hl,_,_,_=>⟨hl,by
  show zG count (λi=>((ns.getD i 0:Int):Rat) * f i)=_ + 0
  grind⟩
 | [],_ :: _,_,_,_,h,_=>nomatch h
 | _ :: _,[],_,_,_,h,_=>nomatch h
 | c :: cs,x :: xs,ns,hl,nd,h,hz=>by
  obtain ⟨nc,nd'⟩:=fI.mp nd
  show ((cs.zip xs).foldl _ (if c < count then ns.set c x else ns)).length=count/\_
  have z:=zI7 (count:=count) f cs xs (if c < count then ns.set c x else ns) (by split <;> simp [hl]) nd' (Nat.succ.inj h) (λc' hc'=>by
   have h0:=hz c' (cK _ hc')
   split
   ·rw [u9 (by omega),if_neg (λe=>nc (by rw [<- e]; exact hc'))]
    exact h0
   ·exact h0)
  refine ⟨z.1,?_⟩
  show zG count (λi=>((((cs.zip xs).foldl (λns q=>if q.1 < count then ns.set q.1 q.2 else ns) (if c < count then ns.set c x else ns)).getD i 0:Int):Rat) * f i)=_
  rw [z.2]
  show _=_ + zG (cs.length + 1) _
  rw [jp]
  show _=_ + ((if c < count then ((x:Int):Rat) * f c else 0) + zG cs.length λk=>if cs.getD k 0 < count then ((xs.getD k 0:Int):Rat) * f (cs.getD k 0) else 0)
  by_cases e:c < count
  ·rw [if_pos e,if_pos e,zMy e hl,hz c cO]
   show _ + ((x:Rat) - ((0:Int):Rat)) * f c + _=_
   grind
  ·rw [if_neg e,if_neg e]
   grind
theorem zOT (count c:Nat):(cS count (0:Int)).getD c 0=0:=by
 rw [b',i9]
 split <;> rfl
theorem Wa {count:Nat} {cs:List Nat} {xs:List Int} (nd:cs.Nodup) (hl:cs.length=xs.length) (f:Nat->Rat):(jr count cs xs).length=count/\zG count (λi=>(((jr count cs xs).getD i 0:Int):Rat) * f i)=zG cs.length λk=>if cs.getD k 0 < count then ((xs.getD k 0:Int):Rat) * f (cs.getD k 0) else 0:=by
 obtain ⟨a,b⟩:=zI7 f cs xs (cS count 0) eY nd hl λc _=>zOT count c
 refine ⟨a,b.trans ?_⟩
 rw [ye (f:=λi=>(((cS count (0:Int)).getD i 0:Int):Rat) * f i) (g:=λ_=>0) λi _=>by rw [zOT]; show ((0:Int):Rat) * f i=0; grind,Z5]
 grind
theorem zKc {count:Nat}:∀ (cs:List Nat) (xs ns:List Int) {x:Int},x∈(cs.zip xs).foldl (λns q=>if q.1 < count then ns.set q.1 q.2 else ns) ns->x∈ns\/∃ k,k < cs.length/\k < xs.length/\cs.getD k 0 < count/\xs.getD k 0=x
 | [],_,ns,x,h=>.inl h
 | _ :: _,[],ns,x,h=>.inl h
 | c :: cs,y :: xs,ns,x,h=>by
  rcases zKc cs xs (if c < count then ns.set c y else ns) h with h | ⟨k,h1,h2,h3,h4⟩
  ·by_cases e:c < count
   ·rw [if_pos e] at h
    rcases fu h with h | h
    ·exact .inl h
    ·exact .inr ⟨0,lE _,lE _,e,h.symm⟩
   ·rw [if_neg e] at h
    exact .inl h
  ·exact .inr ⟨k + 1,fW h1,fW h2,h3,h4⟩
theorem zFz {count:Nat} {cs:List Nat} {xs:List Int} (h:∀ k,k < cs.length->cs.getD k 0 < count->0<=xs.getD k 0):∀ x∈jr count cs xs,0<=x:=λx hx=>by
 rcases zKc cs xs _ hx with z | ⟨k,h1,_,h3,h4⟩
 ·rw [(List.mem_replicate.mp z).2]
  exact ig 0
 ·rw [<- h4]
  exact h k h1 h3
inductive vd where
 | emp (ns:List Int)
 | mst (f:Int × Int) (D:Int) (ns:List Int) (pts:List (Int × Int))
 | opn (pts:List (Int × Int)) (way:List Int)
structure v6 (F:Nat->Prop) (cs:List Nat) (n p:Nat):Prop where
 lt:p < n
 fit:F p
 least:∀ k,k < n->F k->cs.getD p 0<=cs.getD k 0
theorem Ja (F:Nat->Prop) (cs:List Nat) (n:Nat):(∀ k,k < n->¬ F k)\/∃ p,v6 F cs n p:=by
 induction n with
 | zero=>exact .inl λk hk=>absurd hk (eM k)
 | succ n ih=>
  by_cases fn:F n
  ·right
   rcases ih with ih | ⟨p,h1,h2,h3⟩
   ·exact ⟨n,dW n,fn,λk hk fk=>by
     by_cases e:k=n
     ·rw [e]; exact cQ _
     ·exact absurd fk (ih k (by omega))⟩
   ·by_cases le:cs.getD p 0<=cs.getD n 0
    ·exact ⟨p,by omega,h2,λk hk fk=>by
      by_cases e:k=n
      ·rw [e]; exact le
      ·exact h3 k (by omega) fk⟩
    ·exact ⟨n,dW n,fn,λk hk fk=>by
      by_cases e:k=n
      ·rw [e]; exact cQ _
      ·have:=h3 k (by omega) fk
       omega⟩
  ·rcases ih with ih | ⟨p,h1,h2,h3⟩
   ·exact .inl λk hk fk=>by
     by_cases e:k=n
     ·exact fn (e ▸ fk)
     ·exact ih k (by omega) fk
   ·exact .inr ⟨p,by omega,h2,λk hk fk=>by
     by_cases e:k=n
     ·exact absurd (e ▸ fk) fn
     ·exact h3 k (by omega) fk⟩
def ve (y:Rat):Int:=if 0 < y then 1 else -1
def y9 (rows:List (List Int)) (cs:List Nat) (us:List Int) (p n:Nat):List (Int × Int):=yO (xQ rows cs p (ve (YC rows n cs us p)) n) n
section
variable (rows:List (List Int)) (n count:Nat) (us:List Int)
inductive jX:Nat->List Nat->vd->Prop
 | mst {m:Nat} {cs:List Nat} (h:∀ k,k < n->¬ xI rows n count us cs k):jX m cs (.mst (zN (yC us (zW rows cs n)).1 (yC us (zW rows cs n)).2,zK (yC us (zW rows cs n)).1 (yC us (zW rows cs n)).2) (zx (zg rows cs us n)) (jr count cs (zq (zg rows cs us n))) (zW rows cs n))
 | opn {m:Nat} {cs:List Nat} {p:Nat} (h:v6 (xI rows n count us cs) cs n p) (no:∀ k,k < count->¬ 0 < VA rows n k (ze (y9 rows cs us p n))):jX m cs (.opn (zW rows cs n) (zq (y9 rows cs us p n)))
 | go {m:Nat} {cs:List Nat} {p r:Nat} {R:vd} (h:v6 (xI rows n count us cs) cs n p) (M:vb rows n count (XC rows n cs) (ze (y9 rows cs us p n)) r) (z:jX m (cs.set p r) R):jX (m + 1) cs R
def qS (cs:List Nat) (r:Nat):Prop:=r < count/\BA rows n r < VA rows n r (XC rows n cs)/\∀ i,i < r->VA rows n i (XC rows n cs)<=BA rows n i
def zj (w:List (Int × Int)):List (Int × Int):=w.map λp=>(zN (-p.1) p.2,zK (-p.1) p.2)
inductive v8:Nat->List Nat->vd->Prop
 | done {m k:Nat} {cs:List Nat} {R:vd} (h:Fe rows n count cs) (z:jX rows n count us k cs R):v8 m cs R
 | emp {m:Nat} {cs:List Nat} {r:Nat} (h:qS rows n count cs r) (no:∀ k,k < n->¬ 0 < YC rows n cs (rows.getD r []) k):v8 m cs (.emp (jr count (cs++[r]) (zq (zj (zg rows cs (rows.getD r []) n)++[(zN 1 1,zK 1 1)]))))
 | go {m:Nat} {cs:List Nat} {p r:Nat} {R:vd} (h:qS rows n count cs r) (l:v6 (λk=>0 < YC rows n cs (rows.getD r []) k) cs n p) (z:v8 m (cs.set p r) R):v8 (m + 1) cs R
structure Jb (pts:List (Int × Int)):Prop where
 len:pts.length=n
 pos:∀ p∈pts,0 < p.2/\d_ p.1 p.2=1
 fe:∀ i,i < count->VA rows n i (ze pts)<=BA rows n i
def v9:vd->Prop
 | .emp ns=>ns.length=count/\(∀ x∈ns,0<=x)/\(∀ j,j < n->zG count (λi=>((ns.getD i 0:Int):Rat) * (((rows.getD i []).getD j 0:Int):Rat))=0)/\zG count (λi=>((ns.getD i 0:Int):Rat) * BA rows n i) < 0
 | .mst f D ns pts=>Jb rows n count pts/\0 < f.2/\d_ f.1 f.2=1/\0 < D/\ns.length=count/\(∀ x∈ns,0<=x)/\(∀ j,j < n->zG count (λi=>((ns.getD i 0:Int):Rat) * (((rows.getD i []).getD j 0:Int):Rat))=(D:Rat) * ((us.getD j 0:Int):Rat))∧
   zG count (λi=>((ns.getD i 0:Int):Rat) * BA rows n i)=(D:Rat) * zU f/\vl n us (ze pts)=zU f
 | .opn pts way=>Jb rows n count pts/\way.length=n/\(∀ i,i < count->vl n (rows.getD i []) (λj=>((way.getD j 0:Int):Rat))<=0)/\0 < vl n us (λj=>((way.getD j 0:Int):Rat))
end
end Sh
set_option linter.all false
namespace Sh
theorem zPF {rows:List (List Int)} {n:Nat} (h:Sq rows n) (d:xq rows≠0):∀ p∈yO rows n,d_ p.1 p.2=1:=λp hp=>by
 obtain ⟨L,D,S⟩:=JX h d
 rw [Z6 S] at hp
 obtain ⟨i,_,e⟩:=cP.mp hp
 rw [<- e]
 exact zLj S.ne
section
variable {rows:List (List Int)} {n count:Nat} {cs:List Nat} {us:List Int}
theorem Cr.wLen (C:Cr rows n cs) (us:List Int):(zg rows cs us n).length=n/\∀ p∈zg rows cs us n,0 < p.2:=⟨(ug (C.sqW us) (C.detW us)).1,(ug (C.sqW us) (C.detW us)).2.1⟩
theorem Cr.cLen (C:Cr rows n cs):(zW rows cs n).length=n/\∀ p∈zW rows cs n,0 < p.2/\d_ p.1 p.2=1:=⟨(ug C.sqC C.det).1,λp hp=>⟨(ug C.sqC C.det).2.1 p hp,zPF C.sqC C.det p hp⟩⟩
theorem Cr.dLen (C:Cr rows n cs) (us:List Int) (p:Nat):(y9 rows cs us p n).length=n/\∀ q∈y9 rows cs us p n,0 < q.2:=⟨(ug (C.sqD p _) (C.detD p _)).1,(ug (C.sqD p _) (C.detD p _)).2.1⟩
theorem Cr.inR (C:Cr rows n cs) (F:Fe rows n count cs):Jb rows n count (zW rows cs n):=⟨C.cLen.1,C.cLen.2,F⟩
theorem Cr.wayIs (C:Cr rows n cs) {p:Nat} (hp:p < n):gG rows n cs us p (ze (y9 rows cs us p n)):=by
 refine ⟨λk hk ne=>?_,?_⟩
 ·have z:=C.way p (ve (YC rows n cs us p)) hk
  rw [if_neg (λe=>ne (C.inj hk hp e))] at z
  exact z
 ·have z:=C.way p (ve (YC rows n cs us p)) hp
  rw [if_pos rfl] at z
  refine Eq.trans z ?_
  unfold ve
  split <;> rfl
theorem Cr.yL (C:Cr rows n cs) (us:List Int) {k:Nat} (hk:k < n):(((zq (zg rows cs us n)).getD k 0:Int):Rat)=(zx (zg rows cs us n):Rat) * YC rows n cs us k:=WZ (C.wLen us).2 (by rw [(C.wLen us).1]; exact hk)
theorem jt {us:List Int} (lu:us.length=n) (q:Nat->Rat):xH us q=vl n us q:=by
 unfold xH vl
 rw [lu]
theorem Wb {us:List Int} {pts:List (Int × Int)} (lu:us.length=pts.length) (hp:∀ p∈pts,0 < p.2):0 < (yC us pts).2/\(((yC us pts).1:Int):Rat)=xH us (ze pts) * (((yC us pts).2:Int):Rat):=by
 obtain ⟨h1,h2⟩:=zI0 (ze pts) us pts (0,1) 0 lu hp (λj _=>by rw [fL]; rfl) (by decide)
 refine ⟨h1,h2.trans ?_⟩
 show _=xH us (ze pts) * ((((us.zip pts).foldl jT (0,1)).2:Int):Rat)
 congr 1
 have z:zU (0,1)=0:=by
  refine WV (by decide) ?_
  show ((0:Int):Rat)=0 * ((1:Int):Rat)
  rw [mI]
  rfl
 rw [z,Rat.zero_add]
 exact ye λj _=>by rw [fL]
theorem zMO {z:Int} (h:(0:Rat)<=(z:Rat)):0<=z:=by exact_mod_cast h
theorem zNs (C:Cr rows n cs) (F:Fe rows n count cs) (lu:us.length=n) (no:∀ k,k < n->¬ xI rows n count us cs k) :
  v9 rows n count us (.mst (zN (yC us (zW rows cs n)).1 (yC us (zW rows cs n)).2,zK (yC us (zW rows cs n)).1 (yC us (zW rows cs n)).2) (zx (zg rows cs us n)) (jr count cs (zq (zg rows cs us n))) (zW rows cs n)):=by
 have y0:∀ k,k < n->0<=YC rows n cs us k:=λk hk=>by
  have:=no k hk
  unfold xI at this
  grind
 have ya:∀ k,k < n->¬ cs.getD k 0 < count->YC rows n cs us k=0:=λk hk h=>by
  have:=no k hk
  unfold xI at this
  have h':count<=cs.getD k 0:=by omega
  apply da
  intro c
  exact this (.inr ⟨h',c⟩)
 have D0:=WY (C.wLen us).2
 have DQ:=vD D0
 have ll:cs.length=(zq (zg rows cs us n)).length:=by rw [Z8,(C.wLen us).1,C.len]
 have sm:∀ f:Nat->Rat,zG count (λi=>(((jr count cs (zq (zg rows cs us n))).getD i 0:Int):Rat) * f i)=(zx (zg rows cs us n):Rat) * zG n λk=>YC rows n cs us k * f (cs.getD k 0):=λf=>by
  rw [(Wa C.nodup ll f).2,C.len,<- vK]
  refine ye λk hk=>?_
  by_cases e:cs.getD k 0 < count
  ·rw [if_pos e,C.yL us hk]
   grind
  ·rw [if_neg e,ya k hk e]
   grind
 obtain ⟨a1,a2⟩:=Wb (us:=us) (pts:=zW rows cs n) (by rw [C.cLen.1]; exact lu) λp hp=>(C.cLen.2 p hp).1
 have ne:(yC us (zW rows cs n)).2≠0:=by omega
 have vq:vl n us (ze (zW rows cs n))=zU (zN (yC us (zW rows cs n)).1 (yC us (zW rows cs n)).2,zK (yC us (zW rows cs n)).1 (yC us (zW rows cs n)).2):=by
  rw [(jA ne).2,a2,jt lu,dG,ef,dF _ (λz=>ne (by exact_mod_cast z)),eN]
 refine ⟨C.inR F,u4 ne,zLj ne,D0,(Wa C.nodup ll λ_=>0).1,zFz λk hk _=>?_,λj hj=>?_,?_,vq⟩
 ·refine zMO ?_
  rw [C.yL us (by rw [<- C.len]; exact hk)]
  exact dJ (dU DQ) (y0 k (by rw [<- C.len]; exact hk))
 ·rw [sm,C.wt us hj]
  congr 1
  exact ye λk _=>by grind
 ·rw [sm,<- vq,C.comb us]
  congr 1
  exact ye λk hk=>by rw [show vl n (rows.getD (cs.getD k 0) []) (ze (zW rows cs n))=_ from C.pt hk]
theorem zNr (C:Cr rows n cs) (F:Fe rows n count cs) {p:Nat} (h:v6 (xI rows n count us cs) cs n p) (no:∀ k,k < count->¬ 0 < VA rows n k (ze (y9 rows cs us p n))):v9 rows n count us (.opn (zW rows cs n) (zq (y9 rows cs us p n))):=by
 have W:=C.wayIs (us:=us) h.lt
 have D0:=vD (WY (C.dLen us p).2)
 have e:∀ vs:List Int,vl n vs (λj=>(((zq (y9 rows cs us p n)).getD j 0:Int):Rat))=(zx (y9 rows cs us p n):Rat) * vl n vs (ze (y9 rows cs us p n)):=λvs=>by
  unfold vl
  rw [<- vK]
  exact ye λj hj=>by
   show ((vs.getD j 0:Int):Rat) * (((zq (y9 rows cs us p n)).getD j 0:Int):Rat)=_
   rw [WZ (C.dLen us p).2 (by rw [(C.dLen us p).1]; exact hj)]
   grind
 refine ⟨C.inR F,by rw [Z8]; exact (C.dLen us p).1,λi hi=>?_,?_⟩
 ·rw [e]
  have:=no i hi
  have:=dJ (dU D0) (show 0<=-(VA rows n i (ze (y9 rows cs us p n))) by grind)
  grind
 ·rw [e,W.val C h.lt us]
  refine ie D0 ?_
  have:=h.fit
  unfold xI at this
  by_cases c:0 < YC rows n cs us p
  ·rw [if_pos c]; grind
  ·rw [if_neg c]; grind
theorem zMr (w:List (Int × Int)):(zj w).length=w.length:=by unfold zj; rw [a_]
theorem zMq {w:List (Int × Int)} (h:∀ p∈w,0 < p.2):∀ p∈zj w,0 < p.2:=λp hp=>by
 obtain ⟨q,hq,e⟩:=cP.mp hp
 rw [<- e]
 exact u4 (by have:=h q hq; omega)
theorem zMp {w:List (Int × Int)} (h:∀ p∈w,0 < p.2) {k:Nat} (hk:k < w.length):ze (zj w) k = -(ze w k):=by
 unfold ze zj
 rw [jB (d:=(0,1)) hk]
 have p0:=h _ (yc (d:=(0,1)) hk)
 rw [(jA (by omega)).2]
 unfold zU
 rw [iJ,dG,dG]
 grind
theorem zNt (C:Cr rows n cs) (A:Ax rows n count cs) {r:Nat} (h:qS rows n count cs r) (no:∀ k,k < n->¬ 0 < YC rows n cs (rows.getD r []) k) :
  v9 rows n count us (.emp (jr count (cs++[r]) (zq (zj (zg rows cs (rows.getD r []) n)++[(zN 1 1,zK 1 1)])))):=by
 obtain ⟨r1,r2,r3⟩:=h
 have nr:r∉cs:=λz=>by
  have:=C.tight r z
  grind
 have nd:(cs++[r]).Nodup:=List.nodup_append.mpr ⟨C.nodup,by simp,λa ha b hb=>by
  rw [dh.mp hb]
  exact λe=>nr (e ▸ ha)⟩
 obtain ⟨wl,wp⟩:=C.wLen (rows.getD r [])
 generalize hw:zg rows cs (rows.getD r []) n=w at *
 have tl:(zj w).length=n:=by rw [zMr,wl]
 have pp:∀ p∈zj w++[(zN 1 1,zK 1 1)],0 < p.2:=λp hp=>by
  rcases dX.mp hp with hp | hp
  ·exact zMq wp p hp
  ·rw [dh.mp hp]
   exact u4 (t:=1) (b:=1) (by decide)
 have ll:(zj w++[(zN 1 1,zK 1 1)]).length=n + 1:=by rw [cJ,tl]; rfl
 have D0:=WY pp
 have DQ:=vD D0
 have yk:∀ k,k < n->ze (zj w++[(zN 1 1,zK 1 1)]) k = -(YC rows n cs (rows.getD r []) k):=λk hk=>by
  have e:ze (zj w++[(zN 1 1,zK 1 1)]) k=ze (zj w) k:=by
   unfold ze
   rw [b',dR (by omega),<- b']
  rw [e,zMp wp (by omega),<- hw]
 have yn:ze (zj w++[(zN 1 1,zK 1 1)]) n=1:=by
  unfold ze
  rw [b',dC (by omega),tl,fN]
  show zU (zN 1 1,zK 1 1)=1
  rw [(jA (by decide)).2,dG]
  show ((1:Int):Rat) * ((1:Int):Rat)⁻¹=1
  exact dF _ (by decide)
 have lcs:(cs++[r]).length=n + 1:=by rw [cJ,C.len]; rfl
 have lx:(cs++[r]).length=(zq (zj w++[(zN 1 1,zK 1 1)])).length:=by rw [lcs,Z8,ll]
 have atk:∀ k,k < n->(cs++[r]).getD k 0=cs.getD k 0:=λk hk=>by
  rw [b',dR (by rw [C.len]; exact hk),<- b']
 have atn:(cs++[r]).getD n 0=r:=by
  rw [b',dC (by rw [C.len]; exact cQ _),C.len,fN]
  rfl
 have xk:∀ k,k < n + 1->(((zq (zj w++[(zN 1 1,zK 1 1)])).getD k 0:Int):Rat)=(zx (zj w++[(zN 1 1,zK 1 1)]):Rat) * ze (zj w++[(zN 1 1,zK 1 1)]) k:=λk hk=>WZ pp (by rw [ll]; exact hk)
 have sm:∀ f:Nat->Rat,zG count (λi=>(((jr count (cs++[r]) (zq (zj w++[(zN 1 1,zK 1 1)]))).getD i 0:Int):Rat) * f i)=(zx (zj w++[(zN 1 1,zK 1 1)]):Rat) * (f r - zG n λk=>YC rows n cs (rows.getD r []) k * f (cs.getD k 0)):=λf=>by
  rw [(Wa nd lx f).2,lcs]
  show zG n _ + (if (cs++[r]).getD n 0 < count then (((zq (zj w++[(zN 1 1,zK 1 1)])).getD n 0:Int):Rat) * f ((cs++[r]).getD n 0) else 0)=_
  rw [atn,if_pos r1,xk n (by omega),yn]
  have e:zG n (λk=>if (cs++[r]).getD k 0 < count then (((zq (zj w++[(zN 1 1,zK 1 1)])).getD k 0:Int):Rat) * f ((cs++[r]).getD k 0) else 0)=(-(zx (zj w++[(zN 1 1,zK 1 1)]):Rat)) * zG n λk=>YC rows n cs (rows.getD r []) k * f (cs.getD k 0):=by
   rw [<- vK]
   refine ye λk hk=>?_
   rw [atk k hk]
   by_cases c:cs.getD k 0 < count
   ·rw [if_pos c,xk k (by omega),yk k hk]
    grind
   ·rw [if_neg c,A r r1 k hk (by omega)]
    grind
  rw [e]
  grind
 refine ⟨(Wa nd lx λ_=>0).1,zFz λk hk _=>?_,λj hj=>?_,?_⟩
 ·refine zMO ?_
  rw [lcs] at hk
  rw [xk k hk]
  refine dJ (dU DQ) ?_
  by_cases e:k=n
  ·rw [e,yn]; decide
  ·rw [yk k (by omega)]
   have:=no k (by omega)
   grind
 ·rw [sm,C.wt (rows.getD r []) hj]
  rw [show (zG n λk=>(((rows.getD (cs.getD k 0) []).getD j 0:Int):Rat) * ze (zg rows cs (rows.getD r []) n) k)=zG n λk=>YC rows n cs (rows.getD r []) k * (((rows.getD (cs.getD k 0) []).getD j 0:Int):Rat) from ye λk _=>fM _ _]
  grind
 ·rw [sm]
  have e:(zG n λk=>YC rows n cs (rows.getD r []) k * BA rows n (cs.getD k 0))=VA rows n r (XC rows n cs):=by
   show _=vl n (rows.getD r []) (ze (zW rows cs n))
   rw [C.comb (rows.getD r [])]
   exact ye λk hk=>by rw [show vl n (rows.getD (cs.getD k 0) []) (ze (zW rows cs n))=_ from C.pt hk]
  rw [e]
  have:=iK (show BA rows n r - VA rows n r (XC rows n cs) < 0 by grind) DQ
  grind
end
end Sh
set_option linter.all false
namespace Sh
theorem zJb {a1 b1 a2 b2 a3 b3:Rat} (p1:0 < b1) (p2:0 < b2) (p3:0 < b3) (h:a1 * b2 < a2 * b1) (k:a2 * b3<=a3 * b2):a1 * b3 < a3 * b1:=by
 apply da
 intro c
 have c':a3 * b1<=a1 * b3:=by grind
 have x:=dA h p3
 have y:=dM k (dU p1)
 have z:=dM c' (dU p2)
 grind
theorem Jc (rows:List (List Int)) (n:Nat) (x d:Nat->Rat):∀ count:Nat,(∀ k,k < count->¬ 0 < VA rows n k d)\/∃ r,vb rows n count x d r
 | 0=>.inl λk hk=>absurd hk (eM k)
 | c + 1=>by
  by_cases p:0 < VA rows n c d
  ·right
   rcases Jc rows n x d c with no | ⟨r,h1,h2,h3,h4⟩
   ·exact ⟨c,dW c,p,λk hk z=>absurd z (no k hk),λk hk z=>by
     by_cases e:k=c
     ·rw [e]; exact fZ
     ·exact absurd z (no k (by omega))⟩
   ·by_cases lt:(BA rows n c - VA rows n c x) * VA rows n r d < (BA rows n r - VA rows n r x) * VA rows n c d
    ·have all:∀ k,k < c->0 < VA rows n k d->(BA rows n c - VA rows n c x) * VA rows n k d < (BA rows n k - VA rows n k x) * VA rows n c d:=λk hk z=>zJb p h2 z lt (h4 k hk z)
     exact ⟨c,dW c,p,all,λk hk z=>by
      by_cases e:k=c
      ·rw [e]; exact fZ
      ·exact dU (all k (by omega) z)⟩
    ·exact ⟨r,by omega,h2,h3,λk hk z=>by
      by_cases e:k=c
      ·rw [e]; grind
      ·exact h4 k (by omega) z⟩
  ·rcases Jc rows n x d c with no | ⟨r,h1,h2,h3,h4⟩
   ·exact .inl λk hk z=>by
     by_cases e:k=c
     ·exact p (e ▸ z)
     ·exact no k (by omega) z
   ·exact .inr ⟨r,by omega,h2,h3,λk hk z=>by
     by_cases e:k=c
     ·exact absurd (e ▸ z) p
     ·exact h4 k (by omega) z⟩
theorem zJU (P:Nat->Prop):∀ c:Nat,(∀ i,i < c->¬ P i)\/∃ r,r < c/\P r/\∀ i,i < r->¬ P i
 | 0=>.inl λk hk=>absurd hk (eM k)
 | c + 1=>by
  rcases zJU P c with no | ⟨r,h1,h2,h3⟩
  ·by_cases p:P c
   ·exact .inr ⟨c,dW c,p,no⟩
   ·exact .inl λi hi z=>by
     by_cases e:i=c
     ·exact p (e ▸ z)
     ·exact no i (by omega) z
  ·exact .inr ⟨r,by omega,h2,h3⟩
section
variable {rows:List (List Int)} {n count:Nat} {us:List Int}
theorem zJe {S:List Nat->List Nat->Prop} {B:Nat->List Nat} {m:Nat} (hS:∀ a b,S a b->Cr rows n a/\Cr rows n b) (h:∀ t,t < m->S (B t) (B (t + 1))) (m0:0 < m):∀ t,t<=m->(B t).length=n/\∀ i∈B t,i < rows.length:=λt ht=>by
 have C:Cr rows n (B t):=by
  by_cases e:t < m
  ·exact (hS _ _ (h t e)).1
  ·have z:=(hS _ _ (h (t - 1) (by omega))).2
   rw [show t - 1 + 1=t by omega] at z
   exact z
 exact ⟨C.len,C.lt⟩
theorem zN6 (hc:count<=rows.length) (lu:us.length=n) (cs:List Nat):Cr rows n cs->Fe rows n count cs->∃ m R,jX rows n count us m cs R/\v9 rows n count us R:=by
 refine Z7 (λcs cs'=>(Cr rows n cs/\Cr rows n cs')/\∃ q:(Nat->Rat) × Nat × Nat × (Nat->Rat) × Rat,Bl.CStep (VA rows n) (BA rows n) (vl n us) count cs cs' (XC rows n cs) (XC rows n cs') q.1 q.2.1 q.2.2.1 q.2.2.2.1 q.2.2.2.2) (rows.length ^ n + 1) (λB m h=>?_)
  (P:=λcs=>Cr rows n cs->Fe rows n count cs->∃ m R,jX rows n count us m cs R/\v9 rows n count us R) (λcs ih C F=>?_) cs
 ·by_cases m0:0 < m
  ·have F:∀ t,∃ q:(Nat->Rat) × Nat × Nat × (Nat->Rat) × Rat,t < m->Bl.CStep (VA rows n) (BA rows n) (vl n us) count (B t) (B (t + 1)) (XC rows n (B t)) (XC rows n (B (t + 1))) q.1 q.2.1 q.2.2.1 q.2.2.2.1 q.2.2.2.2:=λt=>by
    by_cases e:t < m
    ·obtain ⟨q,hq⟩:=(h t e).2
     exact ⟨q,λ_=>hq⟩
    ·exact ⟨(λ_=>0,0,0,λ_=>0,0),λz=>absurd z e⟩
   obtain ⟨f,hf⟩:=i_ F
   have:=Bl.climb_few (B:=B) (x:=λt=>XC rows n (B t)) (d:=λt=>(f t).1) (p:=λt=>(f t).2.1) (r:=λt=>(f t).2.2.1) (y:=λt=>(f t).2.2.2.1) (s:=λt=>(f t).2.2.2.2) (N:=rows.length) (n:=n) hf (zJe (S:=λa b=>Cr rows n a/\Cr rows n b) (λa b z=>z) (λt ht=>(h t ht).1) m0)
   omega
  ·omega
 ·rcases Ja (xI rows n count us cs) cs n with no | ⟨p,L⟩
  ·exact ⟨0,_,.mst no,zNs C F lu no⟩
  ·have W:=C.wayIs (us:=us) L.lt
   rcases Jc rows n (XC rows n cs) (ze (y9 rows cs us p n)) count with no | ⟨r,M⟩
   ·exact ⟨0,_,.opn L no,zNr C F L no⟩
   ·have C':=(WX C hc L.lt W M.lt M.up).1
    obtain ⟨s,st⟩:=zKN C F hc L.lt L.fit L.least W M
    obtain ⟨m,R,h1,h2⟩:=ih _ ⟨⟨C,C'⟩,(_,_,_,_,_),st⟩ C' (zN7 C F hc L.lt W M)
    exact ⟨m + 1,R,.go L M h1,h2⟩
theorem zP1 (hc:count<=rows.length) (lu:us.length=n) (cs:List Nat):Cr rows n cs->Ax rows n count cs->∃ m R,v8 rows n count us m cs R/\v9 rows n count us R:=by
 refine Z7 (λcs cs'=>(Cr rows n cs/\Cr rows n cs')/\∃ q:Nat × Nat × (Nat->Rat),Bl.FStep (VA rows n) (BA rows n) count cs cs' (XC rows n cs) q.1 q.2.1 q.2.2) (rows.length ^ n + 1) (λB m h=>?_)
  (P:=λcs=>Cr rows n cs->Ax rows n count cs->∃ m R,v8 rows n count us m cs R/\v9 rows n count us R) (λcs ih C A=>?_) cs
 ·by_cases m0:0 < m
  ·have F:∀ t,∃ q:Nat × Nat × (Nat->Rat),t < m->Bl.FStep (VA rows n) (BA rows n) count (B t) (B (t + 1)) (XC rows n (B t)) q.1 q.2.1 q.2.2:=λt=>by
    by_cases e:t < m
    ·obtain ⟨q,hq⟩:=(h t e).2
     exact ⟨q,λ_=>hq⟩
    ·exact ⟨(0,0,λ_=>0),λz=>absurd z e⟩
   obtain ⟨f,hf⟩:=i_ F
   have:=Bl.feas_few (B:=B) (x:=λt=>XC rows n (B t)) (p:=λt=>(f t).1) (r:=λt=>(f t).2.1) (w:=λt=>(f t).2.2) (N:=rows.length) (n:=n) hf (zJe (S:=λa b=>Cr rows n a/\Cr rows n b) (λa b z=>z) (λt ht=>(h t ht).1) m0)
   omega
  ·omega
 ·rcases zJU (λi=>BA rows n i < VA rows n i (XC rows n cs)) count with no | ⟨r,r1,r2,r3⟩
  ·have F:Fe rows n count cs:=λi hi=>by
    have:=no i hi
    grind
   obtain ⟨k,R,h1,h2⟩:=zN6 hc lu cs C F
   exact ⟨0,R,.done F h1,h2⟩
  ·have FB:qS rows n count cs r:=⟨r1,r2,λi hi=>by
    have:=r3 i hi
    grind⟩
   rcases Ja (λk=>0 < YC rows n cs (rows.getD r []) k) cs n with no | ⟨p,L⟩
   ·exact ⟨0,_,.emp FB no,zNt C A FB no⟩
   ·have w0:YC rows n cs (rows.getD r []) p≠0:=λz=>by
     have:=L.fit
     rw [z] at this
     exact absurd this eX
    have C':=C.exch L.lt (by omega) w0
    obtain ⟨m,R,h1,h2⟩:=ih _ ⟨⟨C,C'⟩,(_,_,_),zLz C hc r1 r2 FB.2.2 L.lt L.fit L.least⟩ C' (A.exch C hc L.lt r1 w0)
    exact ⟨m + 1,R,.go FB L h1,h2⟩
end
end Sh
set_option linter.all false
namespace Sh
def vg (rows:List (List Int)) (n count:Nat) (us:List Int) (cs:List Nat) (k:Nat):Prop:=count<=cs.getD k 0/\YC rows n cs us k≠0
open Classical in
noncomputable def FC (rows:List (List Int)) (n count:Nat):Nat->List Nat
 | 0=>(df n).map λk=>count + k
 | i + 1=>if h:∃ p,v6 (vg rows n count (rows.getD i []) (FC rows n count i)) (FC rows n count i) n p then (FC rows n count i).set (Classical.choose h) i else FC rows n count i
structure uO (rows:List (List Int)) (n count:Nat):Prop where
 n1:1<=n
 n3:n<=2
 row:∀ r∈rows,r.length=n + 1
 len:rows.length=count + n
 ax:∀ k,k < n->∀ j,j < n->(rows.getD (count + k) []).getD j 0=if j=k then 1 else 0
section
variable {rows:List (List Int)} {n count:Nat}
theorem zQH (h:uO rows n count):Cr rows n (FC rows n count 0):=by
 have n1:=h.n1
 have n3:=h.n3
 have hl:(FC rows n count 0).length=n:=by
  show ((df n).map λk=>count + k).length=n
  rw [a_,cX]
 refine ⟨n1,n3,h.row,hl,λc hc=>?_,?_⟩
 ·have hc':c∈(df n).map λk=>count + k:=hc
  obtain ⟨k,hk,e⟩:=cP.mp hc'
  have:=dH.mp hk
  have:=h.len
  omega
 ·rw [kT,show (y8 rows (FC rows n count 0)).length=n by unfold y8; rw [a_,hl],kU (g:=λq j=>if j=q then 1 else 0) n1 n3 λq j hq hj=>?_]
  ·rcases (by omega:n=1\/n=2\/n=3) with rfl | rfl | rfl <;> decide
  ·unfold y8
   rw [jB (d:=0) (by rw [hl]; exact hq)]
   show (rows.getD (((df n).map λk=>count + k).getD q 0) []).getD j 0=_
   rw [kW hq]
   exact h.ax q hq j hj
theorem v6.one {F:Nat->Prop} {cs:List Nat} {p q:Nat} (C:Cr rows n cs) (h:v6 F cs n p) (k:v6 F cs n q):p=q:=C.inj h.lt k.lt (Nat.le_antisymm (h.least q k.lt k.fit) (k.least p h.lt h.fit))
open Classical in
theorem zL2 (i:Nat) (C:Cr rows n (FC rows n count i)) {p:Nat} (h:v6 (vg rows n count (rows.getD i []) (FC rows n count i)) (FC rows n count i) n p):FC rows n count (i + 1)=(FC rows n count i).set p i:=by
 have ex:∃ p,v6 (vg rows n count (rows.getD i []) (FC rows n count i)) (FC rows n count i) n p:=⟨p,h⟩
 show (if h:_ then _ else _)=_
 rw [dif_pos ex,v6.one C (iq ex) h]
open Classical in
theorem Jd (i:Nat) (h:∀ k,k < n->¬ vg rows n count (rows.getD i []) (FC rows n count i) k):FC rows n count (i + 1)=FC rows n count i:=by
 show (if h:_ then _ else _)=_
 rw [dif_neg λ⟨p,z⟩=>h p z.lt z.fit]
theorem Je (h:uO rows n count):∀ i,i<=count->Cr rows n (FC rows n count i)/\∀ a,a < i->∀ k,k < n->count<=(FC rows n count i).getD k 0->YC rows n (FC rows n count i) (rows.getD a []) k=0
 | 0,_=>⟨zQH h,λa ha=>absurd ha (eM a)⟩
 | i + 1,hi=>by
  obtain ⟨C,A⟩:=Je h i (by omega)
  have hl:=h.len
  rcases Ja (vg rows n count (rows.getD i []) (FC rows n count i)) (FC rows n count i) n with no | ⟨p,L⟩
  ·rw [Jd i no]
   refine ⟨C,λa ha k hk hc=>?_⟩
   by_cases e:a=i
   ·rw [e]
    apply da
    intro z
    exact no k hk ⟨hc,z⟩
   ·exact A a (by omega) k hk hc
  ·rw [zL2 i C L]
   have w0:=L.fit.2
   have lp:p < (FC rows n count i).length:=by rw [C.len]; exact L.lt
   refine ⟨C.exch L.lt (by omega) w0,λa ha k hk hc=>?_⟩
   rw [C.next L.lt (by omega) w0 _ hk]
   rw [u9 lp] at hc
   by_cases e:k=p
   ·rw [if_pos e] at hc
    omega
   ·rw [if_neg e] at hc |-
    by_cases ea:a=i
    ·rw [ea,dG,dF _ w0]
     grind
    ·rw [A a (by omega) k hk hc,A a (by omega) p L.lt L.fit.1,dG]
     grind
theorem Jf (h:uO rows n count) (i:Nat) (hi:i<=count):Cr rows n (FC rows n count i):=(Je h i hi).1
theorem zL1 {i:Nat} (h:∀ k,k < n->¬ count<=(FC rows n count i).getD k 0):∀ j,FC rows n count (i + j)=FC rows n count i
 | 0=>rfl
 | j + 1=>by
  have z:=zL1 h j
  have e:=Jd (rows:=rows) (n:=n) (count:=count) (i + j) λk hk f=>h k hk (by
   have:=f.1
   rw [z] at this
   exact this)
  show FC rows n count (i + j + 1)=_
  rw [e,z]
theorem zNf {us:List Int} (h:uO rows n count) (lu:us.length=n):∃ m R,v8 rows n count us m (FC rows n count count) R/\v9 rows n count us R:=by
 obtain ⟨C,A⟩:=Je h count (cQ _)
 exact zP1 (by have:=h.len; omega) lu _ C A
end
end Sh
namespace L2
open PySem PySem.Spec PyProof.Rows
def uA (t:Bool) (K:cI) (H:Hp) (a:Addr) (xs:List V):Prop:=match t with
 | true=>yj K H a xs
 | false=>zp K H a xs
def uh (t:Bool) (h:Heap) (a:Addr) (its:Array Value):Prop:=match t with
 | true=>h.IsTuple a its
 | false=>h.IsList a its
def ju (t:Bool) (h:Heap) (i a:Addr) (n:Nat):Prop:=match t with
 | true=>h.IsTupleIter i a n
 | false=>h.IsListIter i a n
def qU (t:Bool) (a:Addr):Obj:=match t with
 | true=>{ cls:=.type "tuple_iterator",data:=.fields #[.ref a,.int 0 0] }
 | false=>{ cls:=.type "list_iterator",data:=.fields #[.ref a,.int 0 0] }
section
variable {X:Cx} {pins:List (Addr × Obj)} {σ:St} {H:Hp} {s:Shared} {a i:Addr} {xs ys:List V} {h h':Heap} {n:Nat} {its:Array Value} {prog:Program} {w:World} {A:Around} {E:Value->Shared->Prop}
theorem Wc:∀ {t:Bool},ju t h i a n->∃ o,h.get? i=some o/\∀ v,o.data≠.cell v
 | true,⟨o,e,_,d⟩=>⟨o,e,by rw [d]; exact Zm⟩
 | false,⟨o,e,_,d⟩=>⟨o,e,by rw [d]; exact Zm⟩
theorem We (k:∀ o,h.get? i=some o->h'.get? i=some o):∀ {t:Bool},ju t h i a n->ju t h' i a n
 | true,⟨o,e,r⟩=>⟨o,k o e,r⟩
 | false,⟨o,e,r⟩=>⟨o,k o e,r⟩
theorem zSQ (k:∀ o,h.get? a=some o->h'.get? a=some o):∀ {t:Bool},uh t h a its->uh t h' a its
 | true,⟨o,e,r⟩=>⟨o,k o e,r⟩
 | false,⟨o,e,r⟩=>⟨o,k o e,r⟩
theorem zOl:∀ {t:Bool},uh t h a its->a < h.objs.size
 | true,⟨_,e,_⟩=>cZ e
 | false,⟨_,e,_⟩=>cZ e
theorem zSR (e:h.get? i=some (qU t a)):ju t h i a 0:=by
 cases t
 ·exact ⟨_,e,rfl,rfl⟩
 ·exact ⟨_,e,rfl,rfl⟩
theorem zSP {t:Bool}:(qU t a).isFreed=false:=by cases t <;> rfl
theorem kY (I:zE X pins σ H s):∀ {t:Bool},uA t X.K H a xs->∃ its:List Value,zM xs its/\uh t s.heap a its.toArray
 | true,q=>let ⟨its,r,p,_⟩:=I.tuple q; ⟨its,r,p⟩
 | false,q=>let ⟨its,r,p,_⟩:=I.list q; ⟨its,r,p.isList⟩
theorem zKb (I:zE X pins σ H s):∀ {t:Bool},uA t X.K H a xs->uA t X.K H a ys->xs=ys
 | true,q,r=>I.tuple_inj q r
 | false,q,r=>I.list_inj q r
theorem Wf (hh:A.handled=none) (hne:a≠i) (its:Array Value):∀ t:Bool,Draws prog w A i [i,a] its.size (λn v=>its[n]? = some v) (λn h=>ju t h i a n/\uh t h a its)
 | true=>zME hh i a hne its
 | false=>Draws.list hh i a hne its
theorem zSN {Q:Value->Shared->Prop}:∀ {t:Bool},uh t s.heap a its->Q (.ref s.heap.objs.size) { s with heap:=s.heap.push (qU t a) }->wpAny (model prog w) A (pyIter (.ref a)) Q E s
 | true,q,r=>wpAny_pyIter_tuple q r
 | false,q,r=>wpAny_pyIter_list q r
end
def Jg (t u:Bool) (K:cI) (a b:Addr):It:=
 ⟨λi H=>∃ xs ys x y,uA t K H a xs/\uA u K H b ys/\xs[i]? = some x/\ys[i]? = some y,
  λi H v H'=>∃ T x y,v=.ref T/\H T=none/\H'=zh H T (.tup [x,y])/\(∀ xs,uA t K H a xs->xs[i]? = some x)/\∀ ys,uA u K H b ys->ys[i]? = some y,
  λi H=>∃ xs ys,uA t K H a xs/\uA u K H b ys/\i<=xs.length/\i<=ys.length/\(i=xs.length\/i=ys.length)⟩
theorem zKU {t u:Bool} {P:Program} {w:World} {K:cI} {es:List Expr} {kk:Nat} {tp:Pos} {a b z TI TO i1 i2:Addr} (Z:Zp z TI TO i1 i2 [i1,a] [i2,b]) (na:a≠i1) (nb:b≠i2) :
  vT P w K (.Tuple es kk tp) (Jg t u K a b) [z,TI,TO,i1,i2] z (λi h=>IsZip h z TI TO .none/\IsPair h TI (.ref i1) (.ref i2)/\(∃ x y,IsPair h TO x y)/\ju t h i1 a i/\ju u h i2 b i) where
 mem:=by simp
 obj:=λi h ⟨t1,t2,⟨x,y,t3⟩,t4,t5⟩ c hc=>by
  simp only [de,d7,or_false] at hc
  rcases hc with rfl | rfl | rfl | rfl | rfl
  ·exact ⟨_,t1,Zm⟩
  ·exact ⟨_,t2,zE2⟩
  ·exact ⟨_,t3,zE2⟩
  ·exact Wc t4
  ·exact Wc t5
 keep:=λi h h' ⟨t1,t2,⟨x,y,t3⟩,t4,t5⟩ k=>⟨k z (by simp) _ t1,k TI (by simp) _ t2,⟨x,y,k TO (by simp) _ t3⟩,We (k i1 (by simp)) t4,We (k i2 (by simp)) t5⟩
 item:=by
  intro X hP hw hK hc i pins s σ H E I hf ⟨t1,t2,⟨x0,y0,t3⟩,t4,t5⟩ hg
  subst hP hw hK
  obtain ⟨xs,ys,x,y,hq1,hq2,hx,hy⟩:=hg
  obtain ⟨its1,rv1,p1⟩:=kY I hq1
  obtain ⟨its2,rv2,p2⟩:=kY I hq2
  obtain ⟨u',hu,ru⟩:=rv1.get hx
  obtain ⟨v,hv,rv⟩:=rv2.get hy
  have hh:X.A.in1.handled=none:=I.ok.hd hc
  have l1:i < its1.toArray.size:=by rw [cW]; exact (cT.mp hu).1
  have l2:i < its2.toArray.size:=by rw [cW]; exact (cT.mp hv).1
  refine zMh (Wf hh na its1.toArray t) (Wf hh nb its2.toArray u) Z t1 t2 t3 ⟨t4,p1⟩ ⟨t5,p2⟩ l1 l2 ?_
  intro x' y' h1 tk px py z1 z2 z3 z4 z5 z6 keep
  simp only [lF] at px py
  rw [hu] at px
  rw [hv] at py
  cases px
  cases py
  refine ⟨_,rfl,wpAny_letOwnedTupleGo_zip (s:={ s with heap:=h1,toks:=tk }) z1 λh2 z7 sb=>?_⟩
  have zlt:z < s.heap.objs.size:=cZ t1
  have keep2:∀ c o,c∉[z,TI,TO,i1,i2]->s.heap.get? c=some o->h2.get? c=some o:=λc o hc e=>by
   simp only [de,d7,or_false,not_or] at hc
   exact sb.extBut c o hc.1 (keep c o hc.1 hc.2.2.1 hc.2.2.2.1 hc.2.2.2.2 e)
  have I':=I.turnT (h':=h2) (tk:=tk) (ch:=[z,TI,TO,i1,i2]) (x:=x) (y:=y) hf keep2 (cQ _) (sb.extBut _ _ (ip zlt) z6) ru rv
  refine ⟨.ref s.heap.objs.size,_,I',rfl,⟨s.heap.objs.size,x,y,rfl,I.hok.fresh (cQ _),rfl,λxs' q=>by rw [zKb I q hq1]; exact hx,λys' q=>by rw [zKb I q hq2]; exact hy⟩,
   ⟨z7,sb.extBut _ _ Z.a1 z2,⟨_,_,sb.extBut _ _ Z.a2 z3⟩,We (λo=>sb.extBut _ o Z.a3) z4.1,We (λo=>sb.extBut _ o Z.a4) z5.1⟩,λc hc=>?_⟩
  have:=(hf c hc).1
  rw [yH]
  ·exact this
  ·intro q
   obtain ⟨o,e⟩:∃ o,s.heap.get? c=some o:=by
    simp only [de,d7,or_false] at hc
    rcases hc with rfl | rfl | rfl | rfl | rfl
    ·exact ⟨_,t1⟩
    ·exact ⟨_,t2⟩
    ·exact ⟨_,t3⟩
    ·obtain ⟨o,e,_⟩:=Wc t4; exact ⟨o,e⟩
    ·obtain ⟨o,e,_⟩:=Wc t5; exact ⟨o,e⟩
   rw [q] at e
   exact absurd (cZ e) (dN _)
 done:=by
  intro X hP hw hK hc i pins s σ H E I hf ⟨t1,t2,⟨x0,y0,t3⟩,t4,t5⟩ hg
  subst hP hw hK
  obtain ⟨xs,ys,hq1,hq2,e1,e2,e3⟩:=hg
  obtain ⟨its1,rv1,p1⟩:=kY I hq1
  obtain ⟨its2,rv2,p2⟩:=kY I hq2
  have hh:X.A.in1.handled=none:=I.ok.hd hc
  have n1:its1.toArray.size=xs.length:=by rw [cW]; exact rv1.length.symm
  have n2:its2.toArray.size=ys.length:=by rw [cW]; exact rv2.length.symm
  refine zO4 (Wf hh na its1.toArray t) (Wf hh nb its2.toArray u) Z t1 t2 t3 ⟨t4,p1⟩ ⟨t5,p2⟩ (by omega) (by omega) (by omega) ?_
  intro h1 tk keep
  refine ⟨rfl,I.turnN (h':=h1) (tk:=tk) (ch:=[z,TI,TO,i1,i2]) hf λc o hc e=>?_⟩
  simp only [de,d7,or_false,not_or] at hc
  exact keep c o hc.1 hc.2.2.1 hc.2.2.2.1 hc.2.2.2.2 e
 self:=λ_ _ _ _ _ st h=>wpAny_pyIter_zip st.1 h
abbrev gH (t u:Bool) (h:Heap) (a b:Addr):Heap:=(h.push (qU t a)).push (qU u b)
abbrev gJ (t u:Bool) (h:Heap) (a b:Addr):Heap:=(gH t u h a b).push { cls:=.type "tuple",data:=.seq #[.ref h.objs.size,.ref (h.push (qU t a)).objs.size] }
abbrev jv (t u:Bool) (h:Heap) (a b:Addr):Heap:=(gJ t u h a b).push { cls:=.type "tuple",data:=.seq #[.none,.none] }
abbrev uP (t u:Bool) (h:Heap) (a b:Addr):Heap:=(jv t u h a b).push { cls:=.type "zip",data:=.fields #[.none,.bool false,.bool false,.ref (gH t u h a b).objs.size,.ref (gJ t u h a b).objs.size] }
theorem zMi (t u:Bool) (a b:Addr) (xs ys:Array Value) :
  Meets (Builtin.«zip.__new__» ⟨[.type "zip",.ref a,.ref b],[]⟩) (λ_ R s=>uh t s.heap a xs/\uh u s.heap b ys/\R (.ok (.ret (.ref (jv t u s.heap a b).objs.size))) { s with heap:=uP t u s.heap a b }):=
 .of_wp λprog w A R s h=>by
  obtain ⟨hp,g,d,tk,os⟩:=s; obtain ⟨h1,h2,h⟩:=h
  have hsub:=sub_zip
  have e1:uh t (Shared.heap ⟨hp,g,d,tk,os⟩) a xs:=h1
  have e2:uh u (Shared.heap ⟨hp.push (qU t a),g,d,tk,os⟩) b ys:=zSQ (λ_ e=>cR _ e) h2
  wp_walk using zSN e1,zSN e2
  exact ⟨_,rfl,h⟩
theorem zMP {t u:Bool} {prog:Program} {w:World} {A:Around} {E:Value->Shared->Prop} {s:Shared} {a b:Addr} {xs ys:Array Value} {Q:Value->Shared->Prop} (h1:uh t s.heap a xs) (h2:uh u s.heap b ys)
  (h:∀ h',IsZip h' (s.heap.objs.size + 4) (s.heap.objs.size + 2) (s.heap.objs.size + 3) .none->IsPair h' (s.heap.objs.size + 2) (.ref s.heap.objs.size) (.ref (s.heap.objs.size + 1))->IsPair h' (s.heap.objs.size + 3) .none .none->
   ju t h' s.heap.objs.size a 0->ju u h' (s.heap.objs.size + 1) b 0->(∀ c o,s.heap.get? c=some o->h'.get? c=some o)->Q (.ref (s.heap.objs.size + 4)) { s with heap:=h' }) :
  wpAny (model prog w) A (call (.type "zip") [.ref a,.ref b]) Q E s:=by
 refine callType_new F.called_zip (by decide) (F.typeCall_zip_2 _ _) (F.newCall_zip_2 _ _) (λobj=>F.args_object_init_3 obj _ _) F.entry_zip_new (zMi t u a b xs ys) ⟨h1,h2,?_⟩
 have g:∀ {h:Heap} {c:Addr} {o o':Obj},h.get? c=some o->(h.push o').get? c=some o:=λe=>cR _ e
 have p5:(uP t u s.heap a b).get? (jv t u s.heap a b).objs.size=some _:=dj _ rfl
 have p4:(uP t u s.heap a b).get? (gJ t u s.heap a b).objs.size=some _:=g (dj _ rfl)
 have p3:(uP t u s.heap a b).get? (gH t u s.heap a b).objs.size=some _:=g (g (dj _ rfl))
 have p2:(uP t u s.heap a b).get? (s.heap.push (qU t a)).objs.size=some _:=g (g (g (dj _ zSP)))
 have p1:(uP t u s.heap a b).get? s.heap.objs.size=some _:=g (g (g (g (dj _ zSP))))
 change _/\_
 simp only [ft] at p5 p4 p3 p2
 have n4:(jv t u s.heap a b).objs.size=s.heap.objs.size + 4:=by simp only [ft]
 rw [n4]
 refine ⟨⟨_,by rw [<- n4]; exact dj _ rfl,rfl⟩,h _ ?_ ?_ ?_ (zSR p1) (zSR p2) λc o x=>g (g (g (g (g x))))⟩
 ·exact p5
 ·exact p3
 ·exact p4
def Z9 (K:cI) (ta:TA):TI:=λσ H R=>ta σ H λvs H1=>∃ a b t u,vs=[.ref a,.ref b]/\(∃ xs,uA t K H1 a xs)/\(∃ ys,uA u K H1 b ys)/\R (Jg t u K a b) H1
theorem zPZ {X:Cx} {es:List Expr} {kk:Nat} {tp:Pos} {e1 e2:Expr} {ta:TA} {p pos:Pos} (hg:Gl X "zip") (hm:X.mg "zip" = none) (ha:PA X [e1,e2] ta) (hs:starEach [e1,e2] X.env=[(false,eval e1 X.env),(false,eval e2 X.env)]:=by rfl) (hs2:starEach [e2] X.env=[(false,eval e2 X.env)]:=by rfl) :
  PI X (.Tuple es kk tp) (.Call (.Name "zip" p) [e1,e2] [] pos) (Z9 X.K ta):=by
 intro pins s σ H R I h
 refine Call_ (qK I hg hm (show bootBuiltins "zip" = some (.type "zip") by decide +kernel) (PyProof.Rows.callWith_type1 (zo (ha pos pins s σ H _ I h) λus s1 ⟨vs,H1,I1,r1,q1⟩=>?_) (by rw [hs,hs2]) (by rw [hs2]; rfl)))
 obtain ⟨a,b,t,u,e,⟨xs,hx⟩,⟨ys,hy⟩,q⟩:=q1
 subst e
 obtain ⟨u',v,rfl,ru,rv⟩:=Za r1
 cases ru
 cases rv
 obtain ⟨its1,rv1,p1⟩:=kY I1 hx
 obtain ⟨its2,rv2,p2⟩:=kY I1 hy
 have la:=zOl p1
 have lb:=zOl p2
 refine zMP p1 p2 λh' z1 z2 z3 z4 z5 keep=>wpAny_pyIter_zip z1 ?_
 have I2:zE X pins σ H1 { s1 with heap:=h' }:=I1.kept (t':=s1.toks) keep
 exact ⟨s1.heap.objs.size + 4,[s1.heap.objs.size + 4,s1.heap.objs.size + 2,s1.heap.objs.size + 3,s1.heap.objs.size,s1.heap.objs.size + 1],_,_,H1,rfl,I2,
  zKU (a:=a) (b:=b) (Zn _ _ _ la lb) (dL la) (dL (fQ lb)),⟨z1,z2,⟨_,_,z3⟩,z4,z5⟩,λc hc=>JL I1 hc,q⟩
end L2
namespace L2
open PySem PySem.Spec PyProof.Rows
def tsK (prog:Program) (w:World) (A:Around) (cs:List Expr) (env:Env) (Q:Bool->Shared->Prop) (s:Shared):Prop:=match cs with
 | []=>Q true s
 | c :: _=>wpAny (model prog w) A (isTrue c env (eval c env)) Q (λ_ _=>False) s
def YA (X:Cx) (cs:List Expr) (tc:TT):Prop:=match cs with
 | []=>∀ σ H Q,tc σ H Q->Q true H
 | c :: _=>PT X c tc
theorem zQw {X:Cx} {scope:Scope} {b0:_} {C:Addr} {s₀:Shared} {H₀:Hp} {ex:List Addr} {cs:List Expr} {tc:TT} {pins:List (Addr × Obj)} {σ:St} {H:Hp} {s:Shared} {Q:Bool->Hp->Prop} {G:Bool->Shared->Prop} (h:YA (yx X scope b0 C s₀ H₀ ex) cs tc) (I:zE (yx X scope b0 C s₀ H₀ ex) pins σ H s) (q:tc σ H Q)
  (k:∀ ok s' H',zE (yx X scope b0 C s₀ H₀ ex) pins σ H' s'->Q ok H'->G ok s'):tsK X.prog X.w X.A cs (yx X scope b0 C s₀ H₀ ex).env G s:=by
 cases cs with
 | nil=>exact k true s H I (h _ _ _ q)
 | cons c cs=>exact zo (h pins s σ H _ I q) λok s' ⟨H',I',q'⟩=>k ok s' H' I' q'
section
variable {prog:Program} {w:World} {A:Around} {R:Result->Shared->Prop} {s:Shared}
theorem zIo {elt target iter:Expr} {cs:List Expr} {scope:Scope} {pos:Pos} {it acc:Value} {env:Env} (Wd:Nat->Shared->Prop)
  (zj:∀ n s,Wd n s->wpAny (model prog w) A (pyNext it) (λr s1=>match r with
   | none=>R (.ok .next) s1
   | some v=>wpAny (model prog w) A (letOwnedTupleGo target it v) (λ_ s2=>wpAny (model prog w) A (assign target env v) (λ_ s3=>tsK prog w A cs env (λok s4=>
     if ok=true then wpAny (model prog w) A (eval elt env) (λx s5=>wpAny (model prog w) A (call (.builtin "list.append") [acc,x]) (λ_ s6=>∃ m,m < n/\Wd m s6) (λ_ _=>False) s5) (λ_ _=>False) s4
     else ∃ m,m < n/\Wd m s4) s3) (λ_ _=>False) s2) (λ_ _=>False) s1) (λ_ _=>False) s)
  (hcs:cs=[]\/∃ c,cs=[c]) (n:Nat) (h:Wd n s):codeAny (model prog w) A (.compLoop (.ListComp elt [⟨target,iter,cs,0⟩] scope pos) 0 it acc env) R s:=by
 refine codeAny_loop rfl Wd (λn s hI=>?_) n h
 show wpAny _ _ (Sem.onRaise (compTurn (.ListComp elt [⟨target,iter,cs,0⟩] scope pos) 0 it acc env) _) _ _ s
 refine wpAny_noted ?_
 have go:wpAny (model prog w) A (pyNext it) _ _ s:=zj n s hI
 rcases hcs with rfl | ⟨c,rfl⟩
 ·rw [compTurn_list1]
  refine wpAny_bind (wpAny_standAt (wpAny_bind (wpAny_mono go (λr s1 h1=>?_) λ_ _ z=>False.elim z)))
  cases r with
  | none=>exact wpAny_pure h1
  | some v=>
   refine wpAny_bind (wpAny_mono h1 (λ_ s2 h2=>?_) λ_ _ z=>False.elim z)
   refine wpAny_bind (wpAny_mono h2 (λ_ s3 h3=>?_) λ_ _ z=>False.elim z)
   refine wpAny_bind (wpAny_bind (wpAny_mono h3 (λx s4 h4=>?_) λ_ _ z=>False.elim z))
   exact wpAny_bind (wpAny_mono h4 (λ_ s5 h5=>wpAny_pure (wpAny_pure ⟨rfl,h5⟩)) λ_ _ z=>False.elim z)
 ·rw [compTurn_list]
  refine wpAny_bind (wpAny_standAt (wpAny_bind (wpAny_mono go (λr s1 h1=>?_) λ_ _ z=>False.elim z)))
  cases r with
  | none=>exact wpAny_pure h1
  | some v=>
   refine wpAny_bind (wpAny_mono h1 (λ_ s2 h2=>?_) λ_ _ z=>False.elim z)
   refine wpAny_bind (wpAny_mono h2 (λ_ s3 h3=>?_) λ_ _ z=>False.elim z)
   refine wpAny_bind (wpAny_tests_one (wpAny_mono h3 (λok s4 h4=>?_) λ_ _ z=>False.elim z))
   cases ok with
   | false=>exact wpAny_pure ⟨rfl,h4⟩
   | true=>exact wpAny_bind (wpAny_bind (wpAny_mono h4 (λx s5 h5=>wpAny_bind (wpAny_mono h5 (λ_ s6 h6=>wpAny_pure (wpAny_pure ⟨rfl,h6⟩)) λ_ _ z=>False.elim z)) λ_ _ z=>False.elim z))
end
section
variable {X:Cx} {scope:Scope} {own:List Str} {caps:List (Nat × Str)} {elt tg iter:Expr} {cs:List Expr} {wi:TI} {g:TG} {tc:TT} {te:TE} {pos:Pos}
theorem zGD {pins:List (Addr × Obj)} {σ:St} {H2:Hp} {s2:Shared} {it:Addr} {fp:List Addr} {tn:Nat->Heap->Prop} {J:It} {W:Nat->Nat->List V->St->Hp->Prop} {m0:Nat} {Q:VK} {E:Value->Shared->Prop} {RR:Value->Addr->Result->Shared->Prop}
  (B:v4 X scope own caps) (hc:X.calm=true) (hg:∀ C s₀ H₀ ex,PG (yx X scope (zm own caps) C s₀ H₀ ex) tg g) (hcs:cs=[]\/∃ c,cs=[c]) (ht:∀ C s₀ H₀ ex,YA (yx X scope (zm own caps) C s₀ H₀ ex) cs tc) (he:∀ C s₀ H₀ ex,PE (yx X scope (zm own caps) C s₀ H₀ ex) elt te)
  (I2:zE X pins σ H2 s2) (T:vT X.prog X.w X.K tg J fp it tn) (st2:tn 0 s2.heap) (f2:∀ b∈fp,yQ X pins H2 b) (w0:W 0 m0 [] (uH own caps σ) H2)
  (zj:∀ i m ys σ1 H,W i m ys σ1 H->(J.stop i H/\∀ p,H p=none->Q (.ref p) (zh H p (.lst ys)))∨
   (J.go i H/\ys.length < sizeLine/\∃ (N:V->St->Hp->Prop) (N0:St->Hp->Prop),(∀ y σ' H',N y σ' H'->∃ m',m' < m/\W (i + 1) m' (ys++[y]) σ' H')/\(∀ σ' H',N0 σ' H'->∃ m',m' < m/\W (i + 1) m' ys σ' H')∧
    ∀ x H',J.yld i H x H'->g x σ1 H' λσ2 H2=>tc σ2 H2 λb H3=>if b=true then te σ2 H3 λy H4=>N y σ2 H4 else N0 σ2 H3))
  (hRR:∀ D C s6 H6 ys m,s6.heap.Ns C m->s2.heap.objs.size<=C->(∀ h',Heap.SameBut C s6.heap h'->zE X pins σ (zh H6 D (.lst ys)) { s6 with heap:=h' })->zh H6 D (.lst ys) C=none->Q (.ref D) (zh H6 D (.lst ys))->RR (.ref D) C (.ok .next) s6) :
  wpAny (model X.prog X.w) X.A (newList []) (λacc s3=>wpAny (model X.prog X.w) X.A (newFunctionEnv scope X.env.globals (vX scope X.env) [] X.env.qual none .none (some X.env)) (λcenv s4=>
   codeAny (model X.prog X.w) X.A (.compStart (.ListComp elt [⟨tg,iter,cs,0⟩] scope pos) 0 (.ref it) acc { cenv with scope:=relabel scope X.env }) (RR acc cenv.locals) s4) E s3) E s2:=by
 have hlt:∀ b∈fp,b < s2.heap.objs.size:=λb hb=>by
  obtain ⟨o,ho,_⟩:=T.obj _ _ st2 b hb
  exact cZ ho
 refine wpAny_newObj_type (zGz ?_)
 dsimp only
 generalize hP:s2.heap.push { cls:=.type "list",dict:=none,data:=.seq ([]:List Value).toArray }=HD
 have hns:(pushCells (HD.push { cls:=.type "dict",data:=.dict #[] }) scope.names).Ns HD.objs.size (λ_=>none):=(Heap.Ns.new HD (.type "dict")).keeps (pushCells_keeps _ _)
 have hkp:∀ b o,HD.get? b=some o->(pushCells (HD.push { cls:=.type "dict",data:=.dict #[] }) scope.names).get? b=some o:=λb o e=>pushCells_keeps _ _ b o (cR _ e)
 have hcell:∀ x c,(cellsFrom (HD.objs.size + 1) scope.names (vX scope X.env)).lookup x=some c->(vX scope X.env).lookup x=some c\/(pushCells (HD.push { cls:=.type "dict",data:=.dict #[] }) scope.names).IsCell c none:=λx c e=>
  JI _ _ _ (by rw [ft]; exact e)
 generalize hP4:pushCells (HD.push { cls:=.type "dict",data:=.dict #[] }) scope.names=h4 at hns hkp hcell |-
 have hCD:HD.objs.size=s2.heap.objs.size + 1:=by rw [<- hP,ft]
 have hDC:s2.heap.objs.size≠HD.objs.size:=by omega
 have hle:s2.heap.objs.size<=HD.objs.size:=by omega
 have old:∀ b o,s2.heap.get? b=some o->h4.get? b=some o:=λb o eb=>hkp b o (by rw [<- hP]; exact cR _ eb)
 have hD4:h4.get? s2.heap.objs.size=some { cls:=.type "list",data:=.seq ([]:List Value).toArray 0 }:=hkp _ _ (by rw [<- hP]; exact dj _ rfl)
 have IY:zE (yx X scope (zm own caps) HD.objs.size s2 H2 fp) [] (uH own caps σ) H2 { s2 with heap:=h4 }:=
  zOB B I2 f2 (by omega) hlt hns old hcell rfl I2.bare
 have stat:∀ {H':Hp},(∀ b∈fp,H' b=none)->∀ b∈fp,yQ (yx X scope (zm own caps) HD.objs.size s2 H2 fp) [] H' b:=λ{H'} hn b hb=>by
  have hb2:=hlt b hb
  refine ⟨hn b hb,?_,λz=>?_,.inl hb,λx c ec=>(match WP B ec with | .inl z=>Zo hb2 hle z.2 | .inr z=>(f2 b hb).2.2.2.2.1 x c z),λp hp=>by simp at hp⟩
  ·exact dL (dg hb2 hle)
  ·rcases de.mp (I2.stkSub b z) with e | z
   ·exact (f2 b hb).2.1 e
   ·exact (f2 b hb).2.2.1 z
 have statD:∀ {H':Hp},H' s2.heap.objs.size=none->yQ (yx X scope (zm own caps) HD.objs.size s2 H2 fp) [] H' s2.heap.objs.size:=λ{H'} hn=>by
  refine ⟨hn,hDC,λz=>?_,.inr (cQ _),λx c ec z=>?_,λp hp=>by simp at hp⟩
  ·obtain ⟨_,o,ho,_⟩:=I2.stack.mem z
   exact absurd (cZ ho) (dN _)
  ·rcases WP B ec with ⟨_,y⟩ | y
   ·exact JF hCD y z
   ·have:=zJg I2 y
    rw [z] at this
    exact dN _ this
 have qZ:∀ b∈fp,b≠s2.heap.objs.size:=λb hb=>dL (hlt b hb)
 have IY':zE (yx X scope (zm own caps) HD.objs.size s2 H2 fp) [(s2.heap.objs.size,xo [] 0)] (uH own caps σ) H2 { s2 with heap:=h4 }:=
  IY.pins_of λp hp=>by
   rw [dh.mp hp]
   have z:=statD (I2.hok.fresh (cQ _))
   exact ⟨hD4,z.1,z.2.1,z.2.2.1,λv z=>by cases z⟩
 have loop:∀ s3:Shared,s3={ s2 with heap:=h4 }->
   codeAny (model X.prog X.w) X.A (.compLoop (.ListComp elt [⟨tg,iter,cs,0⟩] scope pos) 0 (.ref it) (.ref s2.heap.objs.size) (compEnvC scope (cellsFrom (HD.objs.size + 1) scope.names (vX scope X.env)) HD.objs.size X.env))
    (RR (.ref s2.heap.objs.size) HD.objs.size) s3:=by
  rintro s3 rfl
  refine zIo (λn s'=>∃ i ys σ' H' its k,zE (yx X scope (zm own caps) HD.objs.size s2 H2 fp) [(s2.heap.objs.size,xo its k)] σ' H' s'/\tn i s'.heap/\(∀ b∈fp,H' b=none)∧
   zM ys its/\ys.length<=sizeLine/\W i n ys σ' H') ?_ hcs m0 ⟨0,[],_,H2,[],0,IY',T.keep _ _ _ st2 λb hb o eb=>old b o eb,λb hb=>(f2 b hb).1,.nil,ib _,w0⟩
  rintro n s5 ⟨i,ys,σ5,H5,its,k,I5,st5,fr5,rv5,hz5,w5⟩
  have stat5:∀ {H':Hp},(∀ b∈fp,H' b=none)->∀ b∈fp,yQ (yx X scope (zm own caps) HD.objs.size s2 H2 fp) [(s2.heap.objs.size,xo its k)] H' b:=λ{H'} hn b hb=>by
   obtain ⟨a1,a2,a3,a4,a5,_⟩:=stat hn b hb
   refine ⟨a1,a2,a3,a4,a5,λp hp=>?_⟩
   have hp':p∈[(s2.heap.objs.size,xo its k)]:=hp
   rw [dh.mp hp']
   exact Ne.symm (qZ b hb)
  rcases zj i n ys σ5 H5 w5 with ⟨stop,qn⟩ | ⟨go,hlen,N,N0,hN,hN0,step⟩
  ·refine zo (T.done (yx X scope (zm own caps) HD.objs.size s2 H2 fp) rfl rfl rfl hc i _ s5 σ5 H5 _ I5 (stat5 fr5) st5 stop) λr s6 ⟨hr,I6⟩=>?_
   subst hr
   obtain ⟨pD1,pD2,_⟩:=I6.pin (s2.heap.objs.size,xo its k) (cY _ cO)
   obtain ⟨m6,hn6,_⟩:=I6.loc
   refine hRR _ _ s6 H5 ys m6 hn6 (by omega) (λh' sb=>?_) (by rw [yH (Ne.symm hDC)]; exact I6.free) (qn _ pD2)
   have hC5:H5 HD.objs.size=none:=I6.free
   have nb:∀ b o,s2.heap.get? b=some o->b≠HD.objs.size/\b≠s2.heap.objs.size:=λb o eb=>by
    have hb:=cZ eb
    exact ⟨dL (dg hb hle),dL hb⟩
   have nt:∀ b o,H5 b=some o->b≠s2.heap.objs.size:=λb o eb z=>by rw [z] at eb; rw [show H5 s2.heap.objs.size=none from pD2] at eb; cases eb
   have un:Un (vS X.stack) fp H2 (zh H5 s2.heap.objs.size (.lst ys)) s2.heap h':=
    ⟨λb o eb n1 n2 n3=>sb.extBut b o (nb b o eb).1 (I6.base.keep b o eb n1 n2 n3),
     λb o eb n1 n2 n3=>by
      obtain ⟨sl,e1⟩:=I6.base.slot b o eb n1 n2 n3
      exact ⟨sl,sb.extBut b _ (nb b o eb).1 e1⟩,
     λb o eb n1 n3=>by
      rw [yH (nb b o eb).2]
      exact I6.base.free b o eb n1 n3,
     λb o eb n3=>by
      obtain ⟨o',e1⟩:=I6.base.there b o eb n3
      exact ⟨o',sb.extBut b _ (nb b o eb).1 e1⟩,
     λb xs eb=>by
      have e1:=I6.base.tups b xs eb
      rw [yH (nt b _ e1)]
      exact e1,
     λb o u eb=>by
      have e1:=I6.base.frzs b o u eb
      rw [yH (nt b _ e1)]
      exact e1,
     λb ps eb=>by
      obtain ⟨more,e1⟩:=I6.base.tbls b ps eb
      refine ⟨more,?_⟩
      rw [yH (nt b _ e1)]
      exact e1⟩
   have ok5:xc X.prog X.w (zh H5 s2.heap.objs.size (.lst ys)) h':=λb u eb=>by
    by_cases hb:b=s2.heap.objs.size
    ·subst hb
     rw [wD] at eb
     cases eb
     exact ⟨hz5,its,k,rv5,sb.extBut _ _ hDC pD1⟩
    ·rw [yH hb] at eb
     refine (I6.hok b u eb).stay (λc v hcv ev=>sb.extBut c v ?_ ev) (λc ec=>by rw [yH (nt c _ ec)]; exact ec) λc xs ec=>by rw [yH (nt c _ ec)]; exact ec
     rintro rfl
     rcases hcv with z | z
     ·rw [<- z,hC5] at eb
      cases eb
     ·rw [hC5] at z
      cases z
   exact I2.call' (s':={ s6 with heap:=h' }) (ch:=fp) I6.os un ok5 I6.bare λb hb=>⟨(f2 b hb).2.2.2.1,(f2 b hb).2.1,(f2 b hb).2.2.2.2.1,(f2 b hb).2.2.2.2.2⟩
  ·refine zo (T.item (yx X scope (zm own caps) HD.objs.size s2 H2 fp) rfl rfl rfl hc i _ s5 σ5 H5 _ I5 (stat5 fr5) st5 go) λr s6 ⟨u,hr,h6⟩=>?_
   subst hr
   refine zo h6 λ_ s7 ⟨x,H7,I7,r7,y7,st7,fr7⟩=>?_
   have I7':=I7.pinned (stat5 fr7) (T.obj _ _ st7)
   refine zo (hg HD.objs.size s2 H2 fp _ s7 σ5 H7 x u _ I7' r7 (step x H7 y7)) λ_ s8 ⟨σ8,H8,I8,q8⟩=>?_
   refine zQw (ht HD.objs.size s2 H2 fp) I8 q8 λok sT HT IT qT=>?_
   cases ok with
   | false=>
    obtain ⟨m',hm',w9⟩:=hN0 σ8 HT qT
    refine ⟨m',hm',i + 1,ys,σ8,HT,its,k,IT.unpinned,?_,λb hb=>?_,rv5,hz5,w9⟩
    ·refine T.keep _ _ _ st7 λb hb o eb=>?_
     exact (IT.pin (b,o) (cY _ (cY _ (kL hb eb)))).1
    ·obtain ⟨o,eb,_⟩:=T.obj _ _ st7 b hb
     exact (IT.pin (b,o) (cY _ (cY _ (kL hb eb)))).2.1
   | true=>
    refine zo (he HD.objs.size s2 H2 fp _ sT σ8 HT _ IT qT) λyv s9 ⟨y,H9,I9,r9,n9⟩=>?_
    obtain ⟨m',hm',w9⟩:=hN y σ8 H9 n9
    have pD9:=(I9.pin (s2.heap.objs.size,xo its k) (cY _ (iC _ cO))).2.1
    have hl:its.length=ys.length:=rv5.length.symm
    refine zOA (Y:=yx X scope (zm own caps) HD.objs.size s2 H2 fp) (its:=its) (k:=k) (pl:=ZU fp s7.heap) I9 (statD pD9) rfl (by omega) λh' k' tk keep I'=>?_
    refine ⟨m',hm',i + 1,ys++[y],σ8,H9,its++[yv],k',I',?_,λb hb=>?_,rv5.append (.cons r9 .nil),?_,w9⟩
    ·refine T.keep _ _ _ st7 λb hb o eb=>keep b o (qZ b hb) ?_
     exact (I9.pin (b,o) (cY _ (cY _ (kL hb eb)))).1
    ·obtain ⟨o,eb,_⟩:=T.obj _ _ st7 b hb
     exact (I9.pin (b,o) (cY _ (cY _ (kL hb eb)))).2.1
    ·rw [cJ,fJ]
     omega
 exact codeAny_compStart_list (loop _ rfl) (T.self _ 0 _ _ _ (T.keep _ _ _ st2 λb hb o eb=>old b o eb) (loop _ rfl))
theorem Jh {i:Nat} {y:Str} {py spos:Pos} (hN:X.N.Nodup) (hy:X.N[i]? = some y) (hl:X.env.scope.names.lookup y=some .local) (B:v4 X scope own caps) (hc:X.calm=true) (hi:PI X tg iter wi) (hg:∀ C s₀ H₀ ex,PG (yx X scope (zm own caps) C s₀ H₀ ex) tg g)
  (hcs:cs=[]\/∃ c,cs=[c]) (ht:∀ C s₀ H₀ ex,YA (yx X scope (zm own caps) C s₀ H₀ ex) cs tc) (he:∀ C s₀ H₀ ex,PE (yx X scope (zm own caps) C s₀ H₀ ex) elt te) (hsw:swapsWith (.ListComp elt [⟨tg,iter,cs,0⟩] scope pos) (some (.Name y py)) spos.line X.env=pure true) (hs:∀ x,foldedSetIterable iter X.env x=pure x:=by intro _; rfl) :
  PS X (.Assign [.Name y py] (.ListComp elt [⟨tg,iter,cs,0⟩] scope pos) spos) (ux (zOP own caps wi g tc te) (X8 i)):=by
 intro pins s σ H D0 I h
 rw [exec_Assign_Name_used _ _ _ _ hsw]
 refine wpAny_bind (wpAny_standAt (wpAny_bind ?_))
 change wpAny _ X.A (do let _ <- comprehension (.ListComp elt [⟨tg,iter,cs,0⟩] scope pos) scope X.env _ (newList []) false (eval iter X.env) (some (assign (.Name y py) X.env))) _ _ s
 refine wpAny_bind (wpAny_mono (wpAny_comprehension_free (use:=some (assign (.Name y py) X.env)) (Q:=λ_ s'=>SP X pins D0 .next s') rfl hs (zGF B.free) B.kind B.locs ?_) (λ_ s' hq=>wpAny_pure (wpAny_pure hq)) λ_ _ e=>e)
 refine zo (hi pins s σ H _ I h) λxv s1 h1=>zo h1 λitv s2 h2=>?_
 obtain ⟨it,fp,tn,J,H2,e,I2,T,st2,f2,W,⟨m0,w0⟩,zj⟩:=h2
 subst e
 refine zGD (Q:=λx H1=>D0.nx (σ.set i (some x)) H1) (RR:=λacc C=>compPost (model X.prog X.w) X.A X.xe (some (assign (.Name y py) X.env)) (λ_ s'=>SP X pins D0 .next s') acc C) B hc hg hcs ht he I2 T st2 f2 w0 zj λD C s6 H6 ys m hn hC J6 hC6 q=>?_
 have I6:zE X pins σ (zh H6 D (.lst ys)) s6:=J6 s6.heap (.refl ..)
 have CL:C≠X.env.locals:=λz=>by rw [z] at hC; exact absurd (dg I2.lt hC) (dN _)
 have CC:∀ x c,X.env.cells.lookup x=some c->c≠C:=λx c ec z=>by
  obtain ⟨v,o,ho,_⟩:=I2.cell x c ec
  rw [z] at ho
  exact absurd (dg (cZ ho) hC) (dN _)
 have CP:∀ p∈X.pn++pins,p.1≠C:=λp hp z=>by
  have hl:=cZ (I2.pin p hp).1
  rw [z] at hl
  exact absurd (dg hl hC) (dN _)
 change wpAny _ X.A (assign (.Name y py) X.env (.ref D)) _ _ s6
 refine wpAny_assign_Name (zHP I6 hN hy (.inl hl) (v:=.ref D) rfl (λs7 I7 ⟨a,sb,ha⟩=>?_) (.inr hl))
 have aC:C≠a:=λz=>by
  rcases ha with e | e
  ·exact CL (z.trans e)
  ·exact CC _ _ e z.symm
 refine ⟨m,hn.sameBut sb aC,λh' sb'=>⟨_,_,I7.turned (h':=h') (t':=s7.toks) (it:=C) (λb o hb eb=>sb'.extBut b o hb eb) hC6 CL (.inr (eA I2.sz hC)) CC CP,q⟩⟩
theorem zNL (B:v4 X scope own caps) (hc:X.calm=true) (hi:PI X tg iter wi) (hg:∀ C s₀ H₀ ex,PG (yx X scope (zm own caps) C s₀ H₀ ex) tg g)
  (hcs:cs=[]\/∃ c,cs=[c]) (ht:∀ C s₀ H₀ ex,YA (yx X scope (zm own caps) C s₀ H₀ ex) cs tc) (he:∀ C s₀ H₀ ex,PE (yx X scope (zm own caps) C s₀ H₀ ex) elt te) (hs:∀ x,foldedSetIterable iter X.env x=pure x:=by intro _; rfl) :
  PE X (.ListComp elt [⟨tg,iter,cs,0⟩] scope pos) (zOP own caps wi g tc te):=by
 intro pins s σ H Q I h
 rw [eval_ListComp]
 refine wpAny_comprehension_free (use:=none) rfl hs (zGF B.free) B.kind B.locs ?_
 refine zo (hi pins s σ H _ I h) λxv s1 h1=>zo h1 λitv s2 h2=>?_
 obtain ⟨it,fp,tn,J,H2,e,I2,T,st2,f2,W,⟨m0,w0⟩,zj⟩:=h2
 subst e
 refine zGD (RR:=λacc C=>compPost (model X.prog X.w) X.A X.xe none (EP X pins σ Q) acc C) B hc hg hcs ht he I2 T st2 f2 w0 zj λD C s6 H6 ys m hn hC J6 hC6 q=>?_
 exact ⟨m,hn,λh' sb=>⟨.ref D,_,J6 h' sb,rfl,q⟩⟩
end
end L2
namespace Pu
open PySem L2 Sh
inductive D where
 | int (i:Int)
 | bool (b:Bool)
 | non
 | str (x:Str)
 | scr (ns:List Int)
 | lst (ds:List D)
 | tup (ds:List D)
 | obj (c:Addr) (ns:List Str) (ds:List D)
inductive DV (H:Hp):V->D->Prop where
 | int (i:Int):DV H (.int i) (.int i)
 | bool (b:Bool):DV H (.bl b) (.bool b)
 | non:DV H .non .non
 | str (x:Str):DV H (.str x) (.str x)
 | scr {a:Addr} {ns:List Int} (e:Rd H a (.lst (ns.map V.int))):DV H (.ref a) (.scr ns)
 | lst {a:Addr} {xs:List V} {ds:List D} (e:H a=some (.lst xs)) (h:Paired (DV H) xs ds):DV H (.ref a) (.lst ds)
 | tup {a:Addr} {xs:List V} {ds:List D} (e:H a=some (.tup xs)) (h:Paired (DV H) xs ds):DV H (.ref a) (.tup ds)
 | obj {o dx c:Addr} {ns:List Str} {xs:List V} {ds:List D} (e:H o=some (.ins c dx (ns.zip xs))) (l:ns.length=xs.length) (h:Paired (DV H) xs ds):DV H (.ref o) (.obj c ns ds)
theorem Wg {H H':Hp} (s:zR H H') {a:Addr} {u:HO} (h:Rd H a u):Rd H' a u:=h.imp (s _ _) λ⟨o,e⟩=>⟨o,s _ _ e⟩
theorem DV.same {H H':Hp} (s:zR H H'):∀ {v:V} {d:D},DV H v d->DV H' v d
 | _,_,.int i=>.int i
 | _,_,.bool b=>.bool b
 | _,_,.non=>.non
 | _,_,.str x=>.str x
 | _,_,.scr e=>.scr (Wg s e)
 | _,_,.lst e h=>.lst (s _ _ e) (go s h)
 | _,_,.tup e h=>.tup (s _ _ e) (go s h)
 | _,_,.obj e l h=>.obj (s _ _ e) l (go s h)
where
 go {H H':Hp} (s:zR H H'):∀ {xs:List V} {ds:List D},Paired (DV H) xs ds->Paired (DV H') xs ds
  | _,_,.nil=>.nil
  | _,_,.cons h t=>.cons (DV.same s h) (go s t)
abbrev yR (H:Hp):List V->List D->Prop:=Paired (DV H)
theorem xW {H H':Hp} (s:zR H H') {xs:List V} {ds:List D} (h:yR H xs ds):yR H' xs ds:=DV.same.go s h
theorem YB {H:Hp}:∀ {xs:List V} {ns:List Int},yR H xs (ns.map D.int)->xs=ns.map V.int
 | _,[],.nil=>rfl
 | _,_ :: _,.cons h t=>by cases h; rw [YB t]; rfl
theorem zHy {H:Hp}:∀ {xs:List V} {bs:List Bool},yR H xs (bs.map D.bool)->xs=bs.map V.bl
 | _,[],.nil=>rfl
 | _,_ :: _,.cons h t=>by cases h; rw [zHy t]; rfl
theorem zHx {H:Hp}:∀ {ns:List Int},yR H (ns.map V.int) (ns.map D.int)
 | []=>.nil
 | _ :: _=>.cons (.int _) zHx
def jY:HO->Bool
 | .tbl _=>true
 | _=>false
def uQ:HO->Bool
 | .lst _=>true
 | .ins _ _ _=>true
 | _=>false
class yd where
 I:Hp->Prop
 same:∀ {H H':Hp},I H->zR H H'->I H'
 but:∀ {H H':Hp} {l:Addr} {o:HO},I H->H l=some o->uQ o=true->(∀ b,b≠l->H' b=H b)->I H'
variable [yd]
theorem yd.put {H:Hp} {l:Addr} {u o:HO} (i:yd.I H) (e:H l=some u) (n:uQ u=true:=by rfl):yd.I (zh H l o):=yd.but i e n λ_ c=>yH c
def less (l:Addr) (H:Hp):Hp:=λb=>if b=l then none else H b
theorem yd.less {H:Hp} {l:Addr} {u:HO} (i:yd.I H) (e:H l=some u) (n:uQ u=true:=by rfl):yd.I (less l H):=yd.but i e n λ_ c=>if_neg c
theorem zNk {H:Hp} {l:Addr}:zR (less l H) H:=λb o e=>by
 by_cases c:b=l
 ·rw [show less l H b=none from if_pos c] at e; cases e
 ·exact (if_neg c).symm.trans e
structure Sm (H H':Hp):Prop where
 s:∀ b o,H b=some o->jY o=false->H' b=some o
 t:∀ b o,H b=some o->jY o=true->∃ o',H' b=some o'/\jY o'=true
 k:yd.I H->yd.I H'
theorem Sm.at {H H':Hp} (s:Sm H H') {b:Addr} {o:HO} (e:H b=some o) (n:jY o=false:=by rfl):H' b=some o:=s.s b o e n
theorem Sm.of {H H':Hp} (s:zR H H'):Sm H H':=⟨λb o e _=>s b o e,λb o e n=>⟨o,s b o e,n⟩,λi=>yd.same i s⟩
theorem Sm.refl (H:Hp):Sm H H:=.of (zR.refl H)
theorem Sm.trans {H H1 H2:Hp} (a:Sm H H1) (b:Sm H1 H2):Sm H H2:=⟨λc o e n=>b.s c o (a.s c o e n) n,λc o e n=>let ⟨o1,e1,n1⟩:=a.t c o e n; b.t c o1 e1 n1,λi=>b.k (a.k i)⟩
theorem Sm.free {H H':Hp} (s:Sm H H') {b:Addr} (n:H' b=none):H b=none:=by
 cases e:H b with
 | none=>rfl
 | some o=>
  cases q:jY o with
  | false=>have:=s.s b o e q; rw [n] at this; cases this
  | true=>obtain ⟨o',e',_⟩:=s.t b o e q; rw [n] at e'; cases e'
theorem Sm.put {H0 H:Hp} {l:Addr} {x o:HO} (s:Sm H0 H) (n:H0 l=none) (e:H l=some x) (li:uQ x=true:=by rfl):Sm H0 (zh H l o):=⟨λb u q t=>(yH (wn q n)).trans (s.s b u q t),λb u q t=>let ⟨o',e',t'⟩:=s.t b u q t; ⟨o',(yH (wn q n)).trans e',t'⟩,λi=>yd.put (s.k i) e li⟩
theorem zRA {H H1 H2:Hp} {x:Addr} {u:HO} (s:Sm H H1) (e:H1 x=some u) (b:Sm (less x H1) H2) (n:H x=none) (li:uQ u=true:=by rfl):Sm H H2:=⟨λc o q t=>b.s c o ((if_neg (wn q n)).trans (s.s c o q t)) t,λc o q t=>let ⟨o',e',t'⟩:=s.t c o q t; b.t c o' ((if_neg (wn q n)).trans e') t',λi=>b.k (yd.less (s.k i) e li)⟩
theorem x8 {H:Hp} {a:Addr} (h:H a=none) (o:HO):Sm H (zh H a o):=.of (kQ h o)
open Classical in
noncomputable def zT (Z:Addr->Prop) (H:Hp):Hp:=λb=>if Z b then none else (H b).filter λo=>!(jY o)
theorem uR {Z:Addr->Prop} {H:Hp} {b:Addr} {o:HO} (h:¬ Z b) (e:H b=some o) (n:jY o=false:=by rfl):zT Z H b=some o:=by
 unfold zT
 rw [if_neg h,e,Option.filter_some,n]
 rfl
theorem gK {Z:Addr->Prop} {H:Hp} {b:Addr} {o:HO} (h:zT Z H b=some o):jY o=false:=by
 unfold zT at h
 by_cases c:Z b
 ·rw [if_pos c] at h; cases h
 ·rw [if_neg c] at h
  have:=(iW.mp h).2
  cases q:jY o with
  | false=>rfl
  | true=>rw [q] at this; cases this
theorem qW {Z:Addr->Prop} {H:Hp} {b:Addr} {o:HO} (h:zT Z H b=some o):¬ Z b/\H b=some o:=by
 unfold zT at h
 by_cases c:Z b
 ·rw [if_pos c] at h; cases h
 ·rw [if_neg c] at h; exact ⟨c,(iW.mp h).1⟩
theorem yG {Z:Addr->Prop} {H:Hp}:zR (zT Z H) H:=λ_ _ h=>(qW h).2
theorem yg {Z:Addr->Prop} {H H':Hp} (s:Sm H H'):zR (zT Z H) (zT Z H'):=λb o h=>by
 exact uR (qW h).1 (s.s _ _ (qW h).2 (gK h)) (gK h)
theorem YD {Z Z':Addr->Prop} {H:Hp} (s:∀ b,Z' b->Z b):zR (zT Z H) (zT Z' H):=λb o h=>by
 exact uR (λz=>(qW h).1 (s _ z)) (qW h).2 (gK h)
structure ZL (Z:Addr->Prop) (H:Hp):Prop where
 z:∀ b,Z b->∃ u,H b=some u/\∀ xs,u≠.tup xs
 i:yd.I H
theorem ZL.same {Z:Addr->Prop} {H H':Hp} (z:ZL Z H) (s:Sm H H'):ZL Z H':=⟨λb hb=>by
 obtain ⟨u,e,n⟩:=z.z b hb
 cases q:jY u with
 | false=>exact ⟨u,s.s _ _ e q,n⟩
 | true=>
  obtain ⟨u',e',n'⟩:=s.t _ _ e q
  exact ⟨u',e',λxs y=>by rw [y] at n'; cases n'⟩,s.k z.i⟩
theorem ZL.new {Z:Addr->Prop} {H:Hp} (z:ZL Z H) {p:Addr} (h:H p=none):¬ Z p:=λq=>by
 obtain ⟨u,e,_⟩:=z.z p q
 rw [h] at e
 cases e
inductive Sl where
 | no
 | sh (d:D)
 | ow (ds:List D)
 | ob (o c:Addr) (ns:List Str) (ds:List D)
def slot:List Sl->Nat->Sl
 | [],_=>.no
 | x :: _,0=>x
 | _ :: t,i + 1=>slot t i
def zw:List Sl->Nat->Sl->List Sl
 | [],_,_=>[]
 | _ :: t,0,y=>y :: t
 | x :: t,i + 1,y=>x :: zw t i y
theorem gL:∀ (Γ:List Sl) (i:Nat) (y:Sl),(zw Γ i y).length=Γ.length
 | [],_,_=>rfl
 | _ :: _,0,_=>rfl
 | _ :: t,i + 1,y=>by show (zw t i y).length + 1=_; rw [gL t i y]; rfl
theorem xi:∀ (Γ:List Sl) (i j:Nat) (y:Sl),slot (zw Γ i y) j=if j=i/\i < Γ.length then y else slot Γ j
 | [],i,j,y=>by rw [if_neg (λh=>absurd h.2 (eM _))]; rfl
 | x :: t,0,0,y=>(if_pos ⟨rfl,ld _⟩).symm
 | x :: t,0,j + 1,y=>(if_neg (λh=>nomatch h.1)).symm
 | x :: t,i + 1,0,y=>(if_neg (λh=>nomatch h.1)).symm
 | x :: t,i + 1,j + 1,y=>by
  show slot (zw t i y) j=if j + 1=i + 1/\i + 1 < t.length + 1 then y else slot t j
  rw [xi t i j y]
  by_cases c:j=i/\i < t.length
  ·rw [if_pos c,if_pos ⟨by omega,by omega⟩]
  ·rw [if_neg c,if_neg (λh=>c ⟨by omega,by omega⟩)]
theorem ui:∀ {Γ:List Sl} {i:Nat},slot Γ i≠.no->i < Γ.length
 | [],_,h=>absurd rfl h
 | _ :: _,0,_=>ld _
 | _ :: _,_ + 1,h=>fW (ui (Γ:=_) h)
structure yS (Z:Addr->Prop) (Γ:List Sl) (σ:St) (H:Hp):Prop where
 sh:∀ i d,slot Γ i=.sh d->∃ v,σ[i]? = some (some v)/\DV (zT Z H) v d
 ow:∀ i ds,slot Γ i=.ow ds->∃ l xs,σ[i]? = some (some (.ref l))/\Z l/\H l=some (.lst xs)/\yR (zT Z H) xs ds
 ob:∀ i o c ns ds,slot Γ i=.ob o c ns ds->∃ dx xs,σ[i]? = some (some (.ref o))/\Z o/\H o=some (.ins c dx (ns.zip xs))/\ns.length=xs.length/\yR (zT Z H) xs ds
 ne:∀ i j as bs l,slot Γ i=.ow as->slot Γ j=.ow bs->σ[i]? = some (some (.ref l))->σ[j]? = some (some (.ref l))->i=j
 zd:ZL Z H
 len:Γ.length=σ.length
theorem yS.same {Z:Addr->Prop} {Γ:List Sl} {σ:St} {H H':Hp} (E:yS Z Γ σ H) (s:Sm H H'):yS Z Γ σ H' where
 sh:=λi d e=>let ⟨v,h1,h2⟩:=E.sh i d e; ⟨v,h1,h2.same (yg s)⟩
 ow:=λi ds e=>let ⟨l,xs,h1,h2,h3,h4⟩:=E.ow i ds e; ⟨l,xs,h1,h2,s.at h3,xW (yg s) h4⟩
 ob:=λi o c ns ds e=>let ⟨dx,xs,h1,h2,h3,h5,h4⟩:=E.ob i o c ns ds e; ⟨dx,xs,h1,h2,s.at h3,h5,xW (yg s) h4⟩
 ne:=E.ne
 zd:=E.zd.same s
 len:=E.len
theorem yS.set {Z:Addr->Prop} {Γ:List Sl} {σ:St} {H:Hp} (E:yS Z Γ σ H) {v:V} {d:D} (h:DV (zT Z H) v d) (i:Nat):yS Z (zw Γ i (.sh d)) (σ.set i (some v)) H where
 sh:=λj e q=>by
  rw [xi] at q
  by_cases c:j=i/\i < Γ.length
  ·rw [if_pos c] at q
   cases q
   rw [c.1]
   exact ⟨v,by rw [fh (by have:=E.len; omega)],h⟩
  ·rw [if_neg c] at q
   obtain ⟨u,h1,h2⟩:=E.sh j e q
   have hj:=ui (Γ:=Γ) (i:=j) (by rw [q]; exact λz=>nomatch z)
   exact ⟨u,by rw [d5 (λz=>c ⟨z.symm,by omega⟩)]; exact h1,h2⟩
 ow:=λj e q=>by
  rw [xi] at q
  by_cases c:j=i/\i < Γ.length
  ·rw [if_pos c] at q; cases q
  ·rw [if_neg c] at q
   obtain ⟨l,xs,h1,h2⟩:=E.ow j e q
   have hj:=ui (Γ:=Γ) (i:=j) (by rw [q]; exact λz=>nomatch z)
   exact ⟨l,xs,by rw [d5 (λz=>c ⟨z.symm,by omega⟩)]; exact h1,h2⟩
 ob:=λj o0 c0 ns e q=>by
  rw [xi] at q
  by_cases c:j=i/\i < Γ.length
  ·rw [if_pos c] at q; cases q
  ·rw [if_neg c] at q
   obtain ⟨dx,xs,h1,h2⟩:=E.ob j o0 c0 ns e q
   have hj:=ui (Γ:=Γ) (i:=j) (by rw [q]; exact λz=>nomatch z)
   exact ⟨dx,xs,by rw [d5 (λz=>c ⟨z.symm,by omega⟩)]; exact h1,h2⟩
 ne:=λj k as bs l q r e f=>by
  rw [xi] at q r
  by_cases c:j=i/\i < Γ.length
  ·rw [if_pos c] at q; cases q
  ·by_cases c':k=i/\i < Γ.length
   ·rw [if_pos c'] at r; cases r
   ·rw [if_neg c] at q
    rw [if_neg c'] at r
    have hj:=ui (Γ:=Γ) (i:=j) (by rw [q]; exact λz=>nomatch z)
    have hk:=ui (Γ:=Γ) (i:=k) (by rw [r]; exact λz=>nomatch z)
    rw [d5 (λz=>c ⟨z.symm,by omega⟩)] at e
    rw [d5 (λz=>c' ⟨z.symm,by omega⟩)] at f
    exact E.ne j k as bs l q r e f
 zd:=E.zd
 len:=by rw [gL,dE]; exact E.len
abbrev zr:=List Sl->(D->Prop)->Prop
abbrev wE:=List Sl->(Bool->Prop)->Prop
abbrev yz:=List Sl->(List D->Prop)->Prop
abbrev gM:=List Sl->(Option Int->Prop)->Prop
inductive tP (p:zr) (σ:St) (H:Hp) (Q:VK):Prop
 | mk (Z:Addr->Prop) (Γ:List Sl) (R:D->Prop) (E:yS Z Γ σ H) (h:p Γ R) (q:∀ d v H',R d->Sm H H'->DV (zT Z H') v d->Q v H'):tP p σ H Q
inductive xJ (p:wE) (σ:St) (H:Hp) (Q:Bool->Hp->Prop):Prop
 | mk (Z:Addr->Prop) (Γ:List Sl) (R:Bool->Prop) (E:yS Z Γ σ H) (h:p Γ R) (q:∀ b H',R b->Sm H H'->Q b H'):xJ p σ H Q
inductive wP (p:yz) (σ:St) (H:Hp) (Q:List V->Hp->Prop):Prop
 | mk (Z:Addr->Prop) (Γ:List Sl) (R:List D->Prop) (E:yS Z Γ σ H) (h:p Γ R) (q:∀ ds vs H',R ds->Sm H H'->yR (zT Z H') vs ds->Q vs H'):wP p σ H Q
inductive gN (p:gM) (σ:St) (H:Hp) (Q:Option Int->Hp->Prop):Prop
 | mk (Z:Addr->Prop) (Γ:List Sl) (R:Option Int->Prop) (E:yS Z Γ σ H) (h:p Γ R) (q:∀ o H',R o->Sm H H'->Q o H'):gN p σ H Q
section
variable {X:Cx} {a b e c:Expr} {es:List Expr} {pos:Pos} {pa pb pc:zr} {qa qb:wE} {pl:yz}
theorem yU {t t':TE} (h:PE X e t) (w:∀ σ H Q,t' σ H Q->t σ H Q):PE X e t':=λpins s σ H Q I q=>h pins s σ H Q I (w σ H Q q)
theorem Ji {t t':TT} (h:PT X e t) (w:∀ σ H Q,t' σ H Q->t σ H Q):PT X e t':=λpins s σ H Q I q=>h pins s σ H Q I (w σ H Q q)
theorem pww {t t':TT} (h:PW X e t) (w:∀ σ H Q,t' σ H Q->t σ H Q):PW X e t':=λwh pins s σ H Q I q=>h wh pins s σ H Q I (w σ H Q q)
theorem paw {t t':TA} (h:PA X es t) (w:∀ σ H Q,t' σ H Q->t σ H Q):PA X es t':=λpos pins s σ H Q I q=>h pos pins s σ H Q I (w σ H Q q)
def qX (i:Nat):zr:=λΓ R=>match slot Γ i with | .sh d=>R d | _=>False
theorem zA (i:Nat) {x:Str} {pos:Pos} (hN:X.N[i]? = some x:=by rfl) (hv:qJ X.env.scope x:=by first | exact Or.inl rfl | exact Or.inr (Or.inl rfl) | exact Or.inr (Or.inr rfl)) (hd:(x == ("__debug__" : Str))=false:=by decide)
  (hcd:(x == ("__classdict__" : Str))=false:=by decide):PE X (.Name x pos) (tP (qX i)):=yU (UU hN hv hd hcd) λσ H Q ⟨Z,Γ,R,E,h,q⟩=>by
 unfold qX at h
 cases s:slot Γ i with
 | sh d=>
  rw [s] at h
  obtain ⟨v,e,k⟩:=E.sh i d s
  exact ⟨v,e,q d v H h (Sm.refl _) k⟩
 | _=>rw [s] at h; exact h.elim
def pC (d:D):zr:=λ_ R=>R d
theorem zD {i j pos}:PE X (.Constant (.int i) j pos) (tP (pC (.int i))):=yU zOZ λ_ H _ ⟨_,_,_,_,h,q⟩=>q _ _ H h (Sm.refl _) (.int i)
theorem uS {i j pos}:PE X (.Constant (.bool i) j pos) (tP (pC (.bool i))):=yU ZH λ_ H _ ⟨_,_,_,_,h,q⟩=>q _ _ H h (Sm.refl _) (.bool i)
theorem wX {j pos}:PE X (.Constant .none j pos) (tP (pC .non)):=yU zOX λ_ H _ ⟨_,_,_,_,h,q⟩=>q _ _ H h (Sm.refl _) .non
theorem kZ {i j pos}:PE X (.Constant (.str i) j pos) (tP (pC (.str i))):=yU zRf λ_ H _ ⟨_,_,_,_,h,q⟩=>q _ _ H h (Sm.refl _) (.str i)
theorem Jj {x:Str} {i:Int} {pos:Pos} (hg:Gl X x) (hm:∃ t,X.mg x=some (.int i t)) (hd:(x == ("__debug__" : Str))=false:=by decide):PE X (.Name x pos) (tP (pC (.int i))):=
 let ⟨_,e⟩:=hm
 yU (zLA (v:=.int i) hg e ⟨_,rfl⟩ hd) λ_ H _ ⟨_,_,_,_,h,q⟩=>q _ _ H h (Sm.refl _) (.int i)
abbrev F2:=D->D->(D->Prop)->Prop
def xT (f:F2) (pa pb:zr):zr:=λΓ R=>pa Γ λx=>pb Γ λy=>f x y R
def wQ (r:R2) (f:F2):Prop:=∀ (Z:Addr->Prop) (H:Hp) (x y:V) (a b:D) (R:D->Prop) (Q:VK),ZL Z H->DV (zT Z H) x a->DV (zT Z H) y b->f a b R->(∀ d v H',R d->Sm H H'->DV (zT Z H') v d->Q v H')->r x y H Q
theorem Wi {r:R2} {f:F2} (o:wQ r f) (σ:St) (H:Hp) (Q:VK):tP (xT f pa pb) σ H Q->qt r (tP pa) (tP pb) σ H Q:=λ⟨Z,Γ,R,E,h,q⟩=>
 ⟨Z,Γ,_,E,h,λd v H1 hd s1 hv=>⟨Z,Γ,_,E.same s1,hd,λd2 v2 H2 hd2 s2 hv2=>o Z H2 v v2 d d2 R Q (E.same (s1.trans s2)).zd (hv.same (yg s2)) hv2 hd2 λd3 v3 H3 h3 s3 hv3=>q d3 v3 H3 h3 (s1.trans (s2.trans s3)) hv3⟩⟩
theorem ka {op:Operator} {r:R2} {f:F2} (ho:xE X (binaryOp op) r) (o:wQ r f) (ha:PE X a (tP pa)) (hb:PE X b (tP pb)):PE X (.BinOp a op b pos) (tP (xT f pa pb)):=yU (Uq ho ha hb) (Wi o)
theorem gO {op:CmpOp} {r:R2} {f:F2} (ho:xE X (compareOp op) r) (o:wQ r f) (hm:behindInMarks op b=false) (ha:PE X a (tP pa)) (hb:PE X b (tP pb)):PE X (.Compare a [op] [b] pos) (tP (xT f pa pb)):=yU (zPf ho ha hb hm) (Wi o)
theorem uj {Z:Addr->Prop} {H:Hp} {p:Addr} {xs:List V} {ds:List D} (zd:ZL Z H) (hp:H p=none) (h:yR (zT Z H) xs ds):DV (zT Z (zh H p (.lst xs))) (.ref p) (.lst ds):=
 .lst (uR (zd.new hp) wD) (xW (yg (x8 hp _)) h)
theorem Wj {Z:Addr->Prop} {H:Hp} {p:Addr} {xs:List V} {ds:List D} (zd:ZL Z H) (hp:H p=none) (h:yR (zT Z H) xs ds):DV (zT Z (zh H p (.tup xs))) (.ref p) (.tup ds):=
 .tup (uR (zd.new hp) wD) (xW (yg (x8 hp _)) h)
theorem zLK {Z:Addr->Prop} {H:Hp} {p:Addr} {xs:List V} {ds:List D} (zd:ZL Z H) (e:H p=some (.tup xs)) (h:yR (zT Z H) xs ds):DV (zT Z H) (.ref p) (.tup ds):=
 .tup (uR (λz=>by
  obtain ⟨u,e',n⟩:=zd.z p z
  rw [e] at e'
  cases e'
  exact n xs rfl) e) h
theorem DV.lst_inv {H:Hp} {v:V} {ds:List D} (h:DV H v (.lst ds)):∃ p xs,v=.ref p/\H p=some (.lst xs)/\yR H xs ds:=by cases h with | lst e h=>exact ⟨_,_,rfl,e,h⟩
theorem DV.tup_inv {H:Hp} {v:V} {ds:List D} (h:DV H v (.tup ds)):∃ p xs,v=.ref p/\H p=some (.tup xs)/\yR H xs ds:=by cases h with | tup e h=>exact ⟨_,_,rfl,e,h⟩
theorem few {n:Nat} (h:n<=1000):n<=sizeLine:=iL (U8 h)
def gQ:F2
 | .int i,.int j,R=>R (.int (i + j))
 | .lst as,.lst bs,R=>as.length + bs.length<=1000/\R (.lst (as++bs))
 | .tup as,.tup bs,R=>as.length + bs.length<=1000/\R (.tup (as++bs))
 | _,_,_=>False
theorem zPv:wQ (λx y H Q=>ue (λi j=>.int (i + j)) x y H Q\/(qz x y H Q\/JQ x y H Q)) gQ:=λZ H x y a b R Q zd hx hy h q=>by
 unfold gQ at h
 split at h
 ·cases hx; cases hy; exact .inl ⟨_,_,rfl,rfl,q _ _ H h (Sm.refl _) (.int _)⟩
 ·obtain ⟨p,xs,rfl,e1,h1⟩:=hx.lst_inv
  obtain ⟨r,ys,rfl,e2,h2⟩:=hy.lst_inv
  have l1:=Paired.length h1
  have l2:=Paired.length h2
  exact .inr (.inl ⟨p,r,xs,ys,rfl,rfl,yG _ _ e1,yG _ _ e2,few (by omega),λn hn=>q _ _ _ h.2 (x8 hn _) (uj zd hn (kR h1 h2))⟩)
 ·obtain ⟨p,xs,rfl,e1,h1⟩:=hx.tup_inv
  obtain ⟨r,ys,rfl,e2,h2⟩:=hy.tup_inv
  have l1:=Paired.length h1
  have l2:=Paired.length h2
  exact .inr (.inr ⟨p,r,xs,ys,rfl,rfl,yG _ _ e1,yG _ _ e2,few (by omega),λn H' s e=>have s:=Sm.of s; q _ _ _ h.2 s (zLK (zd.same s) e (xW (yg s) (kR h1 h2)))⟩)
 ·exact h.elim
def gR:F2
 | .int i,.int j,R=>R (.int (i - j))
 | _,_,_=>False
theorem zOe {g:Int->Int->V} {k:Int->Int->D} {f:F2} (hg:∀ i j H,DV H (g i j) (k i j)) (hf:∀ a b R,f a b R->∃ i j,a=.int i/\b=.int j/\R (k i j)):wQ (ue g) f:=λZ H x y a b R Q zd hx hy h q=>by
 obtain ⟨i,j,rfl,rfl,k⟩:=hf a b R h
 cases hx; cases hy
 exact ⟨_,_,rfl,rfl,q _ _ H k (Sm.refl _) (hg i j _)⟩
theorem Jk {C:Int->Int->Prop} {g:Int->Int->V} {k:Int->Int->D} {f:F2} (hg:∀ i j H,DV H (g i j) (k i j)) (hf:∀ a b R,f a b R->∃ i j,a=.int i/\b=.int j/\C i j/\R (k i j)):wQ (rI C g) f:=λZ H x y a b R Q zd hx hy h q=>by
 obtain ⟨i,j,rfl,rfl,c,k⟩:=hf a b R h
 cases hx; cases hy
 exact ⟨_,_,rfl,rfl,c,q _ _ H k (Sm.refl _) (hg i j _)⟩
theorem zPo:wQ (ue λi j=>.int (i - j)) gR:=zOe (k:=λi j=>.int (i - j)) (λ_ _ _=>.int _) λa b R h=>by
 unfold gR at h
 split at h
 ·exact ⟨_,_,rfl,rfl,h⟩
 ·exact h.elim
def gU:F2
 | .int i,.int j,R=>Bd 60000 i/\Bd 60000 j/\R (.int (i * j))
 | .lst [d],.int k,R=>0<=k/\k<=1000/\R (.lst (cS k.toNat d))
 | _,_,_=>False
theorem YE {α:Type} (x:α):∀ n:Nat,(cS n [x]).flatten=cS n x
 | 0=>rfl
 | n + 1=>by rw [ff,fP,YE x n]; rfl
theorem zF8 {α β:Type} {R:α->β->Prop} {x:α} {y:β} (h:R x y):∀ n:Nat,Paired R (cS n x) (cS n y)
 | 0=>.nil
 | n + 1=>.cons h (zF8 h n)
theorem zPr:wQ (λx y H Q=>rI WN (λi j=>.int (i * j)) x y H Q\/Zh x y H Q) gU:=λZ H x y a b R Q zd hx hy h q=>by
 unfold gU at h
 split at h
 ·cases hx; cases hy; exact .inl ⟨_,_,rfl,rfl,⟨h.1,h.2.1⟩,q _ _ H h.2.2 (Sm.refl _) (.int _)⟩
 ·rename_i d k
  obtain ⟨p,xs,rfl,e1,h1⟩:=hx.lst_inv
  cases hy
  cases h1 with
  | @cons x _ _ _ h1 h2=>
  cases h2
  refine .inr ⟨p,_,_,rfl,rfl,yG _ _ e1,by omega,by omega,few (by rw [fJ]; omega),λn hn=>?_⟩
  rw [YE]
  exact q _ _ _ h.2.2 (x8 hn _) (uj zd hn (zF8 h1 _))
 ·exact h.elim
def Jl:F2
 | .int i,.int j,R=>j≠0/\Bd 8000 j/\R (.int (i.fdiv j))
 | _,_,_=>False
theorem zNQ:wQ (rI zSz λi j=>.int (i.fdiv j)) Jl:=Jk (k:=λi j=>.int (i.fdiv j)) (λ_ _ _=>.int _) λa b R h=>by
 unfold Jl at h
 split at h
 ·exact ⟨_,_,rfl,rfl,⟨h.1,h.2.1⟩,h.2.2⟩
 ·exact h.elim
def jw:F2
 | .int i,.int j,R=>j≠0/\R (.int (i.fmod j))
 | _,_,_=>False
theorem zPs:wQ (rI (λ_ j=>j≠0) λi j=>.int (i.fmod j)) jw:=Jk (k:=λi j=>.int (i.fmod j)) (λ_ _ _=>.int _) λa b R h=>by
 unfold jw at h
 split at h
 ·exact ⟨_,_,rfl,rfl,h.1,h.2⟩
 ·exact h.elim
def gW:F2
 | .int i,.int j,R=>qv i j/\R (.int (i ^ j.toNat))
 | _,_,_=>False
theorem zPp:wQ (rI qv λi j=>.int (i ^ j.toNat)) gW:=Jk (k:=λi j=>.int (i ^ j.toNat)) (λ_ _ _=>.int _) λa b R h=>by
 unfold gW at h
 split at h
 ·exact ⟨_,_,rfl,rfl,h.1,h.2⟩
 ·exact h.elim
def wY (g:Int->Int->Bool):F2
 | .int i,.int j,R=>R (.bool (g i j))
 | _,_,_=>False
theorem gX {g:Int->Int->Bool}:wQ (ue λi j=>.bl (g i j)) (wY g):=zOe (k:=λi j=>.bool (g i j)) (λ_ _ _=>.bool _) λa b R h=>by
 unfold wY at h
 split at h
 ·exact ⟨_,_,rfl,rfl,h⟩
 ·exact h.elim
theorem yB (ha:PE X a (tP pa)) (hb:PE X b (tP pb)):PE X (.BinOp a .Add b pos) (tP (xT gQ pa pb)):=ka (zRz.or (zOc.or Zy)) zPv ha hb
theorem vh (ha:PE X a (tP pa)) (hb:PE X b (tP pb)):PE X (.BinOp a .Sub b pos) (tP (xT gR pa pb)):=ka zRr zPo ha hb
theorem yN (ha:PE X a (tP pa)) (hb:PE X b (tP pb)):PE X (.BinOp a .Mult b pos) (tP (xT gU pa pb)):=ka (zPl.or zRs) zPr ha hb
theorem wZ (ha:PE X a (tP pa)) (hb:PE X b (tP pb)):PE X (.BinOp a .FloorDiv b pos) (tP (xT Jl pa pb)):=ka zNO zNQ ha hb
theorem xu (ha:PE X a (tP pa)) (hb:PE X b (tP pb)):PE X (.BinOp a .Mod b pos) (tP (xT jw pa pb)):=ka zLI zPs ha hb
theorem qY (ha:PE X a (tP pa)) (hb:PE X b (tP pb)):PE X (.BinOp a .Pow b pos) (tP (xT gW pa pb)):=ka zRt zPp ha hb
theorem zRO (ha:PE X a (tP pa)) (hb:PE X b (tP pb)):PE X (.Compare a [.Lt] [b] pos) (tP (xT (wY λi j=>decide (i < j)) pa pb)):=gO zRu gX (w4 _) ha hb
theorem Jm (ha:PE X a (tP pa)) (hb:PE X b (tP pb)):PE X (.Compare a [.LtE] [b] pos) (tP (xT (wY λi j=>decide (i<=j)) pa pb)):=gO ZY gX (w4 _) ha hb
theorem YF (ha:PE X a (tP pa)) (hb:PE X b (tP pb)):PE X (.Compare a [.Gt] [b] pos) (tP (xT (wY λi j=>decide (j < i)) pa pb)):=gO zRw gX (w4 _) ha hb
theorem Jn (ha:PE X a (tP pa)) (hb:PE X b (tP pb)):PE X (.Compare a [.GtE] [b] pos) (tP (xT (wY λi j=>decide (j<=i)) pa pb)):=gO zRx gX (w4 _) ha hb
def YG:D->(D->Prop)->Prop
 | .int i,R=>R (.int (-i))
 | _,_=>False
def YH (f:D->(D->Prop)->Prop) (pa:zr):zr:=λΓ R=>pa Γ λx=>f x R
theorem xU (ha:PE X a (tP pa)):PE X (.UnaryOp .USub a pos) (tP (YH YG pa)):=yU (ZV zQu ha) λσ H Q ⟨Z,Γ,R,E,h,q⟩=>
 ⟨Z,Γ,_,E,h,λd v H1 hd s1 hv=>by
  unfold YG at hd
  split at hd
  ·cases hv; exact ⟨_,rfl,q _ _ H1 hd s1 (.int _)⟩
  ·exact hd.elim⟩
end
end Pu
namespace Pu
open PySem L2 Sh
variable [yd]
mutual
def D.py:D->PyData
 | .int i=>.int i
 | .bool b=>.bool b
 | .non=>.none
 | .str x=>.str x
 | .scr _=>.none
 | .lst ds=>.list (wv ds)
 | .tup ds=>.tuple (wv ds)
 | .obj _ _ _=>.none
def wv:List D->List PyData
 | []=>[]
 | d :: ds=>d.py :: wv ds
end
def D.pl:Nat->D->Bool
 | 0,_=>false
 | _ + 1,.int _=>true
 | _ + 1,.bool _=>true
 | _ + 1,.non=>true
 | _ + 1,.str x=>PyData.strOk x
 | _ + 1,.scr _=>false
 | n + 1,.lst ds=>ds.all (D.pl n)
 | n + 1,.tup ds=>ds.all (D.pl n)
 | _ + 1,.obj ..=>false
structure DpO (n:Nat) (d:D):Prop where
 dp:∀ K H v,DV H v d->Dp K H v d.py
 lay:d.py.canLay0=true
 dep:d.py.depth<=n
theorem Jo {n:Nat}:∀ {ds:List D},(∀ d∈ds,DpO n d)->(∀ K H xs,yR H xs ds->u6 K H xs (wv ds))/\i6 (wv ds)=true/\lG (wv ds)<=n
 | [],_=>⟨λK H xs h=>by cases h; exact .nil,by simp [wv,i6],by simp [wv,lG]⟩
 | d :: ds,h=>by
  obtain ⟨h1,h2,h3⟩:=Jo (ds:=ds) λx m=>h x (cK _ m)
  have g:=h d cO
  have l:=g.lay
  have p:=g.dep
  refine ⟨λK H xs q=>?_,by simp [wv,i6,l,h2],by simp only [wv,lG]; omega⟩
  cases q with
  | cons q r=>exact .cons (g.dp K H _ q) (h1 K H _ r)
theorem uB:∀ (n:Nat) (d:D),D.pl n d=true->DpO n d
 | 0,_,h=>by cases h
 | n + 1,.int i,_=>⟨λK H v h=>by cases h; exact .int i,by simp [D.py,fV],by simp [D.py,ir]⟩
 | n + 1,.bool i,_=>⟨λK H v h=>by cases h; exact .bl i,by simp [D.py,fV],by simp [D.py,ir]⟩
 | n + 1,.non,_=>⟨λK H v h=>by cases h; exact .non,by simp [D.py,fV],by simp [D.py,ir]⟩
 | n + 1,.str i,h=>⟨λK H v h=>by cases h; exact .str i,by simp only [D.py,fV]; exact h,by simp [D.py,ir]⟩
 | n + 1,.scr _,h=>by cases h
 | n + 1,.obj ..,h=>by cases h
 | n + 1,.lst ds,h=>by
  obtain ⟨h1,h2,h3⟩:=Jo (n:=n) (ds:=ds) λd m=>uB n d (di.mp h d m)
  refine ⟨λK H v q=>?_,by simp [D.py,fV,h2],by simp only [D.py,ir]; omega⟩
  obtain ⟨p,xs,rfl,e,q⟩:=q.lst_inv
  exact .lst (zp.of e) (h1 K H _ q)
 | n + 1,.tup ds,h=>by
  obtain ⟨h1,h2,h3⟩:=Jo (n:=n) (ds:=ds) λd m=>uB n d (di.mp h d m)
  refine ⟨λK H v q=>?_,by simp [D.py,fV,h2],by simp only [D.py,ir]; omega⟩
  obtain ⟨p,xs,rfl,e,q⟩:=q.tup_inv
  exact .tup (yj.of e) (h1 K H _ q)
theorem Jp:∀ ns:List Int,wv (ns.map D.int)=ns.map PyData.int
 | []=>rfl
 | n :: t=>by rw [dD,dD,wv,Jp t,D.py]
theorem gY (n:Nat) (ns:List Int):(ns.map D.int).all (D.pl (n + 1))=true:=di.mpr λd m=>by
 obtain ⟨i,_,rfl⟩:=cP.mp m
 rfl
abbrev L (ns:List Int):D:=.lst (ns.map D.int)
abbrev U (ns:List Int):D:=.tup (ns.map D.int)
theorem YI (ds:List D):fR (D.lst ds).py (D.lst []).py=ds.isEmpty:=by cases ds <;> rfl
section
variable {X:Cx} {a b e c:Expr} {es:List Expr} {pos:Pos} {pa pb pc:zr} {qa qb:wE} {pl:yz}
def Wl:F2
 | .int i,.int j,R=>R (.bool (decide (i=j)))
 | .bool i,.bool j,R=>R (.bool (i == j))
 | .str i,.str j,R=>R (.bool (i == j))
 | .non,.non,R=>R (.bool true)
 | .lst as,.lst bs,R=>(D.lst as).pl 50=true/\(D.lst bs).pl 50=true/\R (.bool (fR (D.lst as).py (D.lst bs).py))
 | .tup as,.tup bs,R=>(D.tup as).pl 50=true/\(D.tup bs).pl 50=true/\R (.bool (fR (D.tup as).py (D.tup bs).py))
 | _,_,_=>False
theorem zOf {K:cI}:wQ (λx y H Q=>rEq x y H Q\/gA K x y H Q) Wl:=λZ H x y a b R Q zd hx hy h q=>by
 unfold Wl at h
 split at h
 ·cases hx; cases hy
  refine .inl ⟨rfl,?_⟩
  rw [WC,lH]
  exact q _ _ H h (Sm.refl _) (.bool _)
 ·cases hx; cases hy
  refine .inl ⟨rfl,?_⟩
  rw [WD]
  exact q _ _ H h (Sm.refl _) (.bool _)
 ·cases hx; cases hy
  refine .inl ⟨rfl,?_⟩
  rw [WE]
  exact q _ _ H h (Sm.refl _) (.bool _)
 ·cases hx; cases hy
  refine .inl ⟨rfl,?_⟩
  rw [show decide (V.non=V.non)=true from decide_eq_true rfl]
  exact q _ _ H h (Sm.refl _) (.bool _)
 ·have d1:=uB _ _ h.1
  have d2:=uB _ _ h.2.1
  have e1:=d1.dep
  have e2:=d2.dep
  exact .inr ⟨_,_,d1.dp K H _ (hx.same yG),d2.dp K H _ (hy.same yG),d1.lay,d2.lay,by omega,by omega,q _ _ H h.2.2 (Sm.refl _) (.bool _)⟩
 ·have d1:=uB _ _ h.1
  have d2:=uB _ _ h.2.1
  have e1:=d1.dep
  have e2:=d2.dep
  exact .inr ⟨_,_,d1.dp K H _ (hx.same yG),d2.dp K H _ (hy.same yG),d1.lay,d2.lay,by omega,by omega,q _ _ H h.2.2 (Sm.refl _) (.bool _)⟩
 ·exact h.elim
def qZ:F2
 | .int i,.int j,R=>R (.bool (!decide (i=j)))
 | .bool i,.bool j,R=>R (.bool (i != j))
 | .str i,.str j,R=>R (.bool (i != j))
 | .lst as,.lst bs,R=>(D.lst as).pl 50=true/\(D.lst bs).pl 50=true/\R (.bool (!PyData.eqv (D.lst as).py (D.lst bs).py))
 | .tup as,.tup bs,R=>(D.tup as).pl 50=true/\(D.tup bs).pl 50=true/\R (.bool (!PyData.eqv (D.tup as).py (D.tup bs).py))
 | _,_,_=>False
theorem zOd {K:cI}:wQ (λx y H Q=>rNe x y H Q\/∃ d e:PyData,Dp K H x d/\Dp K H y e/\d.canLay0=true/\e.canLay0=true/\d.depth<=60/\e.depth<=60/\Q (.bl (!PyData.eqv d e)) H) qZ:=λZ H x y a b R Q zd hx hy h q=>by
 unfold qZ at h
 split at h
 ·cases hx; cases hy
  refine .inl ⟨rfl,?_⟩
  rw [WC,lH]
  exact q _ _ H h (Sm.refl _) (.bool _)
 ·cases hx; cases hy
  refine .inl ⟨rfl,?_⟩
  rw [WD]
  exact q _ _ H h (Sm.refl _) (.bool _)
 ·cases hx; cases hy
  refine .inl ⟨rfl,?_⟩
  rw [WE]
  exact q _ _ H h (Sm.refl _) (.bool _)
 ·have d1:=uB _ _ h.1
  have d2:=uB _ _ h.2.1
  have e1:=d1.dep
  have e2:=d2.dep
  exact .inr ⟨_,_,d1.dp K H _ (hx.same yG),d2.dp K H _ (hy.same yG),d1.lay,d2.lay,by omega,by omega,q _ _ H h.2.2 (Sm.refl _) (.bool _)⟩
 ·have d1:=uB _ _ h.1
  have d2:=uB _ _ h.2.1
  have e1:=d1.dep
  have e2:=d2.dep
  exact .inr ⟨_,_,d1.dp K H _ (hx.same yG),d2.dp K H _ (hy.same yG),d1.lay,d2.lay,by omega,by omega,q _ _ H h.2.2 (Sm.refl _) (.bool _)⟩
 ·exact h.elim
theorem zRN (hu:X.A.units + 64 < cLine) (ha:PE X a (tP pa)) (hb:PE X b (tP pb)):PE X (.Compare a [.NotEq] [b] pos) (tP (xT qZ pa pb)):=gO (Ur.or (JD hu)) zOd (w4 _) ha hb
theorem qc (hu:X.A.units + 64 < cLine) (ha:PE X a (tP pa)) (hb:PE X b (tP pb)):PE X (.Compare a [.Eq] [b] pos) (tP (xT Wl pa pb)):=gO (zRy.or (WQ hu)) zOf (w4 _) ha hb
def bD:D->(Bool->Prop)->Prop
 | .bool b,R=>R b
 | _,_=>False
def xb (pa:zr):wE:=λΓ R=>pa Γ λd=>bD d R
theorem zOL {t:TE} (w:∀ σ H Q,tP pa σ H Q->t σ H Q) (σ:St) (H:Hp) (Q:Bool->Hp->Prop):xJ (xb pa) σ H Q->zQ0 t σ H Q:=λ⟨Z,Γ,R,E,h,q⟩=>
 w _ _ _ ⟨Z,Γ,_,E,h,λd v H1 hd s1 hv=>by
  unfold bD at hd
  split at hd
  ·cases hv; exact ⟨_,rfl,q _ H1 hd s1⟩
  ·exact hd.elim⟩
theorem xj (ha:PE X e (tP pa)) (he:∀ whole,isTrue e X.env whole=(do let v <- whole; standAt e.pos; holding [v] (truthy v)):=by intro _; rfl):PT X e (xJ (xb pa)):=Ji (zRT ha he) (zOL λ_ _ _ h=>h)
theorem jx {op:CmpOp} {r:R2} {f:F2} (ho:xE X (compareOp op) r) (o:wQ r f) (hm:behindInMarks op b=false) (ha:PE X a (tP pa)) (hb:PE X b (tP pb)):PT X (.Compare a [op] [b] pos) (xJ (xb (xT f pa pb))):=Ji (zKz ho ha hb hm) (zOL (Wi o))
theorem jZ (hu:X.A.units + 64 < cLine) (ha:PE X a (tP pa)) (hb:PE X b (tP pb)):PT X (.Compare a [.Eq] [b] pos) (xJ (xb (xT Wl pa pb))):=jx (zRy.or (WQ hu)) zOf (w4 _) ha hb
theorem kg (hu:X.A.units + 64 < cLine) (ha:PE X a (tP pa)) (hb:PE X b (tP pb)):PT X (.Compare a [.NotEq] [b] pos) (xJ (xb (xT qZ pa pb))):=jx (Ur.or (JD hu)) zOd (w4 _) ha hb
theorem kh (ha:PE X a (tP pa)) (hb:PE X b (tP pb)):PT X (.Compare a [.Lt] [b] pos) (xJ (xb (xT (wY λi j=>decide (i < j)) pa pb))):=jx zRu gX (w4 _) ha hb
theorem gZ (ha:PE X a (tP pa)) (hb:PE X b (tP pb)):PT X (.Compare a [.Gt] [b] pos) (xJ (xb (xT (wY λi j=>decide (j < i)) pa pb))):=jx zRw gX (w4 _) ha hb
theorem zRM (ha:PE X a (tP pa)) (hb:PE X b (tP pb)):PT X (.Compare a [.GtE] [b] pos) (xJ (xb (xT (wY λi j=>decide (j<=i)) pa pb))):=jx zRx gX (w4 _) ha hb
def wJ (b:Bool) (A B:Prop):Prop:=(b=true->A)/\(b=false->B)
theorem wT {b:Bool} {A B:Prop} (e:b=true) (h:A):wJ b A B:=⟨λ_=>h,λz=>nomatch e.symm.trans z⟩
theorem wF {b:Bool} {A B:Prop} (e:b=false) (h:B):wJ b A B:=⟨λz=>(nomatch e.symm.trans z),λ_=>h⟩
theorem w2 {b:Bool} {A B:Prop} (h1:b=true->A) (h2:b=false->B):wJ b A B:=⟨h1,h2⟩
def Jq (p q:wE):wE:=λΓ R=>p Γ λc=>wJ c (q Γ R) (R false)
def pOr (p q:wE):wE:=λΓ R=>p Γ λc=>wJ c (R true) (q Γ R)
def Jr (p:wE):wE:=λΓ R=>p Γ λc=>R (!c)
theorem zM8 (ha:PT X a (xJ qa)):PW X (.BoolOp .And [a] pos) (xJ qa):=zPM ha
theorem uk (ha:PT X a (xJ qa)):PW X (.BoolOp .Or [a] pos) (xJ qa):=zRK ha
theorem zPN {yK:List Expr} (ha:PT X a (xJ qa)) (hb:PW X (.BoolOp .And (b :: yK) pos) (xJ qb)):PW X (.BoolOp .And (a :: b :: yK) pos) (xJ (Jq qa qb)):=pww (zRL ha hb) λσ H Q ⟨Z,Γ,R,E,h,q⟩=>
 ⟨Z,Γ,_,E,h,λc H1 hc s1=>by
  cases c with
  | true=>exact ⟨Z,Γ,R,E.same s1,hc.1 rfl,λb H2 hb s2=>q b H2 hb (s1.trans s2)⟩
  | false=>exact q _ H1 (hc.2 rfl) s1⟩
theorem uT {yK:List Expr} (ha:PT X a (xJ qa)) (hb:PW X (.BoolOp .Or (b :: yK) pos) (xJ qb)):PW X (.BoolOp .Or (a :: b :: yK) pos) (xJ (pOr qa qb)):=pww (ZI ha hb) λσ H Q ⟨Z,Γ,R,E,h,q⟩=>
 ⟨Z,Γ,_,E,h,λc H1 hc s1=>by
  cases c with
  | true=>exact q _ H1 (hc.1 rfl) s1
  | false=>exact ⟨Z,Γ,R,E.same s1,hc.2 rfl,λb H2 hb s2=>q b H2 hb (s1.trans s2)⟩⟩
theorem ww (ha:PT X a (xJ qa)):PT X (.UnaryOp .Not a pos) (xJ (Jr qa)):=Ji (zRU ha) λσ H Q ⟨Z,Γ,R,E,h,q⟩=>⟨Z,Γ,_,E,h,λc H1 hc s1=>q _ H1 hc s1⟩
def YJ (p q:zr):zr:=λΓ R=>p Γ λd=>bD d λc=>wJ c (q Γ R) (R (.bool false))
def Js (p q:zr):zr:=λΓ R=>p Γ λd=>bD d λc=>wJ c (R (.bool true)) (q Γ R)
def YK (p:zr):zr:=λΓ R=>p Γ λd=>bD d λc=>R (.bool !c)
theorem ul {op} (ha:PE X a (tP pa)):PE X (.BoolOp op [a] pos) (tP pa):=zRg ha
theorem vj {yK:List Expr} (ha:PE X a (tP pa)) (hb:PE X (.BoolOp .And (b :: yK) pos) (tP pb)):PE X (.BoolOp .And (a :: b :: yK) pos) (tP (YJ pa pb)):=yU (zRk ha hb) λσ H Q ⟨Z,Γ,R,E,h,q⟩=>
 ⟨Z,Γ,_,E,h,λd v H1 hd s1 hv=>by
  unfold bD at hd
  split at hd
  ·cases hv
   rename_i c
   refine ⟨c,rfl,?_⟩
   cases c with
   | true=>exact ⟨Z,Γ,R,E.same s1,hd.1 rfl,λb v H2 hb s2 k=>q b v H2 hb (s1.trans s2) k⟩
   | false=>exact q _ _ H1 (hd.2 rfl) s1 (.bool _)
  ·exact hd.elim⟩
theorem YL {yK:List Expr} (ha:PE X a (tP pa)) (hb:PE X (.BoolOp .Or (b :: yK) pos) (tP pb)):PE X (.BoolOp .Or (a :: b :: yK) pos) (tP (Js pa pb)):=yU (ZM ha hb) λσ H Q ⟨Z,Γ,R,E,h,q⟩=>
 ⟨Z,Γ,_,E,h,λd v H1 hd s1 hv=>by
  unfold bD at hd
  split at hd
  ·cases hv
   rename_i c
   refine ⟨c,rfl,?_⟩
   cases c with
   | true=>exact q _ _ H1 (hd.1 rfl) s1 (.bool _)
   | false=>exact ⟨Z,Γ,R,E.same s1,hd.2 rfl,λb v H2 hb s2 k=>q b v H2 hb (s1.trans s2) k⟩
  ·exact hd.elim⟩
theorem zOV (ha:PE X a (tP pa)):PE X (.UnaryOp .Not a pos) (tP (YK pa)):=yU (zRh ha) λσ H Q ⟨Z,Γ,R,E,h,q⟩=>
 ⟨Z,Γ,_,E,h,λd v H1 hd s1 hv=>by
  unfold bD at hd
  split at hd
  ·cases hv; exact ⟨_,rfl,q _ _ H1 hd s1 (.bool _)⟩
  ·exact hd.elim⟩
def Jt (t:wE) (p q:zr):zr:=λΓ R=>t Γ λc=>wJ c (p Γ R) (q Γ R)
theorem YM (hc:PT X c (xJ qa)) (ha:PE X a (tP pa)) (hb:PE X b (tP pb)):PE X (.IfExp c a b pos) (tP (Jt qa pa pb)):=yU (zNK hc ha hb) λσ H Q ⟨Z,Γ,R,E,h,q⟩=>
 ⟨Z,Γ,_,E,h,λc H1 hd s1=>by
  cases c with
  | true=>exact ⟨Z,Γ,R,E.same s1,hd.1 rfl,λb v H2 hb s2 k=>q b v H2 hb (s1.trans s2) k⟩
  | false=>exact ⟨Z,Γ,R,E.same s1,hd.2 rfl,λb v H2 hb s2 k=>q b v H2 hb (s1.trans s2) k⟩⟩
def YN:yz:=λ_ R=>R []
def zRo (pa:zr) (pl:yz):yz:=λΓ R=>pa Γ λd=>pl Γ λds=>R (d :: ds)
theorem zC:PA X [] (wP YN):=paw ym λσ H Q ⟨_,_,_,_,h,q⟩=>q _ _ H h (Sm.refl _) .nil
theorem zB (ha:PE X e (tP pa)) (hr:PA X es (wP pl)) (hs:starEach (e :: es) X.env=(false,eval e X.env) :: starEach es X.env:=by rfl):PA X (e :: es) (wP (zRo pa pl)):=paw (yA ha hr hs) λσ H Q ⟨Z,Γ,R,E,h,q⟩=>
 ⟨Z,Γ,_,E,h,λd v H1 hd s1 hv=>⟨Z,Γ,_,E.same s1,hd,λds vs H2 hds s2 hvs=>q _ _ H2 hds (s1.trans s2) (.cons (hv.same (yg s2)) hvs)⟩⟩
def Ju (pl:yz):zr:=λΓ R=>pl Γ λds=>ds.length<=1000/\R (.tup ds)
def Jv (pl:yz):zr:=λΓ R=>pl Γ λds=>ds.length<=1000/\R (.lst ds)
theorem xX {x1} (ha:PA X es (wP pl)):PE X (.Tuple es x1 pos) (tP (Ju pl)):=yU (zRe ha) λσ H Q ⟨Z,Γ,R,E,h,q⟩=>
 ⟨Z,Γ,_,E,h,λds vs H1 hd s1 hv=>⟨few (by rw [Paired.length hv]; exact hd.1),λp hp=>q _ _ _ hd.2 (s1.trans (x8 hp _)) (Wj (E.same s1).zd hp hv)⟩⟩
theorem vM (ha:PA X es (wP pl)):PE X (.List es pos) (tP (Jv pl)):=yU (zOY ha) λσ H Q ⟨Z,Γ,R,E,h,q⟩=>
 ⟨Z,Γ,_,E,h,λds vs H1 hd s1 hv=>⟨few (by rw [Paired.length hv]; exact hd.1),λp hp=>q _ _ _ hd.2 (s1.trans (x8 hp _)) (uj (E.same s1).zd hp hv)⟩⟩
theorem Wm {α β:Type} {R:α->β->Prop} {xs:List α} {ys:List β} (h:Paired R xs ys) {i:Int} {y:β} (e:yo ys i=some y):∃ x,yo xs i=some x/\R x y:=by
 unfold yo at e |-
 rw [Paired.length h]
 cases k:xw ys.length i with
 | none=>rw [k] at e; cases e
 | some j=>
  rw [k] at e
  exact go h e
where
 go:∀ {xs:List α} {ys:List β} {j:Nat} {y:β},Paired R xs ys->ys[j]? = some y->∃ x,xs[j]? = some x/\R x y
  | _,_,_,_,.nil,e=>by simp at e
  | _,_,0,_,.cons r _,e=>by simp at e; subst e; exact ⟨_,rfl,r⟩
  | _,_,j + 1,y,.cons _ t,e=>by
   obtain ⟨x,h1,h2⟩:=go (j:=j) (y:=y) t (by simpa using e)
   exact ⟨x,by simpa using h1,h2⟩
def ixD:F2
 | .lst ds,.int i,R=>∃ d,yo ds i=some d/\R d
 | .tup ds,.int i,R=>∃ d,yo ds i=some d/\R d
 | .scr ns,.int i,R=>∃ n,yo ns i=some n/\R (.int n)
 | _,_,_=>False
theorem ga {α β:Type} (f:α->β) (xs:List α) (i:Int):yo (xs.map f) i=(yo xs i).map f:=by
 unfold yo
 rw [a_]
 cases xw xs.length i with
 | none=>rfl
 | some j=>exact c_ ..
theorem zR0 {K:cI}:wQ (Zu K) ixD:=λZ H x y a b R Q zd hx hy h q=>by
 unfold ixD at h
 split at h
 ·obtain ⟨p,xs,rfl,e1,h1⟩:=hx.lst_inv
  cases hy
  obtain ⟨d,hd,hR⟩:=h
  obtain ⟨v,hv,hh⟩:=Wm h1 hd
  exact ⟨p,xs,_,v,rfl,rfl,.inr (zp.of (yG _ _ e1)),hv,q _ _ H hR (Sm.refl _) hh⟩
 ·obtain ⟨p,xs,rfl,e1,h1⟩:=hx.tup_inv
  cases hy
  obtain ⟨d,hd,hR⟩:=h
  obtain ⟨v,hv,hh⟩:=Wm h1 hd
  exact ⟨p,xs,_,v,rfl,rfl,.inl (yj.of (yG _ _ e1)),hv,q _ _ H hR (Sm.refl _) hh⟩
 ·cases hy
  cases hx with
  | scr e=>
  obtain ⟨n,hn,hR⟩:=h
  exact ⟨_,_,_,.int n,rfl,rfl,.inr (.inl (Wg yG e)),by rw [ga,hn]; rfl,q _ _ H hR (Sm.refl _) (.int n)⟩
 ·exact h.elim
theorem YO (ha:PE X a (tP pa)) (hb:PE X b (tP pb)) (hs:WJ b):PE X (.Subscript a b pos) (tP (xT ixD pa pb)):=yU (U1 zP7 ha hb hs) (Wi zR0)
theorem YQ {X:Cx} {e:Option Expr} {t t':TO} (h:PO X e t) (w:∀ σ H Q,t' σ H Q->t σ H Q):PO X e t':=λpins s σ H Q I q=>h pins s σ H Q I (w σ H Q q)
def zPg:gM:=λ_ R=>R none
def iD:D->(Option Int->Prop)->Prop
 | .int i,R=>R (some i)
 | _,_=>False
def YR (pa:zr):gM:=λΓ R=>pa Γ λd=>iD d R
theorem uC:PO X none (gN zPg):=YQ zPY λσ H Q ⟨_,_,_,_,h,q⟩=>q _ H h (Sm.refl _)
theorem wR (h:PE X e (tP pa)):PO X (some e) (gN (YR pa)):=YQ (zPX h) λσ H Q ⟨Z,Γ,R,E,h,q⟩=>
 ⟨Z,Γ,_,E,h,λd v H1 hd s1 hv=>by
  unfold iD at hd
  split at hd
  ·cases hv; exact ⟨_,rfl,q _ H1 hd s1⟩
  ·exact hd.elim⟩
def zv {α:Type} (xs:List α) (lo hi:Option Int):List α:=(xs.drop (HT.sIx xs.length 0 lo)).take (HT.sIx xs.length xs.length hi - HT.sIx xs.length 0 lo)
theorem zLD {α β:Type} {R:α->β->Prop}:∀ {xs:List α} {ys:List β} (n:Nat),Paired R xs ys->Paired R (xs.take n) (ys.take n)
 | _,_,0,_=>.nil
 | _,_,_ + 1,.nil=>.nil
 | _,_,n + 1,.cons h t=>.cons h (zLD n t)
theorem zLE {α β:Type} {R:α->β->Prop}:∀ {xs:List α} {ys:List β} (n:Nat),Paired R xs ys->Paired R (xs.drop n) (ys.drop n)
 | _,_,0,h=>h
 | _,_,_ + 1,.nil=>.nil
 | _,_,n + 1,.cons _ t=>zLE n t
theorem Jw {α β:Type} {R:α->β->Prop} {xs:List α} {ys:List β} (h:Paired R xs ys) (lo hi:Option Int):Paired R (zv xs lo hi) (zv ys lo hi):=by
 unfold zv
 rw [Paired.length h]
 exact zLD _ (zLE _ h)
def slD:D->Option Int->Option Int->(D->Prop)->Prop
 | .lst ds,lo,hi,R=>R (.lst (zv ds lo hi))
 | .tup ds,lo,hi,R=>R (.tup (zv ds lo hi))
 | _,_,_,_=>False
def pSl (pa:zr) (po qo:gM):zr:=λΓ R=>pa Γ λd=>po Γ λl=>qo Γ λu=>slD d l u R
theorem zRB {X:Cx} {r r':V->Option Int->Option Int->Hp->VK->Prop} (h:qy X r) (h':qy X r'):qy X (λx l u H Q=>r x l u H Q\/r' x l u H Q):=λpins s σ H x v vl vu lo hi sl Q I r1 r2 r3 r4 q=>
 q.elim (h pins s σ H x v vl vu lo hi sl Q I r1 r2 r3 r4) (h' pins s σ H x v vl vu lo hi sl Q I r1 r2 r3 r4)
theorem vN {lo hi:Option Expr} {po qo:gM} {p2:Pos} (ha:PE X a (tP pa)) (hl:PO X lo (gN po)) (hu:PO X hi (gN qo)):PE X (.Subscript a (.Slice lo hi none p2) pos) (tP (pSl pa po qo)):=yU (zJJ (zRB zKe zNn) ha hl hu) λσ H Q ⟨Z,Γ,R,E,h,q⟩=>
 ⟨Z,Γ,_,E,h,λd v H1 hd s1 hv=>⟨Z,Γ,_,E.same s1,hd,λl H2 hl s2=>⟨Z,Γ,_,E.same (s1.trans s2),hl,λu H3 hu s3=>by
  have s:=s1.trans (s2.trans s3)
  have hv:=hv.same (yg (s2.trans s3))
  have zd:=(E.same s).zd
  unfold slD at hu
  split at hu
  ·obtain ⟨p,xs,rfl,e1,h1⟩:=hv.lst_inv
   exact .inl ⟨p,xs,rfl,zp.of (yG _ _ e1),λn hn=>q _ _ _ hu (s.trans (x8 hn _)) (uj zd hn (Jw h1 _ _))⟩
  ·obtain ⟨p,xs,rfl,e1,h1⟩:=hv.tup_inv
   exact .inr ⟨p,xs,rfl,yG _ _ e1,λn H' s' e=>have s':=Sm.of s'; q _ _ _ hu (s.trans s') (zLK (zd.same s') e (xW (yg s') (Jw h1 _ _)))⟩
  ·exact hu.elim⟩⟩⟩
abbrev FL:=List D->(D->Prop)->Prop
def um (r:List V->Hp->VK->Prop) (f:FL):Prop:=∀ (Z:Addr->Prop) (H:Hp) (vs:List V) (ds:List D) (R:D->Prop) (Q:VK),ZL Z H->yR (zT Z H) vs ds->f ds R->(∀ d v H',R d->Sm H H'->DV (zT Z H') v d->Q v H')->r vs H Q
def jy (f:FL) (pl:yz):zr:=λΓ R=>pl Γ λds=>f ds R
theorem zKY {r:List V->Hp->VK->Prop} {f:FL} (o:um r f) (σ:St) (H:Hp) (Q:VK):tP (jy f pl) σ H Q->Zc r (wP pl) σ H Q:=λ⟨Z,Γ,R,E,h,q⟩=>
 ⟨Z,Γ,_,E,h,λds vs H1 hd s1 hv=>o Z H1 vs ds R Q (E.same s1).zd hv hd λd v H2 h2 s2 hv2=>q d v H2 h2 (s1.trans s2) hv2⟩
theorem yh {x:Str} {id:String} {p:Pos} {r:List V->Hp->VK->Prop} {f:FL} (hc:wz X (.builtin id) r) (o:um r f) (hg:Gl X x) (hm:X.mg x=none) (hv:bootBuiltins x=some (.builtin id)) (ha:PA X (e :: es) (wP pl)) (hn:x≠"__name__":=by decide) (hdb:(x == ("__debug__" : Str))=false:=by decide)
  (he:starEach (e :: es) X.env=(false,eval e X.env) :: starEach es X.env:=by rfl) (hpl:(backTo pos (starEach es X.env)).any (·.1)=false:=by rfl):PE X (.Call (.Name x p) (e :: es) [] pos) (tP (jy f pl)):=yU (wo hc hg hm hv ha hn hdb he hpl) (zKY o)
theorem x9 {x:Str} {T:String} {p:Pos} {r:List V->Hp->VK->Prop} {f:FL} (hc:wz X (.type T) r) (o:um r f) (hg:Gl X x) (hm:X.mg x=none) (hv:bootBuiltins x=some (.type T)) (ha:PA X (e :: es) (wP pl)) (hn:x≠"__name__":=by decide) (hdb:(x == ("__debug__" : Str))=false:=by decide)
  (he:starEach (e :: es) X.env=(false,eval e X.env) :: starEach es X.env:=by rfl) (hpl:(backTo pos (starEach es X.env)).any (·.1)=false:=by rfl):PE X (.Call (.Name x p) (e :: es) [] pos) (tP (jy f pl)):=yU (WH hc hg hm hv ha hn hdb he hpl) (zKY o)
def YS:FL
 | [.lst ds],R=>R (.int ds.length)
 | [.tup ds],R=>R (.int ds.length)
 | [.scr ns],R=>R (.int ns.length)
 | _,_=>False
theorem xA {H:Hp} {vs:List V} {d:D} (h:yR H vs [d]):∃ v,vs=[v]/\DV H v d:=by
 cases h with
 | cons h t=>cases t; exact ⟨_,rfl,h⟩
theorem jz {H:Hp} {vs:List V} {d e:D} (h:yR H vs [d,e]):∃ v w,vs=[v,w]/\DV H v d/\DV H w e:=by
 cases h with
 | cons h t=>obtain ⟨w,rfl,k⟩:=xA t; exact ⟨_,_,rfl,h,k⟩
theorem xv {K:cI}:um (λxs H Q=>∃ p ys,xs=[.ref p]/\(zp K H p ys\/yj K H p ys)/\Q (.int ys.length) H) YS:=λZ H vs ds R Q zd hv h q=>by
 unfold YS at h
 split at h
 ·obtain ⟨v,rfl,hw⟩:=xA hv
  obtain ⟨p,xs,rfl,e1,h1⟩:=hw.lst_inv
  exact ⟨p,xs,rfl,.inl (zp.of (yG _ _ e1)),by rw [Paired.length h1]; exact q _ _ H h (Sm.refl _) (.int _)⟩
 ·obtain ⟨v,rfl,hw⟩:=xA hv
  obtain ⟨p,xs,rfl,e1,h1⟩:=hw.tup_inv
  exact ⟨p,xs,rfl,.inr (yj.of (yG _ _ e1)),by rw [Paired.length h1]; exact q _ _ H h (Sm.refl _) (.int _)⟩
 ·obtain ⟨v,rfl,hw⟩:=xA hv
  cases hw with
  | scr e=>exact ⟨_,_,rfl,.inl (.inl (Wg yG e)),by rw [a_]; exact q _ _ H h (Sm.refl _) (.int _)⟩
 ·exact h.elim
def zSE:FL
 | [.lst ds],R=>R (.lst ds)
 | [.tup ds],R=>R (.lst ds)
 | _,_=>False
theorem ja {K:cI}:um (λxs H Q=>∃ p ys,xs=[.ref p]/\(zp K H p ys\/yj K H p ys)/\∀ l,H l=none->Q (.ref l) (zh H l (.lst ys))) zSE:=λZ H vs ds R Q zd hv h q=>by
 unfold zSE at h
 split at h
 ·obtain ⟨v,rfl,hw⟩:=xA hv
  obtain ⟨p,xs,rfl,e1,h1⟩:=hw.lst_inv
  exact ⟨p,xs,rfl,.inl (zp.of (yG _ _ e1)),λl hl=>q _ _ _ h (x8 hl _) (uj zd hl h1)⟩
 ·obtain ⟨v,rfl,hw⟩:=xA hv
  obtain ⟨p,xs,rfl,e1,h1⟩:=hw.tup_inv
  exact ⟨p,xs,rfl,.inr (yj.of (yG _ _ e1)),λl hl=>q _ _ _ h (x8 hl _) (uj zd hl h1)⟩
 ·exact h.elim
def YT:FL
 | [.lst ds],R=>R (.tup ds)
 | [.tup ds],R=>R (.tup ds)
 | _,_=>False
theorem jb {K:cI}:um (λxs H Q=>∃ p ys,xs=[.ref p]/\((zp K H p ys/\∀ l,H l=none->Q (.ref l) (zh H l (.tup ys)))\/(yj K H p ys/\Q (.ref p) H))) YT:=λZ H vs ds R Q zd hv h q=>by
 unfold YT at h
 split at h
 ·obtain ⟨v,rfl,hw⟩:=xA hv
  obtain ⟨p,xs,rfl,e1,h1⟩:=hw.lst_inv
  exact ⟨p,xs,rfl,.inl ⟨zp.of (yG _ _ e1),λl hl=>q _ _ _ h (x8 hl _) (Wj zd hl h1)⟩⟩
 ·obtain ⟨v,rfl,hw⟩:=xA hv
  obtain ⟨p,xs,rfl,e1,h1⟩:=hw.tup_inv
  exact ⟨p,xs,rfl,.inr ⟨yj.of (yG _ _ e1),q _ _ _ h (Sm.refl _) hw⟩⟩
 ·exact h.elim
def YU:FL
 | [.lst ds],R=>∃ ns:List Int,ds=ns.map D.int/\R (.int ns.sum)
 | _,_=>False
theorem zMS {K:cI}:um (λxs H Q=>∃ (p:Addr) (ns:List Int),xs=[.ref p]/\zp K H p (ns.map V.int)/\Q (.int ns.sum) H) YU:=λZ H vs ds R Q zd hv h q=>by
 unfold YU at h
 split at h
 ·obtain ⟨v,rfl,hw⟩:=xA hv
  obtain ⟨p,xs,rfl,e1,h1⟩:=hw.lst_inv
  obtain ⟨ns,rfl,h⟩:=h
  cases YB h1
  exact ⟨p,ns,rfl,zp.of (yG _ _ e1),q _ _ H h (Sm.refl _) (.int _)⟩
 ·exact h.elim
def YV:FL
 | [.lst ds],R=>∃ bs:List Bool,ds=bs.map D.bool/\R (.bool (bs.all id))
 | _,_=>False
theorem jc {K:cI}:um (λxs H Q=>∃ (p:Addr) (bs:List Bool),xs=[V.ref p]/\zp K H p (bs.map V.bl)/\Q (V.bl (bs.all id)) H) YV:=λZ H vs ds R Q zd hv h q=>by
 unfold YV at h
 split at h
 ·obtain ⟨v,rfl,hw⟩:=xA hv
  obtain ⟨p,xs,rfl,e1,h1⟩:=hw.lst_inv
  obtain ⟨ns,rfl,h⟩:=h
  cases zHy h1
  exact ⟨p,ns,rfl,zp.of (yG _ _ e1),q _ _ H h (Sm.refl _) (.bool _)⟩
 ·exact h.elim
def YW:FL
 | [.int i,.int j],R=>R (.int (max i j))
 | _,_=>False
theorem zMT:um (λxs H Q=>∃ i j,xs=[.int i,.int j]/\Q (.int (if j > i then j else i)) H) YW:=λZ H vs ds R Q zd hv h q=>by
 unfold YW at h
 split at h
 ·rename_i i j
  obtain ⟨v,w,rfl,hx,hy⟩:=jz hv
  cases hx; cases hy
  refine ⟨_,_,rfl,?_⟩
  have e:(if j > i then j else i)=max i j:=by rw [Int.max_def]; split <;> split <;> omega
  rw [e]
  exact q _ _ H h (Sm.refl _) (.int _)
 ·exact h.elim
def YX:FL
 | [.int i],R=>R (.int i)
 | [.bool b],R=>R (.int (if b=true then 1 else 0))
 | _,_=>False
theorem Jx:um (λxs H Q=>(∃ i,xs=[.int i]/\Q (.int i) H)\/∃ k,xs=[.bl k]/\Q (.int (if k then 1 else 0)) H) YX:=λZ H vs ds R Q zd hv h q=>by
 unfold YX at h
 split at h
 ·obtain ⟨v,rfl,hw⟩:=xA hv
  cases hw
  exact .inl ⟨_,rfl,q _ _ H h (Sm.refl _) (.int _)⟩
 ·obtain ⟨v,rfl,hw⟩:=xA hv
  cases hw
  exact .inr ⟨_,rfl,q _ _ H h (Sm.refl _) (.int _)⟩
 ·exact h.elim
end
end Pu
namespace Pu
open PySem L2 Sh
variable [yd]
def setN:St->List Nat->List V->St
 | σ,j :: js,v :: vs=>setN (σ.set j (some v)) js vs
 | σ,_,_=>σ
def Wn:List Sl->List Nat->List D->List Sl
 | Γ,j :: js,d :: ds=>Wn (zw Γ j (.sh d)) js ds
 | Γ,_,_=>Γ
def uo:Option (List D)->(List D->Prop)->Prop
 | some os,k=>k os
 | none,_=>False
theorem YY {o:Option (List D)} {k:List D->Prop} (h:uo o k):∃ os,o=some os/\k os:=by
 cases o with
 | none=>exact h.elim
 | some os=>exact ⟨os,rfl,h⟩
inductive tG (js:List Nat) (po:D->Option (List D)) (v:V) (σ:St) (H:Hp) (Q:St->Hp->Prop):Prop
 | mk (Z:Addr->Prop) (d:D) (os:List D) (hv:DV (zT Z H) v d) (ho:po d=some os) (q:∀ vs,yR (zT Z H) vs os->Q (setN σ js vs) H):tG js po v σ H Q
inductive tGs (js:List Nat) (po:List D->Option (List D)) (us:List V) (σ:St) (H:Hp) (Q:St->Hp->Prop):Prop
 | mk (Z:Addr->Prop) (ds os:List D) (hv:yR (zT Z H) us ds) (ho:po ds=some os) (q:∀ vs,yR (zT Z H) vs os->Q (setN σ js vs) H):tGs js po us σ H Q
structure ki (X:Cx) (es:List Expr) (js:List Nat) (po:List D->Option (List D)) (n:Nat):Prop where
 g:kK X es (tGs js po)
 l:∀ ds os,po ds=some os->ds.length=n
 k:∀ ds os,po ds=some os->os.length=js.length
section
variable {X:Cx} {pos:Pos}
def Jy:D->Option (List D):=λd=>some [d]
theorem zNC (i:Nat) {x:Str} (hN:X.N.Nodup) (hi:X.N[i]? = some x) (hx:uF X.env.scope x) (hf:X.fn x=true\/X.env.scope.names.lookup x=some .local:=by first | exact .inl rfl | exact .inr rfl | assumption):PG X (.Name x pos) (tG [i] Jy):=
 λpins s σ H v u Q I r ⟨_,_,_,hv,ho,q⟩=>zK6 hN hi hx hf pins s σ H v u Q I r (by
  cases ho
  exact q [v] (.cons hv .nil))
def zRX:List D->Option (List D)
 | []=>some []
 | _=>none
def Jz (po:List D->Option (List D)):List D->Option (List D)
 | d :: ds=>(po ds).map (d :: ·)
 | []=>none
def Wo (po:List D->Option (List D)):D->Option (List D)
 | .tup ds=>po ds
 | .lst ds=>po ds
 | _=>none
theorem wa:ki X [] [] zRX 0 where
 g:=λpins s σ H vs us Q I r ⟨_,ds,os,hv,ho,q⟩=>by
  cases ds with
  | nil=>cases hv; exact zPb pins s σ H [] us Q I r ⟨rfl,q [] (by cases ho; exact .nil)⟩
  | cons=>cases ho
 l:=λds os h=>by cases ds with | nil=>rfl | cons=>cases h
 k:=λds os h=>by cases ds with | nil=>cases h; rfl | cons=>cases h
theorem zKu (i:Nat) {x:Str} {es:List Expr} {js:List Nat} {po:List D->Option (List D)} {n:Nat} (hN:X.N.Nodup) (hi:X.N[i]? = some x) (hx:uF X.env.scope x) (h:ki X es js po n)
  (hs:(assignEach (.Name x pos :: es) X.env).map (·.2)=assign (.Name x pos) X.env :: (assignEach es X.env).map (·.2):=by rfl) (hf:X.fn x=true\/X.env.scope.names.lookup x=some .local:=by first | exact .inl rfl | exact .inr rfl | assumption):ki X (.Name x pos :: es) (i :: js) (Jz po) (n + 1) where
 g:=λpins s σ H vs us Q I r ⟨Z,ds,os,hv,ho,q⟩=>by
  cases hv with
  | nil=>cases ho
  | @cons v d vt dt hv ht=>
   change (po dt).map (d :: ·)=some os at ho
   cases e:po dt with
   | none=>rw [e] at ho; cases ho
   | some os'=>
    rw [e] at ho
    cases ho
    exact zNH (zK6 hN hi hx hf) h.g hs pins s σ H _ us Q I r ⟨v,vt,rfl,Z,dt,os',ht,e,λvs hvs=>q (v :: vs) (.cons hv hvs)⟩
 l:=λds os q=>by
  cases ds with
  | nil=>cases q
  | cons d dt=>
   change (po dt).map (d :: ·)=some os at q
   cases e:po dt with
   | none=>rw [e] at q; cases q
   | some os'=>rw [dB,h.l dt os' e]
 k:=λds os q=>by
  cases ds with
  | nil=>cases q
  | cons d dt=>
   change (po dt).map (d :: ·)=some os at q
   cases e:po dt with
   | none=>rw [e] at q; cases q
   | some os'=>rw [e] at q; cases q; rw [dB,dB,h.k dt os' e]
theorem wS {H:Hp} {vs:List V} {ds:List D} (h:yR H vs ds):vs.length=ds.length:=Paired.length h
theorem qd {po:List D->Option (List D)} {js:List Nat} (h:∀ ds os,po ds=some os->os.length=js.length):∀ d os,Wo po d=some os->os.length=js.length:=λd os q=>by
 unfold Wo at q
 split at q
 ·exact h _ _ q
 ·exact h _ _ q
 ·cases q
theorem wc {es:List Expr} {js:List Nat} {po:List D->Option (List D)} {n k:Nat} (hc:X.calm=true) (h:ki X es js po n) (hn:(assignEach es X.env).length=n:=by rfl) (hst:(assignEach es X.env).findIdx? (·.1)=none:=by rfl):PG X (.Tuple es k pos) (tG js (Wo po)):=
 λpins s σ H v u Q I r ⟨Z,d,os,hv,ho,q⟩=>by
  unfold Wo at ho
  split at ho
  ·obtain ⟨p,xs,rfl,e,hx⟩:=hv.tup_inv
   exact zRc hc h.g hn hst pins s σ H _ u Q I r ⟨p,xs,rfl,yj.of (yG _ _ e),by rw [wS hx]; exact h.l _ _ ho,Z,_,os,hx,ho,q⟩
  ·obtain ⟨p,xs,rfl,e,hx⟩:=hv.lst_inv
   exact zRd hc h.g hn hst pins s σ H _ u Q I r ⟨p,xs,rfl,zp.of (yG _ _ e),by rw [wS hx]; exact h.l _ _ ho,Z,_,os,hx,ho,q⟩
  ·cases ho
end
def Wk (Z:Addr->Prop) (J:It) (H:Hp) (ds:List D):Prop:=∀ i Z' H',zR (zT Z H) (zT Z' H')->ZL Z' H'->(∀ d,ds[i]? = some d->J.go i H'/\∀ x H'',J.yld i H' x H''->Sm H' H''/\DV (zT Z' H'') x d)/\(i=ds.length->J.stop i H')
inductive jC (p:yz) (σ:St) (H:Hp) (Q:It->Hp->Prop):Prop
 | mk (Z:Addr->Prop) (Γ:List Sl) (R:List D->Prop) (E:yS Z Γ σ H) (h:p Γ R) (q:∀ ds J H',R ds->Sm H H'->Wk Z J H' ds->Q J H'):jC p σ H Q
theorem YZ {α β:Type} {R:α->β->Prop} {xs:List α} {ys:List β} (h:Paired R xs ys) {j:Nat} {y:β} (e:ys[j]? = some y):∃ x,xs[j]? = some x/\R x y:=Wm.go h e
section
variable {X:Cx} {tg e e1 e2:Expr} {pos:Pos} {pa:zr} {pl:yz}
theorem Yb {w w':TI} (h:PI X tg e w) (k:∀ σ H R,w' σ H R->w σ H R):PI X tg e w':=λpins s σ H R I q=>h pins s σ H R I (k σ H R q)
def J0 (K:cI) (tl:TE):TI:=λσ H R=>tl σ H λx H1=>(∃ a,x=.ref a/\(∃ xs,zp K H1 a xs)/\R (Ul K a) H1)\/∃ a,x=.ref a/\(∃ xs,yj K H1 a xs)/\R (Um K a) H1
theorem zRb {l:Expr} {tl:TE} (hl:PE X l tl):PI X tg l (J0 X.K tl):=by
 intro pins s σ H R I h
 refine zo (hl pins s σ H _ I h) λv s1 ⟨x,H1,I1,r1,q1⟩=>?_
 rcases q1 with ⟨a,e,⟨xs,hq⟩,q⟩ | ⟨a,e,⟨xs,hq⟩,q⟩
 ·subst e
  cases r1
  obtain ⟨its,rv,p,hz⟩:=I1.list hq
  refine PySem.wpAny_pyIter_list p.isList ?_
  refine ⟨s1.heap.objs.size,[s1.heap.objs.size],_,_,H1,rfl,I1.kept (t':=s1.toks) λb o e=>cR _ e,zKV a _,⟨_,dj _ rfl,rfl,rfl⟩,λb hb=>?_,q⟩
  have e:b=s1.heap.objs.size:=by simpa using hb
  subst e
  exact I1.fpOk (cQ _) (I1.hok.fresh (cQ _))
 ·subst e
  cases r1
  obtain ⟨its,rv,p,hz⟩:=I1.tuple hq
  refine PySem.wpAny_pyIter_tuple (show s1.heap.IsTuple a its.toArray from p) ?_
  refine ⟨s1.heap.objs.size,[s1.heap.objs.size],_,_,H1,rfl,I1.kept (t':=s1.toks) λb o e=>cR _ e,zJq a _,⟨_,dj _ rfl,rfl,rfl⟩,λb hb=>?_,q⟩
  have e:b=s1.heap.objs.size:=by simpa using hb
  subst e
  exact I1.fpOk (cQ _) (I1.hok.fresh (cQ _))
def Yc:D->(List D->Prop)->Prop
 | .lst ds,R=>R ds
 | .tup ds,R=>R ds
 | _,_=>False
def Yd (pa:zr):yz:=λΓ R=>pa Γ λd=>Yc d R
theorem zO6 {K:cI} {Z:Addr->Prop} {H:Hp} {p:Addr} {xs:List V} {ds:List D} (e:zT Z H p=some (.lst xs)) (h:yR (zT Z H) xs ds):Wk Z (Ul K p) H ds:=λi Z' H' s zd=>by
 have e1:=yG _ _ (s _ _ e)
 refine ⟨λd hd=>?_,λhi=>⟨xs,zp.of e1,by rw [wS h]; omega⟩⟩
 obtain ⟨x,hx,hh⟩:=YZ h hd
 refine ⟨⟨xs,x,zp.of e1,hx⟩,λy H'' ⟨e2,hy⟩=>?_⟩
 subst e2
 have:=hy xs (zp.of e1)
 rw [hx] at this
 cases this
 exact ⟨Sm.refl _,hh.same s⟩
theorem zQr {K:cI} {Z:Addr->Prop} {H:Hp} {p:Addr} {xs:List V} {ds:List D} (e:zT Z H p=some (.tup xs)) (h:yR (zT Z H) xs ds):Wk Z (Um K p) H ds:=λi Z' H' s zd=>by
 have e1:=yG _ _ (s _ _ e)
 refine ⟨λd hd=>?_,λhi=>⟨xs,yj.of e1,by rw [wS h]; omega⟩⟩
 obtain ⟨x,hx,hh⟩:=YZ h hd
 refine ⟨⟨xs,x,yj.of e1,hx⟩,λy H'' ⟨e2,hy⟩=>?_⟩
 subst e2
 have:=hy xs (yj.of e1)
 rw [hx] at this
 cases this
 exact ⟨Sm.refl _,hh.same s⟩
theorem xN (ha:PE X e (tP pa)):PI X tg e (jC (Yd pa)):=Yb (zRb ha) λσ H Q ⟨Z,Γ,R,E,h,q⟩=>
 ⟨Z,Γ,_,E,h,λd v H1 hd s1 hv=>by
  unfold Yc at hd
  split at hd
  ·obtain ⟨p,xs,rfl,e,hx⟩:=hv.lst_inv
   exact .inl ⟨p,rfl,⟨xs,zp.of (yG _ _ e)⟩,q _ _ H1 hd s1 (zO6 e hx)⟩
  ·obtain ⟨p,xs,rfl,e,hx⟩:=hv.tup_inv
   exact .inr ⟨p,rfl,⟨xs,yj.of (yG _ _ e)⟩,q _ _ H1 hd s1 (zQr e hx)⟩
  ·exact hd.elim⟩
def rng (lo:Int) (n:Nat):List D:=(df n).map λk:Nat=>D.int (lo + (k:Int))
theorem zIx {Z:Addr->Prop} {H:Hp} {lo:Int} {n:Nat}:Wk Z (ZR lo n) H (rng lo n):=λi Z' H' s zd=>by
 refine ⟨λd hd=>?_,λhi=>?_⟩
 ·unfold rng at hd
  rw [c_] at hd
  have hlt:i < n:=by
   apply da
   intro c
   rw [eZ (by rw [cX]; omega)] at hd
   cases hd
  rw [eg hlt] at hd
  cases hd
  exact ⟨hlt,λx H'' ⟨e1,e2⟩=>by subst e1; subst e2; exact ⟨Sm.refl _,.int _⟩⟩
 ·show n<=i
  rw [hi]
  unfold rng
  rw [a_,cX]
  exact cQ _
def rng0 (n:Nat):List D:=(df n).map λk:Nat=>D.int (k:Int)
theorem J1 (n:Nat):rng0 n=rng 0 n:=eh λk _=>by rw [mJ]
theorem vO {n k:Nat} {d:D} (h:(rng0 n)[k]? = some d):k < n/\d=.int (k:Int):=by
 unfold rng0 at h
 rw [c_] at h
 by_cases c:k < n
 ·rw [eg c] at h
  exact ⟨c,(Option.some.inj h).symm⟩
 ·rw [eZ (by rw [cX]; omega)] at h
  cases h
theorem vk (n:Nat):(rng0 n).length=n:=by unfold rng0; rw [a_,cX]
def zRH:List D->(List D->Prop)->Prop
 | [.int j],R=>-1000<=j/\j<=1000/\R (rng0 j.toNat)
 | _,_=>False
def zRG:List D->(List D->Prop)->Prop
 | [.int i,.int j],R=>-1000<=i/\i<=1000/\-1000<=j/\j<=1000/\R (rng i (j - i).toNat)
 | _,_=>False
def J5 (f:List D->(List D->Prop)->Prop) (pl:yz):yz:=λΓ R=>pl Γ λds=>f ds R
theorem xZ {p:Pos} (hg:Gl X "range") (hm:X.mg "range" = none) (ha:PA X [e] (wP pl)) (hs:starEach [e] X.env=[(false,eval e X.env)]:=by rfl):PI X tg (.Call (.Name "range" p) [e] [] pos) (jC (J5 zRH pl)):=Yb (zK4 hg hm ha hs) λσ H Q ⟨Z,Γ,R,E,h,q⟩=>
 ⟨Z,Γ,_,E,h,λds vs H1 hd s1 hv=>by
  unfold zRH at hd
  split at hd
  ·obtain ⟨h1,h2,hd⟩:=hd
   obtain ⟨v,rfl,hw⟩:=xA hv
   cases hw
   rw [J1] at hd
   exact ⟨_,rfl,by omega,by omega,q _ _ H1 hd s1 zIx⟩
  ·exact hd.elim⟩
theorem zJy {p:Pos} (hg:Gl X "range") (hm:X.mg "range" = none) (ha:PA X [e1,e2] (wP pl)) (hs:starEach [e1,e2] X.env=[(false,eval e1 X.env),(false,eval e2 X.env)]:=by rfl) (hs2:starEach [e2] X.env=[(false,eval e2 X.env)]:=by rfl) :
  PI X tg (.Call (.Name "range" p) [e1,e2] [] pos) (jC (J5 zRG pl)):=Yb (zK3 hg hm ha hs hs2) λσ H Q ⟨Z,Γ,R,E,h,q⟩=>
 ⟨Z,Γ,_,E,h,λds vs H1 hd s1 hv=>by
  unfold zRG at hd
  split at hd
  ·obtain ⟨h1,h2,h3,h4,hd⟩:=hd
   obtain ⟨v,w,rfl,hx,hy⟩:=jz hv
   cases hx; cases hy
   exact ⟨_,_,rfl,⟨by omega,by omega,by omega,by omega⟩,q _ _ H1 hd s1 zIx⟩
  ·exact hd.elim⟩
abbrev xO (x y:D):D:=.tup [x,y]
theorem Wp {α β γ:Type} (f:α->β->γ):∀ {xs:List α} {ys:List β} {i:Nat} {z:γ},(eC f xs ys)[i]? = some z->∃ x y,xs[i]? = some x/\ys[i]? = some y/\z=f x y
 | [],_,_,_,h=>by simp at h
 | _ :: _,[],_,_,h=>by simp at h
 | x :: _,y :: _,0,_,h=>by simp at h; exact ⟨x,y,rfl,rfl,h.symm⟩
 | _ :: xs,_ :: ys,i + 1,z,h=>by
  obtain ⟨x,y,h1,h2,h3⟩:=Wp f (xs:=xs) (ys:=ys) (i:=i) (z:=z) (by simpa using h)
  exact ⟨x,y,by simpa using h1,by simpa using h2,h3⟩
theorem zQq {S1 S2:Hp->Addr->List V->Prop} {Z:Addr->Prop} {H:Hp} {p r:Addr} {xs ys:List V} {ds es:List D} (h1:∀ Z' H',zR (zT Z H) (zT Z' H')->S1 H' p xs) (h2:∀ Z' H',zR (zT Z H) (zT Z' H')->S2 H' r ys) (hx:yR (zT Z H) xs ds) (hy:yR (zT Z H) ys es) :
  Wk Z ⟨λi H=>∃ xs ys x y,S1 H p xs/\S2 H r ys/\xs[i]? = some x/\ys[i]? = some y,λi H v H'=>∃ T x y,v=.ref T/\H T=none/\H'=zh H T (.tup [x,y])/\(∀ xs,S1 H p xs->xs[i]? = some x)/\∀ ys,S2 H r ys->ys[i]? = some y,
   λi H=>∃ xs ys,S1 H p xs/\S2 H r ys/\i<=xs.length/\i<=ys.length/\(i=xs.length\/i=ys.length)⟩ H (eC xO ds es):=λi Z' H' s zd=>by
 have a1:=h1 Z' H' s
 have a2:=h2 Z' H' s
 have l1:=wS hx
 have l2:=wS hy
 refine ⟨λd hd=>?_,λhi=>?_⟩
 ·obtain ⟨a,b,ha,hb,rfl⟩:=Wp _ hd
  obtain ⟨x,gx,kx⟩:=YZ hx ha
  obtain ⟨y,gy,ky⟩:=YZ hy hb
  refine ⟨⟨xs,ys,x,y,a1,a2,gx,gy⟩,λv H'' ⟨T,x',y',ev,hT,eH,q1,q2⟩=>?_⟩
  have:=q1 xs a1
  rw [gx] at this
  cases this
  have:=q2 ys a2
  rw [gy] at this
  cases this
  subst ev
  subst eH
  exact ⟨x8 hT _,Wj zd hT (.cons (kx.same s) (.cons (ky.same s) .nil))⟩
 ·rw [f6] at hi
  exact ⟨xs,ys,a1,a2,by omega,by omega,by omega⟩
def jD:List D->(List D->Prop)->Prop
 | [.lst ds,.lst es],R=>R (eC xO ds es)
 | [.lst ds,.tup es],R=>R (eC xO ds es)
 | [.tup ds,.lst es],R=>R (eC xO ds es)
 | [.tup ds,.tup es],R=>R (eC xO ds es)
 | _,_=>False
def kd (t:Bool) (ds:List D):D:=match t with
 | true=>.tup ds
 | false=>.lst ds
theorem zOj {K:cI} {Z:Addr->Prop} {H:Hp} {v:V} {ds:List D}:∀ {t:Bool},DV (zT Z H) v (kd t ds)->∃ a xs,v=.ref a/\(∀ Z' H',zR (zT Z H) (zT Z' H')->uA t K H' a xs)/\yR (zT Z H) xs ds
 | true,h=>let ⟨a,xs,e,ea,ha⟩:=h.tup_inv; ⟨a,xs,e,λ_ _ s=>yj.of (yG _ _ (s _ _ ea)),ha⟩
 | false,h=>let ⟨a,xs,e,ea,ha⟩:=h.lst_inv; ⟨a,xs,e,λ_ _ s=>zp.of (yG _ _ (s _ _ ea)),ha⟩
theorem jd {ts:List Expr} {kk:Nat} {tp p:Pos} (hg:Gl X "zip") (hm:X.mg "zip" = none) (ha:PA X [e1,e2] (wP pl)) (hs:starEach [e1,e2] X.env=[(false,eval e1 X.env),(false,eval e2 X.env)]:=by rfl) (hs2:starEach [e2] X.env=[(false,eval e2 X.env)]:=by rfl) :
  PI X (.Tuple ts kk tp) (.Call (.Name "zip" p) [e1,e2] [] pos) (jC (J5 jD pl)):=Yb (zPZ hg hm ha hs hs2) λσ H Q ⟨Z,Γ,R,E,h,q⟩=>
 ⟨Z,Γ,_,E,h,λds vs H1 hd s1 hv=>by
  have main:∀ (t u:Bool) (es fs:List D),yR (zT Z H1) vs [kd t es,kd u fs]->R (eC xO es fs)->∃ a b t u,vs=[.ref a,.ref b]/\(∃ xs,uA t X.K H1 a xs)/\(∃ ys,uA u X.K H1 b ys)/\Q (Jg t u X.K a b) H1:=λt u es fs hv hd=>by
   obtain ⟨v,w,rfl,hx,hy⟩:=jz hv
   obtain ⟨a,xs,rfl,ea,ha⟩:=zOj (K:=X.K) hx
   obtain ⟨b,ys,rfl,eb,hb⟩:=zOj (K:=X.K) hy
   exact ⟨a,b,t,u,rfl,⟨xs,ea Z H1 (zR.refl _)⟩,⟨ys,eb Z H1 (zR.refl _)⟩,q _ _ H1 hd s1 (zQq ea eb ha hb)⟩
  unfold jD at hd
  split at hd
  ·exact main false false _ _ hv hd
  ·exact main false true _ _ hv hd
  ·exact main true false _ _ hv hd
  ·exact main true true _ _ hv hd
  ·exact hd.elim⟩
end
end Pu
namespace Pu
open PySem L2 Sh
variable [yd]
def un:Sl->Sl
 | .sh d=>.sh d
 | _=>.no
theorem zI8:∀ (Γ:List Sl) (i:Nat),slot Γ i=(Γ[i]?).getD .no
 | [],_=>rfl
 | _ :: _,0=>rfl
 | _ :: t,i + 1=>(zI8 t i).trans (by rw [fD])
theorem Ye {s:Sl} {d:D} (h:un s=.sh d):s=.sh d:=by cases s <;> first | exact h | cases h
theorem Yg {s:Sl} {ds:List D} (h:un s=.ow ds):False:=by cases s <;> cases h
theorem Yh {s:Sl} {o c:Addr} {ns:List Str} {ds:List D} (h:un s=.ob o c ns ds):False:=by cases s <;> cases h
theorem Wq {os:List D} {l:List Sl} (hl:∀ i o c ns ds,slot l i≠.ob o c ns ds):∀ i o c ns ds,slot (os.map Sl.sh++l) i≠.ob o c ns ds:=λi o c ns ds h=>by
 induction os generalizing i with
 | nil=>exact hl i o c ns ds h
 | cons d t ih=>
  cases i with
  | zero=>cases h
  | succ i=>exact ih i h
theorem Wr {os:List D} {l:List Sl} (hl:∀ i ds,slot l i≠.ow ds):∀ i ds,slot (os.map Sl.sh++l) i≠.ow ds:=λi ds h=>by
 induction os generalizing i with
 | nil=>exact hl i ds h
 | cons d t ih=>
  cases i with
  | zero=>cases h
  | succ i=>exact ih i h
theorem Ws (Γ:List Sl):∀ (js:List Nat) (i:Nat),slot (js.map λj=>un (slot Γ j)) i=match js[i]? with | some j=>un (slot Γ j) | none=>.no
 | [],_=>rfl
 | _ :: _,0=>rfl
 | _ :: js,i + 1=>by
  rw [fD]
  exact Ws Γ js i
theorem zMD {Z:Addr->Prop} {Γ:List Sl} {σ:St} {H:Hp} (E:yS Z Γ σ H) {js:List Nat} {vs:List V} {os:List D} (h:yR (zT Z H) vs os):yS Z (os.map Sl.sh++js.map λj=>un (slot Γ j)) (vs.map some++js.map λj=>(σ[j]?).getD none) H:=by
 have no:∀ i ds,slot (os.map Sl.sh++js.map λj=>un (slot Γ j)) i≠.ow ds:=Wr λi ds h=>by
  rw [Ws] at h
  split at h
  ·exact Yg h
  ·cases h
 have nob:∀ i o c ns ds,slot (os.map Sl.sh++js.map λj=>un (slot Γ j)) i≠.ob o c ns ds:=Wq λi o c ns ds h=>by
  rw [Ws] at h
  split at h
  ·exact Yh h
  ·cases h
 refine ⟨?_,λi ds e=>absurd e (no i ds),λi o c ns ds e=>absurd e (nob i o c ns ds),λi _ ds _ _ e=>absurd e (no i ds),E.zd,?_⟩
 clear nob
 ·induction h with
  | nil=>
   intro i d e
   change slot (js.map λj=>un (slot Γ j)) i=_ at e
   show ∃ v,(js.map λj=>(σ[j]?).getD none)[i]? = some (some v)/\_
   rw [Ws] at e
   rw [c_]
   cases k:js[i]? with
   | none=>rw [k] at e; cases e
   | some j=>
    rw [k] at e
    obtain ⟨v,h1,h2⟩:=E.sh j d (Ye e)
    exact ⟨v,by show some ((σ[j]?).getD none)=_; rw [h1]; rfl,h2⟩
  | @cons v d vs ds hv _ ih=>
   intro i e q
   cases i with
   | zero=>cases q; exact ⟨v,rfl,hv⟩
   | succ i=>
    obtain ⟨u,h1,h2⟩:=ih (λi=>no (i + 1)) i e q
    exact ⟨u,by rw [dD,mS,fD]; exact h1,h2⟩
 ·rw [cJ,cJ,a_,a_,a_,a_,wS h]
theorem zI9 (c:St):∀ (pre o:St) (vs:List V),o.length=vs.length->setN (pre++(o++c)) (f7 pre.length o.length) vs=pre++(vs.map some++c)
 | _,[],[],_=>rfl
 | _,[],_ :: _,h=>nomatch h
 | _,_ :: _,[],h=>nomatch h
 | pre,x :: o,v :: vs,h=>by
  rw [dB,List.range'_succ]
  show setN ((pre++((x :: o)++c)).set pre.length (some v)) (f7 (pre.length + 1) o.length) vs=_
  rw [List.set_append_right _ _ (cQ _),fN]
  have:=zI9 c (pre++[some v]) o vs (Nat.succ.inj h)
  rw [cJ,fA] at this
  rw [fA] at this
  exact this
inductive zy (ds:List D) (G:D->(D->Prop)->Prop) (R:D->Prop):Prop
 | mk (few:ds.length<=1000) (F:D->D->Prop) (h:∀ d,d∈ds->G d (F d)) (q:∀ es,Paired F ds es->R (.lst es)):zy ds G R
def Yi (caps:List Nat) (pi:yz) (po:D->Option (List D)) (pe:zr):zr:=λΓ R=>pi Γ λds=>zy ds (λd S=>uo (po d) λos=>pe (os.map Sl.sh++caps.map λj=>un (slot Γ j)) S) R
theorem J7 {Z:Addr->Prop} {Γ:List Sl} {σ:St} {H:Hp} {own:List Str} {caps:List (Nat × Str)} {J:It} {ds:List D} {js:List Nat} {po:D->Option (List D)} {pt:wE} {pe:zr} {Q:VK} {f:D->Bool} {F:D->D->Prop} {Zt:Addr->Prop} {Γt:List Sl} (E:yS Z Γ σ H) (Et:yS Zt Γt σ H) (sub:∀ b,Zt b->Z b) (wk:Wk Z J H ds) (hj:js=f7 0 own.length) (hk:∀ d os,po d=some os->os.length=js.length) (few:ds.length<=1000)
  (hT:∀ d,d∈ds->uo (po d) λos=>pt (os.map Sl.sh++(caps.map (·.1)).map λj=>un (slot Γt j)) λb=>b=f d)
  (hF:∀ d,d∈ds->f d=true->uo (po d) λos=>pe (os.map Sl.sh++(caps.map (·.1)).map λj=>un (slot Γ j)) (F d))
  (q:∀ es ys H' p,Paired F (ds.filter f) es->Sm H H'->yR (zT Z H') ys es->H' p=none->Q (.ref p) (zh H' p (.lst ys))):JC J (tG js po) (xJ pt) (tP pe) Q (uH own caps σ) H:=by
 have hc:uH own caps σ=own.map (λ_=>none)++(caps.map (·.1)).map λj=>(σ[j]?).getD none:=by
  unfold uH
  rw [dk]
  rfl
 refine ⟨λi m ys σ1 H1=>m + i=ds.length/\Sm H H1/\(∃ es,Paired F ((ds.take i).filter f) es/\yR (zT Z H1) ys es)/\∃ o:St,o.length=own.length/\σ1=o++(caps.map (·.1)).map λj=>(σ[j]?).getD none,⟨ds.length,rfl,Sm.refl _,⟨[],.nil,.nil⟩,_,a_ ..,hc⟩,?_⟩
 rintro i m ys σ1 H1 ⟨hm,s1,⟨es,he,hy⟩,o,lo,rfl⟩
 obtain ⟨w1,w2⟩:=wk i Z H1 (yg s1) (E.zd.same s1)
 have le:es.length<=i:=by
  have h1:=Paired.length he
  have h2:=List.length_filter_le f (ds.take i)
  rw [cU] at h2
  omega
 by_cases hi:i < ds.length
 ·have tk:(ds.take (i + 1)).filter f=(ds.take i).filter f++(if f ds[i]=true then [ds[i]] else []):=by
   rw [hZ hi,l_,List.filter_cons,List.filter_nil]
  refine .inr ⟨(w1 _ (b_ hi)).1,by rw [wS hy]; exact U8 (by omega),λy σ' H'=>m - 1 + (i + 1)=ds.length/\Sm H H'/\(∃ es,Paired F ((ds.take (i + 1)).filter f) es/\yR (zT Z H') (ys++[y]) es)/\∃ o:St,o.length=own.length/\σ'=o++(caps.map (·.1)).map λj=>(σ[j]?).getD none,λσ' H'=>m - 1 + (i + 1)=ds.length/\Sm H H'/\(∃ es,Paired F ((ds.take (i + 1)).filter f) es/\yR (zT Z H') ys es)/\∃ o:St,o.length=own.length/\σ'=o++(caps.map (·.1)).map λj=>(σ[j]?).getD none,λy σ' H' k=>⟨m - 1,by omega,k⟩,λσ' H' k=>⟨m - 1,by omega,k⟩,λx H' yl=>?_⟩
  obtain ⟨s2,dv⟩:=(w1 _ (b_ hi)).2 x H' yl
  obtain ⟨os,ho,ht⟩:=YY (hT _ (d6 hi))
  have lo2:=hk _ _ ho
  refine ⟨Z,_,os,dv,ho,λvs hvs=>?_⟩
  have lv:=wS hvs
  have e1:setN (o++(caps.map (·.1)).map λj=>(σ[j]?).getD none) js vs=vs.map some++(caps.map (·.1)).map λj=>(σ[j]?).getD none:=by
   rw [hj,<- lo]
   exact zI9 _ [] o vs (by rw [lv,lo2,hj,ma]; exact lo)
  rw [e1]
  have lw:(vs.map some).length=own.length:=by rw [a_,lv,lo2,hj,ma]
  refine ⟨Zt,_,_,zMD (Et.same (s1.trans s2)) (xW (YD sub) hvs),ht,λb H3 hb s3=>?_⟩
  subst hb
  by_cases c:f ds[i]=true
  ·rw [if_pos c]
   obtain ⟨os',ho',hp⟩:=YY (hF _ (d6 hi) c)
   cases ho.symm.trans ho'
   refine ⟨Z,_,_,zMD (E.same (s1.trans (s2.trans s3))) (xW (yg s3) hvs),hp,λd v H4 hd s4 hv=>⟨by omega,s1.trans (s2.trans (s3.trans s4)),⟨es++[d],?_,Zq hv (xW (yg (s2.trans (s3.trans s4))) hy)⟩,_,lw,rfl⟩⟩
   rw [tk,if_pos c]
   exact Zq hd he
  ·rw [if_neg c]
   refine ⟨by omega,s1.trans (s2.trans s3),⟨es,?_,xW (yg (s2.trans s3)) hy⟩,_,lw,rfl⟩
   rw [tk,if_neg c,fy]
   exact he
 ·have ei:i=ds.length:=by omega
  refine .inl ⟨w2 ei,λp hp=>q es ys H1 p ?_ s1 hy hp⟩
  rw [cV (by omega)] at he
  exact he
def pT1:wE:=λ_ R=>R true
theorem zRm {X:Cx}:YA X [] (xJ pT1):=λσ H Q ⟨_,_,_,_,h,q⟩=>q true H h (Sm.refl _)
theorem Yj {ds:List D}:ds.filter (λ_=>true)=ds:=List.filter_eq_self.mpr λ_ _=>rfl
theorem zJc {Z:Addr->Prop} {Γ:List Sl} {σ:St} {H:Hp} {own:List Str} {caps:List (Nat × Str)} {J:It} {ds:List D} {js:List Nat} {po:D->Option (List D)} {pe:zr} {Q:VK} {F:D->D->Prop} (E:yS Z Γ σ H) (wk:Wk Z J H ds) (hj:js=f7 0 own.length) (hk:∀ d os,po d=some os->os.length=js.length) (few:ds.length<=1000)
  (hF:∀ d,d∈ds->uo (po d) λos=>pe (os.map Sl.sh++(caps.map (·.1)).map λj=>un (slot Γ j)) (F d))
  (q:∀ es ys H' p,Paired F ds es->Sm H H'->yR (zT Z H') ys es->H' p=none->Q (.ref p) (zh H' p (.lst ys))):JC J (tG js po) (xJ pT1) (tP pe) Q (uH own caps σ) H:=
 J7 (f:=λ_=>true) E E (λ_ z=>z) wk hj hk few (λd m=>by
  obtain ⟨os,ho,_⟩:=YY (hF d m)
  rw [ho]
  exact rfl) (λd m _=>hF d m) λes ys H' p h=>q es ys H' p (by rw [Yj] at h; exact h)
section
variable {X:Cx} {scope:Scope} {own:List Str} {caps:List (Nat × Str)} {tg iter elt:Expr} {pos:Pos} {pi:yz} {po:D->Option (List D)} {pe:zr} {js:List Nat}
theorem xF (B:v4 X scope own caps) (hc:X.calm=true) (hj:js=f7 0 own.length) (hk:∀ d os,po d=some os->os.length=js.length) (hi:PI X tg iter (jC pi)) (hg:∀ C s₀ H₀ ex,PG (yx X scope (zm own caps) C s₀ H₀ ex) tg (tG js po))
  (he:∀ C s₀ H₀ ex,PE (yx X scope (zm own caps) C s₀ H₀ ex) elt (tP pe)) (hs:∀ x,foldedSetIterable iter X.env x=pure x:=by intro _; rfl):PE X (.ListComp elt [⟨tg,iter,[],0⟩] scope pos) (tP (Yi (caps.map (·.1)) pi po pe)):=
 yU (zNL B hc hi hg (.inl rfl) (λ_ _ _ _=>zRm) he hs) λσ H Q ⟨Z,Γ,R,E,h,q⟩=>⟨Z,Γ,_,E,h,λds J H1 ⟨fw,F,hF,hR⟩ s1 wk=>zJc (E.same s1) wk hj hk fw hF λes ys H' p h1 s2 h2 hp=>q _ _ _ (hR es h1) (s1.trans (s2.trans (x8 hp _))) (uj ((E.same s1).zd.same s2) hp h2)⟩
end
theorem zy.map {ds:List D} {G:D->(D->Prop)->Prop} {R:D->Prop} (f:D->D) (few:ds.length<=1000) (h:∀ d,d∈ds->G d λe=>e=f d) (q:R (.lst (ds.map f))):zy ds G R:=⟨few,λd e=>e=f d,h,λes p=>by
 have:∀ {ds es:List D},Paired (λd e=>e=f d) ds es->es=ds.map f:=λ{ds es} p=>by
  induction p with
  | nil=>rfl
  | cons h _ ih=>rw [h,ih]; rfl
 rw [this p]
 exact q⟩
theorem zy.all {ds:List D} {G:D->(D->Prop)->Prop} {R:D->Prop} (P:D->Prop) (few:ds.length<=1000) (h:∀ d,d∈ds->G d P) (q:∀ es,es.length=ds.length->(∀ e∈es,P e)->R (.lst es)):zy ds G R:=⟨few,λ_=>P,h,λes p=>q es (Paired.length p).symm (by
 clear h few q
 induction p with
 | nil=>exact λ_ h=>nomatch h
 | cons h _ ih=>exact λe m=>(de.mp m).elim (λz=>z ▸ h) (ih e))⟩
def yV:D->Int
 | .int i=>i
 | _=>0
theorem zy.int {ns:List Int} {G:D->(D->Prop)->Prop} {R:D->Prop} (g:Int->Int) (few:ns.length<=1000) (h:∀ n,n∈ns->G (.int n) λe=>e=.int (g n)) (q:R (.lst ((ns.map g).map D.int))):zy (ns.map D.int) G R:=
 zy.map (λd=>.int (g (yV d))) (by rw [a_]; exact few) (λd m=>by
  obtain ⟨n,hn,rfl⟩:=cP.mp m
  exact h n hn) (by rw [dk] at q |-; exact q)
theorem zy.bool {ds:List D} {G:D->(D->Prop)->Prop} {R:D->Prop} (g:D->Bool) (few:ds.length<=1000) (h:∀ d,d∈ds->G d λe=>e=.bool (g d)) (q:R (.lst ((ds.map g).map D.bool))):zy ds G R:=
 zy.map (λd=>.bool (g d)) few h (by rw [dk] at q; exact q)
theorem zy.rng {lo:Int} {n:Nat} {G:D->(D->Prop)->Prop} {R:D->Prop} (g:Nat->D) (few:n<=1000) (h:∀ k,k < n->G (.int (lo + (k:Int))) λe=>e=g k) (q:R (.lst ((df n).map g))):zy (Pu.rng lo n) G R:=
 zy.map (λd=>g (yV d - lo).toNat) (by unfold Pu.rng; rw [a_,cX]; exact few) (λd m=>by
  obtain ⟨k,hk,rfl⟩:=cP.mp m
  rw [show (yV (.int (lo + (k:Int))) - lo).toNat=k by show (lo + (k:Int) - lo).toNat=k; omega]
  exact h k (dH.mp hk)) (by
  have e:(Pu.rng lo n).map (λd=>g (yV d - lo).toNat)=(df n).map g:=by
   unfold Pu.rng
   rw [dk]
   refine eh λk _=>?_
   show g (lo + (k:Int) - lo).toNat=g k
   rw [show (lo + (k:Int) - lo).toNat=k by omega]
  rw [e]
  exact q)
theorem zy.rngP {lo:Int} {n:Nat} {G:D->(D->Prop)->Prop} {R:D->Prop} (P:D->Prop) (few:n<=1000) (h:∀ k,k < n->G (.int (lo + (k:Int))) P) (q:∀ es,es.length=n->(∀ e∈es,P e)->R (.lst es)):zy (Pu.rng lo n) G R:=
 zy.all P (by unfold Pu.rng; rw [a_,cX]; exact few) (λd m=>by
  obtain ⟨k,hk,rfl⟩:=cP.mp m
  exact h k (dH.mp hk)) (λes l=>q es (by rw [l]; unfold Pu.rng; rw [a_,cX]))
theorem zy.rng0 {n:Nat} {G:D->(D->Prop)->Prop} {R:D->Prop} (g:Nat->D) (few:n<=1000) (h:∀ k,k < n->G (.int (k:Int)) λe=>e=g k) (q:R (.lst ((df n).map g))):zy (Pu.rng0 n) G R:=by
 rw [J1]
 exact zy.rng g few (λk hk=>by rw [mJ]; exact h k hk) q
theorem zy.rng0P {n:Nat} {G:D->(D->Prop)->Prop} {R:D->Prop} (P:D->Prop) (few:n<=1000) (h:∀ k,k < n->G (.int (k:Int)) P) (q:∀ es,es.length=n->(∀ e∈es,P e)->R (.lst es)):zy (Pu.rng0 n) G R:=by
 rw [J1]
 exact zy.rngP P few (λk hk=>by rw [mJ]; exact h k hk) q
def j2 (P:Int->Prop) (d:D):Prop:=∃ i,d=.int i/\P i
theorem zLX {P:Int->Prop}:∀ {es:List D},(∀ e∈es,j2 P e)->∃ ns:List Int,es=ns.map D.int/\∀ x∈ns,P x
 | [],_=>⟨[],rfl,λ_ h=>nomatch h⟩
 | e :: es,h=>by
  obtain ⟨ns,rfl,k⟩:=zLX (es:=es) λx m=>h x (cK _ m)
  obtain ⟨i,rfl,p⟩:=h e cO
  exact ⟨i :: ns,rfl,λx m=>(de.mp m).elim (λz=>z ▸ p) (k x)⟩
theorem zy.nums {n:Nat} {G:D->(D->Prop)->Prop} {R:D->Prop} (P:Int->Prop) (few:n<=1000) (h:∀ k,k < n->G (.int (k:Int)) (j2 P)) (q:∀ ns:List Int,ns.length=n->(∀ x∈ns,P x)->R (.lst (ns.map D.int))):zy (Pu.rng0 n) G R:=
 zy.rng0P (j2 P) few h λes l k=>by
  obtain ⟨ns,rfl,p⟩:=zLX k
  exact q ns (by rw [<- l,a_]) p
theorem yr {i:Nat}:∀ d os,Jy d=some os->os.length=[i].length:=λd os h=>by cases h; rfl
theorem qf:∀ ds os,zRX ds=some os->os.length=([]:List Nat).length:=λds os h=>by cases ds with | nil=>cases h; rfl | cons=>cases h
theorem vP {i:Nat} {js:List Nat} {po:List D->Option (List D)} (h:∀ ds os,po ds=some os->os.length=js.length):∀ ds os,Jz po ds=some os->os.length=(i :: js).length:=λds os q=>by
 cases ds with
 | nil=>cases q
 | cons d dt=>
  change (po dt).map (d :: ·)=some os at q
  cases e:po dt with
  | none=>rw [e] at q; cases q
  | some os'=>rw [e] at q; cases q; rw [dB,dB,h dt os' e]
structure yt (Z0:Addr->Prop) (H0:Hp) (Z:Addr->Prop) (Γ:List Sl) (σ:St) (H:Hp):Prop where
 e:yS Z Γ σ H
 z0:∀ b,Z0 b->Z b
 z0d:ZL Z0 H0
 same:Sm H0 H
 own:∀ i ds l,slot Γ i=.ow ds->σ[i]? = some (some (.ref l))->H0 l=none
 owb:∀ i o c ns ds,slot Γ i=.ob o c ns ds->H0 o=none
structure J8 where
 nx:List Sl->Prop
 rt:D->Prop
 bk:List Sl->Prop:=λ_=>False
 ct:List Sl->Prop:=λ_=>False
abbrev xB:=J8->List Sl->Prop
inductive yW (p:xB) (D0:xn) (σ:St) (H:Hp):Prop
 | mk (Z0:Addr->Prop) (H0:Hp) (Z:Addr->Prop) (Γ:List Sl) (Dp:J8) (E:yt Z0 H0 Z Γ σ H) (h:p Dp Γ) (nx:∀ Z' Γ' σ' H',yt Z0 H0 Z' Γ' σ' H'->zR (zT Z H) (zT Z' H')->Dp.nx Γ'->D0.nx σ' H')
  (rt:∀ d v H',Sm H0 H'->DV (zT Z0 H') v d->Dp.rt d->D0.rt v H') (bk:∀ Z' Γ' σ' H',yt Z0 H0 Z' Γ' σ' H'->zR (zT Z H) (zT Z' H')->Dp.bk Γ'->D0.bk σ' H') (ct:∀ Z' Γ' σ' H',yt Z0 H0 Z' Γ' σ' H'->zR (zT Z H) (zT Z' H')->Dp.ct Γ'->D0.ct σ' H'):yW p D0 σ H
theorem yt.mv {Z0:Addr->Prop} {H0:Hp} {Z:Addr->Prop} {Γ:List Sl} {σ:St} {H H':Hp} (E:yt Z0 H0 Z Γ σ H) (s:Sm H H'):yt Z0 H0 Z Γ σ H':=⟨E.e.same s,E.z0,E.z0d,E.same.trans s,E.own,E.owb⟩
theorem yt.set {Z0:Addr->Prop} {H0:Hp} {Z:Addr->Prop} {Γ:List Sl} {σ:St} {H:Hp} (E:yt Z0 H0 Z Γ σ H) {v:V} {d:D} (h:DV (zT Z H) v d) (i:Nat):yt Z0 H0 Z (zw Γ i (.sh d)) (σ.set i (some v)) H:=
 ⟨E.e.set h i,E.z0,E.z0d,E.same,λj ds l q r=>by
  rw [xi] at q
  by_cases c:j=i/\i < Γ.length
  ·rw [if_pos c] at q; cases q
  ·rw [if_neg c] at q
   have hj:=ui (Γ:=Γ) (i:=j) (by rw [q]; exact λz=>nomatch z)
   rw [d5 (λz=>c ⟨z.symm,by omega⟩)] at r
   exact E.own j ds l q r,λj o0 c0 ns ds q=>by
  rw [xi] at q
  by_cases c:j=i/\i < Γ.length
  ·rw [if_pos c] at q; cases q
  ·rw [if_neg c] at q
   exact E.owb j o0 c0 ns ds q⟩
theorem yt.setN {Z0:Addr->Prop} {H0:Hp} {Z:Addr->Prop} {H:Hp}:∀ {js:List Nat} {vs:List V} {os:List D} {Γ:List Sl} {σ:St},yt Z0 H0 Z Γ σ H->yR (zT Z H) vs os->yt Z0 H0 Z (Wn Γ js os) (Pu.setN σ js vs) H
 | [],_,_,_,_,E,_=>E
 | _ :: _,_,_,_,_,E,.nil=>E
 | _ :: js,_,_,_,_,E,.cons h t=>yt.setN (js:=js) (E.set h _) t
theorem kj {Z:Addr->Prop} {H:Hp} {l:Addr} {o:HO} (h:Z l):zR (zT Z H) (zT Z (zh H l o)):=λb u e=>by
 obtain ⟨h1,h2⟩:=qW e
 have nb:b≠l:=λz=>h1 (by rw [z]; exact h)
 exact uR h1 ((yH nb).trans h2) (gK e)
theorem yt.put {Z0:Addr->Prop} {H0:Hp} {Z:Addr->Prop} {Γ:List Sl} {σ:St} {H:Hp} (E:yt Z0 H0 Z Γ σ H) {i:Nat} {ds ds':List D} {l:Addr} {xs:List V} (hs:slot Γ i=.ow ds) (hl:σ[i]? = some (some (.ref l))) (hz:Z l) (hx:yR (zT Z H) xs ds'):yt Z0 H0 Z (zw Γ i (.ow ds')) σ (zh H l (.lst xs)):=by
 obtain ⟨l0,xs0,hl0,_,el,_⟩:=E.e.ow i ds hs
 have el0:l0=l:=by rw [hl] at hl0; cases hl0; rfl
 rw [el0] at el
 have keyb:∀ j o c ns d,slot (zw Γ i (.ow ds')) j=.ob o c ns d->slot Γ j=.ob o c ns d:=λj o0 c0 ns d q=>by
  rw [xi] at q
  by_cases c:j=i/\i < Γ.length
  ·rw [if_pos c] at q; cases q
  ·rw [if_neg c] at q; exact q
 have li:=ui (Γ:=Γ) (i:=i) (by rw [hs]; exact λz=>nomatch z)
 have hp:zR (zT Z H) (zT Z (zh H l (.lst xs))):=kj hz
 have key:∀ j ds'',slot (zw Γ i (.ow ds')) j=.ow ds''->∃ q,slot Γ j=.ow q:=λj d q=>by
  rw [xi] at q
  by_cases c:j=i/\i < Γ.length
  ·rw [c.1]; exact ⟨ds,hs⟩
  ·rw [if_neg c] at q; exact ⟨d,q⟩
 refine ⟨⟨λj d q=>?_,λj d q=>?_,λj o c ns d q=>?_,λj k as bs m q r=>?_,⟨λb hb=>?_,yd.put E.e.zd.i el⟩,by rw [gL]; exact E.e.len⟩,E.z0,E.z0d,?_,λj d m q=>?_,λj o c ns d q=>E.owb j o c ns d (keyb j o c ns d q)⟩
 ·rw [xi] at q
  by_cases c:j=i/\i < Γ.length
  ·rw [if_pos c] at q; cases q
  ·rw [if_neg c] at q
   obtain ⟨v,h1,h2⟩:=E.e.sh j d q
   exact ⟨v,h1,h2.same hp⟩
 ·rw [xi] at q
  by_cases c:j=i/\i < Γ.length
  ·rw [if_pos c] at q
   cases q
   rw [c.1]
   exact ⟨l,xs,hl,hz,wD,xW hp hx⟩
  ·rw [if_neg c] at q
   obtain ⟨m,ys,h1,h2,h3,h4⟩:=E.e.ow j d q
   have nm:m≠l:=λz=>c ⟨E.e.ne j i d ds l q hs (by rw [h1,z]) hl,li⟩
   exact ⟨m,ys,h1,h2,by rw [yH nm]; exact h3,xW hp h4⟩
 ·obtain ⟨dx,ys,h1,h2,h3,h5,h4⟩:=E.e.ob j o c ns d (keyb j o c ns d q)
  have nm:o≠l:=λz=>by rw [z,el] at h3; cases h3
  exact ⟨dx,ys,h1,h2,by rw [yH nm]; exact h3,h5,xW hp h4⟩
 ·obtain ⟨q1,hq⟩:=key j as q
  obtain ⟨r1,hr⟩:=key k bs r
  exact E.e.ne j k q1 r1 m hq hr
 ·obtain ⟨u,e,n⟩:=E.e.zd.z b hb
  by_cases c:b=l
  ·rw [c]; exact ⟨_,wD,λ_ z=>nomatch z⟩
  ·exact ⟨u,by rw [yH c]; exact e,n⟩
 ·exact E.same.put (E.own i ds l hs hl) el
 ·obtain ⟨q1,hq⟩:=key j d q
  exact E.own j q1 m hq
theorem yt.make {Z0:Addr->Prop} {H0:Hp} {Z:Addr->Prop} {Γ:List Sl} {σ:St} {H:Hp} (E:yt Z0 H0 Z Γ σ H) {p:Addr} {xs:List V} {ds:List D} (hp:H p=none) (hx:yR (zT Z H) xs ds) (i:Nat) :
  yt Z0 H0 (λb=>Z b\/b=p) (zw Γ i (.ow ds)) (σ.set i (some (.ref p))) (zh H p (.lst xs))/\zR (zT Z H) (zT (λb=>Z b\/b=p) (zh H p (.lst xs))):=by
 have s:zR (zT Z H) (zT (λb=>Z b\/b=p) (zh H p (.lst xs))):=λb o e=>by
  obtain ⟨h1,h2⟩:=qW e
  have nb:=wn h2 hp
  exact uR (λz=>z.elim h1 nb) ((yH nb).trans h2) (gK e)
 have old:∀ j d,slot Γ j=.ow d->∀ m,σ[j]? = some (some (.ref m))->m≠p:=λj d q m h z=>by
  obtain ⟨l,ys,h1,h2,h3,_⟩:=E.e.ow j d q
  rw [h] at h1
  cases h1
  rw [z,hp] at h3
  cases h3
 have get:∀ j,¬ (j=i/\i < Γ.length)->slot Γ j≠.no->(σ.set i (some (V.ref p)))[j]? = σ[j]?:=λj c q=>by
  have hj:=ui q
  exact d5 (λz=>c ⟨z.symm,by omega⟩)
 have new:∀ j,j=i/\i < Γ.length->(σ.set i (some (V.ref p)))[j]? = some (some (.ref p)):=λj c=>by
  rw [c.1,fh (by have:=E.e.len; omega)]
 have keyb:∀ j o c ns d,slot (zw Γ i (.ow ds)) j=.ob o c ns d->slot Γ j=.ob o c ns d/\(σ.set i (some (V.ref p)))[j]? = σ[j]?:=λj o0 c0 ns d q=>by
  rw [xi] at q
  by_cases c:j=i/\i < Γ.length
  ·rw [if_pos c] at q; cases q
  ·rw [if_neg c] at q; exact ⟨q,get j c (by rw [q]; exact λz=>nomatch z)⟩
 refine ⟨⟨⟨λj d q=>?_,λj d q=>?_,λj o c ns d q=>?_,λj k as bs m q r e f=>?_,⟨λb hb=>?_,yd.same E.e.zd.i (kQ hp _)⟩,by rw [gL,dE]; exact E.e.len⟩,λb hb=>.inl (E.z0 b hb),E.z0d,E.same.trans (x8 hp _),λj d m q e=>?_,λj o c ns d q=>E.owb j o c ns d (keyb j o c ns d q).1⟩,s⟩
 ·rw [xi] at q
  by_cases c:j=i/\i < Γ.length
  ·rw [if_pos c] at q; cases q
  ·rw [if_neg c] at q
   obtain ⟨v,h1,h2⟩:=E.e.sh j d q
   exact ⟨v,by rw [get j c (by rw [q]; exact λz=>nomatch z)]; exact h1,h2.same s⟩
 ·rw [xi] at q
  by_cases c:j=i/\i < Γ.length
  ·rw [if_pos c] at q
   cases q
   exact ⟨p,xs,new j c,.inr rfl,wD,xW s hx⟩
  ·rw [if_neg c] at q
   obtain ⟨m,ys,h1,h2,h3,h4⟩:=E.e.ow j d q
   exact ⟨m,ys,by rw [get j c (by rw [q]; exact λz=>nomatch z)]; exact h1,.inl h2,by rw [yH (old j d q m h1)]; exact h3,xW s h4⟩
 ·obtain ⟨q,g⟩:=keyb j o c ns d q
  obtain ⟨dx,ys,h1,h2,h3,h5,h4⟩:=E.e.ob j o c ns d q
  exact ⟨dx,ys,g.trans h1,.inl h2,by rw [yH (wn h3 hp)]; exact h3,h5,xW s h4⟩
 ·rw [xi] at q r
  by_cases c:j=i/\i < Γ.length
  ·by_cases c':k=i/\i < Γ.length
   ·omega
   ·rw [if_neg c'] at r
    rw [new j c] at e
    rw [get k c' (by rw [r]; exact λz=>nomatch z)] at f
    cases e
    exact absurd rfl (old k bs r p f)
  ·rw [if_neg c] at q
   rw [get j c (by rw [q]; exact λz=>nomatch z)] at e
   by_cases c':k=i/\i < Γ.length
   ·rw [new k c'] at f
    cases f
    exact absurd rfl (old j as q p e)
   ·rw [if_neg c'] at r
    rw [get k c' (by rw [r]; exact λz=>nomatch z)] at f
    exact E.e.ne j k as bs m q r e f
 ·by_cases c:b=p
  ·rw [c]; exact ⟨_,wD,λ_ z=>nomatch z⟩
  ·obtain ⟨u,e,n⟩:=E.e.zd.z b (hb.resolve_right c)
   exact ⟨u,by rw [yH c]; exact e,n⟩
 ·rw [xi] at q
  by_cases c:j=i/\i < Γ.length
  ·rw [new j c] at e
   cases e
   exact E.same.free hp
  ·rw [if_neg c] at q
   rw [get j c (by rw [q]; exact λz=>nomatch z)] at e
   exact E.own j d m q e
def frz (Γ:List Sl) (i:Nat):List Sl:=match slot Γ i with
 | .ow ds=>zw Γ i (.sh (.lst ds))
 | _=>Γ
theorem yt.frz {Z0:Addr->Prop} {H0:Hp} {Z:Addr->Prop} {Γ:List Sl} {σ:St} {H:Hp} (E:yt Z0 H0 Z Γ σ H) (i:Nat):∃ Z',yt Z0 H0 Z' (Pu.frz Γ i) σ H/\zR (zT Z H) (zT Z' H):=by
 unfold Pu.frz
 cases hs:slot Γ i with
 | no=>exact ⟨Z,E,zR.refl _⟩
 | sh _=>exact ⟨Z,E,zR.refl _⟩
 | ob _ _ _ _=>exact ⟨Z,E,zR.refl _⟩
 | ow ds=>
  obtain ⟨l,xs,hl,hz,el,hx⟩:=E.e.ow i ds hs
  have s:zR (zT Z H) (zT (λb=>Z b/\b≠l) H):=YD λb h=>h.1
  have key:∀ j d,slot (zw Γ i (.sh (.lst ds))) j=.ow d->slot Γ j=.ow d/\j≠i:=λj d q=>by
   rw [xi] at q
   by_cases c:j=i/\i < Γ.length
   ·rw [if_pos c] at q; cases q
   ·rw [if_neg c] at q
    have hj:=ui (Γ:=Γ) (i:=j) (by rw [q]; exact λz=>nomatch z)
    exact ⟨q,λz=>c ⟨z,by omega⟩⟩
  have keyb:∀ j o c ns d,slot (zw Γ i (.sh (.lst ds))) j=.ob o c ns d->slot Γ j=.ob o c ns d:=λj o0 c0 ns d q=>by
   rw [xi] at q
   by_cases c:j=i/\i < Γ.length
   ·rw [if_pos c] at q; cases q
   ·rw [if_neg c] at q; exact q
  refine ⟨λb=>Z b/\b≠l,⟨⟨λj d q=>?_,λj d q=>?_,λj o c ns d q=>?_,λj k as bs m q r=>?_,⟨λb hb=>E.e.zd.z b hb.1,E.e.zd.i⟩,by rw [gL]; exact E.e.len⟩,λb hb=>⟨E.z0 b hb,λz=>?_⟩,E.z0d,E.same,λj d m q=>E.own j d m (key j d q).1,λj o c ns d q=>E.owb j o c ns d (keyb j o c ns d q)⟩,s⟩
  ·rw [xi] at q
   by_cases c:j=i/\i < Γ.length
   ·rw [if_pos c] at q
    cases q
    rw [c.1]
    exact ⟨.ref l,hl,.lst (uR (λz=>z.2 rfl) el) (xW s hx)⟩
   ·rw [if_neg c] at q
    obtain ⟨v,h1,h2⟩:=E.e.sh j d q
    exact ⟨v,h1,h2.same s⟩
  ·obtain ⟨q1,q2⟩:=key j d q
   obtain ⟨m,ys,h1,h2,h3,h4⟩:=E.e.ow j d q1
   exact ⟨m,ys,h1,⟨h2,λz=>q2 (E.e.ne j i d ds l q1 hs (by rw [h1,z]) hl)⟩,h3,xW s h4⟩
  ·obtain ⟨dx,ys,h1,h2,h3,h5,h4⟩:=E.e.ob j o c ns d (keyb j o c ns d q)
   exact ⟨dx,ys,h1,⟨h2,λz=>by rw [z,el] at h3; cases h3⟩,h3,h5,xW s h4⟩
  ·exact E.e.ne j k as bs m (key j as q).1 (key k bs r).1
  ·obtain ⟨ys,e,_⟩:=E.z0d.z b hb
   rw [z,E.own i ds l hs hl] at e
   cases e
end Pu
namespace Pu
open PySem L2 Sh
variable [yd]
open PyProof.Rows (envOfC)
section
variable {X:Cx} {e:Expr} {es:List Expr} {st:Stmt} {sts:List Stmt} {pos:Pos} {pa pb:zr} {pl:yz} {p q:xB}
theorem yP {t t':TS} (h:PS X st t) (w:∀ D σ H,t' D σ H->t D σ H):PS X st t':=λpins s σ H D I k=>h pins s σ H D I (w D σ H k)
theorem gc {t t':TS} (h:xG X sts t) (w:∀ D σ H,t' D σ H->t D σ H):xG X sts t':=λpins s σ H D I k=>h pins s σ H D I (w D σ H k)
def Yk:xB:=λD Γ=>D.nx Γ
def j3 (p q:xB):xB:=λD Γ=>p { D with nx:=q D } Γ
theorem yX:xG X [] (yW Yk):=gc zPV λD σ H ⟨Z0,H0,Z,Γ,Dp,E,h,nx,rt,bk,ct⟩=>nx Z Γ σ H E (zR.refl _) h
theorem zJ (h1:PS X st (yW p)) (h2:xG X sts (yW q)):xG X (st :: sts) (yW (j3 p q)):=gc (Ub h1 h2) λD σ H ⟨Z0,H0,Z,Γ,Dp,E,h,nx,rt,bk,ct⟩=>
 ⟨Z0,H0,Z,Γ,{ Dp with nx:=q Dp },E,h,λZ' Γ' σ' H' E' s' h'=>⟨Z0,H0,Z',Γ',Dp,E',h',λZ2 Γ2 σ2 H2 E2 s2=>nx Z2 Γ2 σ2 H2 E2 (s'.trans s2),rt,λZ2 Γ2 σ2 H2 E2 s2=>bk Z2 Γ2 σ2 H2 E2 (s'.trans s2),λZ2 Γ2 σ2 H2 E2 s2=>ct Z2 Γ2 σ2 H2 E2 (s'.trans s2)⟩,rt,bk,ct⟩
def Yl (p q:xB):xB:=λD Γ=>∃ M:List Sl->Prop,p { D with nx:=M } Γ/\∀ Γ',M Γ'->q D Γ'
theorem Ym (h1:PS X st (yW p)) (h2:xG X sts (yW q)):xG X (st :: sts) (yW (Yl p q)):=gc (Ub h1 h2) λD σ H ⟨Z0,H0,Z,Γ,Dp,E,⟨M,h,k⟩,nx,rt,bk,ct⟩=>
 ⟨Z0,H0,Z,Γ,{ Dp with nx:=M },E,h,λZ' Γ' σ' H' E' s' h'=>⟨Z0,H0,Z',Γ',Dp,E',k Γ' h',λZ2 Γ2 σ2 H2 E2 s2=>nx Z2 Γ2 σ2 H2 E2 (s'.trans s2),rt,λZ2 Γ2 σ2 H2 E2 s2=>bk Z2 Γ2 σ2 H2 E2 (s'.trans s2),λZ2 Γ2 σ2 H2 E2 s2=>ct Z2 Γ2 σ2 H2 E2 (s'.trans s2)⟩,rt,bk,ct⟩
theorem zL (h1:PS X st (yW p)):xG X [st] (yW p):=Uc h1
def J9 (i:Nat) (p:xB):xB:=λD Γ=>p D (frz Γ i)
theorem wd (i:Nat) (h1:PS X st (yW p)):PS X st (yW (J9 i p)):=yP h1 λD σ H ⟨Z0,H0,Z,Γ,Dp,E,h,nx,rt,bk,ct⟩=>by
 obtain ⟨Z',E',s⟩:=E.frz i
 exact ⟨Z0,H0,Z',_,Dp,E',h,λZ2 Γ2 σ2 H2 E2 s2=>nx Z2 Γ2 σ2 H2 E2 (s.trans s2),rt,λZ2 Γ2 σ2 H2 E2 s2=>bk Z2 Γ2 σ2 H2 E2 (s.trans s2),λZ2 Γ2 σ2 H2 E2 s2=>ct Z2 Γ2 σ2 H2 E2 (s.trans s2)⟩
def vn (i:Nat) (pa:zr):xB:=λD Γ=>pa Γ λd=>D.nx (zw Γ i (.sh d))
theorem zQx {i:Nat} (D:xn) (σ:St) (H:Hp):yW (vn i pa) D σ H->ux (tP pa) (X8 i) D σ H:=λ⟨Z0,H0,Z,Γ,Dp,E,h,nx,rt,bk,ct⟩=>
 ⟨Z,Γ,_,E.e,h,λd v H1 hd s1 hv=>nx Z _ _ H1 ((E.mv s1).set hv i) (yg s1) hd⟩
theorem zPR (i:Nat) {x:Str} {pos':Pos} (hN:X.N.Nodup) (hi:X.N[i]? = some x) (hx:uF X.env.scope x) (he:PE X e (tP pa)) (hs:swapsWith e (some (.Name x pos')) pos.line X.env=pure false:=by rfl) (hf:X.fn x=true\/X.env.scope.names.lookup x=some .local:=by first | exact .inl rfl | exact .inr rfl | assumption) :
  PS X (.Assign [.Name x pos'] e pos) (yW (vn i pa)):=yP (WA hN hi hx he hs hf) zQx
def QA (js:List Nat) (po:D->Option (List D)) (pa:zr):xB:=λD Γ=>pa Γ λd=>uo (po d) λos=>D.nx (Wn Γ js os)
theorem Wt {tg:Expr} {js:List Nat} {po:D->Option (List D)} (he:PE X e (tP pa)) (hg:PG X tg (tG js po)) (hs:swapsWithSole [tg] e pos.line X.env=pure false:=by rfl) (hw:swappedStores [tg] e X.env=pure none:=by rfl)
  (h1:(assignEach [tg] X.env).map (·.2)=[assign tg X.env]:=by rfl):PS X (.Assign [tg] e pos) (yW (QA js po pa)):=yP (X9 he hg hs hw h1) λD σ H ⟨Z0,H0,Z,Γ,Dp,E,h,nx,rt,bk,ct⟩=>
 ⟨Z,Γ,_,E.e,h,λd v H1 hd s1 hv=>by
  obtain ⟨os,ho,hd⟩:=YY hd
  exact ⟨Z,d,os,hv,ho,λvs hvs=>nx Z _ _ H1 ((E.mv s1).setN hvs) (yg s1) hd⟩⟩
def QB (i:Nat) (pl:yz):xB:=λD Γ=>pl Γ λds=>ds.length<=1000/\D.nx (zw Γ i (.ow ds))
theorem vo (i:Nat) {x:Str} {pos' lp:Pos} (hN:X.N.Nodup) (hi:X.N[i]? = some x) (hx:uF X.env.scope x) (he:PA X es (wP pl)) (hs:swapsWith (.List es lp) (some (.Name x pos')) pos.line X.env=pure false:=by rfl) (hf:X.fn x=true\/X.env.scope.names.lookup x=some .local:=by first | exact .inl rfl | exact .inr rfl | assumption) :
  PS X (.Assign [.Name x pos'] (.List es lp) pos) (yW (QB i pl)):=yP (WA hN hi hx (zOY he) hs hf) λD σ H ⟨Z0,H0,Z,Γ,Dp,E,h,nx,rt,bk,ct⟩=>
 ⟨Z,Γ,_,E.e,h,λds vs H1 hd s1 hv=>⟨few (by rw [wS hv]; exact hd.1),λl hl=>by
  obtain ⟨E2,s2⟩:=(E.mv s1).make hl hv i
  exact nx _ _ _ _ E2 ((yg s1).trans s2) hd.2⟩⟩
def uU:D->(List D->Prop)->Prop
 | .lst es,k=>k es
 | _,_=>False
def zRp (i:Nat) (ow:Bool) (caps:List Nat) (pi:yz) (po:D->Option (List D)) (pe:zr):xB:=λT Γ=>pi Γ λds=>zy ds (λd S=>uo (po d) λos=>pe (os.map Sl.sh++caps.map λj=>un (slot Γ j)) S) λd=>uU d λes=>T.nx (zw Γ i (match ow with | true=>.ow es | false=>.sh (.lst es)))
theorem je (i:Nat) (ow:Bool) {scope:Scope} {own:List Str} {caps:List (Nat × Str)} {tg iter elt:Expr} {pi:yz} {po:D->Option (List D)} {pe:zr} {js:List Nat} {y:Str} {py spos:Pos} (hN:X.N.Nodup) (hy:X.N[i]? = some y) (hl:X.env.scope.names.lookup y=some .local) (B:v4 X scope own caps) (hc:X.calm=true) (hj:js=f7 0 own.length) (hk:∀ d os,po d=some os->os.length=js.length)
  (hi:PI X tg iter (jC pi)) (hg:∀ C s₀ H₀ ex,PG (yx X scope (zm own caps) C s₀ H₀ ex) tg (tG js po)) (he:∀ C s₀ H₀ ex,PE (yx X scope (zm own caps) C s₀ H₀ ex) elt (tP pe)) (hsw:swapsWith (.ListComp elt [⟨tg,iter,[],0⟩] scope pos) (some (.Name y py)) spos.line X.env=pure true) (hs:∀ x,foldedSetIterable iter X.env x=pure x:=by intro _; rfl) :
  PS X (.Assign [.Name y py] (.ListComp elt [⟨tg,iter,[],0⟩] scope pos) spos) (yW (zRp i ow (caps.map (·.1)) pi po pe)):=yP (Jh hN hy hl B hc hi hg (.inl rfl) (λ_ _ _ _=>zRm) he hsw hs) λD σ H ⟨Z0,H0,Z,Γ,Dp,E,h,nx,rt,bk,ct⟩=>
 ⟨Z,Γ,_,E.e,h,λds J H1 ⟨fw,F,hF,hR⟩ s1 wk=>zJc (E.e.same s1) wk hj hk fw hF λes ys H' l h1 s2 h2 hp=>by
  have E1:=(E.mv s1).mv s2
  cases ow with
  | true=>
   obtain ⟨E2,s3⟩:=E1.make hp h2 i
   exact nx _ _ _ _ E2 ((yg (s1.trans s2)).trans s3) (hR es h1)
  | false=>exact nx Z _ _ _ ((E1.mv (x8 hp _)).set (uj E1.e.zd hp h2) i) (yg (s1.trans (s2.trans (x8 hp _)))) (hR es h1)⟩
def QC (pa:zr):xB:=λD Γ=>pa Γ D.rt
theorem zZ (he:PE X e (tP pa)):PS X (.Return (some e) pos) (yW (QC pa)):=yP (zOW he) λD σ H ⟨Z0,H0,Z,Γ,Dp,E,h,nx,rt,bk,ct⟩=>
 ⟨Z,Γ,_,E.e,h,λd v H1 hd s1 hv=>rt d v H1 (E.same.trans s1) (hv.same (YD E.z0)) hd⟩
def pIf (t:wE) (p q:xB):xB:=λD Γ=>t Γ λc=>wJ c (p D Γ) (q D Γ)
theorem yY {c:Expr} {a b:List Stmt} {t:wE} (hc:PT X c (xJ t)) (ha:xG X a (yW p)) (hb:xG X b (yW q)):PS X (.If c a b pos) (yW (pIf t p q)):=yP (ZO hc ha hb) λD σ H ⟨Z0,H0,Z,Γ,Dp,E,h,nx,rt,bk,ct⟩=>
 ⟨Z,Γ,_,E.e,h,λc H1 hd s1=>by
  have f:∀ {P:List Sl->Prop} {Q:St->Hp->Prop},(∀ Z' Γ' σ' H',yt Z0 H0 Z' Γ' σ' H'->zR (zT Z H) (zT Z' H')->P Γ'->Q σ' H')->∀ Z' Γ' σ' H',yt Z0 H0 Z' Γ' σ' H'->zR (zT Z H1) (zT Z' H')->P Γ'->Q σ' H':=λg Z2 Γ2 σ2 H2 E2 s2=>g Z2 Γ2 σ2 H2 E2 ((yg s1).trans s2)
  cases c with
  | true=>exact ⟨Z0,H0,Z,Γ,Dp,E.mv s1,hd.1 rfl,f nx,rt,f bk,f ct⟩
  | false=>exact ⟨Z0,H0,Z,Γ,Dp,E.mv s1,hd.2 rfl,f nx,rt,f bk,f ct⟩⟩
def zRq:xB:=λD Γ=>D.bk Γ
theorem zKt:PS X (.Break pos) (yW zRq):=yP zNE λD σ H ⟨Z0,H0,Z,Γ,Dp,E,h,nx,rt,bk,ct⟩=>bk Z Γ σ H E (zR.refl _) h
def zRn:xB:=λ_ _=>False
theorem Yn:PS X st (yW zRn):=yP zND λD σ H ⟨Z0,H0,Z,Γ,Dp,E,h,nx,rt,bk,ct⟩=>h
def QD (pi:yz) (js:List Nat) (po:D->Option (List D)) (pb:xB):xB:=λD Γ=>pi Γ λds=>∃ I:Nat->List Sl->Prop,I 0 Γ/\(∀ k d Γ',ds[k]? = some d->I k Γ'->uo (po d) λos=>pb ⟨I (k + 1),D.rt,D.nx,I (k + 1)⟩ (Wn Γ' js os))/\∀ Γ',I ds.length Γ'->D.nx Γ'
theorem xY {tg iter:Expr} {body:List Stmt} {pi:yz} {js:List Nat} {po:D->Option (List D)} (hp:PassesOwn (model X.prog X.w) X.A X.env X.xe) (hc:X.calm=true) (hi:PI X tg iter (jC pi)) (hg:PG X tg (tG js po)) (hb:xG X body (yW p))
  (hs:∀ x,foldedSetIterable iter X.env x=pure x:=by intro _; rfl):PS X (.For tg iter body [] pos) (yW (QD pi js po p)):=yP (zRW hp hc hi hg hb hs) λD σ H ⟨Z0,H0,Z,Γ,Dp,E,h,nx,rt,bk,ct⟩=>
 ⟨Z,Γ,_,E.e,h,λds J H1 ⟨I,h0,hst,hd⟩ s1 wk=>by
  have g:∀ {Q:List Sl->Prop} {T:St->Hp->Prop} {Z1 H2},zR (zT Z H1) (zT Z1 H2)->(∀ Z' Γ' σ' H',yt Z0 H0 Z' Γ' σ' H'->zR (zT Z H) (zT Z' H')->Q Γ'->T σ' H')->∀ Z' Γ' σ' H',yt Z0 H0 Z' Γ' σ' H'->zR (zT Z1 H2) (zT Z' H')->Q Γ'->T σ' H':=λs k Z2 Γ2 σ2 H2 E2 s2=>k Z2 Γ2 σ2 H2 E2 ((yg s1).trans (s.trans s2))
  refine ⟨λi m σ' H'=>m + i=ds.length/\∃ Z' Γ',yt Z0 H0 Z' Γ' σ' H'/\zR (zT Z H1) (zT Z' H')/\I i Γ',⟨ds.length,rfl,Z,Γ,E.mv s1,zR.refl _,h0⟩,?_⟩
  rintro i m σ' H' ⟨hm,Z',Γ',E',s',hI⟩
  obtain ⟨w1,w2⟩:=wk i Z' H' s' E'.e.zd
  by_cases hi:i < ds.length
  ·refine .inr ⟨(w1 _ (b_ hi)).1,λσ' H'=>m - 1 + (i + 1)=ds.length/\∃ Z' Γ',yt Z0 H0 Z' Γ' σ' H'/\zR (zT Z H1) (zT Z' H')/\I (i + 1) Γ',λσ2 H2 k=>⟨m - 1,by omega,k⟩,λx H2 yl=>?_⟩
   obtain ⟨s2,dv⟩:=(w1 _ (b_ hi)).2 x H2 yl
   obtain ⟨os,ho,hb⟩:=YY (hst i _ Γ' (b_ hi) hI)
   refine ⟨Z',_,os,dv,ho,λvs hvs=>?_⟩
   have s3:=s'.trans (yg s2)
   have again:∀ Z2 Γ2 σ2 H3,yt Z0 H0 Z2 Γ2 σ2 H3->zR (zT Z' H2) (zT Z2 H3)->I (i + 1) Γ2->m - 1 + (i + 1)=ds.length/\∃ Z' Γ',yt Z0 H0 Z' Γ' σ2 H3/\zR (zT Z H1) (zT Z' H3)/\I (i + 1) Γ':=λZ2 Γ2 σ2 H3 E3 k hI=>⟨by omega,Z2,Γ2,E3,s3.trans k,hI⟩
   exact ⟨Z0,H0,Z',_,_,(E'.mv s2).setN hvs,hb,again,rt,g s3 nx,again⟩
  ·have ei:i=ds.length:=by omega
   rw [ei] at hI
   exact .inl ⟨w2 ei,nx Z' Γ' σ' H' E' ((yg s1).trans s') (hd Γ' hI)⟩⟩
def km:Sl->(List D->Prop)->Prop
 | .ow ds,R=>R ds
 | _,_=>False
theorem Yo {s:Sl} {R:List D->Prop} (h:km s R):∃ ds,s=.ow ds/\R ds:=by
 cases s with
 | ow ds=>exact ⟨ds,rfl,h⟩
 | _=>exact h.elim
def QE (i:Nat) (pa:zr):xB:=λD Γ=>km (slot Γ i) λds=>pa Γ λd=>ds.length < 1000/\D.nx (zw Γ i (.ow (ds++[d])))
theorem vF {i:Nat} {K:cI} (D:xn) (σ:St) (H:Hp):yW (QE i pa) D σ H->Ud (U5 K "list" gB (uL i) (qx (tP pa) vV)) D σ H:=λ⟨Z0,H0,Z,Γ,Dp,E,h,nx,rt,bk,ct⟩=>by
 obtain ⟨ds,hs,h⟩:=Yo h
 obtain ⟨l,xs,hl,hz,el,hx⟩:=E.e.ow i ds hs
 refine ⟨.ref l,hl,.inl ⟨rfl,xs,zp.of el⟩,Z,Γ,_,E.e,h,λd v H1 hd s1 hv=>?_⟩
 have hx1:=xW (yg s1) hx
 exact ⟨l,xs,v,rfl,rfl,s1.at el,U8 (by rw [wS hx]; omega),nx Z _ _ _ ((E.mv s1).put hs hl hz (Zq hv hx1)) ((yg s1).trans (kj hz)) hd.2⟩
def QF (i:Nat) (pa pb:zr):xB:=λD Γ=>pa Γ λd=>km (slot Γ i) λds=>pb Γ λk=>iD k λo=>∃ z j,o=some z/\xw ds.length z=some j/\D.nx (zw Γ i (.ow (ds.set j d)))
theorem zOa {α β:Type} {R:α->β->Prop} {x:α} {y:β} (r:R x y):∀ {xs:List α} {ys:List β} (i:Nat),Paired R xs ys->Paired R (xs.set i x) (ys.set i y)
 | _,_,_,.nil=>.nil
 | _,_,0,.cons _ t=>.cons r t
 | _,_,i + 1,.cons q t=>.cons q (zOa r i t)
theorem QG {i:Nat} (D:xn) (σ:St) (H:Hp):yW (QF i pa pb) D σ H->ux (tP pa) (ZQ (uL i) (tP pb) gC) D σ H:=λ⟨Z0,H0,Z,Γ,Dp,E,h,nx,rt,bk,ct⟩=>
 ⟨Z,Γ,_,E.e,h,λd v H1 hd s1 hv=>by
  obtain ⟨ds,hs,h⟩:=Yo hd
  obtain ⟨l,xs,hl,hz,el,hx⟩:=(E.mv s1).e.ow i ds hs
  refine ⟨.ref l,hl,Z,Γ,_,(E.mv s1).e,h,λk u H2 hk s2 hu=>?_⟩
  unfold iD at hk
  split at hk
  ·obtain ⟨z,j,e1,e2,hd⟩:=hk
   cases e1
   cases hu
   have s:=s1.trans s2
   have hx1:=xW (yg s2) hx
   exact ⟨l,xs,_,j,rfl,rfl,s2.at el,by rw [wS hx]; exact e2,nx Z _ _ _ ((E.mv s).put hs hl hz (zOa (hv.same (yg s2)) j hx1)) ((yg s).trans (kj hz)) hd⟩
  ·exact hk.elim⟩
def ixL (ds:List D):D->(D->Prop)->Prop
 | .int i,R=>∃ d,yo ds i=some d/\R d
 | _,_=>False
def QH (i:Nat) (pb:zr):zr:=λΓ R=>km (slot Γ i) λds=>pb Γ λk=>ixL ds k R
theorem zRP (i:Nat) {x:Str} {b:Expr} {xp:Pos} (hb:PE X b (tP pb)) (hs:WJ b) (hN:X.N[i]? = some x:=by rfl) (hv:qJ X.env.scope x:=by first | exact Or.inl rfl | exact Or.inr (Or.inl rfl) | exact Or.inr (Or.inr rfl)) (hd:(x == ("__debug__" : Str))=false:=by decide)
  (hcd:(x == ("__classdict__" : Str))=false:=by decide):PE X (.Subscript (.Name x xp) b pos) (tP (QH i pb)):=yU (U1 U3 (xM i hN hv hd hcd) hb hs) λσ H Q ⟨Z,Γ,R,E,h,q⟩=>by
 obtain ⟨ds,hs,h⟩:=Yo h
 obtain ⟨l,xs,hl,hz,el,hx⟩:=E.ow i ds hs
 refine ⟨.ref l,hl,Z,Γ,_,E,h,λk u H2 hk s2 hu=>?_⟩
 unfold ixL at hk
 split at hk
 ·cases hu
  obtain ⟨d,hd,hR⟩:=hk
  obtain ⟨v,hv,hh⟩:=Wm hx hd
  exact ⟨l,xs,_,v,rfl,rfl,zp.of (s2.at el),hv,q _ _ H2 hR s2 (hh.same (yg s2))⟩
 ·exact hk.elim
def D.isInt:D->Bool
 | .int _=>true
 | .bool _=>true
 | _=>false
def D.isBool:D->Bool
 | .bool _=>true
 | _=>false
def D.isLst:D->Bool
 | .lst _=>true
 | .scr _=>true
 | _=>false
def D.isTup:D->Bool
 | .tup _=>true
 | _=>false
def D.isObj:D->Bool
 | .obj ..=>true
 | _=>false
def Yp (c:String) (f:D->Bool):D->(D->Prop)->Prop:=λd R=>d.isObj=false/\R (.bool (f d))
theorem Wu {K:cI} {H:Hp} {v:V} {d:D} (h:DV H v d) (o:d.isObj=false):∃ t,yb K H v t/\dy K t (.type "int")=some d.isInt/\dy K t (.type "bool")=some d.isBool/\dy K t (.type "list")=some d.isLst/\dy K t (.type "tuple")=some d.isTup:=by
 cases h with
 | int i=>exact ⟨_,.int i,qL K .int,qM K .int,qO K .int,qN K .int⟩
 | bool b=>exact ⟨_,.bl b,qL K .bool,qM K .bool,qO K .bool,qN K .bool⟩
 | non=>exact ⟨_,.non,qL K .non,qM K .non,qO K .non,qN K .non⟩
 | str x=>exact ⟨_,.str x,qL K .str,qM K .str,qO K .str,qN K .str⟩
 | scr e=>
  rcases e with e | ⟨o,e⟩
  ·exact ⟨_,.lst e,qL K .lst,qM K .lst,qO K .lst,qN K .lst⟩
  ·exact ⟨_,.frz e,qL K .lst,qM K .lst,qO K .lst,qN K .lst⟩
 | lst e _=>exact ⟨_,.lst e,qL K .lst,qM K .lst,qO K .lst,qN K .lst⟩
 | tup e _=>exact ⟨_,.tup e,qL K .tup,qM K .tup,qO K .tup,qN K .tup⟩
 | obj e _ _=>cases o
theorem uD {K:cI} {c:String} {f:D->Bool} (hf:∀ H v d,DV H v d->d.isObj=false->∃ t,yb K H v t/\dy K t (.type c)=some (f d)) (σ:St) (H:Hp) (Q:VK):tP (YH (Yp c f) pa) σ H Q->Zc (zRI K) (qx (tP pa) (qx (tC (.ty c)) vV)) σ H Q:=λ⟨Z,Γ,R,E,h,q⟩=>
 ⟨Z,Γ,_,E,h,λd v H1 hd s1 hv=>by
  obtain ⟨t,h1,h2⟩:=hf H1 v d (hv.same yG) hd.1
  exact ⟨v,c,t,_,rfl,h1,h2,q _ _ H1 hd.2 s1 (.bool _)⟩⟩
theorem zOk {K:cI} (H:Hp) (v:V) (d:D) (h:DV H v d) (o:d.isObj=false):∃ t,yb K H v t/\dy K t (.type "int")=some d.isInt:=let ⟨t,h1,h2,_⟩:=Wu h o; ⟨t,h1,h2⟩
theorem zJR {K:cI} (H:Hp) (v:V) (d:D) (h:DV H v d) (o:d.isObj=false):∃ t,yb K H v t/\dy K t (.type "bool")=some d.isBool:=let ⟨t,h1,_,h2,_⟩:=Wu h o; ⟨t,h1,h2⟩
theorem gd {K:cI} (H:Hp) (v:V) (d:D) (h:DV H v d) (o:d.isObj=false):∃ t,yb K H v t/\dy K t (.type "list")=some d.isLst:=let ⟨t,h1,_,_,h2,_⟩:=Wu h o; ⟨t,h1,h2⟩
theorem QI {K:cI} (H:Hp) (v:V) (d:D) (h:DV H v d) (o:d.isObj=false):∃ t,yb K H v t/\dy K t (.type "tuple")=some d.isTup:=let ⟨t,h1,_,_,_,h2⟩:=Wu h o; ⟨t,h1,h2⟩
end
inductive zH (F:FL) (vs:List V) (H:Hp) (Q:VK) (E:XK):Prop
 | mk (Z:Addr->Prop) (ds:List D) (R:D->Prop) (zd:ZL Z H) (hv:yR (zT Z H) vs ds) (h:F ds R) (q:∀ d v H',R d->Sm H H'->DV (zT Z H') v d->Q v H'):zH F vs H Q E
section
variable {P:Program} {w:World} {K:cI} {mg:Str->Option Value} {base:Heap}
theorem gf (n i:Nat):slot (cS n .no) i=.no:=by
 rw [zI8]
 cases h:(cS n Sl.no)[i]? with
 | none=>rfl
 | some x=>exact i7 (dz h)
theorem zHw {Z:Addr->Prop} {H:Hp} {vs:List V} {ds:List D} (zd:ZL Z H) (h:yR (zT Z H) vs ds) (n:Nat):yS Z (ds.map Sl.sh++cS n .no) (vs.map some++cS n none) H:=by
 have no:∀ i as,slot (ds.map Sl.sh++cS n .no) i≠.ow as:=Wr λi as h=>by rw [gf] at h; cases h
 have nob:∀ i o c ns as,slot (ds.map Sl.sh++cS n .no) i≠.ob o c ns as:=Wq λi o c ns as h=>by rw [gf] at h; cases h
 refine ⟨?_,λi as e=>absurd e (no i as),λi o c ns as e=>absurd e (nob i o c ns as),λi _ as _ _ e=>absurd e (no i as),zd,?_⟩
 clear nob
 ·induction h with
  | nil=>
   intro i d e
   change slot (cS n .no) i=_ at e
   rw [gf] at e
   cases e
  | @cons v d vs ds hv _ ih=>
   intro i e q
   cases i with
   | zero=>cases q; exact ⟨v,rfl,hv⟩
   | succ i=>
    obtain ⟨u,h1,h2⟩:=ih (λi=>no (i + 1)) i e q
    exact ⟨u,by rw [dD,mS,fD]; exact h1,h2⟩
 ·rw [cJ,cJ,a_,a_,eY,eY,wS h]
theorem QJ {N ps:List Str} {F:FL} {p:xB} (len:∀ ds R,F ds R->ds.length=ps.length) (h2:∀ ds R,F ds R->p { nx:=λ_=>R .non,rt:=R } (ds.map Sl.sh++cS (N.length - ps.length) .no)) {H:Hp} {vs:List V} {Q:VK} {E:XK} (h:zH F vs H Q E):yW p { nx:=λ_ H'=>Q .non H',rt:=Q } (L2.yq N vs) H:=by
 obtain ⟨Z,ds,R,zd,hv,h,q⟩:=h
 have e:L2.yq N vs=vs.map some++cS (N.length - ps.length) none:=by
  unfold L2.yq
  rw [wS hv,len ds R h]
 refine ⟨Z,H,Z,_,_,⟨?_,λ_ h=>h,zd,Sm.refl _,?_,?_⟩,h2 ds R h,λZ' Γ' σ' H' E' _ hn=>q .non .non H' hn E'.same .non,λd v H' s' hv' hd=>q d v H' hd s' hv',λ_ _ _ _ _ _ h=>h.elim,λ_ _ _ _ _ _ h=>h.elim⟩
 ·rw [e]
  exact zHw zd hv _
 ·exact λi as l e=>absurd e (Wr (λi as h=>by rw [gf] at h; cases h) i as)
 ·exact λi o c ns as e=>absurd e (Wq (λi o c ns as h=>by rw [gf] at h; cases h) i o c ns as)
theorem Wv {ps:List Str} {F:FL} (len:∀ ds R,F ds R->ds.length=ps.length) (vs:List V) (H:Hp) (Q:VK) (E:XK):zH F vs H Q E->vs.length=ps.length:=λ⟨Z,ds,R,zd,hv,h,q⟩=>by rw [wS hv]; exact len ds R h
theorem okP {x qual:Str} {st:Stmt} {f:Addr} {fd:FuncData} {N ps:List Str} {k:Nat} {F:FL} (Fu:zi K x qual st f fd) (S:zf N ps (zS st)) (len:∀ ds R,F ds R->ds.length=ps.length)
  (hbody:∀ (cdv:Value) (A:Around) (outer:List Env) (s:Shared) (H:Hp) (E:XK),zc k (A.deeper (envOfC qual (zS st) s.heap.objs.size f cdv))->
   ∃ p,xG (xP zY P w K mg base N qual (zS st) f cdv A outer s H E).nox (xg st) (yW p)/\∀ ds R,F ds R->p { nx:=λ_=>R .non,rt:=R } (ds.map Sl.sh++cS (N.length - ps.length) .no)):zF P w K mg base zY (k + 1) f fd ps (zH F):=
 Fu.ok S (Wv len) λcdv A outer s H vs Q E hr h=>let ⟨p,h1,h2⟩:=hbody cdv A outer s H E hr; ⟨_,h1,QJ len h2 h⟩
theorem QK {x qual:Str} {st:Stmt} {f:Addr} {fd:FuncData} {dv:Value} {N ps:List Str} {k:Nat} {F:FL} (Fu:xa K x qual st f fd dv) (S:zf N ps (zS st)) (len:∀ ds R,F ds R->ds.length=ps.length)
  (hbody:∀ (cdv:Value) (A:Around) (outer:List Env) (s:Shared) (H:Hp) (E:XK),zc k (A.deeper (envOfC qual (zS st) s.heap.objs.size f cdv))->
   ∃ p,xG (xP zY P w K mg base N qual (zS st) f cdv A outer s H E).nox (xg st) (yW p)/\∀ ds R,F ds R->p { nx:=λ_=>R .non,rt:=R } (ds.map Sl.sh++cS (N.length - ps.length) .no)):zF P w K mg base zY (k + 1) f fd ps (zH F):=
 Fu.ok S (Wv len) λcdv A outer s H vs Q E hr h=>let ⟨p,h1,h2⟩:=hbody cdv A outer s H E hr; ⟨_,h1,QJ len h2 h⟩
theorem zQ {X:Cx} {x:Str} {ps:List Str} {k:Nat} {F:FL} {e:Expr} {es:List Expr} {pl:yz} {p pos:Pos} (c:Fn X.prog X.w X.K X.mg X.base x ps k (zH F)) (hr:zc k X.A) (hg:Gl X x) (ha:PA X (e :: es) (wP pl))
  (hdb:(x == ("__debug__" : Str))=false:=by decide) (he:starEach (e :: es) X.env=(false,eval e X.env) :: starEach es X.env:=by rfl) (hpl:(backTo pos (starEach es X.env)).any (·.1)=false:=by rfl) :
  PE X (.Call (.Name x p) (e :: es) [] pos) (tP (jy F pl)):=yU (zNM c hr hg ha hdb he hpl) λσ H Q ⟨Z,Γ,R,E,h,q⟩=>
 ⟨Z,Γ,_,E,h,λds vs H1 hd s1 hv=>⟨Z,ds,R,(E.same s1).zd,by rw [fy]; exact hv,hd,λd v H2 h2 s2 hv2=>q d v H2 h2 (s1.trans s2) hv2⟩⟩
end
end Pu
namespace Pu
open PySem L2 Sh
variable [yd]
open PyProof.Rows (envOfC)
theorem zJE {f:Str} {y:V}:∀ {ns:List Str} {xs:List V},ns.length=xs.length->f∉ns->yu f y (ns.zip xs)=(ns++[f]).zip (xs++[y])
 | [],[],_,_=>rfl
 | [],_ :: _,h,_=>nomatch h
 | _ :: _,[],h,_=>nomatch h
 | n :: ns,x :: xs,h,hf=>by
  show (if n=f then (n,y) :: ns.zip xs else (n,x) :: yu f y (ns.zip xs))=_
  rw [if_neg (λz=>hf (by rw [z]; exact cO)),zJE (Nat.succ.inj h) (λz=>hf (cK _ z))]
  rfl
theorem yt.putO {Z0:Addr->Prop} {H0:Hp} {Z:Addr->Prop} {Γ:List Sl} {σ:St} {H:Hp} (E:yt Z0 H0 Z Γ σ H) {i:Nat} {o c dx:Addr} {ns ns':List Str} {ds ds':List D} {xs:List V} (hs:slot Γ i=.ob o c ns ds) (he:∃ fs,H o=some (.ins c dx fs)) (hl:ns'.length=xs.length) (hx:yR (zT Z H) xs ds') (one:∀ j o' c' ns' ds',slot Γ j=.ob o' c' ns' ds'->j=i):yt Z0 H0 Z (zw Γ i (.ob o c ns' ds')) σ (zh H o (.ins c dx (ns'.zip xs))):=by
 obtain ⟨dx0,xs0,hl0,hz,el,_⟩:=E.e.ob i o c ns ds hs
 have li:=ui (Γ:=Γ) (i:=i) (by rw [hs]; exact λz=>nomatch z)
 have hp:zR (zT Z H) (zT Z (zh H o (.ins c dx (ns'.zip xs)))):=kj hz
 have keyw:∀ j d,slot (zw Γ i (.ob o c ns' ds')) j=.ow d->slot Γ j=.ow d:=λj d q=>by
  rw [xi] at q
  by_cases c:j=i/\i < Γ.length
  ·rw [if_pos c] at q; cases q
  ·rw [if_neg c] at q; exact q
 refine ⟨⟨λj d q=>?_,λj d q=>?_,λj o' c' ns1 d q=>?_,λj k as bs m q r=>E.e.ne j k as bs m (keyw j as q) (keyw k bs r),⟨λb hb=>?_,he.elim λ_ e=>yd.put E.e.zd.i e⟩,by rw [gL]; exact E.e.len⟩,E.z0,E.z0d,?_,λj d m q=>E.own j d m (keyw j d q),λj o' c' ns1 d q=>?_⟩
 ·rw [xi] at q
  by_cases c:j=i/\i < Γ.length
  ·rw [if_pos c] at q; cases q
  ·rw [if_neg c] at q
   obtain ⟨v,h1,h2⟩:=E.e.sh j d q
   exact ⟨v,h1,h2.same hp⟩
 ·obtain ⟨m,ys,h1,h2,h3,h4⟩:=E.e.ow j d (keyw j d q)
  have nm:m≠o:=λz=>by rw [z,el] at h3; cases h3
  exact ⟨m,ys,h1,h2,by rw [yH nm]; exact h3,xW hp h4⟩
 ·rw [xi] at q
  by_cases c:j=i/\i < Γ.length
  ·rw [if_pos c] at q
   cases q
   rw [c.1]
   exact ⟨dx,xs,hl0,hz,wD,hl,xW hp hx⟩
  ·rw [if_neg c] at q
   exact absurd ⟨one _ _ _ _ _ q,li⟩ c
 ·obtain ⟨u,e,n⟩:=E.e.zd.z b hb
  by_cases c:b=o
  ·rw [c]; exact ⟨_,wD,λ_ z=>nomatch z⟩
  ·exact ⟨u,by rw [yH c]; exact e,n⟩
 ·exact he.elim λ_ e=>E.same.put (E.owb i o c ns ds hs) e
 ·rw [xi] at q
  by_cases c:j=i/\i < Γ.length
  ·rw [if_pos c] at q
   cases q
   exact E.owb i o _ ns ds hs
  ·rw [if_neg c] at q
   exact E.owb j o' c' ns1 d q
def Ww:Sl->(Addr->Addr->List Str->List D->Prop)->Prop
 | .ob o c ns ds,R=>R o c ns ds
 | _,_=>False
theorem zLW {s:Sl} {R:Addr->Addr->List Str->List D->Prop} (h:Ww s R):∃ o c ns ds,s=.ob o c ns ds/\R o c ns ds:=by
 cases s with
 | ob o c ns ds=>exact ⟨o,c,ns,ds,rfl,h⟩
 | _=>exact h.elim
def gg:List Sl->Bool
 | []=>true
 | .ob _ _ _ _ :: _=>false
 | _ :: t=>gg t
theorem Wx:∀ {Γ:List Sl},gg Γ=true->∀ j o c ns ds,slot Γ j≠.ob o c ns ds
 | [],_,_,_,_,_,_,h=>nomatch h
 | .no :: _,_,0,_,_,_,_,h=>nomatch h
 | .sh _ :: _,_,0,_,_,_,_,h=>nomatch h
 | .ow _ :: _,_,0,_,_,_,_,h=>nomatch h
 | .ob .. :: _,g,_,_,_,_,_,_=>nomatch g
 | .no :: t,g,j + 1,o,c,ns,ds,h=>Wx (Γ:=t) g j o c ns ds h
 | .sh _ :: t,g,j + 1,o,c,ns,ds,h=>Wx (Γ:=t) g j o c ns ds h
 | .ow _ :: t,g,j + 1,o,c,ns,ds,h=>Wx (Γ:=t) g j o c ns ds h
def zSy (K:cI) (c:Addr) (f:Str):Prop:=uz K c/\vJ K c f
def QL (K:cI) (f:Str) (pa:zr):xB:=λT Γ=>pa Γ λd=>Ww (slot Γ 0) λo c ns ds=>zSy K c f/\f∉ns/\ns.length < 900/\gg (Γ.drop 1)=true/\T.nx (zw Γ 0 (.ob o c (ns++[f]) (ds++[d])))
section
variable {X:Cx} {e:Expr} {es:List Expr} {pos:Pos} {pa:zr} {pl:yz} {C:Addr}
theorem j4 {K:cI} {f:Str} (D:xn) (σ:St) (H:Hp):yW (QL K f pa) D σ H->Zb K (uL 0) (tP pa) f D σ H:=λ⟨Z0,H0,Z,Γ,Dp,E,h,nx,rt,bk,ct⟩=>
 ⟨Z,Γ,_,E.e,h,λd v H1 hd s1 hv=>by
  obtain ⟨o,c,ns,ds,hs,hk,hf,hn,hn2,hd⟩:=zLW hd
  obtain ⟨dx,xs,hl,hz,el,ln,hx⟩:=(E.mv s1).e.ob 0 o c ns ds hs
  refine ⟨.ref o,hl,o,c,dx,_,rfl,el,hk.1,hk.2,by rw [eP]; omega,?_⟩
  rw [zJE ln hf]
  refine nx Z _ _ _ ((E.mv s1).putO hs ⟨_,el⟩ (by rw [cJ,cJ,ln]; rfl) (Zq hv hx) ?_) ((yg s1).trans (kj hz)) hd
  intro j o' c' ns' ds' q
  cases j with
  | zero=>rfl
  | succ j=>
   cases Γ with
   | nil=>cases q
   | cons x t=>exact absurd q (Wx (Γ:=t) hn2 j o' c' ns' ds')⟩
inductive jE (C:Addr) (F:FL) (vs:List V) (H:Hp) (Q:VK) (E:XK):Prop
 | mk (Z:Addr->Prop) (ds:List D) (R:D->Prop) (o dx:Addr) (us:List V) (e:vs=.ref o :: us) (ho:H o=some (.ins C dx [])) (hz:¬ Z o) (zd:ZL Z H) (hv:yR (zT (λb=>Z b\/b=o) H) us ds) (h:F ds R) (q:∀ d H',R d->Sm (less o H) H'->DV (zT Z H') (.ref o) d->Q .non H'):jE C F vs H Q E
theorem zNc {N ps:List Str} {F:FL} {p:xB} (len:∀ ds R,F ds R->ds.length=ps.length) (h2:∀ o ds R,F ds R->p { nx:=λΓ=>Ww (slot Γ 0) λo' c ns es=>o'=o/\R (.obj c ns es),rt:=λ_=>False } (.ob o C [] [] :: (ds.map Sl.sh++cS (N.length - (ps.length + 1)) .no))) {H:Hp} {vs:List V} {Q:VK} {E:XK} (h:jE C F vs H Q E):yW p { nx:=λ_ H'=>Q .non H',rt:=Q } (L2.yq N vs) H:=by
 obtain ⟨Z,ds,R,o,dx,us,e,ho,hz,zd,hv,h,q⟩:=h
 subst e
 have e:L2.yq N (.ref o :: us)=some (.ref o) :: (us.map some++cS (N.length - (ps.length + 1)) none):=by
  unfold L2.yq
  rw [dB,wS hv,len ds R h]
  rfl
 have zd':ZL (λb=>Z b\/b=o) H:=⟨λb hb=>hb.elim (zd.z b) λz=>by rw [z]; exact ⟨_,ho,λ_ z=>nomatch z⟩,zd.i⟩
 have E0:=zHw zd' hv (N.length - (ps.length + 1))
 refine ⟨Z,less o H,λb=>Z b\/b=o,_,_,⟨?_,λ_ h=>.inl h,⟨λb hb=>?_,yd.less zd.i ho⟩,.of zNk,?_,?_⟩,h2 o ds R h,λZ' Γ' σ' H' E' _ hn=>?_,λ_ _ _ _ _ h=>h.elim,λ_ _ _ _ _ _ h=>h.elim,λ_ _ _ _ _ _ h=>h.elim⟩
 ·rw [e]
  refine ⟨λi d q=>?_,λi d q=>?_,λi o' c ns d q=>?_,λi j as bs l q r=>?_,zd',by rw [dB,dB,E0.len]⟩
  ·cases i with
   | zero=>cases q
   | succ i=>exact E0.sh i d q
  ·cases i with
   | zero=>cases q
   | succ i=>exact E0.ow i d q
  ·cases i with
   | zero=>cases q; exact ⟨dx,[],rfl,.inr rfl,ho,rfl,.nil⟩
   | succ i=>exact E0.ob i o' c ns d q
  ·cases i with
   | zero=>cases q
   | succ i=>
    cases j with
    | zero=>cases r
    | succ j=>exact λa b=>congrArg _ (E0.ne i j as bs l q r a b)
 ·obtain ⟨u,e1,n⟩:=zd.z b hb
  exact ⟨u,(if_neg λz=>hz (by rw [<- z]; exact hb)).trans e1,n⟩
 ·intro i as l q
  cases i with
  | zero=>cases q
  | succ i=>exact absurd q (Wr (λi as h=>by rw [gf] at h; cases h) i as)
 ·intro i o' c ns as q
  cases i with
  | zero=>cases q; exact if_pos rfl
  | succ i=>exact absurd q (Wq (λi o c ns as h=>by rw [gf] at h; cases h) i o' c ns as)
 ·obtain ⟨o',c,ns,es,hs,e2,hR⟩:=zLW hn
  subst e2
  obtain ⟨dx',xs,hl,hz',el,ln,hx⟩:=E'.e.ob 0 o' c ns es hs
  refine q _ H' hR E'.same (.obj (uR hz el) ln (xW (YD E'.z0) hx))
theorem zPE {ps:List Str} {p0:Str} {F:FL} (len:∀ ds R,F ds R->ds.length=ps.length) (vs:List V) (H:Hp) (Q:VK) (E:XK):jE C F vs H Q E->vs.length=(p0 :: ps).length:=λ⟨Z,ds,R,o,dx,us,e,ho,hz,zd,hv,h,q⟩=>by rw [e,dB,dB,wS hv,len ds R h]
theorem okI {P:Program} {w:World} {K:cI} {mg:Str->Option Value} {base:Heap} {x qual:Str} {st:Stmt} {f:Addr} {fd:FuncData} {N ps:List Str} {p0:Str} {k:Nat} {F:FL} (Fu:zi K x qual st f fd) (S:zf N (p0 :: ps) (zS st)) (len:∀ ds R,F ds R->ds.length=ps.length)
  (hbody:∀ (cdv:Value) (A:Around) (outer:List Env) (s:Shared) (H:Hp) (E:XK),zc k (A.deeper (envOfC qual (zS st) s.heap.objs.size f cdv))->
   ∃ p,xG (xP zY P w K mg base N qual (zS st) f cdv A outer s H E).nox (xg st) (yW p)/\∀ o ds R,F ds R->p { nx:=λΓ=>Ww (slot Γ 0) λo' c ns es=>o'=o/\R (.obj c ns es),rt:=λ_=>False } (.ob o C [] [] :: (ds.map Sl.sh++cS (N.length - (ps.length + 1)) .no))):zF P w K mg base zY (k + 1) f fd (p0 :: ps) (jE C F):=
 Fu.ok S (zPE len) λcdv A outer s H vs Q E hr h=>let ⟨p,h1,h2⟩:=hbody cdv A outer s H E hr; ⟨_,h1,zNc len h2 h⟩
theorem zMt {F:FL} {ev:List V} {ed:List D} (he:∀ H,yR H ev ed) (σ:St) (H:Hp) (Q:VK):tP (jy (λds=>F (ds++ed)) pl) σ H Q->WG C (jE C F) ev E0 (wP pl) σ H Q:=λ⟨Z,Γ,R,E,h,q⟩=>
 ⟨Z,Γ,_,E,h,λds vs H1 hd s1 hv x dx hx hdx ne=>by
  have zd:=(E.same s1).zd
  have s2:Sm H1 (zh (zh H1 dx (.own x)) x (.ins C dx [])):=.of (zKl hx hdx ne _ _)
  refine ⟨Z,ds++ed,R,x,dx,vs++ev,rfl,wD,zd.new hx,zd.same s2,?_,hd,λd H' hR sb dv=>⟨rfl,q d _ H' hR (zRA (s1.trans s2) wD sb ?_) dv⟩⟩
  ·refine kR (xW ?_ hv) (he _)
   intro b o e
   obtain ⟨n1,n2⟩:=qW e
   exact uR (λz=>z.elim n1 (wn n2 hx)) (s2.at n2 (gK e)) (gK e)
  ·exact s1.free hx⟩
theorem zO8 {F:FL} (σ:St) (H:Hp) (Q:VK) (h:tP (jy F pl) σ H Q):WG C (jE C F) [] E0 (wP pl) σ H Q:=zMt (ed:=[]) (λ_=>.nil) σ H Q (by rw [show (λds=>F (ds++[]))=F from funext λds=>by rw [fy]]; exact h)
theorem zKx {x:Str} {ps:List Str} {k:Nat} {F:FL} {p:Pos} (c:qP X.prog X.w X.K X.mg X.base C ps k (jE C F)) (T:xy X.K X.mg x C) (hr:zc (k + 1) X.A) (hg:Gl X x) (ha:PA X (e :: es) (wP pl))
  (hdb:(x == ("__debug__" : Str))=false:=by decide) (he:starEach (e :: es) X.env=(false,eval e X.env) :: starEach es X.env:=by rfl) (hpl:(backTo pos (starEach es X.env)).any (·.1)=false:=by rfl) :
  PE X (.Call (.Name x p) (e :: es) [] pos) (tP (jy F pl)):=yU (zNJ c T hr hg ha hdb he hpl) zO8
theorem j5 {x:Str} {ps:List Str} {k:Nat} {F:FL} {p:Pos} {dv:V} (dd:D) (hd:∀ H,DV H dv dd) (c:wr X.prog X.w X.K X.mg X.base x ps k (zH F) dv) (hr:zc k X.A) (hg:Gl X x) (ha:PA X (e :: es) (wP pl))
  (hdb:(x == ("__debug__" : Str))=false:=by decide) (he:starEach (e :: es) X.env=(false,eval e X.env) :: starEach es X.env:=by rfl) (hpl:(backTo pos (starEach es X.env)).any (·.1)=false:=by rfl) :
  PE X (.Call (.Name x p) (e :: es) [] pos) (tP (jy (λds=>F (ds++[dd])) pl)):=yU (zLB c hr hg ha hdb he hpl) λσ H Q ⟨Z,Γ,R,E,h,q⟩=>
 ⟨Z,Γ,_,E,h,λds vs H1 hd' s1 hv=>⟨Z,ds++[dd],R,(E.same s1).zd,kR hv (.cons (hd _) .nil),hd',λd v H2 h2 s2 hv2=>q d v H2 h2 (s1.trans s2) hv2⟩⟩
def Yq (K:cI) (f:Str):D->(D->Prop)->Prop
 | .obj c ns ds,R=>zSy K c f/\∃ d,(ns.zip ds).lookup f=some d/\R d
 | _,_=>False
theorem zHl {H:Hp} {f:Str} {d:D}:∀ {ns:List Str} {xs:List V} {ds:List D},ns.length=xs.length->yR H xs ds->(ns.zip ds).lookup f=some d->∃ v,(ns.zip xs).lookup f=some v/\DV H v d
 | [],_,_,_,_,h=>nomatch h
 | _ :: _,[],_,h,_,_=>nomatch h
 | n :: ns,x :: xs,_,h,.cons (b:=d') (l₂:=dt) k t,q=>by
  change (match f == n with | true=>some d' | false=>(ns.zip dt).lookup f)=some d at q
  show ∃ v,(match f == n with | true=>some x | false=>(ns.zip xs).lookup f)=some v/\_
  cases e:f == n with
  | true=>rw [e] at q; cases q; exact ⟨x,rfl,k⟩
  | false=>rw [e] at q; exact zHl (Nat.succ.inj h) t q
theorem wK (K:cI) {f:Str} (ha:PE X e (tP pa)) (hb:attributeBase e f X.env (eval e X.env)=eval e X.env) (hK:X.K=K:=by rfl):PE X (.Attribute e f pos) (tP (YH (Yq K f) pa)):=yU (zRi ha hb) λσ H Q ⟨Z,Γ,R,E,h,q⟩=>
 ⟨Z,Γ,_,E,h,λd v H1 hd s1 hv=>by
  unfold Yq at hd
  split at hd
  ·obtain ⟨hk,d',hl,hR⟩:=hd
   cases hv with
   | obj e1 l1 h1=>
    obtain ⟨v,e2,dv⟩:=zHl l1 h1 hl
    exact ⟨_,_,_,_,v,rfl,yG _ _ e1,by rw [hK]; exact hk.1,by rw [hK]; exact hk.2,e2,q _ _ H1 hR s1 dv⟩
  ·exact hd.elim⟩
def zSA (C:Addr) (m:Str) (F:FL):D->(D->Prop)->Prop
 | .obj c ns ds,R=>c=C/\m∉ns/\F [.obj c ns ds] R
 | _,_=>False
theorem zHm {f:Str}:∀ {ns:List Str} {xs:List V},f∉ns->(ns.zip xs).lookup f=none
 | [],_,_=>rfl
 | _ :: _,[],_=>rfl
 | n :: ns,x :: xs,h=>by
  show (match f == n with | true=>some x | false=>(ns.zip xs).lookup f)=none
  have e:(f == n)=false:=beq_eq_false_iff_ne.mpr λz=>h (by rw [z]; exact cO)
  rw [e]
  exact zHm λz=>h (cK _ z)
theorem Wy {x m:Str} {ps:List Str} {k:Nat} {F:FL} {apos:Pos} {pl:Sem Bool} (c:jW X.prog X.w X.K X.mg X.base C m ps k (zH F)) (T:xy X.K X.mg x C) (hr:zc k X.A) (ha:PE X e (tP pa))
  (ht:eval (.Call (.Attribute e m apos) [] [] pos) X.env=(do
   let ov <- eval e X.env
   standAt apos.atName
   let (f,first) <- holding [ov] (getMethod ov m pl)
   callWith pos f first (backTo pos (starEach [] X.env)) (backToKw pos (keywordEach [] X.env))):=by rfl) :
  PE X (.Call (.Attribute e m apos) [] [] pos) (tP (YH (zSA C m F) pa)):=yU (zK9 c T hr ha ht) λσ H Q ⟨Z,Γ,R,E,h,q⟩=>
 ⟨Z,Γ,_,E,h,λd v H1 hd s1 hv=>by
  unfold zSA at hd
  split at hd
  ·obtain ⟨rfl,hm,hR⟩:=hd
   have hv0:=hv
   cases hv with
   | obj e1 l1 h1=>exact ⟨_,_,_,rfl,yG _ _ e1,zHm hm,Z,_,R,(E.same s1).zd,.cons hv0 .nil,hR,λd v H2 h2 s2 hv2=>q d v H2 h2 (s1.trans s2) hv2⟩
  ·exact hd.elim⟩
def zSS (K:cI) (C:Addr):D->(D->Prop)->Prop
 | .obj c _ _,R=>(∃ mg x,xy K mg x c)/\∃ b,dy K (.ref c) (.ref C)=some b/\R (.bool b)
 | _,_=>False
theorem zMu {K:cI} (σ:St) (H:Hp) (Q:VK):tP (YH (zSS K C) pa) σ H Q->Zc (zOU K) (qx (tP pa) (qx (tC (.ref C)) vV)) σ H Q:=λ⟨Z,Γ,R,E,h,q⟩=>
 ⟨Z,Γ,_,E,h,λd v H1 hd s1 hv=>by
  unfold zSS at hd
  split at hd
  ·obtain ⟨⟨mg,x,T⟩,b,hk,hR⟩:=hd
   cases hv with
   | obj e1 l1 h1=>exact ⟨_,_,_,b,rfl,T.ty (yG _ _ e1),hk,q _ _ H1 hR s1 (.bool _)⟩
  ·exact hd.elim⟩
def Yr (pa:zr):xB:=λT Γ=>pa Γ λ_=>T.nx Γ
theorem zJF (he:PE X e (tP pa)) (hs:swapsWith e none pos.line X.env=pure false:=by rfl):PS X (.Expr e pos) (yW (Yr pa)):=yP (wV he hs) λD σ H ⟨Z0,H0,Z,Γ,Dp,E,h,nx,rt,bk,ct⟩=>
 ⟨Z,Γ,_,E.e,h,λd v H1 hd s1 hv=>nx Z Γ σ H1 (E.mv s1) (yg s1) hd⟩
end
end Pu
namespace Pu
open PySem L2 Sh
variable [yd]
def jf (k:Nat):List D->List D
 | []=>[]
 | d :: t=>xO (.int (k:Int)) d :: jf (k + 1) t
theorem gh:∀ (k:Nat) (ds:List D),(jf k ds).length=ds.length
 | _,[]=>rfl
 | k,_ :: t=>congrArg (· + 1) (gh (k + 1) t)
theorem ko:∀ {k:Nat} {ds:List D} {i:Nat} {e:D},(jf k ds)[i]? = some e->∃ d,ds[i]? = some d/\e=xO (.int ((k + i:Nat):Int)) d
 | _,[],_,_,h=>by simp [jf] at h
 | k,d :: t,0,e,h=>⟨d,rfl,by simp [jf] at h; exact h.symm⟩
 | k,d :: t,i + 1,e,h=>by
  obtain ⟨d',h1,h2⟩:=ko (k:=k + 1) (ds:=t) (i:=i) (e:=e) (by simpa [jf] using h)
  exact ⟨d',by simpa using h1,by rw [h2,show k + 1 + i=k + (i + 1) by omega]⟩
def j6:List D->(List D->Prop)->Prop
 | [.lst ds],R=>R ds
 | _,_=>False
end Pu
namespace L2
open PySem PySem.Spec PyProof.Rows
theorem zMU:bootBuiltins "min" = some (.builtin "min"):=by decide +kernel
end L2
namespace Pu
open PySem L2 Sh
variable [yd]
open PyProof.Rows (envOfC)
section
variable {X:Cx} {e a b:Expr} {es:List Expr} {st:Stmt} {sts:List Stmt} {pos:Pos} {pa pb:zr} {pl:yz} {p q:xB}
theorem zJP {d:D} {k:List D->Prop} (h:uU d k):∃ es,d=.lst es/\k es:=by
 cases d with
 | lst es=>exact ⟨es,rfl,h⟩
 | _=>exact h.elim
end
variable {P:Program} {w:World} {K:cI} {mg:Str->Option Value} {base:Heap}
theorem zF.impN {CX:uG} {k:Nat} {f:Addr} {fd:FuncData} {ps:List Str} {sp sq:Sp} (i:∀ vs H Q E,sq vs H Q E->sp vs H Q E) (o:zF P w K mg base CX k f fd ps sp):zF P w K mg base CX k f fd ps sq:=
 ⟨λvs H Q E h=>o.1 vs H Q E (i vs H Q E h),λa b c d e f g h j k l m n z=>o.2 a b c d e f g h j k l m n (i _ _ _ _ z)⟩
end Pu
namespace Pu
open PySem L2 Sh
variable [yd]
section
variable {X:Cx} {a:Expr} {pos:Pos} {pa:zr}
def slS:D->Option Int->Option Int->(D->Prop)->Prop
 | .scr ns,lo,hi,R=>R (.lst (zv (ns.map D.int) lo hi))
 | _,_,_,_=>False
def QM (pa:zr) (po qo:gM):zr:=λΓ R=>pa Γ λd=>po Γ λl=>qo Γ λu=>slS d l u R
theorem zKv {lo hi:Option Expr} {po qo:gM} {p2:Pos} (ha:PE X a (tP pa)) (hl:PO X lo (gN po)) (hu:PO X hi (gN qo)):PE X (.Subscript a (.Slice lo hi none p2) pos) (tP (QM pa po qo)):=yU (zJJ zKe ha hl hu) λσ H Q ⟨Z,Γ,R,E,h,q⟩=>
 ⟨Z,Γ,_,E,h,λd v H1 hd s1 hv=>⟨Z,Γ,_,E.same s1,hd,λl H2 hl s2=>⟨Z,Γ,_,E.same (s1.trans s2),hl,λu H3 hu s3=>by
  have s:=s1.trans (s2.trans s3)
  have hv:=hv.same (yg (s2.trans s3))
  have zd:=(E.same s).zd
  unfold slS at hu
  split at hu
  ·cases hv with
   | scr e=>exact ⟨_,_,rfl,.inl (Wg yG e),λn hn=>q _ _ _ hu (s.trans (x8 hn _)) (uj zd hn (Jw zHx _ _))⟩
  ·exact hu.elim⟩⟩⟩
end
inductive gi (ds:List D) (T:D->(Bool->Prop)->Prop) (G:D->(D->Prop)->Prop) (R:D->Prop):Prop
 | mk (few:ds.length<=1000) (f:D->Bool) (F:D->D->Prop) (t:∀ d,d∈ds->T d λb=>b=f d) (h:∀ d,d∈ds->f d=true->G d (F d)) (q:∀ es,Paired F (ds.filter f) es->R (.lst es)):gi ds T G R
def zPh (i:Nat) (ow:Bool) (caps:List Nat) (pi:yz) (po:D->Option (List D)) (pt:wE) (pe:zr):xB:=λT Γ=>pi Γ λds=>gi ds (λd S=>uo (po d) λos=>pt (os.map Sl.sh++caps.map λj=>un (slot Γ j)) S) (λd S=>uo (po d) λos=>pe (os.map Sl.sh++caps.map λj=>un (slot Γ j)) S) λd=>uU d λes=>T.nx (zw Γ i (match ow with | true=>.ow es | false=>.sh (.lst es)))
theorem zKr {X:Cx} {pos:Pos} (i:Nat) (ow:Bool) {scope:Scope} {own:List Str} {caps:List (Nat × Str)} {tg iter elt cond:Expr} {pi:yz} {po:D->Option (List D)} {pt:wE} {pe:zr} {js:List Nat} {y:Str} {py spos:Pos} (hN:X.N.Nodup) (hy:X.N[i]? = some y) (hl:X.env.scope.names.lookup y=some .local) (B:v4 X scope own caps) (hc:X.calm=true) (hj:js=f7 0 own.length) (hk:∀ d os,po d=some os->os.length=js.length)
  (hi:PI X tg iter (jC pi)) (hg:∀ C s₀ H₀ ex,PG (yx X scope (zm own caps) C s₀ H₀ ex) tg (tG js po)) (ht:∀ C s₀ H₀ ex,PT (yx X scope (zm own caps) C s₀ H₀ ex) cond (xJ pt)) (he:∀ C s₀ H₀ ex,PE (yx X scope (zm own caps) C s₀ H₀ ex) elt (tP pe)) (hsw:swapsWith (.ListComp elt [⟨tg,iter,[cond],0⟩] scope pos) (some (.Name y py)) spos.line X.env=pure true) (hs:∀ x,foldedSetIterable iter X.env x=pure x:=by intro _; rfl) :
  PS X (.Assign [.Name y py] (.ListComp elt [⟨tg,iter,[cond],0⟩] scope pos) spos) (yW (zPh i ow (caps.map (·.1)) pi po pt pe)):=yP (Jh hN hy hl B hc hi hg (.inr ⟨_,rfl⟩) ht he hsw hs) λD σ H ⟨Z0,H0,Z,Γ,Dp,E,h,nx,rt,bk,ct⟩=>
 ⟨Z,Γ,_,E.e,h,λds J H1 ⟨fw,f,F,hT,hF,hR⟩ s1 wk=>J7 (E.e.same s1) (E.e.same s1) (λ_ z=>z) wk hj hk fw hT hF λes ys H' l h1 s2 h2 hp=>by
  have E1:=(E.mv s1).mv s2
  cases ow with
  | true=>
   obtain ⟨E2,s3⟩:=E1.make hp h2 i
   exact nx _ _ _ _ E2 ((yg (s1.trans s2)).trans s3) (hR es h1)
  | false=>exact nx Z _ _ _ ((E1.mv (x8 hp _)).set (uj E1.e.zd hp h2) i) (yg (s1.trans (s2.trans (x8 hp _)))) (hR es h1)⟩
theorem yS.frz2 {Z:Addr->Prop} {Γ:List Sl} {σ:St} {H:Hp} (E:yS Z Γ σ H) (i:Nat):∃ Z',(∀ b,Z' b->Z b)/\yS Z' (Pu.frz Γ i) σ H:=by
 unfold Pu.frz
 cases hs:slot Γ i with
 | no=>exact ⟨Z,λ_ z=>z,E⟩
 | sh _=>exact ⟨Z,λ_ z=>z,E⟩
 | ob _ _ _ _=>exact ⟨Z,λ_ z=>z,E⟩
 | ow ds=>
  obtain ⟨l,xs,hl,hz,el,hx⟩:=E.ow i ds hs
  have s:zR (zT Z H) (zT (λb=>Z b/\b≠l) H):=YD λb h=>h.1
  have key:∀ j d,slot (zw Γ i (.sh (.lst ds))) j=.ow d->slot Γ j=.ow d/\j≠i:=λj d q=>by
   rw [xi] at q
   by_cases c:j=i/\i < Γ.length
   ·rw [if_pos c] at q; cases q
   ·rw [if_neg c] at q
    have hj:=ui (Γ:=Γ) (i:=j) (by rw [q]; exact λz=>nomatch z)
    exact ⟨q,λz=>c ⟨z,by omega⟩⟩
  have keyb:∀ j o c ns d,slot (zw Γ i (.sh (.lst ds))) j=.ob o c ns d->slot Γ j=.ob o c ns d:=λj o0 c0 ns d q=>by
   rw [xi] at q
   by_cases c:j=i/\i < Γ.length
   ·rw [if_pos c] at q; cases q
   ·rw [if_neg c] at q; exact q
  refine ⟨λb=>Z b/\b≠l,λ_ z=>z.1,⟨λj d q=>?_,λj d q=>?_,λj o c ns d q=>?_,λj k as bs m q r=>?_,⟨λb hb=>E.zd.z b hb.1,E.zd.i⟩,by rw [gL]; exact E.len⟩⟩
  ·rw [xi] at q
   by_cases c:j=i/\i < Γ.length
   ·rw [if_pos c] at q
    cases q
    rw [c.1]
    exact ⟨.ref l,hl,.lst (uR (λz=>z.2 rfl) el) (xW s hx)⟩
   ·rw [if_neg c] at q
    obtain ⟨v,h1,h2⟩:=E.sh j d q
    exact ⟨v,h1,h2.same s⟩
  ·obtain ⟨q1,q2⟩:=key j d q
   obtain ⟨m,ys,h1,h2,h3,h4⟩:=E.ow j d q1
   exact ⟨m,ys,h1,⟨h2,λz=>q2 (E.ne j i d ds l q1 hs (by rw [h1,z]) hl)⟩,h3,xW s h4⟩
  ·obtain ⟨dx,ys,h1,h2,h3,h5,h4⟩:=E.ob j o c ns d (keyb j o c ns d q)
   exact ⟨dx,ys,h1,⟨h2,λz=>by rw [z,el] at h3; cases h3⟩,h3,h5,xW s h4⟩
  ·exact E.ne j k as bs m (key j as q).1 (key k bs r).1
def zPi (b i:Nat) (caps:List Nat) (pi:yz) (po:D->Option (List D)) (pt:wE) (pe:zr):xB:=λT Γ=>pi Γ λds=>gi ds (λd S=>uo (po d) λos=>pt (os.map Sl.sh++caps.map λj=>un (slot (Pu.frz Γ b) j)) S) (λd S=>uo (po d) λos=>pe (os.map Sl.sh++caps.map λj=>un (slot Γ j)) S) λd=>uU d λes=>T.nx (zw Γ i (.sh (.lst es)))
theorem zKs {X:Cx} {pos:Pos} (b i:Nat) {scope:Scope} {own:List Str} {caps:List (Nat × Str)} {tg iter elt cond:Expr} {pi:yz} {po:D->Option (List D)} {pt:wE} {pe:zr} {js:List Nat} {y:Str} {py spos:Pos} (hN:X.N.Nodup) (hy:X.N[i]? = some y) (hl:X.env.scope.names.lookup y=some .local) (B:v4 X scope own caps) (hc:X.calm=true) (hj:js=f7 0 own.length) (hk:∀ d os,po d=some os->os.length=js.length)
  (hi:PI X tg iter (jC pi)) (hg:∀ C s₀ H₀ ex,PG (yx X scope (zm own caps) C s₀ H₀ ex) tg (tG js po)) (ht:∀ C s₀ H₀ ex,PT (yx X scope (zm own caps) C s₀ H₀ ex) cond (xJ pt)) (he:∀ C s₀ H₀ ex,PE (yx X scope (zm own caps) C s₀ H₀ ex) elt (tP pe)) (hsw:swapsWith (.ListComp elt [⟨tg,iter,[cond],0⟩] scope pos) (some (.Name y py)) spos.line X.env=pure true) (hs:∀ x,foldedSetIterable iter X.env x=pure x:=by intro _; rfl) :
  PS X (.Assign [.Name y py] (.ListComp elt [⟨tg,iter,[cond],0⟩] scope pos) spos) (yW (zPi b i (caps.map (·.1)) pi po pt pe)):=yP (Jh hN hy hl B hc hi hg (.inr ⟨_,rfl⟩) ht he hsw hs) λD σ H ⟨Z0,H0,Z,Γ,Dp,E,h,nx,rt,bk,ct⟩=>
 let ⟨Zt,sub,Et⟩:=E.e.frz2 b
 ⟨Z,Γ,_,E.e,h,λds J H1 ⟨fw,f,F,hT,hF,hR⟩ s1 wk=>J7 (E.e.same s1) (Et.same s1) sub wk hj hk fw hT hF λes ys H' l h1 s2 h2 hp=>by
  have E1:=(E.mv s1).mv s2
  exact nx Z _ _ _ ((E1.mv (x8 hp _)).set (uj E1.e.zd hp h2) i) (yg (s1.trans (s2.trans (x8 hp _)))) (hR es h1)⟩
theorem zLG {α:Type} {ds es:List α} (p:Paired (λd e=>e=d) ds es):es=ds:=by
 induction p with
 | nil=>rfl
 | cons h _ ih=>rw [h,ih]
theorem gi.keep {ds:List D} {T:D->(Bool->Prop)->Prop} {G:D->(D->Prop)->Prop} {R:D->Prop} (f:D->Bool) (few:ds.length<=1000) (t:∀ d,d∈ds->T d λb=>b=f d) (h:∀ d,d∈ds->G d λe=>e=d) (q:R (.lst (ds.filter f))):gi ds T G R:=⟨few,f,λd e=>e=d,t,λd m _=>h d m,λes p=>by rw [zLG p]; exact q⟩
end Pu
namespace L2
open PySem PySem.Spec PyProof.Rows
structure Zt (z TI TO i1 i2 i3:Addr) (f1 f2 f3:List Addr):Prop where
 zI:TI≠z
 zO:TO≠z
 z1:i1≠z
 z2:i2≠z
 z3:i3≠z
 IO:TI≠TO
 I1:TI≠i1
 I2:TI≠i2
 I3:TI≠i3
 O1:TO≠i1
 O2:TO≠i2
 O3:TO≠i3
 n1:z∉f1
 n2:z∉f2
 n3:z∉f3
 o1:TO∉f1
 o2:TO∉f2
 o3:TO∉f3
 e12:i1∉f2
 e13:i1∉f3
 e21:i2∉f1
 e23:i2∉f3
 e31:i3∉f1
 e32:i3∉f2
end L2
namespace Pu
open PySem L2 Sh
variable [yd]
def zSB:FL
 | [.lst ds],R=>∃ ns:List Int,ds=ns.map D.int/\0 < ns.length/\∀ M,M∈ns->(∀ a∈ns,a<=M)->R (.int M)
 | _,_=>False
theorem zN8 {K:cI}:um (λxs H Q=>∃ (p:Addr) (ns:List Int),xs=[.ref p]/\zp K H p (ns.map V.int)/\0 < ns.length/\∀ M,M∈ns->(∀ a∈ns,a<=M)->Q (.int M) H) zSB:=λZ H vs ds R Q zd hv h q=>by
 unfold zSB at h
 split at h
 ·obtain ⟨v,rfl,hw⟩:=xA hv
  obtain ⟨p,xs,rfl,e1,h1⟩:=hw.lst_inv
  obtain ⟨ns,rfl,l0,h⟩:=h
  cases YB h1
  exact ⟨p,ns,rfl,zp.of (yG _ _ e1),l0,λM m1 m2=>q _ _ H (h M m1 m2) (Sm.refl _) (.int _)⟩
 ·exact h.elim
end Pu
namespace L2
open PySem PySem.Spec PyProof.Rows
def QN (P:Program) (w:World) (K:cI) (mg:Str->Option Value) (base:Heap) (x y qual:Str) (scope:Scope) (q:Addr) (cd:Value) (clos:List (Str × Addr)) (A:Around) (outer:List Env) (s:Shared) (H:Hp):Cx where
 prog:=P
 w:=w
 K:=K
 mg:=mg
 base:=base
 A:=A.deeper (lI qual scope s.heap.objs.size q cd clos)
 N:=[x,y]
 s₀:=s
 H₀:=H
 env:=lI qual scope s.heap.objs.size q cd clos
 outer:=outer
 stack:=lI qual scope s.heap.objs.size q cd clos :: outer
 ex:=[]
 fn:=λ_=>false
 calm:=true
 pn:=[]
 xe:=λ_ _=>False
theorem Wz {x y z:Str} {c cy:Addr} (h:[(y,cy)].lookup z=some c):z=y/\c=cy:=by
 rw [dw] at h
 split at h
 ·rename_i e
  exact ⟨eq_of_beq e,(Option.some.inj h).symm⟩
 ·cases h
theorem zP5 {P:Program} {w:World} {K:cI} {mg:Str->Option Value} {base:Heap} {A:Around} {outer:List Env} {s:Shared} {H:Hp} {k:Nat} {x y name qual:Str} {params:Arguments} {body:Expr} {scope:Scope} {cy q c':Addr} {pm ctv u uy:Value}
  {v vy:V} {t:TE} {Q:VK} (hsc:scope.names=[(x,.local),(y,.free)]) (hxy:x≠y) (hk:scope.kind=.function) (hco:scope.isCoroutine=false) (hgen:scope.isGenerator=false) (hr:zc (k + 1) A) (e0:xx P w K mg base A outer s H)
  (hq:s.heap.get? q=some (hJ name qual params body scope [(y,cy)] pm c' ctv)) (hcd:s.heap.CodeRec (.ref c') qual)
  (hbind:bindArgs (lU name qual params body scope [(y,cy)] pm (.ref c') ctv) ⟨[u],[]⟩=pure [(x,u)]) (hc:s.heap.IsCell cy (some uy)) (hn:H cy=none) (ru:zV v u) (ry:zV vy uy)
  (hb:PE (QN P w K mg base x y qual scope q (.ref c') [(y,cy)] A outer s H) body t) (ht:t [some v,some vy] H Q):wpAny (model P w) A (call (.ref q) [u]) (CE outer P w H s Q) (λ_ _=>False) s:=by
 have lx:scope.names.lookup x=some .local:=by rw [hsc,dw,beq_self_eq_true]
 have ly:scope.names.lookup y=some .free:=by
  rw [hsc,dw,(by simpa using hxy.symm:(y == x)=false),dw,beq_self_eq_true]
 refine wpAny_call (PySem.W.kla_callFunE hr.depth hq rfl hco hgen rfl hcd ?_)
 rw [hbind]
 refine wpAny_pure (wpAny_newFunctionEnv (λz hz=>?_) (λz hz=>?_) (λh1 hns hsb=>?_) hk)
 ·have hz':z∈scope.names:=hz
  rw [hsc] at hz'
  rcases de.mp hz' with rfl | hz'
  ·exact λe=>by cases e
  ·rw [dh.mp hz']; exact λe=>by cases e
 ·rw [dh.mp hz]
  exact lx
 have k1:∀ b o,s.heap.get? b=some o->h1.get? b=some o:=λb o e=>hsb.extBut b o (dL (cZ e)) (cR _ e)
 refine ⟨(e0.mod.nolimit.keeps λb o e=>(e0.bs b o e).1).keeps k1,?_⟩
 show codeAny _ _ (.expr body (lI qual scope s.heap.objs.size q (.ref c') [(y,cy)])) _ _
 refine PySem.W.kla_codeExpr ?_
 have noA:∀ b:Addr,b∉(QN P w K mg base x y qual scope q (.ref c') [(y,cy)] A outer s H).ex:=λb z=>absurd (show b∈([]:List Addr) from z) (by simp)
 have I:zE (QN P w K mg base x y qual scope q (.ref c') [(y,cy)] A outer s H) [] [some v,some vy] H { s with heap:=h1,toks:=s.toks + [(x,u)].length }:=by
  refine ⟨⟨e0.mod,hk,rfl,rfl,cQ _,λa b c h1 h2=>?_,λa ha=>?_,λa c h _=>(by cases h),λ_=>hr.hd,Around.frames_deeper e0.frames,.inr ⟨rfl,rfl⟩,λb z=>absurd z (noA b),e0.bs,e0.bsz,λb _ _=>noA b,λb z=>absurd z (noA b),e0.funs,e0.frf⟩,
   rfl,e0.bare,Un.kept k1,⟨_,hns,λi a v' h1 h2 h3=>?_⟩,λa c h=>?_,e0.hok.fresh (cQ _),λa c h=>?_,λp hp=>absurd (show p∈([]:List (Addr × Obj)) from hp) (by simp),e0.hok.kept k1,rfl⟩
  ·rw [(Wz (x:=x) h1).1,(Wz (x:=x) h2).1]
  ·have ha':scope.names.lookup a=some .cell\/scope.names.lookup a=some .free:=ha
   rw [hsc] at ha'
   have:a=y:=by
    rw [dw] at ha'
    split at ha'
    ·rcases ha' with z | z <;> cases z
    ·rw [dw] at ha'
     split at ha'
     ·rename_i e
      exact eq_of_beq e
     ·rcases ha' with z | z <;> cases z
   exact ⟨cy,by show [(y,cy)].lookup a=some cy; rw [this,dw,beq_self_eq_true]⟩
  ·match i,h1,h2 with
   | 0,h1,h2=>
    cases h1
    cases h2
    exact ⟨u,ru,.inl ⟨lx,by show fX x [(x,u)]=some u; rw [dw,beq_self_eq_true]⟩⟩
   | 1,h1,h2=>
    cases h1
    cases h2
    refine ⟨uy,ry,.inr ⟨.inr ly,cy,?_,?_⟩⟩
    ·show [(y,cy)].lookup y=some cy
     rw [dw,beq_self_eq_true]
    ·obtain ⟨o,ho,hd⟩:=hc
     exact ⟨o,k1 _ _ ho,hd⟩
   | i + 2,h1,h2=>cases h1
  ·obtain ⟨_,rfl⟩:=Wz (x:=x) h
   obtain ⟨o,ho,hd⟩:=hc
   exact ⟨_,o,k1 _ _ ho,hd⟩
  ·obtain ⟨_,rfl⟩:=Wz (x:=x) h
   exact hn
 exact wpAny_mono (hb [] _ _ H Q I ht) (λu' s' ⟨v',H',J,rv,q'⟩=>⟨v',H',J.os,J.bare,J.base,J.hok,rv,q'⟩) λ_ _ z=>z.elim
structure we (base:Heap) (mg:Str->Option Value) (c P:Addr):Prop where
 hd:lV base c P
 bm:∃ bm o,mg "__builtins__" = some (.ref bm)/\bm≠builtinsNs/\bm≠mainGlobals/\base.get? bm=some o/\o.cls=.type "module"/\o.dict=some builtinsNs/\o.data=.plain
def kq (q:Str) (c':Addr):HO:=.ext λh=>h.CodeRec (.ref c') q
def yM (P:Addr) (q:Str) (pos:Pos) (H:Hp):Prop:=H P=some (.tbl #[])\/∃ c',H P=some (.tbl #[rawInt pos.line,rawInt pos.col,.ref c'])/\H c'=some (kq q c')
theorem yM.same {P:Addr} {q:Str} {pos:Pos} {H H':Hp} (h:yM P q pos H) (s:zR H H'):yM P q pos H':=by
 rcases h with h | ⟨c',h1,h2⟩
 ·exact .inl (s _ _ h)
 ·exact .inr ⟨c',s _ _ h1,s _ _ h2⟩
theorem zSw (pos:Pos) (c:Value):codeAmong pos [rawInt pos.line,rawInt pos.col,c]=some c:=by
 have z:=codeAmong_snoc (pos:=pos) (c:=c) [] trivial rfl
 exact z
theorem zNl {X:Cx} {pins:List (Addr × Obj)} {σ:St} {H:Hp} {s:Shared} {params:Arguments} {body:Expr} {scope:Scope} {lpos:Pos} {c P:Addr} {clos:List (Str × Addr)} {R:Value->Shared->Prop} {E:Value->Shared->Prop}
  (hcl:closureFor scope X.env=pure clos) (hdef:defaultsOf params X.env=([],[])) (hcode:X.env.code=.ref c) (T:we X.base X.mg c P) (I:zE X pins σ H s) (hH:yM P (X.env.qual++"<lambda>") lpos H)
  (h:∀ (q c':Addr) (pm ctv:Value) (H':Hp) (s':Shared),Sh.u7 [P] H H'->yM P (X.env.qual++"<lambda>") lpos H'->H' c'=some (kq (X.env.qual++"<lambda>") c')->
   zE X ((q,hJ "<lambda>" (X.env.qual++"<lambda>") params body scope clos pm c' ctv) :: pins) σ H' s'->R (.ref q) s') :
  wpAny (model X.prog X.w) X.A (eval (.Lambda params body scope lpos) X.env) R E s:=by
 have hPn:H P≠none:=by
  rcases hH with z | ⟨_,z,_⟩ <;> rw [z] <;> exact λe=>by cases e
 have nP:∀ b o,X.base.get? b=some o->b≠P:=λb o e z=>hPn (by rw [<- z]; exact (I.bs b o e).2)
 obtain ⟨bm,ob,b1,b2,b3,b4,b5⟩:=T.bm
 have hgs:=I.mod.glob.keeps I.bk
 have gP:mainGlobals≠P:=by
  obtain ⟨o,_,_,e,_⟩:=I.mod.glob
  exact nP _ o e
 have hb:s.heap.BuiltinsAt X.mg P:=⟨bm,ob,b1,b2,b3,nP _ _ b4,I.bk _ _ b4,b5⟩
 have C:lV s.heap c P:=T.hd.keeps I.bk
 refine PySem.W.kla_eval hdef ?_
 have fin:∀ (H':Hp) (h':Heap) (tk:Nat) (c':Addr) (ctv:Value),Sh.u7 [P] H H'->yM P (X.env.qual++"<lambda>") lpos H'->H' c'=some (kq (X.env.qual++"<lambda>") c')->
   zE X pins σ H' { s with heap:=h',toks:=tk }->R (.ref h'.objs.size) { s with heap:=h'.push (hJ "<lambda>" (X.env.qual++"<lambda>") params body scope clos ((X.mg "__name__").getD .none) c' ctv),toks:=tk }:=λH' h' tk c' ctv z1 z2 z3 J=>by
  have J2:zE X pins σ H' { s with heap:=h'.push (hJ "<lambda>" (X.env.qual++"<lambda>") params body scope clos ((X.mg "__name__").getD .none) c' ctv),toks:=tk }:=J.kept λb u e=>cR _ e
  refine h _ c' ((X.mg "__name__").getD .none) ctv H' _ z1 z2 z3 (J2.pins_of λp hp=>?_)
  rcases de.mp hp with rfl | hp
  ·have F:=J.fpOk (b:=h'.objs.size) (cQ _) (J.hok.fresh (cQ _))
   exact ⟨dj _ rfl,F.1,F.2.1,F.2.2.1,λv e=>by cases e⟩
  ·exact J2.pin p (cY _ hp)
 rcases hH with hH | ⟨c',hH,hc'⟩
 ·have hP:s.heap.get? P=some (iX #[]):=I.hok P _ hH
  refine PySem.W.kla_makeFunction (mg:=X.mg) hcl I.ok.glob hgs hcode C hP trivial rfl gP hb λc' ctv h' tk hx hge hlt hrec htb=>?_
  have hcP:c'≠P:=λz=>absurd (cZ hP) (by rw [<- z]; exact Nat.not_lt.mpr hge)
  have hcn:H c'=none:=I.hok.fresh hge
  have hT:∀ b u,b≠P->b≠c'->(zh (zh H P (.tbl #[rawInt lpos.line,rawInt lpos.col,.ref c'])) c' (kq (X.env.qual++"<lambda>") c') b=u ↔ H b=u):=λb u n1 n2=>by rw [yH n2,yH n1]
  have hTP:zh (zh H P (.tbl #[rawInt lpos.line,rawInt lpos.col,.ref c'])) c' (kq (X.env.qual++"<lambda>") c') P=some (.tbl #[rawInt lpos.line,rawInt lpos.col,.ref c']):=by rw [yH (Ne.symm hcP),wD]
  have ne1:∀ b,H b=none->b≠P:=λb e z=>hPn (by rw [<- z]; exact e)
  have ne2:∀ b o,s.heap.get? b=some o->b≠c':=λb o e=>dL (dg (cZ e) hge)
  have ne3:∀ b u,H b=some u->b≠c':=λb u e z=>by rw [z,hcn] at e; cases e
  have ne4:∀ b u,H b=some u->u≠.tbl #[]->b≠P:=λb u e n z=>by rw [z,hH] at e; cases e; exact n rfl
  refine fin _ h' tk c' ctv ?_ (.inr ⟨c',hTP,wD⟩) wD (I.un (H':=zh (zh H P (.tbl #[rawInt lpos.line,rawInt lpos.col,.ref c'])) c' (kq (X.env.qual++"<lambda>") c')) ⟨λb o e n _ _=>hx b o (ne1 b n) e,λb o e n _ _=>⟨o.slots,hx b o (ne1 b n) e⟩,λb o e n _=>(hT b _ (ne1 b n) (ne2 b o e)).mpr n,λb o e _=>?_,λb xs e=>(hT b _ (ne4 b _ e (by intro z; cases z)) (ne3 b _ e)).mpr e,λb o u e=>(hT b _ (ne4 b _ e (by intro z; cases z)) (ne3 b _ e)).mpr e,λb ps e=>?_⟩ λb u e=>?_)
  ·intro b u e nb
   exact (hT b _ (λz=>nb (by rw [z]; exact dh.mpr rfl)) (ne3 b _ e)).mpr e
  ·by_cases z:b=P
   ·exact ⟨_,by rw [z]; exact htb⟩
   ·exact ⟨o,hx b o z e⟩
  ·by_cases z:b=P
   ·rw [z,hH] at e
    cases e
    exact ⟨_,by rw [z,hTP,mf]⟩
   ·exact ⟨#[],by rw [(hT b _ z (ne3 b _ e)).mpr e,Array.append_empty]⟩
  ·by_cases z:b=c'
   ·rw [z,wD] at e
    cases e
    obtain ⟨c2,o,vs,t,e2,ho,hd⟩:=id hrec
    cases e2
    rw [z]
    exact ⟨hrec,⟨o,ho⟩,λh1 h2 ⟨c3,o3,vs3,t3,e3,ho3,hd3⟩ k=>by cases e3; exact ⟨_,o3,vs3,t3,rfl,k _ ho3,hd3⟩⟩
   ·by_cases z2:b=P
    ·rw [z2,hTP] at e
     cases e
     rw [z2]
     exact htb
    ·have e':=(hT b _ z2 z).mp e
     refine (I.hok b u e').stay (λa v ha q=>hx a v ?_ q) (λa q=>(hT a _ (ne4 a _ q (by intro z; cases z)) (ne3 a _ q)).mpr q) λa xs q=>(hT a _ (ne4 a _ q (by intro z; cases z)) (ne3 a _ q)).mpr q
     rcases ha with ha | ha
     ·rw [ha]; exact z2
     ·exact ne4 a _ ha (by intro z; cases z)
 ·have hP:s.heap.get? P=some (iX #[rawInt lpos.line,rawInt lpos.col,.ref c']):=I.hok P _ hH
  refine PySem.W.kla_makeFunctionHit (mg:=X.mg) hcl I.ok.glob hgs hcode C hP (by simp [TriplesOk,rawInt]) (zSw lpos _) hb λctv h' tk hk hsz=>?_
  exact fin H h' tk c' ctv (Sh.u7.refl _ _) (.inr ⟨c',hH,hc'⟩) hc' (I.kept hk)
abbrev Ys (X:Cx) (σ:St) (H:Hp) (q:Addr) (qo:Obj) (ns:List Int) (kf:Int->Int):Prop:=
 ∀ n∈ns,∀ (t:Tok) (pins:List (Addr × Obj)) (s:Shared),(q,qo)∈pins->zE X pins σ H s->
  wpAny (model X.prog X.w) X.A.in1 (call (.ref q) [.int n t]) (λu s'=>(∃ t',u=.int (kf n) t')/\zE X pins σ H s') (λ_ _=>False) s
section
variable {X:Cx} {σ:St} {H:Hp} {pins:List (Addr × Obj)} {q l It S:Addr} {qo:Obj} {ns:List Int} {kf:Int->Int} {R:Result->Shared->Prop}
theorem zHi {s:Shared} {oI oS:Obj} (I:zE X pins σ H s) (FI:yQ X pins H It) (FS:yQ X pins H S) (hI:s.heap.get? It=some oI) (dI:∀ v,oI.data≠.cell v) (hS:s.heap.get? S=some oS) (dS:∀ v,oS.data≠.cell v):zE X ((It,oI) :: (S,oS) :: pins) σ H s:=
 I.pins_of λp hp=>by
  rcases de.mp hp with rfl | hp
  ·exact ⟨hI,FI.1,FI.2.1,FI.2.2.1,dI⟩
  ·rcases de.mp hp with rfl | hp
   ·exact ⟨hS,FS.1,FS.2.1,FS.2.2.1,dS⟩
   ·exact I.pin p (cY _ hp)
theorem zHj {s:Shared} {a b:Addr × Obj} (I:zE X (a :: b :: pins) σ H s):zE X pins σ H s:=I.pins_of λp hp=>I.pin p (cY _ (.tail _ (.tail _ hp)))
theorem zLb (hc:X.calm=true) (hl:zp X.K H l (ns.map V.int)) (hlI:l≠It) (hSI:S≠It) (FI:yQ X pins H It) (FS:yQ X pins H S) (hq:(q,qo)∈pins) (zj:Ys X σ H q qo ns kf)
  (hR:∀ n∈ns,(∀ m∈ns,kf n<=kf m)->∀ t s',zE X pins σ H s'->R (.ok (.ret (.int n t))) s') :
  ∀ (r j:Nat) (n:Int) (tn tb:Tok) (c:Nat) (s:Shared),ns.length - j=r->j<=ns.length->n∈ns->(∀ i m,i < j->ns[i]? = some m->kf n<=kf m)->zE X pins σ H s->s.heap.IsListIter It l j->s.heap.get? S=some (seqObj "list" #[.int n tn,.int (kf n) tb] c)->
   codeAny (model X.prog X.w) X.A (.builtin "min.loop" ⟨[.ref It,.ref q,.ref S],[(dZ "default",.none)]⟩) R s:=by
 have hname:(toString "min"++toString ".loop" : String) = "min.loop":=by decide
 intro r
 induction r with
 | zero=>
  intro j n tn tb c s hr hj hn hbest I hit hS
  obtain ⟨its,rv,pl,hz⟩:=I.list hl
  have hsz:its.toArray.size=ns.length:=by rw [cW,<- rv.length,a_]
  have W:=Walks.list (prog:=X.prog) (w:=X.w) (A:=X.A.in1) (I.ok.hd hc) It l hlI its.toArray
  refine codeAny_builtin h_ ?_
  rw [Around.under_plainId eD _]
  show wpAny _ X.A.in1 (seqItems? (.ref S) >>= _) _ _ _
  refine wpAny_bind (wpAny_seqItems hS rfl ?_)
  show wpAny _ X.A.in1 (tryCatch (pyNext (.ref It)) _ >>= _) _ _ _
  refine wpAny_bind (wpAny_tryCatch (W.done _ _ _ ⟨by rw [hsz,show ns.length=j by omega]; exact hit,pl.isList⟩ λh' tk' hk'=>?_))
  have I1:zE X pins σ H { s with heap:=h',toks:=tk' }:=I.turned (it:=It) (λb o hb e=>hk' b o (by simpa using hb) e) FI.1 FI.2.1 FI.2.2.2.1 FI.2.2.2.2.1 FI.2.2.2.2.2
  have hS':h'.get? S=_:=hk' S _ (by simpa using hSI) hS
  have s1:=Heap.SameBut.update h' S (Obj.mapSeq λ_=>(#[]:Array Value))
  show wpAny _ X.A.in1 (updateSeq S (λ_=>#[]) >>= _) _ _ _
  refine wpAny_bind ?_
  refine wpAny_updateSeq hS' rfl (wpAny_bind (wpAny_letGo (wpAny_pure ?_)))
  exact hR n hn (λm hm=>by
   obtain ⟨i,hi,e⟩:=eW hm
   exact hbest i m (by omega) (by rw [<- e]; exact b_ hi)) tn _ (I1.turned (it:=S) (λb o hb e=>(s1.2 b hb).trans e) FS.1 FS.2.1 FS.2.2.2.1 FS.2.2.2.2.1 FS.2.2.2.2.2)
 | succ r ih=>
  intro j n tn tb c s hr hj hn hbest I hit hS
  obtain ⟨its,rv,pl,hz⟩:=I.list hl
  have hsz:its.toArray.size=ns.length:=by rw [cW,<- rv.length,a_]
  have hlt:j < ns.length:=by omega
  have W:=Walks.list (prog:=X.prog) (w:=X.w) (A:=X.A.in1) (I.ok.hd hc) It l hlI its.toArray
  refine codeAny_builtin h_ ?_
  rw [Around.under_plainId eD _]
  show wpAny _ X.A.in1 (seqItems? (.ref S) >>= _) _ _ _
  refine wpAny_bind (wpAny_seqItems hS rfl ?_)
  show wpAny _ X.A.in1 (tryCatch (pyNext (.ref It)) _ >>= _) _ _ _
  refine wpAny_bind (wpAny_tryCatch (W.item j _ _ _ (by rw [hsz]; exact hlt) ⟨hit,pl.isList⟩ λv h' tk' hP hst' hk'=>?_))
  have em:ns[j]? = some (ns[j]'hlt):=b_ hlt
  generalize ns[j]'hlt=m at em
  obtain ⟨w',ew,t,rfl⟩:=rv.get (show (ns.map V.int)[j]? = some (.int m) by rw [c_,em]; rfl)
  obtain rfl:v=.int m t:=by
   have:its[j]? = some v:=by simpa using hP
   rw [ew] at this
   exact (Option.some.inj this).symm
  have hm:m∈ns:=dz em
  have I1:zE X pins σ H { s with heap:=h',toks:=tk' }:=I.turned (it:=It) (λb o hb e=>hk' b o (by simpa using hb) e) FI.1 FI.2.1 FI.2.2.2.1 FI.2.2.2.2.1 FI.2.2.2.2.2
  obtain ⟨oI',hoI',hoc,hod⟩:=id hst'.1
  have J:=zHi I1 FI FS hoI' (λv e=>by rw [hod] at e; cases e) (hk' S _ (by simpa using hSI) hS) (λv e=>by cases e)
  show wpAny _ X.A.in1 (tryCatch (holding [.int m t] (call (.ref q) [.int m t])) _ >>= _) _ _ _
  refine wpAny_bind (wpAny_tryCatch (wpAny_holding (wpAny_mono (zj m hm t _ _ (.tail _ (.tail _ hq)) J) (λx s2 he=>?_) λ_ _ hF=>hF.elim)))
  obtain ⟨⟨t2,rfl⟩,J2⟩:=he
  have nI2:=(J2.pin _ (cY _ (.head _))).1
  have nS2:=(J2.pin _ (cY _ (.tail _ (.head _)))).1
  have J3:=zHj J2
  have hit2:s2.heap.IsListIter It l (j + 1):=⟨oI',nI2,hoc,hod⟩
  show wpAny _ X.A.in1 (tryCatch (holding [.int m t,.int (kf m) t2] (richCompare .Lt (.int (kf m) t2) (.int (kf n) tb) >>= _)) _ >>= _) _ _ _
  refine wpAny_bind (wpAny_tryCatch (wpAny_holding (wpAny_bind (CmpOf.ints_lt (prog:=X.prog) (w:=X.w) (A:=X.A.in1) (P:=λi v=>∃ t,v=.int (if i=0 then kf m else kf n) t) (λi=>if i=0 then kf m else kf n) (λi v h=>h) 0 1 _ _ _ _ _ ⟨t2,rfl⟩ ⟨tb,rfl⟩ ?_))))
  refine wpAny_bind (wpAny_holding (wpAny_truthy_bool ?_))
  refine wpAny_bind (wpAny_letGo (wpAny_pure ?_))
  show wpAny _ X.A.in1 (if decide (kf m < kf n)=true then _ else _) _ _ _
  by_cases hb':kf m < kf n
  ·have s1:=Heap.SameBut.update s2.heap S (Obj.mapSeq λ_=>#[Value.int m t,.int (kf m) t2])
   obtain ⟨c2,hc2⟩:∃ c2,(s2.heap.update S (Obj.mapSeq λ_=>#[Value.int m t,.int (kf m) t2])).get? S=some (seqObj "list" #[.int m t,.int (kf m) t2] c2):=⟨_,get?_update_seq nS2 λ_=>#[Value.int m t,.int (kf m) t2]⟩
   rw [if_pos (decide_eq_true hb')]
   refine wpAny_bind ?_
   refine wpAny_updateSeq nS2 rfl (wpAny_bind (wpAny_letGo ?_))
   rw [hname]
   refine wpAny_pure ⟨plainId_quiet eD _,ih (j + 1) m t t2 c2 _ (by omega) hlt hm (λi m' hi em'=>?_) (J3.turned (it:=S) (λb o hb e=>(s1.2 b hb).trans e) FS.1 FS.2.1 FS.2.2.2.1 FS.2.2.2.2.1 FS.2.2.2.2.2) ⟨oI',(s1.2 It hSI.symm).trans nI2,hoc,hod⟩ hc2⟩
   by_cases e:i=j
   ·rw [e,em] at em'
    cases em'
    exact ig _
   ·have:=hbest i m' (by omega) em'
    omega
  ·rw [if_neg (by rw [decide_eq_false hb']; exact du)]
   refine wpAny_bind (wpAny_letGo ?_)
   rw [hname]
   refine wpAny_pure ⟨plainId_quiet eD _,ih (j + 1) n tn tb c _ (by omega) hlt hn (λi m' hi em'=>?_) J3 hit2 nS2⟩
   by_cases e:i=j
   ·rw [e,em] at em'
    cases em'
    omega
   ·exact hbest i m' (by omega) em'
theorem zNg (a v d:Value):argsOk "min" ⟨[a],[(dZ "key",v),(dZ "default",d)]⟩:=by unfold argsOk; kernel_rfl
theorem zP2 {s:Shared} {Q:Value->Shared->Prop} {E:Value->Shared->Prop} (hc:X.calm=true) (I:zE X pins σ H s) (hl:zp X.K H l (ns.map V.int)) (hq:(q,qo)∈pins) (zj:Ys X σ H q qo ns kf)
  (h0:ns=[]->∀ s',zE X pins σ H s'->Q .none s') (h1:∀ n∈ns,(∀ m∈ns,kf n<=kf m)->∀ t s',zE X pins σ H s'->Q (.int n t) s') :
  wpAny (model X.prog X.w) X.A (call (.builtin "min") [.ref l] [(dZ "key",.ref q),(dZ "default",.none)]) Q E s:=by
 have hname:(toString "min"++toString ".loop" : String) = "min.loop":=by decide
 obtain ⟨its,rv,pl,hz⟩:=I.list hl
 have hls:=pl.isList
 obtain ⟨ol,hol,_⟩:=id hls
 have hll:l < s.heap.objs.size:=cZ hol
 refine PyProof.Rows.kmk_tree PySem.F.kind_min PySem.F.plain_min PySem.F.entry_min (zNg _ _ _) ?_
 show wpAny _ X.A.in1 (Builtin.Builtins.bindParams "min" ["key","default"] 0 ⟨[],[(dZ "key",.ref q),(dZ "default",.none)]⟩ >>= _) _ _ s
 refine wpAny_bind (wpAny_of_eq (show Builtin.Builtins.bindParams "min" ["key","default"] 0 ⟨[],[(dZ "key",.ref q),(dZ "default",.none)]⟩=pure [some (.ref q),some .none] from rfl) ?_)
 refine wpAny_bind (wpAny_pure ?_)
 refine wpAny_bind (wpAny_pyIter_list hls ?_)
 refine wpAny_bind (wpAny_newList ?_ (ib _))
 rw [hname]
 have I1:zE X pins σ H { s with heap:=s.heap.push { cls:=.type "list_iterator",data:=.fields #[.ref l,.int 0 0] } }:=I.kept (t':=s.toks) λb u e=>cR _ e
 have FI:yQ X pins H s.heap.objs.size:=I.fpOk (cQ _) (I.hok.fresh (cQ _))
 have FS:yQ X pins H (s.heap.push { cls:=.type "list_iterator",data:=.fields #[.ref l,.int 0 0] }).objs.size:=I1.fpOk (cQ _) (I1.hok.fresh (cQ _))
 have I2:zE X pins σ H { s with heap:=(s.heap.push { cls:=.type "list_iterator",data:=.fields #[.ref l,.int 0 0] }).push (seqObj "list" #[] 0) }:=I1.kept (t':=s.toks) λb u e=>cR _ e
 have gI:((s.heap.push { cls:=.type "list_iterator",data:=.fields #[.ref l,.int 0 0] }).push (seqObj "list" #[] 0)).get? s.heap.objs.size=some { cls:=.type "list_iterator",data:=.fields #[.ref l,.int 0 0] }:=
  cR _ (dj _ rfl)
 have gS:((s.heap.push { cls:=.type "list_iterator",data:=.fields #[.ref l,.int 0 0] }).push (seqObj "list" #[] 0)).get? (s.heap.push { cls:=.type "list_iterator",data:=.fields #[.ref l,.int 0 0] }).objs.size=some (seqObj "list" #[] 0):=dj _ rfl
 have hS:(s.heap.push { cls:=.type "list_iterator",data:=.fields #[.ref l,.int 0 0] }).objs.size=s.heap.objs.size + 1:=size_push' ..
 have hlI:l≠s.heap.objs.size:=dL hll
 have hSI:(s.heap.push { cls:=.type "list_iterator",data:=.fields #[.ref l,.int 0 0] }).objs.size≠s.heap.objs.size:=by rw [hS]; exact ip (dW _)
 refine wpAny_pure ⟨plainId_quiet eD _,?_⟩
 generalize (s.heap.push { cls:=.type "list_iterator",data:=.fields #[.ref l,.int 0 0] }).objs.size=S at FS gS hS hSI |-
 generalize s.heap.objs.size=It at FI gI hlI hSI |-
 have hit:((s.heap.push { cls:=.type "list_iterator",data:=.fields #[.ref l,.int 0 0] }).push (seqObj "list" #[] 0)).IsListIter It l 0:=⟨_,gI,rfl,rfl⟩
 generalize (s.heap.push { cls:=.type "list_iterator",data:=.fields #[.ref l,.int 0 0] }).push (seqObj "list" #[] 0)=g at I2 gI gS hit |-
 obtain ⟨its,rv,pl,hz⟩:=I2.list hl
 have hsz:its.toArray.size=ns.length:=by rw [cW,<- rv.length,a_]
 have W:=Walks.list (prog:=X.prog) (w:=X.w) (A:=X.A.in1) (I.ok.hd hc) It l hlI its.toArray
 refine codeAny_builtin h_ ?_
 rw [Around.under_plainId eD _]
 show wpAny _ X.A.in1 (seqItems? (.ref _) >>= _) _ _ _
 refine wpAny_bind (wpAny_seqItems gS rfl ?_)
 show wpAny _ X.A.in1 (tryCatch (pyNext (.ref It)) _ >>= _) _ _ _
 by_cases hne:0 < ns.length
 ·refine wpAny_bind (wpAny_tryCatch (W.item 0 _ _ _ (by rw [hsz]; exact hne) ⟨hit,pl.isList⟩ λv h' tk' hP hst' hk'=>?_))
  have em:ns[0]? = some (ns[0]'hne):=b_ hne
  generalize ns[0]'hne=m at em
  obtain ⟨w',ew,t,rfl⟩:=rv.get (show (ns.map V.int)[0]? = some (.int m) by rw [c_,em]; rfl)
  obtain rfl:v=.int m t:=by
   have:its[0]? = some v:=by simpa using hP
   rw [ew] at this
   exact (Option.some.inj this).symm
  have hm:m∈ns:=dz em
  have I3:zE X pins σ H { s with heap:=h',toks:=tk' }:=zE.turned (s:={ s with heap:=g }) (h':=h') (t':=tk') I2 (it:=It) (λb o hb e=>hk' b o (by simpa using hb) e) FI.1 FI.2.1 FI.2.2.2.1 FI.2.2.2.2.1 FI.2.2.2.2.2
  obtain ⟨oI',hoI',hoc,hod⟩:=id hst'.1
  have J:=zHi I3 FI FS hoI' (λv e=>by rw [hod] at e; cases e) (hk' S _ (by simpa using hSI) gS) (λv e=>by cases e)
  show wpAny _ X.A.in1 (tryCatch (holding [.int m t] (call (.ref q) [.int m t])) _ >>= _) _ _ _
  refine wpAny_bind (wpAny_tryCatch (wpAny_holding (wpAny_mono (zj m hm t _ _ (.tail _ (.tail _ hq)) J) (λx s2 he=>?_) λ_ _ hF=>hF.elim)))
  obtain ⟨⟨t2,rfl⟩,J2⟩:=he
  have nI2:=(J2.pin _ (cY _ (.head _))).1
  have nS2:=(J2.pin _ (cY _ (.tail _ (.head _)))).1
  have J3:=zHj J2
  have s1:=Heap.SameBut.update s2.heap S (Obj.mapSeq λ_=>#[Value.int m t,.int (kf m) t2])
  obtain ⟨c2,hc2⟩:∃ c2,(s2.heap.update S (Obj.mapSeq λ_=>#[Value.int m t,.int (kf m) t2])).get? S=some (seqObj "list" #[.int m t,.int (kf m) t2] c2):=⟨_,get?_update_seq nS2 λ_=>#[Value.int m t,.int (kf m) t2]⟩
  show wpAny _ X.A.in1 (updateSeq S (λ_=>#[.int m t,.int (kf m) t2]) >>= _) _ _ _
  refine wpAny_bind ?_
  refine wpAny_updateSeq nS2 rfl ?_
  rw [hname]
  refine wpAny_pure ⟨plainId_quiet eD _,zLb hc hl hlI hSI FI FS hq zj h1 _ 1 m t t2 c2 _ rfl hne hm (λi m' hi em'=>?_) (J3.turned (it:=S) (λb o hb e=>(s1.2 b hb).trans e) FS.1 FS.2.1 FS.2.2.2.1 FS.2.2.2.2.1 FS.2.2.2.2.2) ⟨oI',(s1.2 It hSI.symm).trans nI2,hoc,hod⟩ hc2⟩
  rw [show i=0 by omega,em] at em'
  cases em'
  exact ig _
 ·have hn0:ns=[]:=List.length_eq_zero_iff.mp (by omega)
  refine wpAny_bind (wpAny_tryCatch (W.done _ _ _ ⟨by rw [hsz,show ns.length=0 by omega]; exact hit,pl.isList⟩ λh' tk' hk'=>?_))
  refine wpAny_bind (wpAny_rule (wpAny_pure ?_))
  exact h0 hn0 _ (I2.turned (it:=It) (λb o hb e=>hk' b o (by simpa using hb) e) FI.1 FI.2.1 FI.2.2.2.1 FI.2.2.2.2.1 FI.2.2.2.2.2)
end
theorem yM.ne {P:Addr} {q:Str} {pos:Pos} {H H':Hp} (h:yM P q pos H) (s:Sh.u7 [P] H H') {a:Addr} {o:HO} (e:H a=some o) (n:∀ ps,o≠.tbl ps):H' a=some o:=s a o e λz=>by
 rw [dh.mp z] at e
 rcases h with h | ⟨_,h,_⟩ <;> rw [h] at e <;> cases e <;> exact n _ rfl
theorem yM.list {P:Addr} {q:Str} {pos:Pos} {H H':Hp} {K:cI} {a:Addr} {xs:List V} (h:yM P q pos H) (s:Sh.u7 [P] H H') (e:zp K H a xs):zp K H' a xs:=by
 rcases e with (e | ⟨o,e⟩) | e
 ·exact .inl (.inl (h.ne s e λ_ z=>by cases z))
 ·exact .inl (.inr ⟨o,h.ne s e λ_ z=>by cases z⟩)
 ·exact .inr e
def QO (K:cI) (P:Addr) (qual:Str) (pos:Pos) (te:TE) (iy:Nat):TE:=λσ H Q=>te σ H λx H1=>∃ (l ca:Addr) (ns cs:List Int),x=.ref l/\σ[iy]? = some (some (.ref ca))/\zp K H1 l (ns.map V.int)/\zp K H1 ca (cs.map V.int)/\(∀ n∈ns,0<=n/\n < cs.length)/\yM P qual pos H1∧
 ∀ H2,Sh.u7 [P] H1 H2->yM P qual pos H2->(ns=[]->Q .non H2)/\∀ n∈ns,(∀ m∈ns,cs.getD n.toNat 0<=cs.getD m.toNat 0)->Q (.int n) H2
theorem zK8 {X:Cx} {e:Expr} {te:TE} {p pos kp kp2 lpos yp xp bp dp:Pos} {zk} {x y:Str} {params:Arguments} {scope:Scope} {cy c P:Addr} {iy:Nat} (T:we X.base X.mg c P) (he:PE X e te) (hc:X.calm=true) (hr:zc 2 X.A) (hg:Gl X "min") (hm:X.mg "min" = none) (hv:bootBuiltins "min" = some (.builtin "min"))
  (hcode:X.env.code=.ref c) (hN:X.N[iy]? = some y) (hky:X.env.kindOf y=some .cell) (hcl:closureFor scope X.env=pure [(y,cy)]) (hcy:X.env.cells.lookup y=some cy) (hdef:defaultsOf params X.env=([],[]))
  (hsc:scope.names=[(x,.local),(y,.free)]) (hxy:x≠y) (hk:scope.kind=.function) (hco:scope.isCoroutine=false) (hgen:scope.isGenerator=false)
  (hbind:∀ (pm ctv u:Value) (c':Addr),bindArgs (lU "<lambda>" (X.env.qual++"<lambda>") params (.Subscript (.Name y yp) (.Name x xp) bp) scope [(y,cy)] pm (.ref c') ctv) ⟨[u],[]⟩=pure [(x,u)])
  (hdx:(x == ("__debug__" : Str))=false) (hdx2:(x == ("__classdict__" : Str))=false) (hdy:(y == ("__debug__" : Str))=false) (hdy2:(y == ("__classdict__" : Str))=false)
  (hs:starEach [e] X.env=(false,eval e X.env) :: starEach [] X.env:=by rfl) :
  PE X (.Call (.Name "min" p) [e] [⟨some "key",.Lambda params (.Subscript (.Name y yp) (.Name x xp) bp) scope lpos,kp⟩,⟨some "default",.Constant .none zk dp,kp2⟩] pos) (QO X.K P (X.env.qual++"<lambda>") lpos te iy):=by
 intro pins s σ H Q I h
 have lx:scope.names.lookup x=some .local:=by rw [hsc,dw,beq_self_eq_true]
 have ly:scope.names.lookup y=some .free:=by
  rw [hsc,dw,(by simpa using hxy.symm:(y == x)=false),dw,beq_self_eq_true]
 refine wpAny_Call_Name_kw (qK I hg hm hv ?_ (by decide) (by decide))
 refine PyProof.Rows.callWith_kw (zo ((yA he ym hs) pos pins s σ H (λvs H1=>∃ (l ca:Addr) (ns cs:List Int),vs=[.ref l]/\σ[iy]? = some (some (.ref ca))/\zp X.K H1 l (ns.map V.int)/\zp X.K H1 ca (cs.map V.int)/\(∀ n∈ns,0<=n/\n < cs.length)/\yM P (X.env.qual++"<lambda>") lpos H1∧
  ∀ H2,Sh.u7 [P] H1 H2->yM P (X.env.qual++"<lambda>") lpos H2->(ns=[]->Q .non H2)/\∀ n∈ns,(∀ m∈ns,cs.getD n.toNat 0<=cs.getD m.toNat 0)->Q (.int n) H2) I ?h) λus s1 ⟨vs,H1,I1,r,l,ca,ns,cs,e1,hσ,hl,hca,hb,hT,q⟩=>?_) (by rw [hs]; rfl) (by rw [hs]; rfl)
 case h=>
  have z:QO X.K P (X.env.qual++"<lambda>") lpos te iy σ H Q=te σ H λx H1=>∃ (l ca:Addr) (ns cs:List Int),[x]=[.ref l]/\σ[iy]? = some (some (.ref ca))/\zp X.K H1 l (ns.map V.int)/\zp X.K H1 ca (cs.map V.int)/\(∀ n∈ns,0<=n/\n < cs.length)/\yM P (X.env.qual++"<lambda>") lpos H1∧
    ∀ H2,Sh.u7 [P] H1 H2->yM P (X.env.qual++"<lambda>") lpos H2->(ns=[]->Q .non H2)/\∀ n∈ns,(∀ m∈ns,cs.getD n.toNat 0<=cs.getD m.toNat 0)->Q (.int n) H2:=by
   unfold QO
   simp only [List.cons.injEq,and_true]
  exact cast z h
 subst e1
 obtain ⟨u,rfl,ru⟩:=uf r
 obtain rfl:u=.ref l:=ru
 refine PyProof.Rows.kws_cons (zNl hcl hdef hcode T I1 hT λf c' pm ctv H' s' o1 hT' hc' J=>?_)
 refine PyProof.Rows.kws_cons (zo (zOX _ _ _ _ (λv H2=>v=.non/\H2=H') J ⟨rfl,rfl⟩) λu s2 ⟨v,H2,J2,rv,ev,eH⟩=>PyProof.Rows.kws_nil ?_)
 subst ev eH
 obtain rfl:u=.none:=rv
 have hl':=hT.list o1 hl
 have hca':=hT.list o1 hca
 obtain ⟨q0,q1⟩:=q _ o1 hT'
 have drop:∀ s',zE X ((f,hJ "<lambda>" (X.env.qual++"<lambda>") params (.Subscript (.Name y yp) (.Name x xp) bp) scope [(y,cy)] pm c' ctv) :: pins) σ H2 s'->zE X pins σ H2 s':=λs' J=>J.pins_of λp hp=>J.pin p (cY _ (.tail _ hp))
 refine zP2 (kf:=λn=>cs.getD n.toNat 0) hc J2 hl' (.head _) (λn hn t pins' s3 hq3 J3=>?_) (λz s3 J3=>⟨.non,H2,drop _ J3,rfl,q0 z⟩) λn hn hmin t s3 J3=>⟨.int n,H2,drop _ J3,⟨_,rfl⟩,q1 n hn hmin⟩
 obtain ⟨m,hns,hlo⟩:=J3.loc
 obtain ⟨uy,ry,lk⟩:=hlo iy y (.ref ca) hN hσ (.inr (.inl hky))
 have hcell:s3.heap.IsCell cy (some uy):=by
  rcases lk with ⟨k,_⟩ | ⟨_,c2,e2,z⟩
  ·rw [hky] at k; cases k
  ·rw [hcy] at e2; cases e2; exact z
 have hcd:s3.heap.CodeRec (.ref c') (X.env.qual++"<lambda>"):=(J3.hok c' _ hc').1
 have bn:=hb n hn
 refine wpAny_mono (zP5 (k:=0) (v:=.int n) (vy:=.ref ca) (t:=qt (Zf X.K) (jj 1) (jj 0)) (Q:=λv H3=>v=.int (cs.getD n.toNat 0)/\H3=H2) hsc hxy hk hco hgen hr.in1 J3.env0.in1 (J3.pin _ (cY _ hq3)).1 hcd (hbind pm ctv _ c') hcell (J3.freeC y cy hcy) ⟨t,rfl⟩ ry
  (U1 U3 (pv 1 rfl (.inr (.inr ly)) hdy hdy2) (pv 0 rfl (.inl lx) hdx hdx2) λ_ _=>rfl) ?_) (λu s4 hce=>?_) λ_ _ z=>z
 ·refine ⟨_,rfl,_,rfl,ca,_,n,_,rfl,rfl,hca',?_,rfl,rfl⟩
  rw [show n=((n.toNat:Nat):Int) by omega]
  refine zQg ?_
  rw [c_,fO,b',b_ (by omega)]
  rfl
 ·obtain ⟨v,H4,J4,rv4,ev,eH⟩:=J3.after hce
  subst ev eH
  obtain ⟨t',rfl⟩:=rv4
  exact ⟨⟨t',rfl⟩,J4⟩
end L2
namespace L2
open PySem PySem.Spec PyProof.Rows
section
variable {P:Program} {w:World} {K:cI} {mg:Str->Option Value} {base:Heap}
theorem zi.okC {x qual:Str} {st:Stmt} {f c:Addr} {fd:FuncData} {N ps:List Str} {k:Nat} {sp:Sp} (F:zi K x qual st f fd) (hc:fd.code=.ref c) (S:zf N ps (zS st)) (len:∀ vs H Q E,sp vs H Q E->vs.length=ps.length)
  (hbody:∀ (A:Around) (outer:List Env) (s:Shared) (H:Hp) (vs:List V) (Q:VK) (E:XK),zc k (A.deeper (envOfC qual (zS st) s.heap.objs.size f (.ref c)))->sp vs H Q E->
   ∃ t,xG (xP zY P w K mg base N qual (zS st) f (.ref c) A outer s H E).nox (xg st) t/\t { nx:=λ_ H'=>Q .non H',rt:=Q } (yq N vs) H):zF P w K mg base zY (k + 1) f fd ps sp:=by
 obtain ⟨oc,od,kV,doc,pm,an,cdv,ct,osl,rfl,lk,hcd⟩:=F.ex
 obtain rfl:cdv=.ref c:=hc
 refine Uz lk hcd S len λA outer s H vs Q E hr hsp=>?_
 obtain ⟨t,h,q⟩:=hbody A outer s H vs Q E hr hsp
 exact ⟨t,h.nox,q⟩
def QP (Pt:Addr) (H:Hp):Prop:=H Pt=some (.tbl #[])/\∀ b,b≠Pt->H b=none\/∃ o xs,H b=some (.frz o (.lst xs))
theorem zLm {mb:Str->Option Value} {CX:uG} {k:Nat} {fa a c Pt:Addr} {fd:FuncData} {x:Str} {sp:Sp} {s₁:Shared} {vs:List Value} {ns:List Int}
  (C:lV s₁.heap c Pt) (hP:s₁.heap.get? Pt=some (iX #[])) (hKP:K.lookup Pt=none)
  (bm:∃ bm ob,mg "__builtins__" = some (.ref bm)/\bm≠builtinsNs/\s₁.heap.get? bm=some ob/\ob.cls=.type "module"/\ob.dict=some builtinsNs/\ob.data=.plain)
  (KX:K.In s₁.heap) (hns:s₁.heap.Ns mainGlobals mg) (hb:s₁.heap.Ns builtinsNs mb) (hbb:∀ x:Str,x≠"__name__"->mb x=bootBuiltins x) (hlim:s₁.heap.NoLimit) (hg:s₁.gens=#[])
  (ha:s₁.heap.get? a=some { cls:=.type "list",data:=.seq vs.toArray }) (hi:IntsAre vs ns) (hl:ns.length<=sizeLine) (hr:zc k callerA)
  (F:∀ base:Heap,K.In base->base.Ns mainGlobals mg->we base mg c Pt->zF P w K mg base CX k fa fd [x] sp) (hbind:∀ (s:Shared) (u:Value),BindsTo s fd ⟨[u],[]⟩ [(x,u)])
  (hsp:∀ H:Hp,QP Pt H->zp K H a (ns.map V.int)->sp [.ref a] H (λv _=>v=.bl true) λ_ _ _=>False)
  (hCX:∀ H e s',CX [] H s₁ (λ_ _ _=>False) e s'->False) :
  codeAny (model P w) callerA (.call (.ref fa) ⟨[.ref a],[]⟩) (λr s'=>r=.ok (.ret (.bool true))/\OldK s₁.heap s'.heap/\s'.os=s₁.os/\AllBare s'.gens) s₁:=by
 have rv:=zHN hi
 have lenV:=hi.length
 have aP:a≠Pt:=λz=>by rw [z,hP] at ha; cases ha
 have core:∀ H:Hp,QP Pt H->zp K H a (ns.map V.int)->xc P w H s₁.heap->(∀ b,b≠Pt->H b≠none->b=a)->(H a≠none->K.lookup a=none)->
   codeAny (model P w) callerA (.call (.ref fa) ⟨[.ref a],[]⟩) (λr s'=>r=.ok (.ret (.bool true))/\OldK s₁.heap s'.heap/\s'.os=s₁.os/\AllBare s'.gens) s₁:=by
  intro H hO hS hok hA hK
  have bo:∀ {b:Addr} {o:Obj},s₁.heap.get? b=some o->H b=none->(wI s₁.heap H).get? b=some o:=λe n=>zNq e n
  have noA:∀ {b:Addr} {o:Obj},s₁.heap.get? b=some o->(∀ z n,o.data≠.seq z n)->(∀ z,o.data≠.fields z)->H b=none:=λ{b o} e d1 d2=>by
   by_cases z:b=Pt
   ·rw [z,hP] at e; cases e; exact absurd rfl (d2 _)
   cases q:H b with
   | none=>rfl
   | some u=>
    have e':b=a:=hA b z (by rw [q]; exact λz=>by cases z)
    rw [e',ha] at e
    cases e
    exact absurd rfl (d1 _ _)
  have nsK:∀ {b:Addr} {m:Str->Option Value},s₁.heap.Ns b m->(wI s₁.heap H).Ns b m:=λ{b m} ⟨o,es,ep,e,d,r⟩=>⟨o,es,ep,bo e (noA e (λz n q=>by rw [d] at q; cases q) λz q=>by rw [d] at q; cases q),d,r⟩
  have hKb:K.In (wI s₁.heap H):=λb o e=>bo (KX b o e) (by
   cases q:H b with
   | none=>rfl
   | some u=>
    by_cases z:b=Pt
    ·rw [z,hKP] at e; cases e
    have e':b=a:=hA b z (by rw [q]; exact λz=>by cases z)
    subst e'
    rw [hK (by rw [q]; exact λz=>by cases z)] at e; cases e)
  have hM:Mod K mg (wI s₁.heap H):=⟨hKb,nsK hns,⟨mb,nsK hb,hbb⟩,let ⟨mc,h1,h2⟩:=hlim; ⟨mc,nsK h1,h2⟩⟩
  have hTB:we (wI s₁.heap H) mg c Pt:=by
   obtain ⟨o,v0,file,tf,flags,tg,inF,text,tt,e1,r1,r2,r3,r4,r5,r6,r7,r8,hne⟩:=C
   obtain ⟨bm,ob,b1,b2,b3,b4,b5,b6⟩:=bm
   refine ⟨⟨o,v0,file,tf,flags,tg,inF,text,tt,bo e1 ?_,r1,r2,r3,r4,r5,r6,r7,r8,hne⟩,bm,ob,b1,b2,λz=>?_,bo b3 (noA b3 (λz n q=>by rw [b6] at q; cases q) λz q=>by rw [b6] at q; cases q),b4,b5,b6⟩
   ·cases q:H c with
    | none=>rfl
    | some u=>
     have e':c=a:=hA c hne (by rw [q]; exact λz=>by cases z)
     rw [e',ha] at e1
     cases e1
     cases r2
   ·obtain ⟨o2,es,ep,q1,q2,_⟩:=hns
    rw [z,q1] at b3
    cases b3
    rw [q2] at b6
    cases b6
  have e0:xx P w K mg (wI s₁.heap H) callerA [] s₁ H:=⟨rfl,hM,λb o e=>zPz e,Nat.le_of_eq (zLq _ _),trivial,λb hb=>absurd (show b∈([]:List Addr) from hb) (by simp),hok,.of_eq hg⟩
  refine codeAny_mono ((F _ hKb (nsK hns) hTB).run callerA [] s₁ H ⟨[.ref a],[]⟩ [.ref a] [.ref a] _ _ hr e0 (hbind s₁ (.ref a)) (.cons rfl .nil) (hsp H hO hS)) λr s' h=>?_
  cases r with
  | error e=>exact (hCX H e s' h).elim
  | ok fl=>
   cases fl with
   | next=>exact False.elim h
   | brk=>exact False.elim h
   | cont=>exact False.elim h
   | ret u=>
    obtain ⟨v,H',os,bare,un,hok',r',q⟩:=h
    have q':v=.bl true:=q
    subst q'
    obtain rfl:u=Value.bool true:=r'
    obtain ⟨more,hm⟩:=un.tbls Pt _ hO.1
    have hPm:s'.heap.get? Pt=some (iX (#[]++more)):=hok' Pt _ hm
    have kp:∀ b o,b≠Pt->s₁.heap.get? b=some o->s'.heap.get? b=some o:=λb o z e=>by
     cases q:H b with
     | none=>exact un.keep b o e q (by intro z; exact absurd (show b∈([]:List Addr) from z) (by simp)) (by simp)
     | some u=>
      rcases hO.2 b z with z | ⟨ob,xs,z⟩
      ·rw [q] at z; cases z
      ·have z2:=un.frzs b ob _ z
       obtain ⟨e1,_⟩:=hok b _ z
       obtain ⟨e2,_⟩:=hok' b _ z2
       rw [e] at e1; cases e1
       exact e2
    refine ⟨rfl,⟨λb o e=>?_,λb o e=>?_⟩,os,bare⟩
    ·by_cases z:b=Pt
     ·subst z
      rw [hP] at e
      cases e
      exact .inr (.inl ⟨(C.tab hP).isCodeTable,rfl,#[],_,rfl,by rw [mf]; exact hPm⟩)
     ·exact .inl (kp b o z e)
    ·by_cases z:b=Pt
     ·exact ⟨_,by rw [z]; exact hPm⟩
     ·exact ⟨o,kp b o z e⟩
 cases hk:K.lookup a with
 | some o=>
  have e:=KX a o hk
  rw [ha] at e
  cases e
  refine core (λb=>if b=Pt then some (.tbl #[]) else none) ⟨if_pos rfl,λb z=>.inl (if_neg z)⟩ (.inr ⟨_,vs.toArray,_,hk,rfl,rfl,rfl,by rw [cW,lenV]; exact hl,by simpa using rv⟩) (λb u z=>?_) (λb z1 z=>absurd (if_neg z1) z) λz=>absurd (if_neg aP) z
  by_cases hb:b=Pt
  ·have z':=(if_pos hb).symm.trans z
   cases z'
   subst hb
   exact hP
  ·have z':=(if_neg hb).symm.trans z
   cases z'
 | none=>
  refine core (λb=>if b=Pt then some (.tbl #[]) else if b=a then some (.frz { cls:=.type "list",data:=.seq vs.toArray } (.lst (ns.map V.int))) else none) ⟨if_pos rfl,λb z=>?_⟩ (.inl (.inr ⟨{ cls:=.type "list",data:=.seq vs.toArray },(if_neg aP).trans (if_pos rfl)⟩)) (λb u z=>?_) (λb z1 z=>?_) λ_=>hk
  ·by_cases hb:b=a
   ·exact .inr ⟨_,_,(if_neg z).trans (if_pos hb)⟩
   ·exact .inl ((if_neg z).trans (if_neg hb))
  ·by_cases hp:b=Pt
   ·have z':=(if_pos hp).symm.trans z
    cases z'
    subst hp
    exact hP
   by_cases hb:b=a
   ·have z':=((if_neg hp).trans (if_pos hb)).symm.trans z
    cases z'
    subst hb
    exact ⟨ha,by rw [a_]; exact hl,vs,_,rv,ha⟩
   ·have z':=((if_neg hp).trans (if_neg hb)).symm.trans z
    cases z'
  ·by_cases hb:b=a
   ·exact hb
   ·exact absurd ((if_neg z1).trans (if_neg hb)) z
end
theorem zMl {l:m_} {n k:Nat} {q:Program} {loose:List Str} {XP:(Str->Option Value)->Heap->Prop} {YP:World->Heap->Prop} {d d2:DefRec} {K:Params->cI} {sp:World->Sp} {x x2:Str} {c Pt:Addr}
  (hn:l.most=some n) (hn2:n<=sizeLine) (hdf:d.params.defaults=[]) (hr:zc k callerA)
  (hY:∀ (w:World) (h:Heap),YP w h->(K w.params).In h) (hrec:(recsOf q).find? (λe=>e.name == x2)=some d2) (htab:∀ w:World,nI (K w.params) x2=some (c,Pt)) (hKP:∀ w:World,(K w.params).lookup Pt=none)
  (F:∀ (w:World) (mg:Str->Option Value) (fa:Addr) (h:Heap),(K w.params).In h->h.Ns mainGlobals mg->mg d.name=some (.ref fa)->
   ∃ fd:FuncData,(∀ (s:Shared) (u:Value),BindsTo s fd ⟨[u],[]⟩ [(x,u)])∧
    ∀ base:Heap,(K w.params).In base->base.Ns mainGlobals mg->we base mg c Pt->zF l.prog w (K w.params) mg base zY k fa fd [x] (sp w))
  (hsp:∀ (w:World) (H:Hp) (a:Addr) (ns:List Int),ns.length<=n->QP Pt H->zp (K w.params) H a (ns.map V.int)->sp w [.ref a] H (λv _=>v=.bl true) λ_ _ _=>False) :
  nJ q loose XP YP l.row.toRowW d [] (λf vs=>PySem.call f vs):=by
 refine Att.attach_call hn hdf λw s₀ s₁ mg mb fa o pm cd doc a vs ns G Y ho hd hcd hmg hobj hints hlen hg=>?_
 have KX:=hY w _ Y
 obtain ⟨fd,hb,hF⟩:=F w mg fa _ KX G.T.g hmg
 obtain ⟨C,hP⟩:=PySem.W.tab_of G.T KX hrec (htab w)
 exact zLm C hP (hKP w) G.T.bmain KX G.T.g G.T.b G.T.builtins G.T.nolimit hg hobj hints (eA hlen hn2) hr hF hb (λH hO hS=>hsp w H a ns hlen hO hS) λH e s' z=>z
end L2
namespace L2
open PySem PySem.Spec PyProof.Rows
theorem zHb {α β:Type} {R:α->β->Prop}:∀ {xs:List α} {ys:List β},xs.length=ys.length->(∀ (k:Nat) x y,xs[k]? = some x->ys[k]? = some y->R x y)->Paired R xs ys
 | [],[],_,_=>.nil
 | [],_ :: _,h,_=>by cases h
 | _ :: _,[],h,_=>by cases h
 | x :: xs,y :: ys,h,g=>.cons (g 0 x y rfl rfl) (zHb (Nat.succ.inj h) λk a b h1 h2=>g (k + 1) a b h1 h2)
section
variable {X:Cx}
theorem zMQ:wz X (.type "range") (λxs H Q=>∃ i j:Int,xs=[.int i,.int j]/\∀ p,H p=none->Q (.ref p) (zh H p (.rng i j))):=by
 intro pins s σ H xs us Q I r h
 obtain ⟨i,j,rfl,q⟩:=h
 obtain ⟨u,w',rfl,⟨t,rfl⟩,⟨t',rfl⟩⟩:=Za r
 refine call_range_2 ⟨.ref s.heap.objs.size,_,I.laid (o:=.rng i j) (λb u e=>cR _ e) (cQ _) ?_,rfl,q _ (I.hok.fresh (cQ _))⟩
 exact ⟨_,_,_,dj _ rfl⟩
theorem zHI (hc:X.calm=true):wz X (.type "list") (λxs H Q=>∃ (p:Addr) (i j:Int),xs=[.ref p]/\H p=some (.rng i j)/\(-(2 ^ 62)<=i/\i < 2 ^ 62/\-(2 ^ 62)<=j/\j < 2 ^ 62)/\(j - i).toNat<=1000∧
  ∀ l,H l=none->Q (.ref l) (zh H l (.lst ((df (j - i).toNat).map λ(k:Nat)=>V.int (i + (k:Int)))))):=by
 intro pins s σ H xs us Q I r h
 obtain ⟨p,i,j,rfl,hp,⟨q1,q2,q3,q4⟩,hz,q⟩:=h
 obtain ⟨u,rfl,rx⟩:=uf r
 obtain rfl:u=.ref p:=rx
 obtain ⟨t,u,v,hr⟩:=I.hok p _ hp
 have hs:(2 ^ 24:Nat)=16777216:=by decide
 refine call_list_range (n:=(j - i).toNat) (I.ok.hd hc) (show IsRange s.heap p i j 1 t u v from hr) (small_one q1 q2 q3 q4) (by rw [rangeSize_one]; split <;> omega) (by omega) λh' tk acc' c' hk hS' hacc=>?_
 refine ⟨.ref s.heap.objs.size,_,I.laid (t':=tk) (o:=.lst ((df (j - i).toNat).map λ(k:Nat)=>V.int (i + (k:Int)))) hk (cQ _) ⟨?_,acc'.toList,c',?_,by rw [hS']⟩,rfl,q _ (I.hok.fresh (cQ _))⟩
 ·rw [a_,cX]
  exact eA hz (by decide)
 ·have la:acc'.toList.length=(j - i).toNat:=by rw [eV]; exact hacc.1
  refine zHb (by rw [a_,cX,la]) λk x y hx hy=>?_
  have hk2:k < (j - i).toNat:=by
   have:=(cT.mp hy).1
   omega
  rw [c_,eg hk2] at hx
  cases hx
  obtain ⟨t,e⟩:=hacc.2 k y (by simpa using hy)
  exact ⟨t,by rw [e,Int.mul_one]⟩
theorem zMR (hc:X.calm=true):wz X (.builtin "max") (λxs H Q=>∃ (p:Addr) (ns:List Int),xs=[.ref p]/\zp X.K H p (ns.map V.int)/\0 < ns.length/\∀ M,M∈ns->(∀ a∈ns,a<=M)->Q (.int M) H):=by
 intro pins s σ H xs us Q I r h
 obtain ⟨p,ns,rfl,hl,h0,q⟩:=h
 obtain ⟨u,rfl,rx⟩:=uf r
 obtain rfl:u=.ref p:=rx
 obtain ⟨its,rv,pl,hz⟩:=I.list hl
 have hi:∀ {xs:List Int} {ys:List Value},zM (xs.map V.int) ys->IntsAre ys xs:=by
  intro xs
  induction xs with
  | nil=>intro ys h; cases h; exact .nil
  | cons x xs ih=>
   intro ys h
   cases h with
   | cons h1 h2=>
    obtain ⟨t,rfl⟩:=h1
    exact .cons x t (ih h2)
 have hA:=hi rv
 obtain ⟨xs,e⟩:=hA.allInts.items
 have hns:ns=xs.toList.map (·.1):=by rw [<- hA.numsOf,<- nums_intItems,<- e]
 have hsz:0 < xs.size:=by
  have h3:=h0
  rw [hns,a_,eV] at h3
  exact h3
 have hl2:=pl.isList
 rw [e] at hl2
 refine max_intList (I.ok.hd hc) hl2 hsz λv h' tk hv hk=>?_
 obtain ⟨t,rfl⟩:=intItems_at hv
 obtain ⟨h1,h2⟩:=argBest_gt (numAt xs) (xs.size - 1)
 refine ⟨.int _,H,I.kept hk,⟨t,rfl⟩,q _ ?_ λa ha=>?_⟩
 ·rw [hns,numAt_eq]
  rw [b',b_ (by rw [a_,eV]; omega)]
  exact d6 _
 ·rw [hns] at ha
  obtain ⟨j,hj,rfl⟩:=mem_getD ha
  rw [a_,eV] at hj
  have:=h2 j (by omega)
  rw [numAt_eq] at this
  exact this
end
end L2
namespace Pu
open PySem L2 Sh
open PyProof.Rows (envOfC)
variable [yd]
def Yt (pa:zr) (iy:Nat):zr:=λΓ R=>pa Γ λd=>∃ ns cs:List Int,d=.lst (ns.map D.int)/\slot Γ iy=.sh (.lst (cs.map D.int))/\(∀ n∈ns,0<=n/\n < cs.length)/\(ns=[]->R .non)/\∀ n∈ns,(∀ m∈ns,cs.getD n.toNat 0<=cs.getD m.toNat 0)->R (.int n)
theorem zQ9 {P:Addr} {q:Str} {pos:Pos} {H H':Hp} (hI:∀ H,yd.I H ↔ yM P q pos H) (i:yM P q pos H) (o:u7 [P] H H') (i':yM P q pos H'):Sm H H':=by
 refine ⟨λb u e n=>i.ne o e λps z=>(by rw [z] at n; cases n),λb u e n=>?_,λ_=>(hI H').mpr i'⟩
 by_cases c:b=P
 ·rw [c]
  rcases i' with h | ⟨_,h,_⟩
  ·exact ⟨_,h,rfl⟩
  ·exact ⟨_,h,rfl⟩
 ·exact ⟨u,o b u e (λz=>c (dh.mp z)),n⟩
theorem zKw {X:Cx} {e:Expr} {pa:zr} {p pos kp kp2 lpos yp xp bp dp:Pos} {zk} {x y:Str} {params:Arguments} {scope:Scope} {cy c P:Addr} {iy:Nat} (hI:∀ H,yd.I H ↔ yM P (X.env.qual++"<lambda>") lpos H) (T:we X.base X.mg c P) (he:PE X e (tP pa)) (hc:X.calm=true) (hr:zc 2 X.A) (hg:Gl X "min") (hm:X.mg "min" = none) (hv:bootBuiltins "min" = some (.builtin "min"))
  (hcode:X.env.code=.ref c) (hN:X.N[iy]? = some y) (hky:X.env.kindOf y=some .cell) (hcl:closureFor scope X.env=pure [(y,cy)]) (hcy:X.env.cells.lookup y=some cy) (hdef:defaultsOf params X.env=([],[]))
  (hsc:scope.names=[(x,.local),(y,.free)]) (hxy:x≠y) (hk:scope.kind=.function) (hco:scope.isCoroutine=false) (hgen:scope.isGenerator=false)
  (hbind:∀ (pm ctv u:Value) (c':Addr),bindArgs (lU "<lambda>" (X.env.qual++"<lambda>") params (.Subscript (.Name y yp) (.Name x xp) bp) scope [(y,cy)] pm (.ref c') ctv) ⟨[u],[]⟩=pure [(x,u)])
  (hdx:(x == ("__debug__" : Str))=false) (hdx2:(x == ("__classdict__" : Str))=false) (hdy:(y == ("__debug__" : Str))=false) (hdy2:(y == ("__classdict__" : Str))=false)
  (hs:starEach [e] X.env=(false,eval e X.env) :: starEach [] X.env:=by rfl) :
  PE X (.Call (.Name "min" p) [e] [⟨some "key",.Lambda params (.Subscript (.Name y yp) (.Name x xp) bp) scope lpos,kp⟩,⟨some "default",.Constant .none zk dp,kp2⟩] pos) (tP (Yt pa iy)):=
 yU (zK8 T he hc hr hg hm hv hcode hN hky hcl hcy hdef hsc hxy hk hco hgen hbind hdx hdx2 hdy hdy2 hs) λσ H Q ⟨Z,Γ,R,E,h,q⟩=>⟨Z,Γ,_,E,h,λd v H1 hd s1 hv=>by
  obtain ⟨ns,cs,rfl,hsl,hb,q0,q1⟩:=hd
  obtain ⟨l,xs,rfl,el,hx⟩:=hv.lst_inv
  cases YB hx
  obtain ⟨vc,hvc,hdc⟩:=E.sh iy _ hsl
  obtain ⟨ca,ys,rfl,ec,hy⟩:=hdc.lst_inv
  cases YB hy
  have i1:=(hI H1).mp (E.same s1).zd.i
  refine ⟨l,ca,ns,cs,rfl,hvc,zp.of (yG _ _ el),zp.of (s1.at (yG _ _ ec)),hb,i1,λH2 o i2=>?_⟩
  have s2:=s1.trans (zQ9 hI i1 o i2)
  exact ⟨λz=>q _ _ H2 (q0 z) s2 .non,λn hn hm=>q _ _ H2 (q1 n hn hm) s2 (.int n)⟩⟩
theorem QQ {P:Program} {w:World} {K:cI} {mg:Str->Option Value} {base:Heap} {x qual:Str} {st:Stmt} {f c:Addr} {fd:FuncData} {N ps:List Str} {k:Nat} {F:FL} (Fu:zi K x qual st f fd) (hc:fd.code=.ref c) (S:zf N ps (zS st)) (len:∀ ds R,F ds R->ds.length=ps.length)
  (hbody:∀ (A:Around) (outer:List Env) (s:Shared) (H:Hp) (E:XK),zc k (A.deeper (envOfC qual (zS st) s.heap.objs.size f (.ref c)))->
   ∃ p,xG (xP zY P w K mg base N qual (zS st) f (.ref c) A outer s H E).nox (xg st) (yW p)/\∀ ds R,F ds R->p { nx:=λ_=>R .non,rt:=R } (ds.map Sl.sh++cS (N.length - ps.length) .no)):zF P w K mg base zY (k + 1) f fd ps (zH F):=
 Fu.okC hc S (Wv len) λA outer s H vs Q E hr h=>let ⟨p,h1,h2⟩:=hbody A outer s H E hr; ⟨_,h1,QJ len h2 h⟩
def tbI (P:Addr) (q:Str) (pos:Pos):yd where
 I:=yM P q pos
 same:=λh s=>h.same s
 but:=λ{H H' l o} h e li k=>by
  have ne:∀ b u,H b=some u->uQ u=false->H' b=some u:=λb u eb n=>by
   rw [k b λz=>by rw [z,e] at eb; cases eb; rw [n] at li; cases li]
   exact eb
  rcases h with h | ⟨c',h1,h2⟩
  ·exact .inl (ne _ _ h rfl)
  ·exact .inr ⟨c',ne _ _ h1 rfl,ne _ _ h2 rfl⟩
end Pu
namespace Pu
open PySem L2 Sh
variable [yd]
section
variable {X:Cx} {e a b c:Expr} {es:List Expr} {pos:Pos} {pa pb:zr} {pl:yz} {p:xB} {t:wE}
def zOb (t:wE) (p:xB):xB:=λD Γ=>∃ I:Nat->List Sl->Prop,(∃ m,I m Γ)/\∀ m Γ',I m Γ'->t Γ' λb=>wJ b (p { D with nx:=λΓ2=>∃ m',m' < m/\I m' Γ2,ct:=λΓ2=>∃ m',m' < m/\I m' Γ2,bk:=D.nx } Γ') (D.nx Γ')
theorem QR {body:List Stmt} (hp:PassesOwn (model X.prog X.w) X.A X.env X.xe) (hc:PT X c (xJ t)) (hb:xG X body (yW p)):PS X (.While c body [] pos) (yW (zOb t p)):=yP (zJG hp hc hb) λD σ H ⟨Z0,H0,Z,Γ,Dp,E,⟨I,⟨m0,h0⟩,hst⟩,nx,rt,bk,ct⟩=>by
 refine ⟨λm σ' H'=>∃ Z' Γ',yt Z0 H0 Z' Γ' σ' H'/\zR (zT Z H) (zT Z' H')/\I m Γ',⟨m0,Z,Γ,E,zR.refl _,h0⟩,?_⟩
 rintro m σ' H' ⟨Z',Γ',E',s',hI⟩
 refine ⟨Z',Γ',_,E'.e,hst m Γ' hI,λb H1 hd s1=>?_⟩
 have s2:=s'.trans (yg s1)
 cases b with
 | false=>exact nx Z' Γ' σ' H1 (E'.mv s1) s2 (hd.2 rfl)
 | true=>
  refine ⟨λσ2 H2=>∃ m',m' < m/\∃ Z2 Γ2,yt Z0 H0 Z2 Γ2 σ2 H2/\zR (zT Z H) (zT Z2 H2)/\I m' Γ2,λ_ _ h=>h,?_⟩
  have again:∀ Z2 Γ2 σ2 H2,yt Z0 H0 Z2 Γ2 σ2 H2->zR (zT Z' H1) (zT Z2 H2)->(∃ m',m' < m/\I m' Γ2)->∃ m',m' < m/\∃ Z2 Γ2,yt Z0 H0 Z2 Γ2 σ2 H2/\zR (zT Z H) (zT Z2 H2)/\I m' Γ2:=λZ2 Γ2 σ2 H2 E2 k ⟨m',l,h⟩=>⟨m',l,Z2,Γ2,E2,s2.trans k,h⟩
  exact ⟨Z0,H0,Z',Γ',_,E'.mv s1,hd.1 rfl,again,rt,λZ2 Γ2 σ2 H2 E2 k h=>nx Z2 Γ2 σ2 H2 E2 (s2.trans k) h,again⟩
def gj:FL
 | [.int i],R=>R (.int (if i < 0 then -i else i))
 | _,_=>False
theorem zQZ:um (λxs H Q=>∃ i,xs=[.int i]/\Q (.int (if i < 0 then -i else i)) H) gj:=λZ H vs ds R Q zd hv h q=>by
 unfold gj at h
 split at h
 ·obtain ⟨v,rfl,hx⟩:=xA hv
  cases hx
  exact ⟨_,rfl,q _ _ H h (Sm.refl _) (.int _)⟩
 ·exact h.elim
def QS:F2
 | d,.non,R=>R (.bool (match d with | .non=>true | _=>false))
 | _,_,_=>False
def gk:F2
 | d,.non,R=>R (.bool (match d with | .non=>false | _=>true))
 | _,_,_=>False
theorem zPt:wQ (λx y H Q=>y=.non/\Q (.bl (decide (x=.non))) H) QS:=λZ H x y a b R Q zd hx hy h q=>by
 unfold QS at h
 split at h
 ·cases hy
  refine ⟨rfl,?_⟩
  cases hx <;> exact q _ _ H h (Sm.refl _) (.bool _)
 ·exact h.elim
theorem zNP:wQ (λx y H Q=>y=.non/\Q (.bl (!decide (x=.non))) H) gk:=λZ H x y a b R Q zd hx hy h q=>by
 unfold gk at h
 split at h
 ·cases hy
  refine ⟨rfl,?_⟩
  cases hx <;> exact q _ _ H h (Sm.refl _) (.bool _)
 ·exact h.elim
theorem j7 (ha:PE X a (tP pa)) (hb:PE X b (tP pb)):PT X (.Compare a [.Is] [b] pos) (xJ (xb (xT QS pa pb))):=jx L2.zRv zPt (w4 _) ha hb
theorem zM9 (ha:PE X a (tP pa)) (hb:PE X b (tP pb)):PT X (.Compare a [.IsNot] [b] pos) (xJ (xb (xT gk pa pb))):=jx zPj zNP (w4 _) ha hb
theorem zO7 {K:cI} {Z:Addr->Prop} {H:Hp} {p:Addr} {xs:List V} {ds:List D} (e:zT Z H p=some (.lst xs)) (h:yR (zT Z H) xs ds):Wk Z (JK K p) H (jf 0 ds):=λi Z' H' s zd=>by
 have e1:=yG _ _ (s _ _ e)
 refine ⟨λd hd=>?_,λhi=>⟨xs,zp.of e1,by rw [gh] at hi; rw [wS h]; omega⟩⟩
 obtain ⟨d',hd',rfl⟩:=ko hd
 obtain ⟨x,hx,hh⟩:=YZ h hd'
 refine ⟨⟨xs,x,zp.of e1,hx⟩,λy H'' ⟨T,x',ev,hT,eH,q⟩=>?_⟩
 have:=q xs (zp.of e1)
 rw [hx] at this
 cases this
 subst ev
 subst eH
 rw [fL]
 exact ⟨x8 hT _,Wj zd hT (.cons (.int _) (.cons (hh.same s) .nil))⟩
def pEn (pl:yz):yz:=λΓ R=>pl Γ λds=>j6 ds λes=>R (jf 0 es)
theorem W0 {ts:List Expr} {kk:Nat} {tp p:Pos} (hg:Gl X "enumerate") (hm:X.mg "enumerate" = none) (ha:PA X [e] (wP pl)) (hs:starEach [e] X.env=[(false,eval e X.env)]:=by rfl) (hs2:starEach [] X.env=[]:=by rfl) :
  PI X (.Tuple ts kk tp) (.Call (.Name "enumerate" p) [e] [] pos) (jC (pEn pl)):=Yb (zPa hg hm ha hs hs2) λσ H Q ⟨Z,Γ,R,E,h,q⟩=>
 ⟨Z,Γ,_,E,h,λds vs H1 hd s1 hv=>by
  unfold j6 at hd
  split at hd
  ·obtain ⟨v,rfl,hw⟩:=xA hv
   obtain ⟨a,xs,rfl,ea,hx⟩:=hw.lst_inv
   exact ⟨a,rfl,⟨xs,zp.of (yG _ _ ea)⟩,q _ _ H1 hd s1 (zO7 ea hx)⟩
  ·exact hd.elim⟩
def Yu (pa pb:zr):zr:=λΓ R=>pa Γ λd=>pb Γ λe=>∃ i j:Int,d=.int i/\e=.int j/\0<=i/\i<=1000/\0<=j/\j<=1000/\R (.lst ((df (j - i).toNat).map λ(k:Nat)=>.int (i + (k:Int))))
theorem zQS {H:Hp} {i:Int} (ks:List Nat):yR H (ks.map λ(k:Nat)=>V.int (i + (k:Int))) (ks.map λ(k:Nat)=>D.int (i + (k:Int))):=by
 induction ks with
 | nil=>exact .nil
 | cons k ks ih=>exact .cons (.int _) ih
theorem zPS {lp rp:Pos} {p2:Pos} (hc:X.calm=true) (hgl:Gl X "list") (hml:X.mg "list" = none) (hgr:Gl X "range") (hmr:X.mg "range" = none) (ha:PE X a (tP pa)) (hb:PE X b (tP pb))
  (he:starEach [Expr.Call (.Name "range" rp) [a,b] [] p2] X.env=(false,eval (Expr.Call (.Name "range" rp) [a,b] [] p2) X.env) :: starEach [] X.env:=by rfl) (hpl:(backTo pos (starEach [] X.env)).any (·.1)=false:=by rfl)
  (he2:starEach [a,b] X.env=(false,eval a X.env) :: starEach [b] X.env:=by rfl) (he3:starEach [b] X.env=(false,eval b X.env) :: starEach [] X.env:=by rfl) (hpl2:(backTo p2 (starEach [b] X.env)).any (·.1)=false:=by rfl):PE X (.Call (.Name "list" lp) [.Call (.Name "range" rp) [a,b] [] p2] [] pos) (tP (Yu pa pb)):=
 yU (WH (zHI hc) hgl hml wW (yA (WH zMQ hgr hmr zIr (yA ha (yA hb ym he3) he2) (by decide) (by decide) he2 hpl2) ym he) (by decide) (by decide) he hpl) λσ H Q ⟨Z,Γ,R,E,h,q⟩=>
  ⟨Z,Γ,_,E,h,λd v H1 hd s1 hv=>⟨Z,Γ,_,E.same s1,hd,λd2 v2 H2 hd2 s2 hv2=>by
   obtain ⟨i,j,rfl,rfl,i0,i1,j0,j1,hR⟩:=hd2
   cases hv
   cases hv2
   refine ⟨i,j,rfl,λr hr=>⟨r,i,j,rfl,wD,⟨by omega,by omega,by omega,by omega⟩,by omega,λl hl=>?_⟩⟩
   have s3:=s1.trans (s2.trans (x8 hr (HO.rng i j)))
   exact q _ _ _ hR (s3.trans (x8 hl _)) (uj (E.same s3).zd hl (zQS _))⟩⟩
def Yv (i:Nat) (pl:yz):xB:=λD Γ=>pl Γ λds=>j6 ds λes=>D.nx (zw Γ i (.ow es))
theorem zNB (i:Nat) {x:Str} {pos' lp p2:Pos} (hN:X.N.Nodup) (hi:X.N[i]? = some x) (hx:uF X.env.scope x) (hg:Gl X "list") (hm:X.mg "list" = none) (ha:PA X (e :: es) (wP pl)) (he:starEach (e :: es) X.env=(false,eval e X.env) :: starEach es X.env:=by rfl) (hpl:(backTo p2 (starEach es X.env)).any (·.1)=false:=by rfl)
  (hs:swapsWith (.Call (.Name "list" lp) (e :: es) [] p2) (some (.Name x pos')) pos.line X.env=pure false:=by rfl) (hf:X.fn x=true\/X.env.scope.names.lookup x=some .local:=by first | exact .inl rfl | exact .inr rfl | assumption) :
  PS X (.Assign [.Name x pos'] (.Call (.Name "list" lp) (e :: es) [] p2) pos) (yW (Yv i pl)):=yP (WA hN hi hx (WH u3 hg hm wW ha (by decide) (by decide) he hpl) hs hf) λD σ H ⟨Z0,H0,Z,Γ,Dp,E,h,nx,rt,bk,ct⟩=>
 ⟨Z,Γ,_,E.e,h,λds vs H1 hd s1 hv=>by
  unfold j6 at hd
  split at hd
  ·obtain ⟨v,rfl,hw⟩:=xA hv
   obtain ⟨r,xs,rfl,er,hx⟩:=hw.lst_inv
   refine ⟨r,xs,rfl,.inl (zp.of (yG _ _ er)),λl hl=>?_⟩
   obtain ⟨E2,s2⟩:=(E.mv s1).make hl hx i
   exact nx _ _ _ _ E2 ((yg s1).trans s2) hd
  ·exact hd.elim⟩
end
end Pu
namespace Pu
open PySem L2 Sh
variable [yd]
open PyProof.Rows (envOfC)
abbrev Yx (F:FL) (n:Nat):Prop:=∀ ds R,F ds R->ds.length=n
section
variable {P:Program} {w:World} {K:cI} {mg:Str->Option Value} {base:Heap} {x qual:Str} {st:Stmt} {f c C:Addr} {fd:FuncData} {dv:Value} {N ps:List Str} {p0:Str} {k:Nat} {F:FL}
theorem zt (Fu:zi K x qual st f fd) (S:zf N ps (zS st)) (hbody:∀ (cdv:Value) (A:Around) (outer:List Env) (s:Shared) (H:Hp) (E:XK),zc k (A.deeper (envOfC qual (zS st) s.heap.objs.size f cdv))->
   ∃ p,xG (xP zY P w K mg base N qual (zS st) f cdv A outer s H E).nox (xg st) (yW p)/\∀ ds R,F ds R->p { nx:=λ_=>R .non,rt:=R } (ds.map Sl.sh++cS (N.length - ps.length) .no)) (len:Yx F ps.length:=by intro _ _ h; first | (obtain ⟨rfl,_⟩:=h; rfl) | (obtain ⟨_,rfl,_⟩:=h; rfl) | (obtain ⟨_,_,rfl,_⟩:=h; rfl) | (obtain ⟨_,_,_,rfl,_⟩:=h; rfl) | (obtain ⟨_,_,_,_,rfl,_⟩:=h; rfl) | (obtain ⟨_,_,_,_,_,rfl,_⟩:=h; rfl) | (obtain ⟨_,_,_,_,_,_,rfl,_⟩:=h; rfl) | (obtain ⟨_,_,_,_,_,_,_,rfl,_⟩:=h; rfl) | (obtain ⟨_,_,_,_,_,_,_,_,rfl,_⟩:=h; rfl) | (obtain ⟨_,_,_,_,_,_,_,_,_,rfl,_⟩:=h; rfl) | (obtain ⟨_,_,_,_,_,_,_,_,_,_,rfl,_⟩:=h; rfl) | (obtain ⟨_,_,_,_,_,_,_,_,_,_,_,rfl,_⟩:=h; rfl) | (obtain ⟨_,_,_,_,_,_,_,_,_,_,_,_,rfl,_⟩:=h; rfl) | (obtain ⟨_,_,_,_,_,_,_,_,_,_,_,_,_,rfl,_⟩:=h; rfl)):zF P w K mg base zY (k + 1) f fd ps (zH F):=okP Fu S len hbody
theorem gm (Fu:xa K x qual st f fd dv) (S:zf N ps (zS st)) (hbody:∀ (cdv:Value) (A:Around) (outer:List Env) (s:Shared) (H:Hp) (E:XK),zc k (A.deeper (envOfC qual (zS st) s.heap.objs.size f cdv))->
   ∃ p,xG (xP zY P w K mg base N qual (zS st) f cdv A outer s H E).nox (xg st) (yW p)/\∀ ds R,F ds R->p { nx:=λ_=>R .non,rt:=R } (ds.map Sl.sh++cS (N.length - ps.length) .no)) (len:Yx F ps.length:=by intro _ _ h; first | (obtain ⟨rfl,_⟩:=h; rfl) | (obtain ⟨_,rfl,_⟩:=h; rfl) | (obtain ⟨_,_,rfl,_⟩:=h; rfl) | (obtain ⟨_,_,_,rfl,_⟩:=h; rfl) | (obtain ⟨_,_,_,_,rfl,_⟩:=h; rfl) | (obtain ⟨_,_,_,_,_,rfl,_⟩:=h; rfl) | (obtain ⟨_,_,_,_,_,_,rfl,_⟩:=h; rfl) | (obtain ⟨_,_,_,_,_,_,_,rfl,_⟩:=h; rfl) | (obtain ⟨_,_,_,_,_,_,_,_,rfl,_⟩:=h; rfl) | (obtain ⟨_,_,_,_,_,_,_,_,_,rfl,_⟩:=h; rfl) | (obtain ⟨_,_,_,_,_,_,_,_,_,_,rfl,_⟩:=h; rfl) | (obtain ⟨_,_,_,_,_,_,_,_,_,_,_,rfl,_⟩:=h; rfl) | (obtain ⟨_,_,_,_,_,_,_,_,_,_,_,_,rfl,_⟩:=h; rfl) | (obtain ⟨_,_,_,_,_,_,_,_,_,_,_,_,_,rfl,_⟩:=h; rfl)):zF P w K mg base zY (k + 1) f fd ps (zH F):=QK Fu S len hbody
end
section
variable {X:Cx} {a b e:Expr} {es:List Expr} {pos pos':Pos} {pa pb:zr} {pl:yz} {x:Str}
theorem zP (ha:PE X a (tP pa)) (hb:PE X b (tP pb)) (hs:WJ b:=by exact λ_ _=>rfl):PE X (.Subscript a b pos) (tP (xT ixD pa pb)):=YO ha hb hs
theorem za (i:Nat) (hN:X.N.Nodup) (he:PE X e (tP pa)) (hi:X.N[i]? = some x:=by rfl) (hx:uF X.env.scope x:=by first | exact Or.inl rfl | exact Or.inr rfl) (hs:swapsWith e (some (.Name x pos')) pos.line X.env=pure false:=by rfl) (hf:X.fn x=true\/X.env.scope.names.lookup x=some .local:=by first | exact .inl rfl | exact .inr rfl | assumption):PS X (.Assign [.Name x pos'] e pos) (yW (vn i pa)):=zPR i hN hi hx he hs hf
theorem zz (i:Nat) (hN:X.N.Nodup) (hi:X.N[i]? = some x:=by rfl) (hx:uF X.env.scope x:=by first | exact Or.inl rfl | exact Or.inr rfl) (hf:X.fn x=true\/X.env.scope.names.lookup x=some .local:=by first | exact .inl rfl | exact .inr rfl | assumption):PG X (.Name x pos) (tG [i] Jy):=zNC i hN hi hx hf
theorem yJ {js:List Nat} {po:List D->Option (List D)} {n:Nat} (i:Nat) (hN:X.N.Nodup) (h:ki X es js po n) (hi:X.N[i]? = some x:=by rfl) (hx:uF X.env.scope x:=by first | exact Or.inl rfl | exact Or.inr rfl)
  (hs:(assignEach (.Name x pos :: es) X.env).map (·.2)=assign (.Name x pos) X.env :: (assignEach es X.env).map (·.2):=by rfl) (hf:X.fn x=true\/X.env.scope.names.lookup x=some .local:=by first | exact .inl rfl | exact .inr rfl | assumption):ki X (.Name x pos :: es) (i :: js) (Jz po) (n + 1):=zKu i hN hi hx h hs hf
theorem yD (l:List Str) (h:l.Nodup:=by decide +kernel):l.Nodup:=h
theorem yZ {scope S:Scope} {own N ps:List Str} {caps:List (Nat × Str)} (_:zf N ps S) (k:scope.kind=.function:=by rfl) (nd:(scope.names.map (·.1)).Nodup:=by decide +kernel) (hS:X.env.scope=S:=by rfl) (hc:∃ n,X.env.cells=cellsFrom n S.names []:=by first | exact ⟨0,rfl⟩ | exact ⟨_,rfl⟩) (hN:X.N=N:=by rfl) (fr:scope.names.all (λy=>y.2 != .free || S.names.lookup y.1 == some .cell)=true:=by decide +kernel)
  (cp:caps.all (λp=>N[p.1]? == some p.2 && scope.names.lookup p.2 == some .free && S.names.lookup p.2 == some .cell)=true:=by decide +kernel):v4 X scope own caps:=zOC k nd hS hc hN fr cp
theorem bki {Y:Cx} {scope S:Scope} {own own0:List Str} {caps caps0:List (Nat × Str)} {C:Addr} {s₀:Shared} {H₀:Hp} {ex:List Addr} (k:scope.kind=.function:=by rfl) (nd:(scope.names.map (·.1)).Nodup:=by decide +kernel)
  (ndS:(S.names.map (·.1)).Nodup:=by decide +kernel) (fr:scope.names.all (λy=>y.2 != .free || S.names.lookup y.1 == some .cell || S.names.lookup y.1 == some .free)=true:=by decide +kernel)
  (cp:caps.all (λp=>(zm own0 caps0)[p.1]? == some p.2 && scope.names.lookup p.2 == some .free)=true:=by decide +kernel):v4 (yx Y S (zm own0 caps0) C s₀ H₀ ex) scope own caps:=zSq k nd ndS fr cp
end
end Pu
namespace L2
open PySem PySem.Spec PyProof.Rows
section
variable {X:Cx}
inductive gn (x:V) (vs:List V) (H:Hp) (Q:VK):Prop
 | mk (l:Addr) (xs:List V) (i:Int) (k:Nat) (y:V) (_:x=.ref l) (_:vs=[.int i]) (_:H l=some (.lst xs)) (_:xw xs.length i=some k) (_:xs[k]? = some y) (_:Q y (zh H l (.lst (xs.eraseIdx k)))):gn x vs H Q
theorem QT {α β:Type} {R:α->β->Prop}:∀ {xs:List α} {ys:List β} (i:Nat),Paired R xs ys->Paired R (xs.eraseIdx i) (ys.eraseIdx i)
 | _,_,_,.nil=>.nil
 | _,_,0,.cons _ t=>t
 | _,_,i + 1,.cons q t=>.cons q (QT i t)
theorem zRl {α β:Type} {R:α->β->Prop}:∀ {xs:List α} {ys:List β} {i:Nat} {x:α},Paired R xs ys->xs[i]? = some x->∃ y,ys[i]? = some y/\R x y
 | _,_,_,_,.nil,h=>nomatch h
 | _,_,0,_,.cons q t,h=>⟨_,rfl,by cases h; exact q⟩
 | _,_,i + 1,_,.cons q t,h=>zRl (i:=i) t h
theorem QU:U6 X "list.pop" gn:=by
 intro pins s σ H x vs v us Q I rx rv h
 obtain ⟨l,xs,i,k,y,rfl,rfl,hH,hk,hy,q⟩:=h
 cases rx
 obtain ⟨u,rfl,ru⟩:=rv.one
 obtain ⟨t,rfl⟩:=ru
 obtain ⟨its,n,r,e,hz⟩:=I.lst hH
 obtain ⟨h1,h2,h3,h4⟩:=WI hk
 have hl:=r.length
 have hn:=ZZ
 obtain ⟨z,hz',rz⟩:=zRl r hy
 have hf:Builtin.List.listFitsIndex i=true:=by
  unfold Builtin.List.listFitsIndex
  rw [fE,decide_eq_true_iff,decide_eq_true_iff]
  omega
 refine call_meets F.slot_list_pop ⟨_,e,rfl⟩ F.entry_list_pop (F.args_list_pop_2 _ _) (ny l its.toArray n i t k z hf (by rw [cW,<- hl]; exact h1) (by rw [lF]; exact hz') (by rw [cW]; omega)) ⟨e,?_⟩
 refine ⟨y,_,I.lstUpd (its':=its.eraseIdx k) (n':=n + 1) hH e ?_ (QT k r) ?_ s.toks,rz,q⟩
 ·have kl:k < its.length:=by omega
  have:¬ (its.eraseIdx k).length=its.length:=by rw [lQ,if_pos kl]; omega
  simp [Obj.mapSeq,Array.eraseIdxIfInBounds,kl,List.eraseIdx_toArray,this]
 ·rw [lQ]
  split <;> omega
end
end L2
namespace Pu
open PySem L2 Sh
variable [yd]
section
variable {X:Cx} {a b e:Expr} {pos:Pos} {pa pb:zr}
def Yy (neg:Bool):F2:=λa b R=>a.pl 50=true/\b.pl 50=true/\R (.bool (neg != fR a.py b.py))
theorem zLJ {K:cI}:wQ (gA K) (Yy false):=λZ H x y a b R Q zd hx hy ⟨h1,h2,h⟩ q=>by
 have d1:=uB _ _ h1
 have d2:=uB _ _ h2
 have e1:=d1.dep
 have e2:=d2.dep
 refine ⟨_,_,d1.dp K H _ (hx.same yG),d2.dp K H _ (hy.same yG),d1.lay,d2.lay,by omega,by omega,q _ _ H ?_ (Sm.refl _) (.bool _)⟩
 rw [nB] at h
 exact h
theorem zPq {K:cI}:wQ (λx y H Q=>∃ d e:PyData,Dp K H x d/\Dp K H y e/\d.canLay0=true/\e.canLay0=true/\d.depth<=60/\e.depth<=60/\Q (.bl (!PyData.eqv d e)) H) (Yy true):=λZ H x y a b R Q zd hx hy ⟨h1,h2,h⟩ q=>by
 have d1:=uB _ _ h1
 have d2:=uB _ _ h2
 have e1:=d1.dep
 have e2:=d2.dep
 refine ⟨_,_,d1.dp K H _ (hx.same yG),d2.dp K H _ (hy.same yG),d1.lay,d2.lay,by omega,by omega,q _ _ H ?_ (Sm.refl _) (.bool _)⟩
 rw [Bool.true_bne] at h
 exact h
theorem zRQ (hu:X.A.units + 64 < cLine) (ha:PE X a (tP pa)) (hb:PE X b (tP pb)):PE X (.Compare a [.Eq] [b] pos) (tP (xT (Yy false) pa pb)):=gO (WQ hu) zLJ (w4 _) ha hb
theorem zPQ (hu:X.A.units + 64 < cLine) (ha:PE X a (tP pa)) (hb:PE X b (tP pb)):PT X (.Compare a [.Eq] [b] pos) (xJ (xb (xT (Yy false) pa pb))):=jx (WQ hu) zLJ (w4 _) ha hb
theorem zPO (hu:X.A.units + 64 < cLine) (ha:PE X a (tP pa)) (hb:PE X b (tP pb)):PT X (.Compare a [.NotEq] [b] pos) (xJ (xb (xT (Yy true) pa pb))):=jx (JD hu) zPq (w4 _) ha hb
end
def QV (i:Nat) (pa:zr):xB:=λD Γ=>km (slot Γ i) λds=>pa Γ λk=>iD k λo=>∃ z j,o=some z/\xw ds.length z=some j/\D.nx (zw Γ i (.ow (ds.eraseIdx j)))
theorem zQy {pa:zr} {i:Nat} {K:cI} (D:xn) (σ:St) (H:Hp):yW (QV i pa) D σ H->Ud (U5 K "list" gn (uL i) (qx (tP pa) vV)) D σ H:=λ⟨Z0,H0,Z,Γ,Dp,E,h,nx,rt,bk,ct⟩=>by
 obtain ⟨ds,hs,h⟩:=Yo h
 obtain ⟨l,xs,hl,hz,el,hx⟩:=E.e.ow i ds hs
 refine ⟨.ref l,hl,.inl ⟨rfl,xs,zp.of el⟩,Z,Γ,_,E.e,h,λd v H1 hd s1 hv=>?_⟩
 have hx1:=xW (yg s1) hx
 have hlx:=wS hx1
 unfold iD at hd
 split at hd
 ·obtain ⟨z,j,e1,hj,hd⟩:=hd
  cases e1
  cases hv
  obtain ⟨_,hjl,_,_⟩:=WI hj
  exact ⟨l,xs,_,j,xs[j],rfl,rfl,s1.at el,by rw [hlx]; exact hj,b_ (by omega),nx Z _ _ _ ((E.mv s1).put hs hl hz (QT j hx1)) ((yg s1).trans (kj hz)) hd⟩
 ·exact hd.elim
section
variable {X:Cx} {e a b:Expr} {es:List Expr} {pos:Pos} {pa pb:zr}
def Yz (d e:D) (R:List D->Prop):Prop:=uU d λds=>uU e λes=>ds.length + es.length<=1000/\R (ds++es)
theorem zQz {Z:Addr->Prop} {Γ:List Sl} {σ:St} {H:Hp} {Q:VK} {S:List D->Prop} (E:yS Z Γ σ H) (h:pa Γ λd=>pb Γ λe=>Yz d e S) (q:∀ es xs H1 n,S es->Sm H H1->H1 n=none->yR (zT Z H1) xs es->Q (.ref n) (zh H1 n (.lst xs))):qt qz (tP pa) (tP pb) σ H Q:=
 ⟨Z,Γ,_,E,h,λd v H1 hd s1 hv=>⟨Z,Γ,_,E.same s1,hd,λd2 v2 H2 hd2 s2 hv2=>by
  obtain ⟨ds,rfl,k⟩:=zJP hd2
  obtain ⟨es,rfl,l,hd2⟩:=zJP k
  have hv:=hv.same (yg s2)
  obtain ⟨p,xs,rfl,e1,h1⟩:=hv.lst_inv
  obtain ⟨r,ys,rfl,e2,h2⟩:=hv2.lst_inv
  have l1:=Paired.length h1
  have l2:=Paired.length h2
  exact ⟨p,r,xs,ys,rfl,rfl,yG _ _ e1,yG _ _ e2,few (by omega),λn hn=>q _ _ H2 n hd2 (s1.trans s2) hn (kR h1 h2)⟩⟩⟩
def Y0 (i:Nat) (pa pb:zr):xB:=λD Γ=>pa Γ λd=>pb Γ λe=>Yz d e λes=>D.nx (zw Γ i (.ow es))
theorem zNA (i:Nat) {x:Str} {pos' bp:Pos} (hN:X.N.Nodup) (hi:X.N[i]? = some x) (hx:uF X.env.scope x) (ha:PE X a (tP pa)) (hb:PE X b (tP pb)) (hs:swapsWith (.BinOp a .Add b bp) (some (.Name x pos')) pos.line X.env=pure false:=by rfl) (hf:X.fn x=true\/X.env.scope.names.lookup x=some .local:=by first | exact .inl rfl | exact .inr rfl | assumption) :
  PS X (.Assign [.Name x pos'] (.BinOp a .Add b bp) pos) (yW (Y0 i pa pb)):=yP (WA hN hi hx (Uq zOc ha hb) hs hf) λD σ H ⟨Z0,H0,Z,Γ,Dp,E,h,nx,rt,bk,ct⟩=>
 zQz E.e h λes xs H1 n hR s1 hn hx=>by
  obtain ⟨E2,s2⟩:=(E.mv s1).make hn hx i
  exact nx _ _ _ _ E2 ((yg s1).trans s2) hR
def Y1 (i:Nat):zr:=λΓ R=>km (slot Γ i) λds=>R (.int ds.length)
theorem zKy (i:Nat) {f x:Str} {fp xp:Pos} (hg:Gl X f) (hm:X.mg f=none) (hf:f = "len":=by rfl) (hN:X.N[i]? = some x:=by rfl) (hv:qJ X.env.scope x:=by first | exact Or.inl rfl | exact Or.inr (Or.inl rfl) | exact Or.inr (Or.inr rfl)) (hd:(x == ("__debug__" : Str))=false:=by decide)
  (hcd:(x == ("__classdict__" : Str))=false:=by decide) (he:starEach [Expr.Name x xp] X.env=(false,eval (.Name x xp) X.env) :: starEach [] X.env:=by rfl) (hpl:(backTo pos (starEach [] X.env)).any (·.1)=false:=by rfl):PE X (.Call (.Name f fp) [.Name x xp] [] pos) (tP (Y1 i)):=by
 subst hf
 refine yU (wo xf hg hm xh (yA (xM i hN hv hd hcd) ym) (by decide) (by decide) he hpl) λσ H Q ⟨Z,Γ,R,E,h,q⟩=>?_
 obtain ⟨ds,hs,h⟩:=Yo h
 obtain ⟨l,xs,hl,hz,el,hx⟩:=E.ow i ds hs
 exact ⟨_,hl,l,xs,rfl,.inl (zp.of el),q _ _ H h (Sm.refl _) (by rw [wS hx]; exact .int _)⟩
end
end Pu
namespace K74
open PySem L2 Sh Pu
def zl (i:Nat):Stmt:=PySem.Challenge.pw_steadyhand_k74_whole_grown_rooms_are_kep.main.body.getD i (.Pass ⟨0,0,0,0⟩)
structure Bl (mg:Str->Option Value):Prop where
 isinstance_:mg "isinstance" = none
 int_:mg "int" = none
 bool_:mg "bool" = none
 tuple_:mg "tuple" = none
 len_:mg "len" = none
 all_:mg "all" = none
 list_:mg "list" = none
 range_:mg "range" = none
 zip_:mg "zip" = none
 sum_:mg "sum" = none
 max_:mg "max" = none
 enumerate_:mg "enumerate" = none
 min_:mg "min" = none
 abs_:mg "abs" = none
 MOST_NUMBERS_:∃ t,mg "MOST_NUMBERS" = some (.int 3 t)
 MOST_PUSHES_:∃ t,mg "MOST_PUSHES" = some (.int 6 t)
 MOST_MODES_:∃ t,mg "MOST_MODES" = some (.int 40 t)
structure zO3 (K:cI) (C:Addr):Prop where
 n_rows:vJ K C "rows"
 n_nexts:vJ K C "nexts"
 n_steer:vJ K C "steer"
 n_push:vJ K C "push"
 n_add:vJ K C "add"
 n_divisor:vJ K C "divisor"
structure zMf (K:cI) (C:Addr):Prop where
 n_many:vJ K C "many"
 n_kept_pushes:vJ K C "kept_pushes"
 n_kept_modes:vJ K C "kept_modes"
variable [iT:yd]
inductive Fw:Nat->D->Prop
 | int {k:Nat} (i:Int):Fw (k + 1) (.int i)
 | bool {k:Nat} (b:Bool):Fw (k + 1) (.bool b)
 | non {k:Nat}:Fw (k + 1) .non
 | str {k:Nat} (x:Str):Fw (k + 1) (.str x)
 | lst {k:Nat} {ds:List D} (l:ds.length<=900) (h:∀ d∈ds,Fw k d):Fw (k + 1) (.lst ds)
 | tup {k:Nat} {ds:List D} (l:ds.length<=900) (h:∀ d∈ds,Fw k d):Fw (k + 1) (.tup ds)
theorem Fw.no {k:Nat} {d:D} (h:Fw k d):d.isObj=false:=by cases h <;> rfl
theorem Fw.lst_inv {k:Nat} {d:D} (h:Fw k d) (e:d.isLst=true):∃ ds,d=.lst ds/\ds.length<=900/\∃ j,k=j + 1/\∀ d∈ds,Fw j d:=by
 cases h with
 | lst l h=>exact ⟨_,rfl,l,_,rfl,h⟩
 | _=>cases e
theorem Fw.tup_inv {k:Nat} {d:D} (h:Fw k d) (e:d.isTup=true):∃ ds,d=.tup ds/\ds.length<=900/\∃ j,k=j + 1/\∀ d∈ds,Fw j d:=by
 cases h with
 | tup l h=>exact ⟨_,rfl,l,_,rfl,h⟩
 | _=>cases e
theorem zLv {k:Nat} {ns:List Int}:∀ d∈ns.map D.int,Fw (k + 1) d:=λd m=>by
 obtain ⟨i,_,rfl⟩:=cP.mp m
 exact .int i
theorem k0 {n:Nat} (h:n.ble 1000=true:=by rfl):n<=1000:=Nat.le_of_ble_eq_true h
theorem bR {R:D->Prop} {a b:Bool} (q:R (.bool a)) (e:a=b):R (.bool b):=e ▸ q
def jg (d:D):Bool:=d.isInt && !d.isBool
def W1 (n:Int):D->Bool
 | .lst ds=>decide ((ds.length:Int)=n) && ds.all jg
 | _=>false
def Y2 (h w:Int):D->Bool
 | .lst ds=>decide ((ds.length:Int)=h) && ds.all (W1 w)
 | _=>false
def j8 (n:Int):D->Bool
 | .tup ds=>decide ((ds.length:Int)=n + 1) && ds.all jg
 | _=>false
def zRF (n:Int):D->Bool
 | .lst ds=>ds.all (j8 n)
 | _=>false
theorem kr {α:Type} (f:α->Bool) (xs:List α):(xs.map f).all id=xs.all f:=by rw [mK]; rfl
def j9:FL:=λds R=>∃ d,ds=[d]/\d.isObj=false/\R (.bool (jg d))
def QW:FL:=λds R=>∃ d n k,ds=[d,.int n]/\Fw k d/\R (.bool (W1 n d))
def Y3:FL:=λds R=>∃ d h w k,ds=[d,.int h,.int w]/\Fw k d/\R (.bool (Y2 h w d))
def Y4:FL:=λds R=>∃ d n k,ds=[d,.int n]/\Fw k d/\R (.bool (j8 n d))
def zSb:FL:=λds R=>∃ d n k,ds=[d,.int n]/\Fw k d/\R (.bool (zRF n d))
def Y5 (j:Nat):FL:=λds R=>∃ d n,ds=[d,.int n]/\Fw j d/\R d
def zSY:FL:=λds R=>∃ p w n:Int,ds=[.int p,.int w,.int n]/\0<=w/\w<=900/\R (L (yy p w.toNat n))
def IS (d:D) (ns:List Int):Prop:=d=L ns\/d=U ns
def W4:FL:=λds R=>∃ (d e:D) (ns os:List Int),ds=[d,e]/\IS d ns/\IS e os/\ns.length<=900/\(∀ x∈ns,Bd 9000 x)/\(∀ x∈os,Bd 9000 x)/\R (.int (yI ns os))
theorem zIv:∀ ns os:List Int,eC xO (ns.map D.int) (os.map D.int)=(ns.zip os).map λq=>xO (.int q.1) (.int q.2)
 | [],_=>rfl
 | _ :: _,[]=>rfl
 | _ :: ns,_ :: os=>by rw [dD,dD,ia,zIv ns os]; rfl
theorem IS.zip {d e:D} {ns os:List Int} (h:IS d ns) (k:IS e os) {R:List D->Prop} (q:R ((ns.zip os).map λq=>xO (.int q.1) (.int q.2))):jD [d,e] R:=by
 rw [<- zIv] at q
 rcases h with rfl | rfl <;> rcases k with rfl | rfl <;> exact q
theorem zSj {qs:List (Int × Int)} {G:D->(D->Prop)->Prop} {R:D->Prop} (g:Int × Int->Int) (few:qs.length<=1000) (h:∀ q,q∈qs->G (xO (.int q.1) (.int q.2)) λe=>e=.int (g q)) (k:R (.lst ((qs.map g).map D.int))):zy (qs.map λq=>xO (.int q.1) (.int q.2)) G R:=
 zy.map (λd=>match d with | .tup [x,y]=>.int (g (yV x,yV y)) | _=>.non) (by rw [a_]; exact few) (λd m=>by
  obtain ⟨q,hq,rfl⟩:=cP.mp m
  exact h q hq) (by rw [dk] at k |-; exact k)
theorem zI5:∀ ns os:List Int,((ns.zip os).map λq=>q.1 * q.2).sum=yI ns os
 | [],_=>rfl
 | _ :: _,[]=>rfl
 | n :: ns,o :: os=>by rw [l',dD,nG,zI5 ns os]; rfl
abbrev Tb (t:List (List Int)):D:=.lst (t.map L)
abbrev Rm (t:List (List Int)):D:=.lst (t.map U)
def yF:D->List Int
 | .lst ds=>ds.map yV
 | .tup ds=>ds.map yV
 | _=>[]
theorem zJL (ns:List Int):(ns.map D.int).map yV=ns:=by rw [dk]; exact ii _
theorem ku (ns:List Int):yF (L ns)=ns:=zJL ns
theorem kz (ns:List Int):yF (U ns)=ns:=zJL ns
theorem vG {α:Type} {xs:List α} {G:D->(D->Prop)->Prop} {R:D->Prop} (u:α->D) (v:D->α) (hv:∀ x,v (u x)=x) (g:α->D) (few:xs.length<=1000) (h:∀ x,x∈xs->G (u x) λe=>e=g x) (q:R (.lst (xs.map g))):zy (xs.map u) G R:=
 zy.map (λd=>g (v d)) (by rw [a_]; exact few) (λd m=>by
  obtain ⟨x,hx,rfl⟩:=cP.mp m
  rw [hv]
  exact h x hx) (by
  rw [dk,show ((λd=>g (v d)) ∘ u)=g from funext λx=>congrArg g (hv x)]
  exact q)
def IT (e:D) (ls:List (List Int)):Prop:=e=Tb ls\/e=Rm ls
theorem QX {α:Type} (u:α->D):∀ (ns:List Int) (ls:List α),eC xO (ns.map D.int) (ls.map u)=(ns.zip ls).map λq=>xO (.int q.1) (u q.2)
 | [],_=>rfl
 | _ :: _,[]=>rfl
 | _ :: ns,_ :: ls=>by rw [dD,dD,ia,QX u ns ls]; rfl
def v2 (d:D):Int × List Int:=match d with
 | .tup [x,y]=>(yV x,yF y)
 | _=>(0,[])
theorem uV {ns:List Int} {j:Nat} (h:j < ns.length) {i:Int} (e:i=(j:Int)):yo (ns.map D.int) i=some (.int (ns.getD j 0)):=by
 rw [ga,e]
 unfold yo xw
 rw [if_pos (by omega),if_pos (by omega)]
 show fF D.int ns[((j:Nat):Int).toNat]? = _
 rw [show ((j:Nat):Int).toNat=j by omega,b_ h,b',b_ h]
 rfl
theorem IS.zipT {d e:D} {ns:List Int} {ls:List (List Int)} (h:IS d ns) (k:IT e ls) {R:List D->Prop} (q:∀ u:List Int->D,u=L\/u=U->R ((ns.zip ls).map λq=>xO (.int q.1) (u q.2))):jD [d,e] R:=by
 have q1:=q L (.inl rfl)
 have q2:=q U (.inr rfl)
 rw [<- QX] at q1 q2
 rcases h with rfl | rfl <;> rcases k with rfl | rfl <;> first | exact q1 | exact q2
theorem Y6 {u:List Int->D} (hu:u=L\/u=U) (q:Int × List Int):v2 (xO (.int q.1) (u q.2))=q:=by
 rcases hu with rfl | rfl
 ·show (q.1,yF (L q.2))=q
  rw [ku]
 ·show (q.1,yF (U q.2))=q
  rw [kz]
def zOt:FL:=λds R=>∃ (d e:D) (ns:List Int) (ls:List (List Int)) (w:Nat),ds=[d,e,.int (w:Int)]/\IS d ns/\IT e ls/\w<=900/\ns.length<=900/\(∀ x∈ns,Bd 9000 x)/\(∀ r∈ls,w<=r.length/\∀ x∈r,Bd 9000 x)/\R (L ((df w).map (yE ns ls)))
def zL6:FL:=λds R=>∃ p w n b:Int,ds=[.int p,.int w,.int n,.int b]/\0<=w/\w<=900/\R (U (yy p w.toNat n++[b]))
theorem uW {e:Nat} {r:List Int} (h:∀ x∈r,Bd e x) (j:Nat):Bd e (r.getD j 0):=by
 rw [b']
 cases hj:r[j]? with
 | none=>show (0:Int).natAbs < 2 ^ e; exact iG e
 | some x=>exact h x (dz hj)
abbrev zOh:List Str:=["rows","nexts","steer","push","add","divisor"]
abbrev zO9:List Str:=["many","kept_pushes","kept_modes"]
abbrev jF (C:Addr) (m:MD):D:=.obj C zOh [Rm m.rows,Tb m.nexts,L m.steer,Tb m.push,L m.add,.int m.div]
abbrev zu (b:Int × Int):D:=.tup [.int b.1,.int b.2]
abbrev wx (C CM:Addr) (n:Nat) (bs:List (Int × Int)) (ms:List MD):D:=.obj C zO9 [.int (n:Int),.lst (bs.map zu),.lst (ms.map (jF CM))]
theorem jG {k:Nat} {ns:List Int} (h:ns.length<=900):Fw (k + 2) (L ns):=.lst (by rw [a_]; exact h) zLv
theorem QY {k:Nat} {ns:List Int} (h:ns.length<=900):Fw (k + 2) (U ns):=.tup (by rw [a_]; exact h) zLv
theorem W5 {k:Nat} {t:List (List Int)} (h:t.length<=900) (h2:∀ r∈t,r.length<=900):Fw (k + 3) (Tb t):=.lst (by rw [a_]; exact h) λd m=>by
 obtain ⟨r,hr,rfl⟩:=cP.mp m
 exact jG (h2 r hr)
theorem zSV {k:Nat} {t:List (List Int)} (h:t.length<=900) (h2:∀ r∈t,r.length<=900):Fw (k + 3) (Rm t):=.lst (by rw [a_]; exact h) λd m=>by
 obtain ⟨r,hr,rfl⟩:=cP.mp m
 exact QY (h2 r hr)
theorem zIC (ns:List Int):(ns.map D.int).all jg=true:=di.mpr λd m=>by
 obtain ⟨i,_,rfl⟩:=cP.mp m
 rfl
theorem QZ {n:Int} {ns:List Int} (h:(ns.length:Int)=n):W1 n (L ns)=true:=by
 show (decide _ && _)=true
 rw [a_,decide_eq_true h,zIC]
 rfl
theorem zON {h w:Int} {t:List (List Int)} (e:(t.length:Int)=h) (k:∀ r∈t,(r.length:Int)=w):Y2 h w (Tb t)=true:=by
 show (decide _ && _)=true
 rw [a_,decide_eq_true e]
 exact di.mpr λd m=>by
  obtain ⟨r,hr,rfl⟩:=cP.mp m
  exact QZ (k r hr)
theorem zRE {n:Int} {ns:List Int} (h:(ns.length:Int)=n + 1):j8 n (U ns)=true:=by
 show (decide _ && _)=true
 rw [a_,decide_eq_true h,zIC]
 rfl
theorem zPK {n:Int} {t:List (List Int)} (k:∀ r∈t,(r.length:Int)=n + 1):zRF n (Rm t)=true:=di.mpr λd m=>by
 obtain ⟨r,hr,rfl⟩:=cP.mp m
 exact zRE (k r hr)
def zOs (C:Addr):FL:=λds R=>∃ r n s p a d,ds=[r,n,s,p,a,d]/\Fw 5 r/\Fw 5 n/\Fw 5 s/\Fw 5 p/\Fw 5 a/\R (.obj C zOh [r,n,s,p,a,d])
def zL8:FL:=λds R=>∃ b:Int × Int,ds=[zu b]/\b.1<=b.2/\R (.bool true)
def zL9 (C:Addr):FL:=λds R=>∃ (m:MD) (n p:Nat),ds=[jF C m,.int (n:Int),.int (p:Int)]/\vZ m n p/\R (.bool true)
def zJX (C:Addr):FL:=λds R=>∃ (n:Nat) (bs:List (Int × Int)) (ms:List MD),ds=[.int (n:Int),.lst (bs.map zu),.lst (ms.map (jF C))]/\vA n bs ms/\R (.bool true)
def zL5 (C CM:Addr):FL:=λds R=>∃ (n:Nat) (bs:List (Int × Int)) (ms:List MD),ds=[.int (n:Int),.lst (bs.map zu),.lst (ms.map (jF CM))]/\vA n bs ms/\R (wx C CM n bs ms)
def Qa (C CM:Addr):FL:=λds R=>∃ n bs ms,ds=[wx C CM n bs ms]/\R (.lst (bs.map zu))
def zOr (C CM:Addr):FL:=λds R=>∃ n bs ms,ds=[wx C CM n bs ms]/\R (.lst (ms.map (jF CM)))
def Qb (ms:List MD):Bool:=ms.all λm=>m.steer.all λx=>decide (x=0)
def zGC (C:Addr):FL:=λds R=>∃ m,ds=[jF C m]/\m.steer.length<=900/\R (.bool (m.steer.all λx=>decide (x=0)))
def zMB (C CM:Addr):FL:=λds R=>∃ n bs ms,ds=[wx C CM n bs ms]/\vA n bs ms/\R (.bool (Qb ms))
def Qc (C CM:Addr):FL:=λds R=>∃ n bs ms,ds=[wx C CM n bs ms]/\vA n bs ms/\Qb ms=true/\R .non
theorem Y7 {ns:List Int} {G:D->(D->Prop)->Prop} {R:D->Prop} (g:Int->Bool) (few:ns.length<=1000) (h:∀ n,n∈ns->G (.int n) λe=>e=.bool (g n)) (q:R (.lst ((ns.map g).map D.bool))):zy (ns.map D.int) G R:=
 vG D.int yV (λ_=>rfl) (λn=>.bool (g n)) few h (by rw [dk] at q; exact q)
def xz (d:D):MD:=match d with
 | .obj _ _ [.lst r,.lst n,s,.lst p,a,d]=>⟨r.map yF,n.map yF,yF s,p.map yF,yF a,yV d⟩
 | _=>⟨[],[],[],[],[],0⟩
theorem zOJ (t:List (List Int)):(t.map L).map yF=t:=by
 rw [dk,show (yF ∘ L)=id from funext λr=>ku r]
 exact ii _
theorem zQt (t:List (List Int)):(t.map U).map yF=t:=by
 rw [dk,show (yF ∘ U)=id from funext λr=>kz r]
 exact ii _
theorem zKT (C:Addr) (m:MD):xz (jF C m)=m:=by
 show MD.mk ((m.rows.map U).map yF) ((m.nexts.map L).map yF) (yF (L m.steer)) ((m.push.map L).map yF) (yF (L m.add)) m.div=m
 rw [zQt,zOJ,zOJ,ku,ku]
def Qd (d:D):Int × Int:=match d with
 | .tup [x,y]=>(yV x,yV y)
 | _=>(0,0)
def W6 (n p:Nat) (ws:List Int) (b:Int) (m:MD):List Int:=((df n).map (yE ws m.nexts)++(df p).map (yE ws m.push))++[m.div * b - yI ws m.add]
theorem wf {e:Nat}:Bd e (0:Int):=by
 show (0:Int).natAbs < 2 ^ e
 exact iG e
theorem zQd {e:Nat} {r:List Int} (h:∀ x∈r,Bd e x) (j:Nat):Bd e (r.getD j 0):=by
 rw [b']
 cases hj:r[j]? with
 | none=>exact wf
 | some x=>exact h x (dz hj)
theorem Qe {a b:Nat}:∀ {ns os:List Int},(∀ x∈ns,Bd a x)->(∀ x∈os,Bd b x)->Bd (a + b + ns.length + 1) (yI ns os)
 | [],_,_,_=>by unfold yI; exact wf
 | _ :: _,[],_,_=>by unfold yI; exact wf
 | n :: ns,o :: os,hn,ho=>by
  have i:=Qe (a:=a) (b:=b) (ns:=ns) (os:=os) (λq m=>hn q (cK _ m)) (λq m=>ho q (cK _ m))
  rw [dB]
  show Bd _ (n * o + yI ns os)
  exact (((hn n cO).mul (ho o cO)).mono (show a + b<=a + b + ns.length + 1 by omega) |>.add i).mono (by omega)
theorem zMX {a b j:Nat} {ns:List Int} {N:List (List Int)} (h:∀ x∈ns,Bd a x) (hN:∀ r∈N,∀ x∈r,Bd b x):Bd (a + b + ns.length + 1) (yE ns N j):=by
 rw [zHX]
 refine Qe h λx hx=>?_
 obtain ⟨r,hr,rfl⟩:=cP.mp hx
 exact zQd (hN r hr) j
structure MS (m:MD):Prop where
 nexts:∀ r∈m.nexts,∀ x∈r,Bd 300 x
 push:∀ r∈m.push,∀ x∈r,Bd 300 x
 add:∀ x∈m.add,Bd 300 x
 div:Bd 300 m.div
 rows:∀ r∈m.rows,∀ x∈r,Bd 300 x
 few:m.rows.length<=100
theorem W7 {e n:Nat} {pl nu:Int} (h:Bd e nu):∀ x∈yy pl n nu,Bd e x:=λx hx=>by
 obtain ⟨i,_,rfl⟩:=cP.mp hx
 show Bd e (if (i:Int)=pl then nu else 0)
 split
 ·exact h
 ·exact wf
structure ThS (n:Nat) (bs:List (Int × Int)) (ms:List MD):Prop where
 ok:vA n bs ms
 ms:∀ m∈ms,MS m
 bs:∀ b∈bs,Bd 300 b.1/\Bd 300 b.2
theorem jh {r:List Int} {n:Nat} (h:r.length=n + 1):zv (r.map D.int) none (some (-1))=(r.take n).map D.int:=by
 have e1:HT.sIx (r.map D.int).length 0 none=0:=HT.sIx_none _ _
 have e2:HT.sIx (r.map D.int).length (r.map D.int).length (some (-1))=n:=by
  rw [a_,h]
  show (if (-1:Int) < 0 then ((-1:Int) + ((n + 1:Nat):Int)).toNat else min (-1:Int).toNat (n + 1))=n
  rw [if_pos (by decide)]
  omega
 unfold zv
 rw [e1,e2,fU,iO,hV]
theorem W8 (ws:List Int) (b:Int):zv ((ws++[b]).map D.int) none (some (-1))=ws.map D.int:=by
 rw [jh (n:=ws.length) (by rw [cJ]; rfl),dl (cQ _),cV (cQ _)]
theorem k7 {r:List Int} {n:Nat} (h:r.length=n + 1):yo (r.map D.int) (-1)=some (.int (r.getD n 0)):=by
 rw [ga]
 unfold yo xw
 rw [if_neg (by decide),if_pos (by omega)]
 show fF D.int r[((-1:Int) + (r.length:Int)).toNat]? = _
 rw [show ((-1:Int) + (r.length:Int)).toNat=n by omega,b_ (by omega),b',b_ (by omega)]
 rfl
theorem gp (ws:List Int) (b:Int):yo ((ws++[b]).map D.int) (-1)=some (.int b):=by
 rw [k7 (n:=ws.length) (by rw [cJ]; rfl),b',dC (cQ _),fN]
 rfl
theorem Y8 {α:Type} (u:α->D):∀ (xs:List α) (ys:List D),eC xO (xs.map u) ys=(xs.zip ys).map λq=>xO (u q.1) q.2
 | [],_=>rfl
 | _ :: _,[]=>rfl
 | _ :: xs,_ :: ys=>by rw [dD,ia,Y8 u xs ys]; rfl
theorem zSk {α:Type} {xs:List α} {ys:List D} {G:D->(D->Prop)->Prop} {R:D->Prop} (u:α->D) (v:D->α) (hv:∀ x,v (u x)=x) (g:α->D->Bool) (few:xs.length<=1000) (h:∀ x y,(x,y)∈xs.zip ys->G (xO (u x) y) λe=>e=.bool (g x y)) (q:R (.lst (((xs.zip ys).map λp=>g p.1 p.2).map D.bool))):zy (eC xO (xs.map u) ys) G R:=by
 rw [Y8]
 refine vG (λp:α × D=>xO (u p.1) p.2) (λd=>match d with | .tup [a,b]=>(v a,b) | _=>(v .non,.non)) (λp=>?_) (λp=>.bool (g p.1 p.2)) (by rw [eP]; omega) (λp hp=>h p.1 p.2 hp) (by rw [dk] at q; exact q)
 show (v (u p.1),p.2)=p
 rw [hv]
structure MBd (m:MD):Prop where
 nexts:∀ r∈m.nexts,∀ x∈r,Bd 9000 x
 push:∀ r∈m.push,∀ x∈r,Bd 9000 x
 add:∀ x∈m.add,Bd 9000 x
 div:Bd 9000 m.div
theorem MS.mbd {m:MD} (h:MS m):MBd m:=⟨λr hr x hx=>(h.nexts r hr x hx).mono,λr hr x hx=>(h.push r hr x hx).mono,λx hx=>(h.add x hx).mono,h.div.mono⟩
theorem zR6 {b:Bool} (h:(!b)=true):b=false:=by cases b <;> first | rfl | cases h
theorem Qf {b:Bool} (h:(!b)=false):b=true:=by cases b <;> first | rfl | cases h
def zOq (C CM:Addr):FL:=λds R=>∃ n bs ms m r,ds=[wx C CM n bs ms,jF CM m,U r]/\n<=3/\bs.length<=6/\vZ m n bs.length/\MBd m/\r.length=n + 1/\(∀ x∈r,Bd 9000 x)/\R (U (W6 n bs.length (r.take n) (r.getD n 0) m))
def gI (t b:Int):Int:=if b < 0 then -((lX t.natAbs b.natAbs:Nat):Int) else ((lX t.natAbs b.natAbs:Nat):Int)
def Qg:FL:=λds R=>∃ a b:Int,ds=[.tup [.int a,.int b]]/\R (.int ((lX a.natAbs b.natAbs:Nat):Int))
def qg:FL:=λds R=>∃ t b:Int,ds=[.int t,.int b]/\b≠0/\Bd 7000 b/\R (.tup [.int (t.fdiv (gI t b)),.int (b.fdiv (gI t b))])
theorem zQk (x:Int):(if x < 0 then -x else x)=((x.natAbs:Nat):Int):=by split <;> omega
theorem zNy (a b:Nat):((a:Nat):Int).fmod ((b:Nat):Int)=((a % b:Nat):Int):=by
 rw [Int.fmod_eq_emod_of_nonneg _ (mh b)]
 rfl
theorem Y9 {t b:Int} (h:b≠0):gI t b≠0:=by
 have:0 < lX t.natAbs b.natAbs:=Nat.gcd_pos_of_pos_right _ (by omega)
 unfold gI
 split <;> omega
theorem XA {t b:Int} {e:Nat} (h:b≠0) (hb:Bd e b):Bd e (gI t b):=by
 have:=Nat.gcd_le_right t.natAbs (show 0 < b.natAbs by omega)
 refine hb.of_le ?_
 unfold gI
 split <;> omega
theorem IS.zipL {d:D} {ns:List Int} {es:List D} (h:IS d ns) {R:List D->Prop} (q:R (eC xO (ns.map D.int) es)):jD [d,.lst es] R:=by
 rcases h with rfl | rfl <;> exact q
theorem zwq {α β:Type} {u:α->D} {v:β->D} {xs:List α} {ys:List β} {k:Nat} {d:D} (h:(eC xO (xs.map u) (ys.map v))[k]? = some d):∃ x y,xs[k]? = some x/\ys[k]? = some y/\d=xO (u x) (v y):=by
 rw [List.getElem?_zipWith,c_,c_] at h
 cases h1:xs[k]? with
 | none=>rw [h1] at h; cases h
 | some x=>
  cases h2:ys[k]? with
  | none=>rw [h1,h2] at h; cases h
  | some y=>rw [h1,h2] at h; cases h; exact ⟨x,y,rfl,rfl,rfl⟩
theorem xl {n:Nat} (h:1<=n):Bd n 1:=(Bd.lit (i:=1) (n:=1)).mono h
abbrev zX (t b:Int):Int × Int:=(zN t b,zK t b)
abbrev xC (pts:List (Int × Int)):D:=.lst (pts.map zu)
theorem jH {n:Nat} {t b:Int} (h:Bd n t):Bd n (zN t b):=h.fdiv _
theorem uq {n:Nat} {t b:Int} (h:Bd n b):Bd n (zK t b):=h.fdiv _
def gq:FL:=λds R=>∃ p q:Int × Int,ds=[zu p,zu q]/\0 < p.2/\0 < q.2/\Bd 9000 p.1/\Bd 9000 p.2/\Bd 9000 q.1/\Bd 9000 q.2/\Bd 7000 (p.2 * q.2)/\R (zu (zX (p.1 * q.2 - q.1 * p.2) (p.2 * q.2)))
def gr:FL:=λds R=>∃ p q:Int × Int,ds=[zu p,zu q]/\0 < p.2/\0 < q.2/\Bd 9000 p.1/\Bd 9000 p.2/\Bd 9000 q.1/\Bd 9000 q.2/\Bd 7000 (p.2 * q.2)/\R (zu (zX (p.1 * q.1) (p.2 * q.2)))
def XB:FL:=λds R=>∃ p q:Int × Int,ds=[zu p,zu q]/\Bd 9000 p.1/\Bd 9000 p.2/\Bd 9000 q.1/\Bd 9000 q.2/\R (.bool (decide (p.1 * q.2 < q.1 * p.2)))
def gt:FL:=λds R=>∃ p:Int × Int,ds=[zu p]/\0 < p.2/\Bd 7000 p.2/\R (.int (-((-p.1).fdiv p.2)))
def ur (n:Nat) (pts:List (Int × Int)):Prop:=pts.length=n/\n<=2/\∀ p∈pts,0 < p.2/\Bd 900 p.1/\Bd 900 p.2
def Qh:FL:=λds R=>∃ d ns n pts,ds=[d,xC pts]/\IS d ns/\ns.length=n/\(∀ w∈ns,Bd 300 w)/\ur n pts/\(0 < (yC ns pts).2->Bd 4000 (yC ns pts).1->Bd 2800 (yC ns pts).2->R (zu (yC ns pts)))
def Qi:FL:=λds R=>∃ us b n pts,ds=[U (us++[b]),xC pts]/\us.length=n/\(∀ w∈us,Bd 300 w)/\ur n pts/\(0 < (yC us pts).2->Bd 4000 (yC us pts).1->Bd 2800 (yC us pts).2->R (zu (zX (yC us pts).1 (yC us pts).2)))
def zSd:FL:=λds R=>∃ us b n pts,ds=[U (us++[b]),xC pts]/\us.length=n/\(∀ w∈us,Bd 300 w)/\Bd 300 b/\ur n pts/\R (.bool (JJ us b pts))
theorem zQi {ns:List Int} {pts:List (Int × Int)} {k:Nat} {w:Int} {p:Int × Int} (hw:ns[k]? = some w) (hp:pts[k]? = some p):yC (ns.take (k + 1)) (pts.take (k + 1))=jT (yC (ns.take k) (pts.take k)) (w,p):=by
 have l1:=(cT.mp hw).1
 have l2:=(cT.mp hp).1
 unfold yC
 rw [uK hw,uK hp,List.zip_append (by rw [cU,cU]; omega),i8]
 rfl
theorem IS.ixD {d:D} {ns:List Int} (h:IS d ns) {j:Nat} (hj:j < ns.length) {R:D->Prop} (q:R (.int (ns.getD j 0))):Pu.ixD d (.int (j:Int)) R:=by
 rcases h with rfl | rfl <;> exact ⟨_,uV hj rfl,q⟩
theorem IS.ixL {d:D} {ns:List Int} {n:Nat} (h:IS d ns) (hj:ns.length=n + 1) {R:D->Prop} (q:R (.int (ns.getD n 0))):Pu.ixD d (.int (-1)) R:=by
 rcases h with rfl | rfl <;> exact ⟨_,k7 hj,q⟩
theorem W9 {es:List D} {i:Nat} {d:D} (h:es[i]? = some d):yo es (i:Int)=some d:=by
 have hl:=(cT.mp h).1
 unfold yo xw
 rw [if_pos (by omega),if_pos (by omega)]
 show es[((i:Nat):Int).toNat]? = _
 rw [show ((i:Nat):Int).toNat=i by omega]
 exact h
theorem zy.enum {es:List D} {G:D->(D->Prop)->Prop} {R:D->Prop} (P:Nat->D->Prop) (few:es.length<=1000) (h:∀ (i:Nat) (x:D),es[i]? = some x->G (xO (.int (i:Int)) x) λe=>∃ (i':Nat) (x':D),xO (.int (i:Int)) x=xO (.int (i':Int)) x'/\P i' e) (q:∀ es',es'.length=es.length->(∀ (i:Nat) (e:D),es'[i]? = some e->P i e)->R (.lst es')):zy (jf 0 es) G R:=
 ⟨by rw [gh]; exact few,λd e=>∃ (i':Nat) (x':D),d=xO (.int (i':Int)) x'/\P i' e,λd hd=>by
  obtain ⟨i,hi⟩:=lJ.mp hd
  obtain ⟨x,hx,rfl⟩:=ko hi
  rw [fL]
  exact h i x hx,λes' p=>by
  have l:=Paired.length p
  rw [gh] at l
  refine q es' l.symm λi e he=>?_
  have hl:=(cT.mp he).1
  have hi:i < (jf 0 es).length:=by rw [gh]; omega
  obtain ⟨e',he',i',x',ed,hP⟩:=zF9 p (b_ hi)
  rw [he] at he'
  cases he'
  obtain ⟨x,hx,ex⟩:=ko (b_ hi)
  rw [ex,fL] at ed
  have:((i:Nat):Int)=((i':Nat):Int):=by injection ed with a; injection a with a b; injection a
  have:i=i':=by omega
  rw [this]
  exact hP⟩
def qA (es:List D) (L:List (List Int)):Prop:=es.length=L.length/\∀ i d,es[i]? = some d->IS d (L.getD i [])
theorem qA.at_ {es:List D} {L:List (List Int)} (h:qA es L) {i:Nat} (hi:i < L.length):∃ d,es[i]? = some d/\IS d (L.getD i []):=⟨_,b_ (by rw [h.1]; exact hi),h.2 i _ (b_ (by rw [h.1]; exact hi))⟩
def XD:FL:=λds R=>∃ (es:List D) (L:List (List Int)) (p f:Nat),ds=[.lst es,.int (p:Int)]/\qA es L/\L.length<=100/\p<=L.length/\(∀ r∈L,p < r.length)/\wu (λk=>(L.getD k []).getD p 0) p (L.length - p)=some f/\R (.int (f:Int))
def XE:FL:=λds R=>∃ (es:List D) (p f:Nat),ds=[.lst es,.int (p:Int),.int (f:Int)]/\p < es.length/\f < es.length/\es.length<=100/\R (.lst ((es.set p (es.getD f .non)).set f (es.getD p .non)))
def zSe:FL:=λds R=>∃ (d e:D) (ns ps:List Int) (p:Nat) (la:Int),ds=[d,e,.int (p:Int),.int la]/\IS d ns/\IS e ps/\ns.length=ps.length/\p < ns.length/\ns.length<=100/\la≠0/\Bd 1000 la/\(∀ x∈ns,Bd 1000 x)/\(∀ x∈ps,Bd 1000 x)/\R (L (uM ns ps p la))
def UA:FL:=λds R=>∃ (es:List D) (rows:List (List Int)) (n:Nat),ds=[.lst es]/\qA es rows/\Sq rows n/\n<=2/\xq rows≠0/\(∀ r∈rows,∀ x∈r,Bd 220 x)/\(ur n (yO rows n)->R (xC (yO rows n)))
theorem zJV {f:Nat->Int} {r:Nat}:∀ {m p:Nat},wu f p m=some r->p<=r/\r < p + m/\f r≠0
 | 0,_,h=>nomatch h
 | m + 1,p,h=>by
  unfold wu at h
  by_cases c:f p≠0
  ·rw [if_pos c] at h
   cases h
   exact ⟨cQ _,by omega,c⟩
  ·rw [if_neg c] at h
   obtain ⟨a,b,d⟩:=zJV h
   exact ⟨by omega,by omega,d⟩
theorem zPJ {rows:List (List Int)} {n k:Nat} {st:List (List Int) × Int} (h:yw rows n=some st) (hk:k < n):∃ L la f,yw rows k=some (L,la)/\wu (λi=>(L.getD i []).getD k 0) k (L.length - k)=some f/\yw rows (k + 1)=some (u8 (yf L k f) k la,((yf L k f).getD k []).getD k 0):=by
 have up:∀ j,∃ s,k + 1 + j=n->yw rows (k + 1)=some s:=λj=>by
  induction j generalizing n st with
  | zero=>exact ⟨st,λe=>by rw [mH] at e; rw [e]; exact h⟩
  | succ j ih=>
   by_cases e:k + 1 + (j + 1)=n
   ·subst e
    have h':(yw rows (k + 1 + j)).bind (λst=>vB st (k + 1 + j))=some st:=h
    cases c:yw rows (k + 1 + j) with
    | none=>rw [c] at h'; cases h'
    | some s=>
     obtain ⟨s',hs'⟩:=ih c (by omega)
     exact ⟨s',λ_=>hs' rfl⟩
   ·exact ⟨st,λz=>absurd z e⟩
 obtain ⟨s,hs⟩:=up (n - k - 1)
 have hs:=hs (by omega)
 have hb:(yw rows k).bind (λst=>vB st k)=some s:=hs
 cases c:yw rows k with
 | none=>rw [c] at hb; cases hb
 | some t=>
  rw [c] at hb
  obtain ⟨L,la⟩:=t
  have hb:vB (L,la) k=some s:=hb
  unfold vB at hb
  cases d:wu (λi=>(L.getD i []).getD k 0) k (L.length - k) with
  | none=>rw [d] at hb; cases hb
  | some f=>
   rw [d] at hb
   refine ⟨L,la,f,rfl,d,?_⟩
   rw [hs,<- Option.some.inj hb]
theorem zKq {rows:List (List Int)} {p f:Nat}:(yf rows p f).length=rows.length:=by unfold yf; rw [dE,dE]
theorem zPP {rows:List (List Int)} {p f:Nat} (hp:p < rows.length) (hf:f < rows.length):∀ r∈yf rows p f,r∈rows:=λr hr=>by
 unfold yf at hr
 rcases fu hr with h | h
 ·rcases fu h with h | h
  ·exact h
  ·rw [h]; exact yc hf
 ·rw [h]; exact yc hp
theorem qA.put {es:List D} {L:List (List Int)} (h:qA es L) {p f:Nat} (hp:p < L.length) (hf:f < L.length):qA ((es.set p (es.getD f .non)).set f (es.getD p .non)) (yf L p f):=by
 have g:∀ k,k < L.length->IS (es.getD k .non) (L.getD k []):=λk hk=>by
  obtain ⟨d,hd,i⟩:=h.at_ hk
  rw [b',hd]
  exact i
 refine ⟨by rw [dE,dE,zKq,h.1],λi d hd=>?_⟩
 have il:=(cT.mp hd).1
 rw [dE,dE,h.1] at il
 have le:=h.1
 unfold yf
 rw [u9 (by rw [dE]; exact hf),u9 hp]
 rw [mw] at hd
 by_cases c1:i=f
 ·rw [if_pos c1.symm,if_pos (by rw [dE]; omega)] at hd
  rw [if_pos c1,<- Option.some.inj hd]
  exact g p hp
 ·rw [if_neg (λz=>c1 z.symm),mw] at hd
  rw [if_neg c1]
  by_cases c2:i=p
  ·rw [if_pos c2.symm,if_pos (by omega)] at hd
   rw [if_pos c2,<- Option.some.inj hd]
   exact g f hf
  ·rw [if_neg (λz=>c2 z.symm)] at hd
   rw [if_neg c2]
   exact h.2 i d hd
def gu:Nat->Nat
 | 0=>220
 | 1=>441
 | _=>883
theorem zSm {ns ps:List Int} {p e:Nat} {la:Int} (h1:∀ x∈ns,Bd e x) (h2:∀ x∈ps,Bd e x):∀ x∈uM ns ps p la,Bd (2 * e + 1) x:=λx hx=>by
 obtain ⟨q,hq,rfl⟩:=cP.mp hx
 have a:=(uW h2 p).mul (h1 _ (d8 hq).1)
 have b:=(uW h1 p).mul (h2 _ (d8 hq).2)
 exact (((a.mono (show _<=2 * e by omega)).sub (b.mono (show _<=2 * e by omega))).fdiv _).mono (by omega)
theorem zQY {ns ps:List Int} {p:Nat} {la:Int} (h:ns.length=ps.length):(uM ns ps p la).length=ns.length:=by unfold uM; rw [a_,eP,h,Nat.min_self]
theorem wg {α:Type} {f:α->D} {l:List α} {k:Nat} (z:α) (h:k < l.length):yo (l.map f) (k:Int)=some (f (l.getD k z)):=by
 rw [b',b_ h]
 exact W9 (by rw [c_,b_ h]; rfl)
abbrev cN (cs:List Nat):D:=.lst (cs.map λx=>.int ((x:Nat):Int))
def uX (d:D):Nat:=(yV d).toNat
theorem UB (x:Nat):uX (.int ((x:Nat):Int))=x:=by show (((x:Nat):Int)).toNat=x; omega
theorem Qj {cs:List Nat} {G:D->(D->Prop)->Prop} {R:D->Prop} (g:Nat->D) (few:cs.length<=1000) (h:∀ c∈cs,G (.int ((c:Nat):Int)) λe=>e=g c) (q:R (.lst (cs.map g))):zy (cs.map λx=>D.int ((x:Nat):Int)) G R:=vG (λx=>D.int ((x:Nat):Int)) uX UB g few h q
theorem kM {α β:Type} {f:α->β} {l:List α} {i:Nat} {d:β} (z:α) (h:(l.map f)[i]? = some d):i < l.length/\d=f (l.getD i z):=by
 have hl:=(cT.mp h).1
 rw [a_] at hl
 rw [c_,b_ hl] at h
 refine ⟨hl,?_⟩
 rw [b',b_ hl]
 exact (Option.some.inj h).symm
def qB:FL:=λds R=>∃ (cs:List Nat) (p x:Nat),ds=[cN cs,.int ((p:Nat):Int),.int ((x:Nat):Int)]/\p < cs.length/\cs.length<=100/\R (cN (cs.set p x))
theorem Qk (L:List (List Int)):qA (L.map U) L:=⟨a_ ..,λi d h=>by
 obtain ⟨_,rfl⟩:=kM [] h
 exact .inr rfl⟩
def zb (n:Nat):List (List Int):=(df n).map λ(k:Nat)=>yy (k:Int) n 1++[0]
structure UC (rows:List (List Int)) (cs:List Nat) (n:Nat):Prop where
 C:Cr rows n cs
 bd:∀ r∈rows,∀ x∈r,Bd 220 x
 few:rows.length<=100
 n2:n<=2
def XF:FL:=λds R=>∃ n:Nat,ds=[.int (n:Int)]/\n<=3/\R (Rm (zb n))
def gv:FL:=λds R=>∃ rows cs n,ds=[Rm rows,cN cs]/\UC rows cs n/\(ur n (zW rows cs n)->R (xC (zW rows cs n)))
def qC:FL:=λds R=>∃ rows cs n us,ds=[Rm rows,cN cs,U us]/\UC rows cs n/\us.length=n + 1/\(∀ x∈us.take n,Bd 220 x)/\(ur n (zg rows cs us n)->R (xC (zg rows cs us n)))
def Ql:FL:=λds R=>∃ pts:List (Int × Int),ds=[xC pts]/\pts.length<=4/\(∀ p∈pts,0 < p.2/\Bd 900 p.1/\Bd 900 p.2)/\R (.tup [.int (zx pts),L (zq pts)])
def zSX:FL:=λds R=>∃ rows cs n pl nu,ds=[Rm rows,cN cs,.int ((pl:Nat):Int),.int nu]/\UC rows cs n/\pl < n/\(nu=1\/nu = -1)/\(ur n (yO (xQ rows cs pl nu n) n)->R (L (zq (yO (xQ rows cs pl nu n) n))))
theorem Qm:∀ (pts:List (Int × Int)) (D:Int) (e:Nat),Bd e D->(∀ p∈pts,Bd 900 p.2)->Bd (e + 900 * pts.length) (pts.foldl (λD p=>(D * p.2).fdiv (d_ D p.2:Int)) D)
 | [],D,e,h,_=>h.mono (by simp)
 | p :: pts,D,e,h,hp=>by
  have z:=Qm pts ((D * p.2).fdiv (d_ D p.2:Int)) (e + 900) ((h.mul (hp p cO)).fdiv _) λq hq=>hp q (cK _ hq)
  exact z.mono (by rw [dB]; omega)
theorem zR1 {pts:List (Int × Int)} (h:∀ p∈pts,0 < p.2/\Bd 900 p.1/\Bd 900 p.2) (h4:pts.length<=4):Bd 3700 (zx pts)/\∀ x∈zq pts,Bd 4600 x:=by
 have z:Bd 3700 (zx pts):=(Qm pts 1 1 Bd.lit λp hp=>(h p hp).2.2).mono (by omega)
 refine ⟨z,λx hx=>?_⟩
 obtain ⟨p,hp,e⟩:=cP.mp hx
 rw [<- e]
 exact ((h p hp).2.1.mul (z.fdiv _)).mono
theorem zNR {pts:List (Int × Int)} {k:Nat} {p:Int × Int} (hp:pts[k]? = some p):zx (pts.take (k + 1))=(zx (pts.take k) * p.2).fdiv (d_ (zx (pts.take k)) p.2:Int):=by
 unfold zx
 rw [uK hp,i8]
 rfl
theorem UD {r:List Int} {n:Nat} (z:Nat->Rat):vl n (r.take n) z=vl n r z:=by
 unfold vl
 exact ye λj hj=>by rw [qR hj]
theorem zNp {r:List Int} {n:Nat} {pts:List (Int × Int)} (h:r.length=n + 1) (lp:pts.length=n) (hp:∀ p∈pts,0 < p.2):JJ (r.take n) (r.getD n 0) pts=true ↔ vl n r (ze pts)<=bo n r:=by
 have lt:(r.take n).length=n:=by rw [cU]; omega
 obtain ⟨a1,a2⟩:=Wb (us:=r.take n) (pts:=pts) (by omega) hp
 have q:=vD a1
 rw [jt lt,UD] at a2
 unfold JJ bo
 rw [decide_eq_true_iff]
 constructor
 ·intro z
  have z':(((yC (r.take n) pts).1:Int):Rat)<=((r.getD n 0 * (yC (r.take n) pts).2:Int):Rat):=by exact_mod_cast z
  rw [a2,cM] at z'
  apply da
  intro c
  have:=dA (show ((r.getD n 0:Int):Rat) < vl n r (ze pts) by grind) q
  grind
 ·intro z
  have z':=dM z (dU q)
  rw [<- a2,<- cM] at z'
  exact_mod_cast z'
theorem zQs {p q:Int × Int} (hp:0 < p.2) (hq:0 < q.2):(p.1 * q.2 < q.1 * p.2) ↔ zU p < zU q:=by
 have e1:=vL hp
 have e2:=vL hq
 have a:=vD hp
 have b:=vD hq
 constructor
 ·intro z
  have z':((p.1 * q.2:Int):Rat) < ((q.1 * p.2:Int):Rat):=by exact_mod_cast z
  rw [cM,cM,<- e1,<- e2] at z'
  apply da
  intro c
  have c1:=dM (show zU q<=zU p by grind) (dU a)
  have c2:=dM c1 (dU b)
  grind
 ·intro z
  have c1:=dA z a
  have c2:=dA c1 b
  have z':((p.1 * q.2:Int):Rat) < ((q.1 * p.2:Int):Rat):=by
   rw [cM,cM,<- e1,<- e2]
   grind
  exact_mod_cast z'
theorem Qn (t:Int):zU (t,1)=(t:Rat):=WV (show (0:Int) < 1 by decide) (by show (t:Rat)=(t:Rat) * ((1:Int):Rat); rw [show ((1:Int):Rat)=1 from rfl,eN])
theorem XG {t b:Int} (h:b≠0) {x:Rat} (e:(t:Rat)=x * (b:Rat)):(t:Rat) / (b:Rat)=x:=by
 rw [e,dG,ef,dF _ (λz=>h (by exact_mod_cast z)),eN]
theorem Qo {p q:Int × Int} (hp:0 < p.2) (hq:0 < q.2):0 < zK ((p.1 * q.2 - q.1 * p.2)) (p.2 * q.2)/\zU (zN ((p.1 * q.2 - q.1 * p.2)) (p.2 * q.2),zK ((p.1 * q.2 - q.1 * p.2)) (p.2 * q.2))=zU p - zU q:=by
 have ne:p.2 * q.2≠0:=d4 (eO hp hq)
 obtain ⟨a,b⟩:=jA (t:=p.1 * q.2 - q.1 * p.2) ne
 refine ⟨a,b.trans (XG ne ?_)⟩
 rw [fg,cM,cM,cM,<- vL hp,<- vL hq]
 grind
theorem Qp {p q:Int × Int} (hp:0 < p.2) (hq:0 < q.2):0 < zK ((p.1 * q.1)) (p.2 * q.2)/\zU (zN ((p.1 * q.1)) (p.2 * q.2),zK ((p.1 * q.1)) (p.2 * q.2))=zU p * zU q:=by
 have ne:p.2 * q.2≠0:=d4 (eO hp hq)
 obtain ⟨a,b⟩:=jA (t:=p.1 * q.1) ne
 refine ⟨a,b.trans (XG ne ?_)⟩
 rw [cM,cM,<- vL hp,<- vL hq]
 grind
section
variable {rows:List (List Int)} {n c r:Nat} {x d:Nat->Rat}
theorem zLd (no:∀ k,k < c->¬ 0 < VA rows n k d) (p:0 < VA rows n c d):vb rows n (c + 1) x d c:=⟨dW c,p,λk hk z=>absurd z (no k hk),λk hk z=>by
 by_cases e:k=c
 ·rw [e]; exact fZ
 ·exact absurd z (no k (by omega))⟩
theorem zNh (M:vb rows n c x d r) (p:0 < VA rows n c d) (lt:(BA rows n c - VA rows n c x) * VA rows n r d < (BA rows n r - VA rows n r x) * VA rows n c d):vb rows n (c + 1) x d c:=by
 have all:∀ k,k < c->0 < VA rows n k d->(BA rows n c - VA rows n c x) * VA rows n k d < (BA rows n k - VA rows n k x) * VA rows n c d:=λk hk z=>zJb p M.up z lt (M.all k hk z)
 exact ⟨dW c,p,all,λk hk z=>by
  by_cases e:k=c
  ·rw [e]; exact fZ
  ·exact dU (all k (by omega) z)⟩
theorem zJO (M:vb rows n c x d r) (h:0 < VA rows n c d->¬ (BA rows n c - VA rows n c x) * VA rows n r d < (BA rows n r - VA rows n r x) * VA rows n c d):vb rows n (c + 1) x d r:=⟨fQ M.lt,M.up,M.first,λk hk z=>by
 by_cases e:k=c
 ·rw [e]
  have:=h (e ▸ z)
  grind
 ·exact M.all k (by omega) z⟩
end
theorem zMz {a1 a2 v1 v2 D:Rat} (p1:0 < v1) (p2:0 < v2) (pD:0 < D):(a1 / (D * v1) < a2 / (D * v2)) ↔ a1 * v2 < a2 * v1:=by
 have q1:=ie pD p1
 have q2:=ie pD p2
 have n1:D * v1≠0:=λz=>by rw [z] at q1; exact absurd q1 eX
 have n2:D * v2≠0:=λz=>by rw [z] at q2; exact absurd q2 eX
 have e1:a1 / (D * v1) * (D * v1)=a1:=by rw [dG,ef,d9 _ n1,eN]
 have e2:a2 / (D * v2) * (D * v2)=a2:=by rw [dG,ef,d9 _ n2,eN]
 generalize a1 / (D * v1)=s1 at *
 generalize a2 / (D * v2)=s2 at *
 have q3:=ie q1 p2
 subst e1 e2
 constructor
 ·intro z
  have:=dA z q3
  grind
 ·intro z
  apply da
  intro c
  have:=dM (show s2<=s1 by grind) (dU q3)
  grind
theorem zLF {ds es:List D} (p:Paired (λd e=>e=d) ds es):es=ds:=by
 induction p with
 | nil=>rfl
 | cons h _ ih=>rw [h,ih]
def k8 (room:List (List Int)) (n:Nat):Prop:=room.length<=60/\∀ r∈room,r.length=n + 1/\∀ x∈r,Bd 220 x
def qD:FL:=λds R=>∃ (cs:List Nat) (fs:List Bool),ds=[cN cs,.lst (fs.map D.bool)]/\fs.length=cs.length/\cs.length<=100/\((∀ p,p < cs.length->fs.getD p false=false)->R .non)/\∀ p,p < cs.length->fs.getD p false=true->(∀ k,k < cs.length->fs.getD k false=true->cs.getD p 0<=cs.getD k 0)->R (.int ((p:Nat):Int))
def XH:FL:=λds R=>∃ room n pts,ds=[Rm room,xC pts]/\k8 room n/\ur n pts/\((∀ i,i < room.length->VA room n i (ze pts)<=BA room n i)->R .non)/\∀ i,i < room.length->BA room n i < VA room n i (ze pts)->(∀ j,j < i->VA room n j (ze pts)<=BA room n j)->R (.int ((i:Nat):Int))
def XI:FL:=λds R=>∃ room n pts wp,ds=[Rm room,xC pts,L (zq wp)]/\k8 room n/\n<=2/\ur n pts/\ur n wp/\((∀ k,k < room.length->¬ 0 < VA room n k (ze wp))->R .non)/\∀ r,vb room n room.length (ze pts) (ze wp) r->R (.int ((r:Nat):Int))
def Qq:FL:=λds R=>∃ (m:Nat) (cs:List Nat) (pts:List (Int × Int)),ds=[.int (m:Int),cN cs,xC pts]/\m<=100/\cs.length<=100/\pts.length<=4/\(∀ p∈pts,0 < p.2/\Bd 900 p.1/\Bd 900 p.2)/\∀ zs:List Int,R (.tup [.int (zx pts),L zs])
theorem UE {r:List Int} {n:Nat} (h:r.length=n + 1):r.take n++[r.getD n 0]=r:=by
 refine mx λi=>?_
 by_cases c:i < n
 ·rw [dR (by rw [cU]; omega),f9 c]
 ·by_cases e:i=n
  ·subst e
   rw [dC (by rw [cU]; omega),cU,show i - min i r.length=0 by omega,b',b_ (show i < r.length by omega)]
   rfl
  ·rw [eZ (by rw [cJ,cU]; show _ + 1<=i; omega),eZ (by omega)]
theorem zQ7 {r:List Int} {n:Nat} {wp:List (Int × Int)} (rl:r.length=n + 1) (W:ur n wp):((yI (r.take n) (zq wp):Int):Rat)=(zx wp:Rat) * vl n r (ze wp):=by
 have lw:=W.1
 have lt:(r.take n).length=n:=by rw [cU]; omega
 rw [JW (by rw [Z8]; omega),lt]
 unfold vl
 rw [<- vK]
 exact ye λj hj=>by
  rw [qR hj,WZ (λp hp=>(W.2.2 p hp).1) (by omega)]
  grind
theorem zR2 {pts:List (Int × Int)} {n:Nat} (W:ur n pts) (n2:n<=2):∀ x∈zq pts,Bd 2701 x:=λx hx=>by
 have z:Bd 1801 (zx pts):=(Qm pts 1 1 Bd.lit λp hp=>(W.2.2 p hp).2.2).mono (by rw [W.1]; omega)
 obtain ⟨p,hp,e⟩:=cP.mp hx
 rw [<- e]
 exact ((W.2.2 p hp).2.1.mul (z.fdiv _)).mono
theorem zI6 {a e:Nat}:∀ {us vs:List Int},(∀ x∈us,Bd a x)->(∀ x∈vs,Bd e x)->Bd (a + e + us.length) (yI us vs)
 | [],_,_,_=>wf
 | _ :: _,[],_,_=>wf
 | u :: us,v :: vs,hu,hv=>by
  have h1:=(hu u cO).mul (hv v cO)
  have h2:=zI6 (us:=us) (vs:=vs) (λx h=>hu x (cK _ h)) λx h=>hv x (cK _ h)
  exact (h1.mono (eQ _ _)).add h2
theorem zSD (t:Int):zX t 1=(t,1):=by
 have e:cm t 1=1:=by unfold cm; rw [if_neg (by decide),Int.gcd_one]; rfl
 unfold zX zN zK
 rw [e,mE]
 rfl
theorem zQW {α:Type} (xs:List α) (k:Nat):zv xs none (some (k:Int))=xs.take k:=by
 unfold zv
 rw [HT.sIx_none,HT.sIx_nat,fU,iO]
 exact List.take_eq_take_iff.mpr (by omega)
theorem UF {p:Int × Int} (h:0 < p.2):(0 < zU p ↔ 0 < p.1)/\(zU p < 0 ↔ p.1 < 0)/\(zU p=0 ↔ p.1=0):=by
 have e:=vL h
 have q:=vD h
 have a:0 < zU p->0 < p.1:=λz=>by
  have:=ie z q
  rw [e] at this
  exact_mod_cast this
 have b:zU p < 0->p.1 < 0:=λz=>by
  have:=dA z q
  rw [e,mI] at this
  exact_mod_cast this
 have c:zU p=0->p.1=0:=λz=>by
  rw [z,mI] at e
  exact_mod_cast e.symm
 have t:zU p < 0\/zU p=0\/0 < zU p:=by grind
 refine ⟨⟨a,λz=>?_⟩,⟨b,λz=>?_⟩,⟨c,λz=>?_⟩⟩
 ·rcases t with y | y | y
  ·have:=b y; omega
  ·have:=c y; omega
  ·exact y
 ·rcases t with y | y | y
  ·exact y
  ·have:=c y; omega
  ·have:=a y; omega
 ·rcases t with y | y | y
  ·have:=b y; omega
  ·exact y
  ·have:=a y; omega
def gw (w:List (Int × Int)) (count:Nat) (cs:List Nat) (q:Nat):Bool:=decide (count<=cs.getD q 0) && decide ((w.getD q (0,1)).1≠0)
def jo (w:List (Int × Int)) (count:Nat) (cs:List Nat) (q:Nat):Bool:=decide ((w.getD q (0,1)).1 < 0) || (decide (count<=cs.getD q 0) && decide ((w.getD q (0,1)).1≠0))
def gz (w:List (Int × Int)) (q:Nat):Bool:=decide (0 < (w.getD q (0,1)).1)
section
variable {rows:List (List Int)} {n count:Nat} {cs:List Nat} {us:List Int}
theorem UG (C:Cr rows n cs) (us:List Int) {k:Nat} (hk:k < n):0 < ((zg rows cs us n).getD k (0,1)).2:=(C.wLen us).2 _ (yc (by rw [(C.wLen us).1]; exact hk))
theorem Qr (C:Cr rows n cs) {k:Nat} (hk:k < n):gw (zg rows cs us n) count cs k=true ↔ vg rows n count us cs k:=by
 have s:=UF (UG C us hk)
 unfold gw vg
 rw [e7,decide_eq_true_iff,decide_eq_true_iff]
 show _ ↔ _/\zU ((zg rows cs us n).getD k (0,1))≠0
 exact ⟨λ⟨a,b⟩=>⟨a,λz=>b (s.2.2.mp z)⟩,λ⟨a,b⟩=>⟨a,λz=>b (s.2.2.mpr z)⟩⟩
theorem Qs (C:Cr rows n cs) {k:Nat} (hk:k < n):jo (zg rows cs us n) count cs k=true ↔ xI rows n count us cs k:=by
 have s:=UF (UG C us hk)
 unfold jo xI
 rw [Bool.or_eq_true_iff,e7,decide_eq_true_iff,decide_eq_true_iff,decide_eq_true_iff]
 show _ ↔ zU ((zg rows cs us n).getD k (0,1)) < 0\/_/\zU ((zg rows cs us n).getD k (0,1))≠0
 rw [s.2.1]
 exact or_congr Iff.rfl ⟨λ⟨a,b⟩=>⟨a,λz=>b (s.2.2.mp z)⟩,λ⟨a,b⟩=>⟨a,λz=>b (s.2.2.mpr z)⟩⟩
theorem Qt (C:Cr rows n cs) {k:Nat} (hk:k < n):gz (zg rows cs us n) k=true ↔ 0 < YC rows n cs us k:=by
 have s:=UF (UG C us hk)
 unfold gz
 rw [decide_eq_true_iff]
 exact s.1.symm
end
theorem zN2 {rows:List (List Int)} {cs:List Nat} {us:List Int} {b:Int} {n:Nat} (lu:us.length=n):xr rows cs (us++[b]) n=xr rows cs us n:=by
 unfold xr
 exact eh λj hj=>by rw [jq lu (dH.mp hj)]
theorem zO5 {rows:List (List Int)} {cs:List Nat} {us:List Int} {b:Int} {n:Nat} (lu:us.length=n):zg rows cs (us++[b]) n=zg rows cs us n:=by
 unfold zg
 rw [zN2 lu]
theorem zP3 {rows:List (List Int)} {n c r s:Nat} {x d:Nat->Rat} (M:vb rows n c x d r) (N:vb rows n c x d s):r=s:=by
 rcases my r s with h | h | h
 ·have a:=N.first r h M.up
  have b:=M.all s N.lt N.up
  grind
 ·exact h
 ·have a:=M.first s h N.up
  have b:=N.all r M.lt M.up
  grind
section
variable {room ax:List (List Int)} {n:Nat}
theorem zQf {i:Nat} (h:i < room.length):(room++ax).getD i []=room.getD i []:=by
 rw [b',dR h,<- b']
theorem ut {i:Nat} (h:i < room.length) (z:Nat->Rat):VA (room++ax) n i z=VA room n i z/\BA (room++ax) n i=BA room n i:=by
 show vl n ((room++ax).getD i []) z=vl n (room.getD i []) z/\bo n ((room++ax).getD i [])=bo n (room.getD i [])
 rw [zQf h]
 exact ⟨rfl,rfl⟩
theorem Qu {x d:Nat->Rat} {r:Nat} (M:vb room n room.length x d r):vb (room++ax) n room.length x d r:=by
 have hr:=M.lt
 have e:=λk (hk:k < room.length) z=>ut (ax:=ax) (n:=n) hk z
 refine ⟨hr,by rw [(e r hr d).1]; exact M.up,λk hk z=>?_,λk hk z=>?_⟩
 ·have hk':k < room.length:=by omega
  rw [(e k hk' d).1] at z
  rw [(e r hr x).1,(e r hr x).2,(e k hk' d).1,(e k hk' x).1,(e k hk' x).2,(e r hr d).1]
  exact M.first k hk z
 ·rw [(e k hk d).1] at z
  rw [(e r hr x).1,(e r hr x).2,(e k hk d).1,(e k hk x).1,(e k hk x).2,(e r hr d).1]
  exact M.all k hk z
end
theorem zI2 {n j:Nat} {p:Nat} {c:Int} (h:j < n):(yy (p:Int) n c).getD j 0=if (j:Int)=(p:Int) then c else 0:=by
 unfold yy
 rw [b',c_,eg h]
 rfl
theorem XJ {n k:Nat} (h:k < n):(zb n).getD k []=yy (k:Int) n 1++[0]:=kW h
theorem Qv (n:Nat):(zb n).length=n:=by unfold zb; rw [a_,cX]
theorem XM {room:List (List Int)} {n:Nat} (n1:1<=n) (n3:n<=2) (h:∀ r∈room,r.length=n + 1):uO (room++zb n) n room.length:=by
 refine ⟨n1,n3,λr hr=>?_,by rw [cJ,Qv],λk hk j hj=>?_⟩
 ·rcases dX.mp hr with hr | hr
  ·exact h r hr
  ·obtain ⟨k,_,e⟩:=cP.mp hr
   rw [<- e,cJ,v5]
   rfl
 ·have e0:(room++zb n).getD (room.length + k) []=yy (k:Int) n 1++[0]:=by
   rw [b',dC (eQ _ _),Nat.add_sub_cancel_left,<- b',XJ hk]
  rw [e0,jq (v5 _ _ _) hj,zI2 hj]
  by_cases e:j=k
  ·rw [if_pos e,if_pos (by rw [e])]
  ·rw [if_neg e,if_neg (by omega)]
theorem Qw {rows:List (List Int)} {n count r s:Nat} {cs:List Nat} (h:qS rows n count cs r) (k:qS rows n count cs s):r=s:=by
 rcases my r s with z | z | z
 ·have:=k.2.2 r z
  have:=h.2.1
  grind
 ·exact z
 ·have:=h.2.2 s z
  have:=k.2.1
  grind
theorem zIw {cs:List Nat} {ys:List D} {g:Nat->D->Bool} {p:Nat} (h1:p < cs.length) (h2:p < ys.length):((cs.zip ys).map λq=>g q.1 q.2).getD p false=g (cs.getD p 0) (ys.getD p .non):=by
 rw [b',b_ (by rw [a_,eP]; omega),List.getElem_map,List.getElem_zip,b',b',b_ h1,b_ h2]
 rfl
def jI:D->Int × Int
 | .tup [x,y]=>(yV x,yV y)
 | _=>(0,1)
theorem zRS {pts:List (Int × Int)} {p:Nat} (h:p < pts.length):(pts.map zu).getD p .non=zu (pts.getD p (0,1)):=by
 rw [b',c_,b_ h,b',b_ h]
 rfl
structure qE (rows:List (List Int)) (n count:Nat):Prop where
 ok:uO rows n count
 bd:∀ r∈rows,∀ x∈r,Bd 220 x
 few:rows.length<=100
 n2:n<=2
theorem qE.co {rows:List (List Int)} {n count:Nat} {cs:List Nat} (h:qE rows n count) (C:Cr rows n cs):UC rows cs n:=⟨C,h.bd,h.few,h.n2⟩
theorem UH {room:List (List Int)} {n:Nat} (h:k8 room n) (n1:1<=n) (n2:n<=2):qE (room++zb n) n room.length:=by
 have few:=h.1
 refine ⟨XM n1 (by omega) λr hr=>(h.2 r hr).1,λr hr x hx=>?_,by rw [cJ,Qv]; omega,n2⟩
 rcases dX.mp hr with hr | hr
 ·exact (h.2 r hr).2 x hx
 ·obtain ⟨k,_,rfl⟩:=cP.mp hr
  rcases dX.mp hx with hx | hx
  ·exact W7 (xl (by decide)) x hx
  ·rw [dh.mp hx]
   exact wf
def XN:FL:=λds R=>∃ rows n count,ds=[Rm rows,.int ((count:Nat):Int)]/\qE rows n count/\R (cN (FC rows n count count))
def g6 (R:D->Prop):vd->Prop
 | .emp _=>∀ X,R (.tup [.str "empty",X])
 | .mst f _ _ _=>0 < f.2->Bd 4000 f.1->Bd 2800 f.2->∀ X Y,R (.tup [.str "most",zu f,X,Y])
 | .opn _ _=>∀ X Y,R (.tup [.str "open",X,Y])
def zSf:FL:=λds R=>∃ room n m cs us b R0,ds=[Rm (room++zb n),.int ((room.length:Nat):Int),cN cs,U (us++[b])]/\k8 room n/\1<=n/\n<=2/\Cr (room++zb n) n cs/\us.length=n/\(∀ x∈us,Bd 220 x)/\jX (room++zb n) n room.length us m cs R0/\g6 R R0
def UI:FL:=λds R=>∃ room n m us b R0,ds=[Rm room,U (us++[b])]/\k8 room n/\1<=n/\n<=2/\us.length=n/\(∀ x∈us,Bd 220 x)/\v8 (room++zb n) n room.length us m (FC (room++zb n) n room.length room.length) R0/\g6 R R0
structure k9 (e:Nat) (m:MD):Prop where
 nexts:∀ r∈m.nexts,∀ x∈r,Bd e x
 steer:∀ x∈m.steer,Bd e x
 push:∀ r∈m.push,∀ x∈r,Bd e x
 add:∀ x∈m.add,Bd e x
 div:Bd e m.div
 rows:∀ r∈m.rows,∀ x∈r,Bd e x
 few:m.rows.length<=100
theorem k9.ms {e:Nat} {m:MD} (h:k9 e m) (k:e<=300):MS m:=⟨λr hr x hx=>(h.nexts r hr x hx).mono k,λr hr x hx=>(h.push r hr x hx).mono k,λx hx=>(h.add x hx).mono k,h.div.mono k,λr hr x hx=>(h.rows r hr x hx).mono k,h.few⟩
theorem md (a:Int) {b:Int} (h:0 < b):0<=a.fmod b/\a.fmod b < b:=⟨h9 a h,iN a h⟩
theorem uu {n:Nat} {a b:Int} (h:Bd n b) (p:0 < b):Bd n (a.fmod b):=by
 have:=md a p
 exact h.of_le (by omega)
theorem XO {n:Nat} (h:n<=3):Bd 2 (n:Int):=by
 show (n:Int).natAbs < 2 ^ 2
 omega
theorem Qx {α:Type} {xs:List α} {i:Int} (h0:0<=i) (h1:i < (xs.length:Int)):∃ x∈xs,yo xs i=some x:=by
 obtain ⟨k,rfl⟩:=hX h0
 have hk:k < xs.length:=by omega
 refine ⟨xs[k],d6 hk,?_⟩
 unfold yo xw
 rw [if_pos (by omega),if_pos (by omega)]
 show xs[((k:Nat):Int).toNat]? = _
 rw [show ((k:Nat):Int).toNat=k by omega,b_ hk]
theorem zSv {xs:List Int} {i:Int} (h0:0<=i) (h1:i < (xs.length:Int)):∃ x∈xs,yo (xs.map D.int) i=some (.int x):=by
 obtain ⟨x,hx,e⟩:=Qx h0 h1
 exact ⟨x,hx,by rw [ga,e]; rfl⟩
theorem vQ {xs:List Int} {i:Int} {R:D->Prop} (h0:0<=i) (h1:i < (xs.length:Int)) (q:∀ x∈xs,R (.int x)):∃ d,yo (xs.map D.int) i=some d/\R d:=by
 obtain ⟨x,hx,e⟩:=zSv h0 h1
 exact ⟨_,e,q x hx⟩
theorem XQ {xs:List D} {i:Int} {R:D->Prop} (h0:0<=i) (h1:i < (xs.length:Int)) (q:∀ x∈xs,R x):∃ d,yo xs i=some d/\R d:=by
 obtain ⟨x,hx,e⟩:=Qx h0 h1
 exact ⟨_,e,q x hx⟩
theorem zSt {y f:Int} {n:Nat} (h:Bd n f) (h1 : -f<=y) (h2:y<=f):Bd n y:=h.of_le (by omega)
theorem uv {α:Type} {P:α->Prop} {xs:List α} {y:α} (h:∀ x∈xs,P x) (k:P y):∀ x∈xs++[y],P x:=λx hx=>by
 rcases dX.mp hx with hx | hx
 ·exact h x hx
 ·rw [dh.mp hx]; exact k
theorem zN3 {xs:List D} {k:Nat}:zv xs (some (k:Int)) none=xs.drop k:=by
 unfold zv
 rw [HT.sIx_none,HT.sIx_nat,cV (by rw [fq]; omega)]
 by_cases h:k<=xs.length
 ·rw [Nat.min_eq_left h]
 ·rw [Nat.min_eq_right (by omega),List.drop_length,List.drop_of_length_le (by omega)]
abbrev UJ:Int:=10 ^ (45:Int).toNat
def Qy:FL:=λds R=>∃ ns k,ds=[.scr ns,.int k]/\0<=k/\∀ c,R (.int c)
def Qz (xs:List Int):Prop:=∀ x∈xs,0<=x/\Bd 150 x
def XR:FL:=λds R=>∃ (c:Int) (n:Nat),ds=[.int c,.int (n:Int)]/\n<=100/\∀ xs,xs.length=n->Qz xs->R (L xs)
def UK:FL:=λds R=>∃ x far:Int,ds=[.int x,.int far]/\0<=far/\Bd 9000 far/\∀ y,-far<=y->y<=far->R (.int y)
def XS:FL:=λds R=>∃ (c:Int) (n:Nat) (u:Int),ds=[.int c,.int (n:Int),.int u]/\n<=3/\0<=u/\Bd 100 u/\∀ bs:List (Int × Int),bs.length=n->(∀ b∈bs,b.1<=b.2/\Bd 105 b.1/\Bd 105 b.2)->R (.lst (bs.map zu))
def wA (n i:Nat) (b:Int × Int):List (List Int):=[yy (i:Int) n 1++[b.2],(yy (i:Int) n 1).map (λx=>0 - x)++[0 - b.1]]
def xm (bs:List (Int × Int)):List (List Int):=(bs.mapIdx (wA bs.length)).flatten
def zSa:FL:=λds R=>∃ bs:List (Int × Int),ds=[.lst (bs.map zu)]/\bs.length<=100/\R (Rm (xm bs))
abbrev wB (m:MD):D:=.tup [Rm m.rows,Tb m.nexts,L m.steer,Tb m.push,L m.add,.int m.div]
abbrev qh (n:Nat) (bs:List (Int × Int)) (ms:List MD) (u:Int):D:=.tup [.int (n:Int),.lst (bs.map zu),.lst (ms.map wB),.int u]
def zSc (C CM:Addr):FL:=λds R=>∃ n bs ms u,ds=[qh n bs ms u]/\vA n bs ms/\R (wx C CM n bs ms)
theorem zOm (i j:Nat):(if decide ((j:Int)=(i:Int))=true then (1:Int) else 0)=if (j:Int)=(i:Int) then 1 else 0:=by
 by_cases c:(j:Int)=(i:Int)
 ·rw [if_pos c,if_pos (decide_eq_true c)]
 ·rw [if_neg c,if_neg (by rw [decide_eq_false c]; exact du)]
theorem Q3 {bs:List (Int × Int)} {k:Nat} (h:k < bs.length) {i:Int} (e:i=(k:Int)):yo (bs.map zu) i=some (zu bs[k]):=by
 rw [ga,e]
 unfold yo xw
 rw [if_pos (by omega),if_pos (by omega)]
 show fF zu bs[((k:Nat):Int).toNat]? = _
 rw [show ((k:Nat):Int).toNat=k by omega,b_ h]
 rfl
theorem zMw {α:Type} {l:List (List α)} {k:Nat} {x:List α} (h:l[k]? = some x):(l.take (k + 1)).flatten=(l.take k).flatten++x:=by
 rw [uK h,List.flatten_append,List.flatten_singleton]
theorem zSr {e:Nat} {a b:Int} (h:Bd e a) (k:Bd e b):Bd e (max a b):=by
 rw [Int.max_def]
 split
 ·exact k
 ·exact h
theorem uY {y:Int} {f n:Nat} (h:f < 2 ^ n) (h1 : -(f:Int)<=y) (h2:y<=(f:Int)):Bd n y:=by
 show y.natAbs < 2 ^ n
 omega
theorem zJT {α β:Type} {f:α->β} {l:List α} {k:Nat} {y:β} (h:(l.map f)[k]? = some y):∃ x,l[k]? = some x/\f x=y:=by
 rw [c_] at h
 cases c:l[k]? with
 | none=>rw [c] at h; cases h
 | some x=>rw [c] at h; cases h; exact ⟨x,rfl,rfl⟩
def zn:List Int->List (Int × Int)->Int
 | x :: xs,b :: bs=>max (x * b.1) (x * b.2) + zn xs bs
 | _,_=>0
theorem zI4:∀ {xs:List Int} {bs:List (Int × Int)} {x:Int} {b:Int × Int},xs.length=bs.length->zn (xs++[x]) (bs++[b])=zn xs bs + max (x * b.1) (x * b.2)
 | [],[],x,b,_=>by show max (x * b.1) (x * b.2) + 0=0 + max (x * b.1) (x * b.2); omega
 | [],_ :: _,_,_,h=>nomatch h
 | _ :: _,[],_,_,h=>nomatch h
 | y :: xs,c :: bs,x,b,h=>by
  show max (y * c.1) (y * c.2) + zn (xs++[x]) (bs++[b])=max (y * c.1) (y * c.2) + zn xs bs + max (x * b.1) (x * b.2)
  rw [zI4 (Nat.succ.inj h)]
  omega
theorem zO0 {e f:Nat}:∀ {xs:List Int} {bs:List (Int × Int)},(∀ x∈xs,Bd f x)->(∀ b∈bs,Bd e b.1/\Bd e b.2)->Bd (f + e + xs.length) (zn xs bs)
 | [],_,_,_=>wf
 | _ :: _,[],_,_=>wf
 | x :: xs,b :: bs,h,k=>by
  have h1:=zSr ((h x cO).mul (k b cO).1) ((h x cO).mul (k b cO).2)
  have h2:=zO0 (xs:=xs) (bs:=bs) (λy hy=>h y (cK _ hy)) λc hc=>k c (cK _ hc)
  exact (h1.mono (eQ _ _)).add h2
theorem zI3:∀ (xs:List Int) (bs:List (Int × Int)),zn (xs.take (min xs.length bs.length)) (bs.take (min xs.length bs.length))=zn xs bs
 | [],bs=>by rw [ng,Nat.zero_min]; rfl
 | x :: xs,[]=>by rw [ng,Nat.min_zero]; rfl
 | x :: xs,b :: bs=>by
  rw [dB,dB,Nat.succ_min_succ,iI,iI]
  show _ + zn _ _=_ + zn _ _
  rw [zI3 xs bs]
def zSZ:FL:=λds R=>∃ (d:D) (ns:List Int) (bs:List (Int × Int)) (e:Nat),ds=[d,.lst (bs.map zu)]/\IS d ns/\ns.length<=3/\(∀ x∈ns,Bd 200 x)/\e<=500/\(∀ b∈bs,Bd e b.1/\Bd e b.2)/\R (.int (zn ns bs))
structure ZA (n w:Nat) (m:MD):Prop where
 ok:vZ m n w
 nx:∀ r∈m.nexts,∀ x∈r,Bd 4 x
 ps:∀ r∈m.push,∀ x∈r,Bd 4 x
 ad:∀ x∈m.add,Bd 110 x
 st:∀ x∈m.steer,x=0
 dv:Bd 3 m.div
 r1:m.rows.length<=1
 rb:∀ r∈m.rows,(∀ x∈r.take n,Bd 4 x)/\∀ x∈r,Bd 110 x
theorem ZA.mse {n w:Nat} {m:MD} (h:ZA n w m):k9 200 m:=⟨λr hr x hx=>(h.nx r hr x hx).mono,λx hx=>by rw [h.st x hx]; exact wf,λr hr x hx=>(h.ps r hr x hx).mono,λx hx=>(h.ad x hx).mono,h.dv.mono,λr hr x hx=>((h.rb r hr).2 x hx).mono,by have:=h.r1; omega⟩
def fMd:FL:=λds R=>∃ (c:Int) (n w:Nat) (u:Int) (sp:Bool),ds=[.int c,.int (n:Int),.int (w:Int),.int u,.bool sp]/\1<=n/\n<=3/\w<=2/\1<=u/\Bd 100 u/\∀ m,ZA n w m->R (wB m)
structure wy (n:Nat) (bs:List (Int × Int)) (ms:List MD) (u:Int):Prop where
 n1:1<=n
 n3:n<=3
 b2:bs.length<=2
 bb:∀ b∈bs,b.1<=b.2/\Bd 105 b.1/\Bd 105 b.2
 m1:1<=ms.length
 m3:ms.length<=3
 md:∀ m∈ms,ZA n bs.length m
 u1:1<=u
 bu:Bd 100 u
theorem wy.ok {n:Nat} {bs:List (Int × Int)} {ms:List MD} {u:Int} (h:wy n bs ms u):vA n bs ms:=⟨h.n1,h.n3,λb hb=>(h.bb b hb).1,by have:=h.b2; omega,h.m1,by have:=h.m3; omega,λm hm=>(h.md m hm).ok⟩
theorem wy.cl {n:Nat} {bs:List (Int × Int)} {ms:List MD} {u:Int} (h:wy n bs ms u):Qb ms=true:=di.mpr λm hm=>di.mpr λx hx=>decide_eq_true ((h.md m hm).st x hx)
theorem wy.ths {n:Nat} {bs:List (Int × Int)} {ms:List MD} {u:Int} (h:wy n bs ms u):ThS n bs ms:=⟨h.ok,λm hm=>(h.md m hm).mse.ms (by decide),λb hb=>⟨(h.bb b hb).2.1.mono,(h.bb b hb).2.2.mono⟩⟩
def XT:FL:=λds R=>∃ ns,ds=[.scr ns]/\∀ n bs ms u,wy n bs ms u->n<=2->R (qh n bs ms u)
structure xR (room:List (List Int)) (n b:Nat):Prop where
 few:room.length<=12
 row:∀ r∈room,r.length=n + 1
 co:∀ r∈room,∀ x∈r.take n,Bd 4 x
 bo:∀ r∈room,Bd b (r.getD n 0)
theorem xR.wid {room:List (List Int)} {n b c:Nat} (h:xR room n b) (k:b<=c):xR room n c:=⟨h.few,h.row,h.co,λr hr=>(h.bo r hr).mono k⟩
theorem zLf {r:List Int} {n:Nat} (h:r.length=n + 1) {x:Int} (hx:x∈r):x∈r.take n\/x=r.getD n 0:=by
 rw [<- UE h] at hx
 rcases dX.mp hx with hx | hx
 ·exact .inl hx
 ·exact .inr (dh.mp hx)
theorem xR.rw {room:List (List Int)} {n b:Nat} (h:xR room n b) (hb:b<=220):k8 room n:=⟨by have:=h.few; omega,λr hr=>⟨h.row r hr,λx hx=>by
 rcases zLf (h.row r hr) hx with z | z
 ·exact (h.co r hr x z).mono
 ·rw [z]; exact (h.bo r hr).mono hb⟩⟩
open Classical in
noncomputable def mR (room:List (List Int)) (n:Nat) (us:List Int):vd:=if h:∃ R,(∃ m,v8 (room++zb n) n room.length us m (FC (room++zb n) n room.length room.length) R)/\v9 (room++zb n) n room.length us R then Classical.choose h else .emp []
theorem Q4 {room:List (List Int)} {n b:Nat} {us:List Int} (h:xR room n b) (hb:b<=220) (n1:1<=n) (n2:n<=2) (lu:us.length=n):(∃ m,v8 (room++zb n) n room.length us m (FC (room++zb n) n room.length room.length) (mR room n us))/\v9 (room++zb n) n room.length us (mR room n us):=by
 obtain ⟨m,R,z,g⟩:=zNf (UH (h.rw hb) n1 n2).ok lu
 have ex:∃ R,(∃ m,v8 (room++zb n) n room.length us m (FC (room++zb n) n room.length room.length) R)/\v9 (room++zb n) n room.length us R:=⟨R,⟨m,z⟩,g⟩
 unfold mR
 rw [dif_pos ex]
 exact iq ex
theorem zOi {room:List (List Int)} {n b:Nat} {us:List Int} (h:xR room n b) (hb:b<=220) (n1:1<=n) (n2:n<=2) (lu:us.length=n):∃ m,v8 (room++zb n) n room.length us m (FC (room++zb n) n room.length room.length) (mR room n us):=(Q4 h hb n1 n2 lu).1
def AtC (rows:List (List Int)) (n:Nat) (us:List Int):vd->Prop
 | .mst f _ _ _=>∃ cs,Cr rows n cs/\f=zX (yC us (zW rows cs n)).1 (yC us (zW rows cs n)).2
 | _=>True
theorem zSo {rows:List (List Int)} {n count:Nat} {us:List Int} (hc:count<=rows.length):∀ {m:Nat} {cs:List Nat} {R:vd},jX rows n count us m cs R->Cr rows n cs->AtC rows n us R
 | _,_,_,.mst _,C=>⟨_,C,rfl⟩
 | _,_,_,.opn _ _,_=>trivial
 | _,_,_,.go h M z,C=>zSo hc z (WX C hc h.lt (C.wayIs h.lt) M.lt M.up).1
theorem zR9 {rows:List (List Int)} {n count:Nat} {us:List Int} (hc:count<=rows.length):∀ {m:Nat} {cs:List Nat} {R:vd},v8 rows n count us m cs R->Cr rows n cs->AtC rows n us R
 | _,_,_,.done _ z,C=>zSo hc z C
 | _,_,_,.emp _ _,_=>trivial
 | _,_,_,.go h l z,C=>zR9 hc z (C.exch l.lt (dg h.1 hc) λy=>by
  have:=l.fit
  have y:YC rows n _ (rows.getD _ []) _=0:=y
  rw [y] at this
  exact absurd this eX)
abbrev Aq (V x:Rat):Prop:=-V<=x/\x<=V
theorem Aq.mul {U X u x:Rat} (h:Aq U u) (k:Aq X x):Aq (U * X) (u * x):=by
 have a:=dJ (show 0<=U - u by grind) (show 0<=X + x by grind)
 have b:=dJ (show 0<=U + u by grind) (show 0<=X - x by grind)
 have c:=dJ (show 0<=U - u by grind) (show 0<=X - x by grind)
 have d:=dJ (show 0<=U + u by grind) (show 0<=X + x by grind)
 exact ⟨by grind,by grind⟩
theorem Q5 {d N M:Int} {x:Rat} (d0:d≠0) (e:(d:Rat) * x=(N:Rat)) (h1 : -M<=N) (h2:N<=M):Aq (M:Rat) x:=by
 have k1 : -(M:Rat)<=(N:Rat):=by exact_mod_cast h1
 have k2:(N:Rat)<=(M:Rat):=by exact_mod_cast h2
 rcases (by omega:1<=d\/1<=-d) with z | z
 ·have z:(1:Rat)<=(d:Rat):=by exact_mod_cast z
  refine ⟨?_,?_⟩ <;> apply da <;> intro c
  ·have:=dJ (show 0<=(d:Rat) - 1 by grind) (show 0<=-x by grind)
   grind
  ·have:=dJ (show 0<=(d:Rat) - 1 by grind) (show 0<=x by grind)
   grind
 ·have z:(1:Rat)<=-(d:Rat):=by exact_mod_cast z
  refine ⟨?_,?_⟩ <;> apply da <;> intro c
  ·have:=dJ (show 0<=-(d:Rat) - 1 by grind) (show 0<=-x by grind)
   grind
  ·have:=dJ (show 0<=-(d:Rat) - 1 by grind) (show 0<=x by grind)
   grind
theorem XU {k:Nat} {x:Int} (h:Bd k x) : -(2:Int) ^ k<=x/\x<=(2:Int) ^ k:=by
 have h:x.natAbs < 2 ^ k:=h
 have e:(2:Int) ^ k=((2 ^ k:Nat):Int):=by rw [nh]; rfl
 rw [e]
 omega
theorem cr2 {ra rb re sa sb se:Int} {x y:Rat} (p:0 + (ra:Rat) * x + (rb:Rat) * y=(re:Rat)) (q:0 + (sa:Rat) * x + (sb:Rat) * y=(se:Rat)):((ra * sb - rb * sa:Int):Rat) * x=((re * sb - se * rb:Int):Rat)/\((ra * sb - rb * sa:Int):Rat) * y=((se * ra - re * sa:Int):Rat):=by
 rw [fg,fg,fg,cM,cM,cM,cM,cM,cM]
 exact ⟨by grind,by grind⟩
theorem crd {rows:List (List Int)} {n b:Nat} {cs:List Nat} (C:Cr rows n cs) (n2:n<=2) (hc:∀ r∈rows,∀ x∈r.take n,Bd 4 x) (hb:∀ r∈rows,Bd b (r.getD n 0)) {j:Nat} (hj:j < n):Aq (((2:Int) ^ (b + 5):Int):Rat) (ze (zW rows cs n) j):=by
 have n1:=C.n1
 have D:=C.detC
 have row:∀ k,k < n->(∀ i,i < n->Bd 4 ((rows.getD (cs.getD k 0) []).getD i 0))/\Bd b ((rows.getD (cs.getD k 0) []).getD n 0):=λk hk=>by
  obtain ⟨c1,c2⟩:=C.at_ hk
  have hm:=yc (d:=[]) c1
  exact ⟨λi hi=>hc _ hm _ (by rw [<- qR hi]; exact yc (by rw [cU]; omega)),hb _ hm⟩
 rcases (by omega:n=1\/n=2) with rfl | rfl
 ·obtain rfl:j=0:=by omega
  have p:=C.pt (k:=0) (by omega)
  obtain ⟨a,e⟩:=row 0 (by omega)
  have D:(rows.getD (cs.getD 0 0) []).getD 0 0≠0:=D
  have p:(0:Rat) + _ * ze (zW rows cs 1) 0=_:=p
  obtain ⟨z1,z2⟩:=XU (e.mono (show b<=b + 5 by omega))
  exact Q5 D ((Rat.zero_add _).symm.trans p) z1 z2
 ·have p:=C.pt (k:=0) (by omega)
  have q:=C.pt (k:=1) (by omega)
  obtain ⟨a,e⟩:=row 0 (by omega)
  obtain ⟨a',e'⟩:=row 1 (by omega)
  have p:(0:Rat) + _ * ze (zW rows cs 2) 0 + _ * ze (zW rows cs 2) 1=_:=p
  have q:(0:Rat) + _ * ze (zW rows cs 2) 0 + _ * ze (zW rows cs 2) 1=_:=q
  have D:(rows.getD (cs.getD 0 0) []).getD 0 0 * (rows.getD (cs.getD 1 0) []).getD 1 0 - (rows.getD (cs.getD 0 0) []).getD 1 0 * (rows.getD (cs.getD 1 0) []).getD 0 0≠0:=D
  obtain ⟨k1,k2⟩:=cr2 p q
  rcases (by omega:j=0\/j=1) with rfl | rfl
  ·obtain ⟨z1,z2⟩:=XU (((e.mul (a' 1 (by omega))).sub (e'.mul (a 1 (by omega)))).mono (show _<=b + 5 by omega))
   exact Q5 D k1 z1 z2
  ·obtain ⟨z1,z2⟩:=XU (((e'.mul (a 0 (by omega))).sub (e.mul (a' 0 (by omega)))).mono (show _<=b + 5 by omega))
   exact Q5 D k2 z1 z2
def RV (k:Nat) (f:Int × Int):Prop:=0 < f.2/\-((2:Int) ^ k * f.2)<=f.1/\f.1<=(2:Int) ^ k * f.2
theorem zSu {room:List (List Int)} {n b:Nat} (h:xR room n b):(∀ r∈room++zb n,∀ x∈r.take n,Bd 4 x)/\∀ r∈room++zb n,Bd b (r.getD n 0):=by
 refine ⟨λr hr x hx=>?_,λr hr=>?_⟩ <;> rcases dX.mp hr with hr | hr
 ·exact h.co r hr x hx
 ·obtain ⟨k,_,rfl⟩:=cP.mp hr
  rw [dl (by rw [v5]; exact cQ _)] at hx
  exact W7 (xl (by decide)) x (dY hx)
 ·exact h.bo r hr
 ·obtain ⟨k,_,rfl⟩:=cP.mp hr
  rw [uN (v5 ..)]
  exact wf
theorem XV {room:List (List Int)} {n b:Nat} {us:List Int} {f:Int × Int} {D:Int} {ns:List Int} {pts:List (Int × Int)} (h:xR room n b) (hb:b<=220) (n1:1<=n) (n2:n<=2) (lu:us.length=n) (bu:∀ x∈us,Bd 12 x) (e:mR room n us=.mst f D ns pts):RV (b + 18) f:=by
 obtain ⟨m,run⟩:=zOi h hb n1 n2 lu
 have X:=UH (h.rw hb) n1 n2
 have ll:=X.ok.len
 have at_:=zR9 (by omega) run (Jf X.ok room.length (cQ _))
 rw [e] at at_
 obtain ⟨cs,C,rfl⟩:=at_
 obtain ⟨s1,s2,_⟩:=ug C.sqC C.det
 obtain ⟨a1,a2⟩:=Wb (us:=us) (pts:=zW (room++zb n) cs n) (by rw [lu]; exact s1.symm) s2
 rw [jt lu] at a2
 have ane:(yC us (zW (room++zb n) cs n)).2≠0:=by omega
 obtain ⟨f0,v⟩:=jA (t:=(yC us (zW (room++zb n) cs n)).1) ane
 rw [XG ane a2] at v
 have hu:∀ j,j < n->Aq (((2:Int) ^ 12:Int):Rat) ((us.getD j 0:Int):Rat):=λj hj=>by
  obtain ⟨z1,z2⟩:=XU (bu _ (yc (d:=0) (show j < us.length by omega)))
  exact ⟨by exact_mod_cast z1,by exact_mod_cast z2⟩
 have hx:=λj (hj:j < n)=>(hu j hj).mul (crd C n2 (zSu h).1 (zSu h).2 hj)
 have pw:(2:Int) ^ (b + 18)=2 * ((2:Int) ^ 12 * (2:Int) ^ (b + 5)):=by
  rw [<- Int.pow_add,show b + 18=(12 + (b + 5)) + 1 by omega,mL]
  omega
 have W:Aq (((2:Int) ^ (b + 18):Int):Rat) (vl n us (ze (zW (room++zb n) cs n))):=by
  rw [pw,cM,cM]
  unfold vl
  rcases (by omega:n=1\/n=2) with rfl | rfl
  ·have x0:=hx 0 (by omega)
   show Aq _ (0 + _ * _)
   have:((2:Int):Rat)=2:=rfl
   rw [this]
   constructor <;> grind
  ·have x0:=hx 0 (by omega)
   have x1:=hx 1 (by omega)
   show Aq _ (0 + _ * _ + _ * _)
   have:((2:Int):Rat)=2:=rfl
   rw [this]
   constructor <;> grind
 show RV (b + 18) (zN (yC us (zW (room++zb n) cs n)).1 (yC us (zW (room++zb n) cs n)).2,zK (yC us (zW (room++zb n) cs n)).1 (yC us (zW (room++zb n) cs n)).2)
 generalize zN (yC us (zW (room++zb n) cs n)).1 (yC us (zW (room++zb n) cs n)).2=t at *
 generalize zK (yC us (zW (room++zb n) cs n)).1 (yC us (zW (room++zb n) cs n)).2=d at *
 have vm:=vL (p:=(t,d)) f0
 rw [v] at vm
 have d0:=vD f0
 refine ⟨f0,?_,?_⟩
 ·have:=dJ (show 0<=vl n us (ze (zW (room++zb n) cs n)) + (((2:Int) ^ (b + 18):Int):Rat) by grind) (dU d0)
  have z : -((((2:Int) ^ (b + 18) * d:Int)):Rat)<=(t:Rat):=by rw [cM]; grind
  exact_mod_cast z
 ·have:=dJ (show 0<=(((2:Int) ^ (b + 18):Int):Rat) - vl n us (ze (zW (room++zb n) cs n)) by grind) (dU d0)
  have z:(t:Rat)<=((((2:Int) ^ (b + 18) * d:Int)):Rat):=by rw [cM]; grind
  exact_mod_cast z
def vR (x d:Int):Int:=-((-x).fdiv d)
theorem zOF {k:Nat} {x:Int} (h1 : -(2:Int) ^ k<=x) (h2:x<=(2:Int) ^ k):Bd (k + 1) x:=by
 have e:(2:Int) ^ k=((2 ^ k:Nat):Int):=by rw [nh]; rfl
 have p:0 < 2 ^ k:=Nat.pow_pos (by decide)
 show x.natAbs < 2 ^ (k + 1)
 rw [mD]
 rw [e] at h1 h2
 omega
theorem zOy {x d:Int} {k:Nat} (d0:0 < d) (h1 : -((2:Int) ^ k * d)<=x) (h2:x<=(2:Int) ^ k * d):Bd (k + 1) (vR x d):=by
 unfold vR
 rw [fo _ (iw d0)]
 have a : -(2:Int) ^ k<=(-x) / d:=Int.le_ediv_of_mul_le d0 (by rw [ni]; omega)
 have b:(-x) / d<=(2:Int) ^ k:=Int.ediv_le_of_le_mul d0 (by omega)
 exact zOF (by omega) (by omega)
theorem zMN {p q:Int × Int} (p0:0 < p.2) (q0:0 < q.2) (h:zU p=zU q):vR p.1 p.2=vR q.1 q.2:=by
 have a:=vL p0
 have b:=vL q0
 have e:(p.1:Rat) * (q.2:Rat)=(q.1:Rat) * (p.2:Rat):=by rw [<- a,<- b,h]; grind
 have e:p.1 * q.2=q.1 * p.2:=by exact_mod_cast e
 unfold vR
 rw [<- j' (-p.1) p.2 q0,<- j' (-q.1) q.2 p0,fK p.2 q.2]
 congr 2
 rw [Int.mul_neg,Int.mul_neg,fK q.2,e,fK p.2]
def jJ:vd->Bool
 | .mst ..=>true
 | _=>false
def Q6:vd->Bool
 | .opn ..=>true
 | _=>false
def wL:vd->Int × Int
 | .mst f _ _ _=>f
 | _=>(0,1)
theorem zOS {room:List (List Int)} {n b:Nat} {us:List Int} (h:xR room n b) (hb:b<=220) (n1:1<=n) (n2:n<=2) (lu:us.length=n) (bu:∀ x∈us,Bd 12 x):RV (b + 18) (wL (mR room n us)):=by
 have p:(0:Int) < (2:Int) ^ (b + 18):=Int.pow_pos (by decide)
 cases e:mR room n us with
 | mst f _ _ _=>exact XV h hb n1 n2 lu bu e
 | emp _=>exact ⟨f8,by show -(_ * (1:Int))<=0; omega,by show 0<=_ * (1:Int); omega⟩
 | opn _ _=>exact ⟨f8,by show -(_ * (1:Int))<=0; omega,by show 0<=_ * (1:Int); omega⟩
noncomputable def uZ (room:List (List Int)) (n:Nat) (s:List Int):Int:=vR (wL (mR room n s)).1 (wL (mR room n s)).2
noncomputable def xS (room:List (List Int)) (n:Nat) (S:List (List Int)):Option (List (List Int)):=if S.all (λs=>jJ (mR room n s))=true then some (S.map λs=>s++[uZ room n s]) else none
def dO:Option (List (List Int))->D
 | none=>.non
 | some T=>Rm T
structure ZB (S:List (List Int)) (n:Nat):Prop where
 few:S.length<=8
 ok:∀ s∈S,s.length=n/\∀ x∈s,Bd 4 x
theorem zOo {room:List (List Int)} {n:Nat} {S:List (List Int)} (h:xR room n 110) (n1:1<=n) (n2:n<=2) (hS:ZB S n) {T:List (List Int)} (e:xS room n S=some T):xR T n 132:=by
 unfold xS at e
 split at e
 ·cases e
  refine ⟨by rw [a_]; have:=hS.few; omega,λr hr=>?_,λr hr x hx=>?_,λr hr=>?_⟩ <;> obtain ⟨s,hs,rfl⟩:=cP.mp hr <;> obtain ⟨ls,bs⟩:=hS.ok s hs
  ·rw [cJ,ls]; rfl
  ·rw [dl (by omega),cV (by omega)] at hx
   exact bs x hx
  ·rw [uN ls]
   obtain ⟨a,b,c⟩:=zOS (us:=s) h (by decide) n1 n2 ls λx hx=>(bs x hx).mono
   exact (zOy a b c).mono
 ·cases e
def uw (n:Nat) (m:MD) (s:List Int):List Int:=(df n).map (yE s m.nexts)
def wj (bs:List (Int × Int)) (m:MD) (s:List Int):Int:=zn ((df bs.length).map (yE s m.push)) bs + yI s m.add
noncomputable def wU (room:List (List Int)) (n:Nat) (m:MD) (s:List Int):vd:=mR (room++m.rows) n (uw n m s)
noncomputable def bV (room:List (List Int)) (n:Nat) (bs:List (Int × Int)) (m:MD) (s:List Int):Int:=vR ((wL (wU room n m s)).1 + wj bs m s * (wL (wU room n m s)).2) ((wL (wU room n m s)).2 * m.div)
noncomputable def bL (room:List (List Int)) (n:Nat) (bs:List (Int × Int)) (ms:List MD) (s:List Int):List Int:=(ms.filter λm=>jJ (wU room n m s)).map λm=>bV room n bs m s
noncomputable def wm (room:List (List Int)) (n:Nat) (bs:List (Int × Int)) (ms:List MD) (s:List Int) (v:Int):Option Int:=if ms.any (λm=>Q6 (wU room n m s))=true then none else some ((bL room n bs ms s).foldl max v)
noncomputable def wM (n:Nat) (bs:List (Int × Int)) (ms:List MD) (room:List (List Int)):Option (List (List Int)):=if room.all (λr=>(wm room n bs ms (r.take n) (r.getD n 0)).isSome)=true then some (room.map λr=>r.take n++[(wm room n bs ms (r.take n) (r.getD n 0)).getD 0]) else none
noncomputable def jK (n:Nat) (bs:List (Int × Int)) (ms:List MD):Nat->Option (List (List Int))->Option (List (List Int))
 | 0,_=>none
 | _ + 1,none=>none
 | t + 1,some T=>if wM n bs ms T=some T then some T else jK n bs ms t (wM n bs ms T)
theorem Q7 {n:Nat} {bs:List (Int × Int)} {ms:List MD}:∀ t,jK n bs ms t none=none
 | 0=>rfl
 | _ + 1=>rfl
theorem UL:∀ {xs:List Int} {v:Int},xs.foldl max v∈v :: xs/\∀ x∈v :: xs,x<=xs.foldl max v
 | [],v=>⟨cO,λx hx=>by rw [dh.mp hx]; exact ig _⟩
 | y :: xs,v=>by
  obtain ⟨a,b⟩:=UL (xs:=xs) (v:=max v y)
  have c:=b (max v y) cO
  show xs.foldl max (max v y)∈v :: y :: xs/\∀ x∈v :: y :: xs,x<=xs.foldl max (max v y)
  refine ⟨?_,λx hx=>?_⟩
  ·rcases de.mp a with a | a
   ·rw [a]
    rcases Int.le_total v y with z | z
    ·rw [Int.max_eq_right z]; exact cK _ cO
    ·rw [Int.max_eq_left z]; exact cO
   ·exact cK _ (cK _ a)
  ·rcases de.mp hx with rfl | hx
   ·omega
   ·rcases de.mp hx with rfl | hx
    ·omega
    ·exact b x (cK _ hx)
theorem Q8 {n w:Nat} {m:MD} {s:List Int} (M:ZA n w m) (n2:n<=2) (ls:s.length=n) (bs:∀ x∈s,Bd 4 x):(uw n m s).length=n/\∀ x∈uw n m s,Bd 12 x:=by
 refine ⟨by unfold uw; rw [a_,cX],λx hx=>?_⟩
 obtain ⟨j,_,rfl⟩:=cP.mp hx
 exact (zMX bs M.nx).mono (by omega)
theorem zR8 {n:Nat} {bs:List (Int × Int)} {ms:List MD} {u:Int} {m:MD} {s:List Int} (T:wy n bs ms u) (hm:m∈ms) (n2:n<=2) (ls:s.length=n) (hs:∀ x∈s,Bd 4 x):(∀ x∈(df bs.length).map (yE s m.push),Bd 12 x)/\Bd 121 (wj bs m s):=by
 have b2:=T.b2
 have a:∀ x∈(df bs.length).map (yE s m.push),Bd 12 x:=λx hx=>by
  obtain ⟨j,_,rfl⟩:=cP.mp hx
  exact (zMX hs (T.md m hm).ps).mono (by omega)
 refine ⟨a,?_⟩
 have t:Bd 120 (zn ((df bs.length).map (yE s m.push)) bs):=(zO0 a λb hb=>(T.bb b hb).2).mono (by rw [a_,cX]; omega)
 exact t.add ((Qe hs (T.md m hm).ad).mono (by omega))
theorem xR.app {room:List (List Int)} {n b:Nat} {bs:List (Int × Int)} {ms:List MD} {u:Int} {m:MD} (h:xR room n b) (hb:110<=b) (few:room.length<=8) (T:wy n bs ms u) (hm:m∈ms):xR (room++m.rows) n b:=by
 have M:=T.md m hm
 have r1:=M.r1
 refine ⟨by rw [cJ]; omega,λr hr=>?_,λr hr=>?_,λr hr=>?_⟩ <;> rcases dX.mp hr with hr | hr
 ·exact h.row r hr
 ·exact M.ok.rows r hr
 ·exact h.co r hr
 ·exact (M.rb r hr).1
 ·exact h.bo r hr
 ·exact ((M.rb r hr).2 _ (yc (by rw [M.ok.rows r hr]; omega))).mono hb
theorem XW {room:List (List Int)} {n b:Nat} {bs:List (Int × Int)} {ms:List MD} {u:Int} {m:MD} {s:List Int} (h:xR room n b) (hb:110<=b) (hb2:b<=220) (few:room.length<=8) (T:wy n bs ms u) (hm:m∈ms) (n2:n<=2) (ls:s.length=n) (hs:∀ x∈s,Bd 4 x):Bd (b + 22) (bV room n bs m s):=by
 have M:=T.md m hm
 obtain ⟨l1,l2⟩:=Q8 M n2 ls hs
 obtain ⟨a,b1,b2⟩:=zOS (h.app hb few T hm) hb2 T.n1 n2 l1 l2
 obtain ⟨m1,m2⟩:=XU ((zR8 T hm n2 ls hs).2.mono (show 121<=b + 18 by omega))
 have d1:=M.ok.div
 unfold bV
 show Bd _ (vR ((wL (mR (room++m.rows) n (uw n m s))).1 + wj bs m s * (wL (mR (room++m.rows) n (uw n m s))).2) ((wL (mR (room++m.rows) n (uw n m s))).2 * m.div))
 generalize wL (mR (room++m.rows) n (uw n m s))=f at *
 generalize wj bs m s=mo at *
 have p:(0:Int) < (2:Int) ^ (b + 18):=Int.pow_pos (by decide)
 have x1:=ix m1 (iw a)
 have x2:=ix m2 (iw a)
 rw [ni] at x1
 have y:=e6 (show f.2<=f.2 * m.div by
  have:=e6 d1 (iw a)
  omega) (show 0<=(2:Int) ^ (b + 19) by rw [mL]; omega)
 have e:(2:Int) ^ (b + 19) * f.2=2 * ((2:Int) ^ (b + 18) * f.2):=by rw [mL,fK _ 2,nE]
 exact (zOy (k:=b + 19) (eO a (by omega)) (by omega) (by omega)).mono (by omega)
theorem XX {room:List (List Int)} {n b:Nat} {bs:List (Int × Int)} {ms:List MD} {u:Int} {s:List Int} {v:Int} (h:xR room n b) (hb:110<=b) (hb2:b<=220) (few:room.length<=8) (T:wy n bs ms u) (n2:n<=2) (ls:s.length=n) (hs:∀ x∈s,Bd 4 x) (bv:Bd b v):Bd (b + 22) ((wm room n bs ms s v).getD 0):=by
 unfold wm
 split
 ·exact wf
 ·rcases de.mp (UL (xs:=bL room n bs ms s) (v:=v)).1 with z | z
  ·show Bd _ (lO max v _)
   rw [z]
   exact bv.mono (by omega)
  ·obtain ⟨m,hm,e⟩:=cP.mp z
   show Bd _ (lO max v _)
   rw [<- e]
   exact XW h hb hb2 few T (eL.mp hm).1 n2 ls hs
theorem zR3 {room:List (List Int)} {n b:Nat} {bs:List (Int × Int)} {ms:List MD} {u:Int} (h:xR room n b) (hb:110<=b) (hb2:b<=220) (few:room.length<=8) (T:wy n bs ms u) (n2:n<=2) {T':List (List Int)} (e:wM n bs ms room=some T'):xR T' n (b + 22)/\T'.length<=8:=by
 unfold wM at e
 split at e
 ·cases e
  refine ⟨⟨by rw [a_]; omega,λr hr=>?_,λr hr x hx=>?_,λr hr=>?_⟩,by rw [a_]; exact few⟩ <;> obtain ⟨s,hs,rfl⟩:=cP.mp hr <;> have ls:=h.row s hs <;> have lt:(s.take n).length=n:=by rw [cU]; omega
  ·rw [cJ,lt]; rfl
  ·rw [dl (by omega),cV (by omega)] at hx
   exact h.co s hs x hx
  ·rw [uN lt]
   exact XX h hb hb2 few T n2 lt (h.co s hs) (h.bo s hs)
 ·cases e
theorem zLy {room:List (List Int)} {n:Nat} {S T:List (List Int)} (hS:ZB S n) (e:xS room n S=some T):T.length<=8:=by
 unfold xS at e
 split at e
 ·cases e
  rw [a_]
  exact hS.few
 ·cases e
theorem Q9 {n:Nat} {bs:List (Int × Int)} {ms:List MD} (t:Nat) (T:List (List Int)):jK n bs ms (t + 1) (some T)=if wM n bs ms T=some T then some T else jK n bs ms t (wM n bs ms T):=rfl
def XY:FL:=λds R=>∃ room n b us c,ds=[Rm room,U (us++[c])]/\xR room n b/\b<=220/\1<=n/\n<=2/\us.length=n/\(∀ x∈us,Bd 12 x)/\g6 R (mR room n us)
theorem zOg (ds:List D) (R:D->Prop) (h:XY ds R):UI ds R:=by
 obtain ⟨room,n,b,us,c,rfl,h,hb,n1,n2,lu,bu,q⟩:=h
 obtain ⟨m,run⟩:=zOi h hb n1 n2 lu
 exact ⟨room,n,m,us,c,_,rfl,h.rw hb,n1,n2,lu,λx hx=>(bu x hx).mono,run,q⟩
theorem zO2 {P:Program} {w:World} {K:cI} {mg:Str->Option Value} {base:Heap} {x:Str} {ps:List Str} {k:Nat} {F G:FL} (i:∀ ds R,G ds R->F ds R) (c:Fn P w K mg base x ps k (zH F)):Fn P w K mg base x ps k (zH G):=by
 obtain ⟨f,fd,a,b⟩:=c.ex
 exact ⟨f,fd,zF.impN (λvs H Q E ⟨Z,ds,R,zd,hv,h,q⟩=>⟨Z,ds,R,zd,hv,i _ _ h,q⟩) a,b⟩
theorem zOw:∀ xs ys:List (List Int),fB (wv (xs.map U)) (wv (ys.map U))=decide (xs=ys)
 | [],[]=>rfl
 | [],_ :: _=>rfl
 | _ :: _,[]=>rfl
 | x :: xs,y :: ys=>by
  show (fR (U x).py (U y).py && fB (wv (xs.map U)) (wv (ys.map U)))=_
  rw [zOw xs ys]
  have:fR (U x).py (U y).py=decide (x=y):=by
   show fB (wv (x.map D.int)) (wv (y.map D.int))=_
   rw [Jp,Jp]
   exact zHv x y
  rw [this,fH,fE,decide_eq_true_iff,decide_eq_true_iff,decide_eq_true_iff,List.cons.injEq]
def vH (q:Int × Int × Int):Int:=if 0 < q.1 then q.2.2 else q.2.1
theorem zKf:∀ {cs:List Int} {bs:List (Int × Int)},(∀ b∈bs,b.1<=b.2)->yI cs ((cs.zip bs).map vH)=zn cs bs
 | [],_,_=>rfl
 | _ :: _,[],_=>rfl
 | c :: cs,b :: bs,h=>by
  have hb:=h b cO
  show c * (if 0 < c then b.2 else b.1) + yI cs ((cs.zip bs).map vH)=max (c * b.1) (c * b.2) + zn cs bs
  rw [zKf λx hx=>h x (cK _ hx)]
  congr 1
  by_cases z:0 < c
  ·have:=e6 hb (iw z)
   rw [if_pos z]; omega
  ·have:=iB (a:=c) (by omega) hb
   rw [if_neg z]; omega
def zOp (C CM:Addr):FL:=λds R=>∃ n bs ms a c e,ds=[wx C CM n bs ms,U (a++c++[e])]/\a.length=n/\c.length=bs.length/\bs.length<=6/\n<=3/\R (L ((c.zip bs).map vH))
def zJW (C CM:Addr):FL:=λds R=>∃ n bs ms a c e,ds=[wx C CM n bs ms,U (a++c++[e])]/\a.length=n/\c.length=bs.length/\bs.length<=6/\n<=3/\(∀ b∈bs,b.1<=b.2/\Bd 110 b.1/\Bd 110 b.2)/\(∀ x∈c,Bd 400 x)/\R (U (a++[e - zn c bs]))
theorem KA {a c:List Int} {e:Int} {n:Nat} (h:a.length=n):zv ((a++c++[e]).map D.int) none (some ((n:Nat):Int))=a.map D.int:=by
 unfold zv
 have e0:HT.sIx ((a++c++[e]).map D.int).length 0 none=0:=HT.sIx_none _ _
 have e1:HT.sIx ((a++c++[e]).map D.int).length ((a++c++[e]).map D.int).length (some ((n:Nat):Int))=n:=by rw [HT.sIx_nat,a_,cJ,cJ]; omega
 rw [e0,e1,fU,iO,<- hV,fA,dl (by omega),cV (by omega)]
theorem XZ {a c:List Int} {e:Int} {n:Nat} (h:a.length=n):zv ((a++c++[e]).map D.int) (some ((n:Nat):Int)) (some (-1))=c.map D.int:=by
 unfold zv
 have l:((a++c++[e]).map D.int).length=n + c.length + 1:=by rw [a_,cJ,cJ,h]; rfl
 have e0:HT.sIx ((a++c++[e]).map D.int).length 0 (some ((n:Nat):Int))=n:=by rw [HT.sIx_nat,l]; omega
 have e1:HT.sIx ((a++c++[e]).map D.int).length ((a++c++[e]).map D.int).length (some (-1))=n + c.length:=by
  rw [l]
  show (if (-1:Int) < 0 then ((-1:Int) + ((n + c.length + 1:Nat):Int)).toNat else min (-1:Int).toNat (n + c.length + 1))=_
  rw [if_pos (by decide)]
  omega
 rw [e0,e1,<- j_,<- hV,fA,List.drop_append_of_le_length (by omega),List.drop_eq_nil_of_le (show a.length<=n by omega),mX,show n + c.length - n=c.length by omega,dl (cQ _),cV (cQ _)]
theorem KB {a c:List Int} {e:Int}:yo ((a++c++[e]).map D.int) (-1)=some (.int e):=gp (a++c) e
theorem KC {α β:Type} {f:α->β} {l:List α} {k:Nat} {d:β} (h:(l.map f)[k]? = some d):∃ x,l[k]? = some x/\d=f x:=by
 rw [c_] at h
 cases e:l[k]? with
 | none=>rw [e] at h; cases h
 | some x=>rw [e] at h; exact ⟨x,rfl,(Option.some.inj h).symm⟩
def oI:Option Int->D
 | none=>.non
 | some x=>.int x
theorem KD:∀ a b:Option (List (List Int)),fR (dO a).py (dO b).py=decide (a=b)
 | none,none=>rfl
 | none,some _=>rfl
 | some _,none=>rfl
 | some a,some b=>(zOw a b).trans (decide_eq_decide.mpr (by rw [Option.some.injEq]))
theorem qi:∀ a:Option (List (List Int)),(dO a).pl 50=true
 | none=>rfl
 | some T=>di.mpr λd m=>by
  obtain ⟨r,_,rfl⟩:=cP.mp m
  exact gY 47 r
def g9:FL:=λds R=>∃ yq n S,ds=[Rm yq,.lst (S.map U)]/\xR yq n 110/\1<=n/\n<=2/\ZB S n/\R (dO (xS yq n S))
def Xa (C CM:Addr):FL:=λds R=>∃ n bs ms u room b s v,ds=[wx C CM n bs ms,Rm room,U (s++[v])]/\wy n bs ms u/\n<=2/\xR room n b/\110<=b/\b<=220/\room.length<=8/\s.length=n/\(∀ x∈s,Bd 4 x)/\R (oI (wm room n bs ms s v))
def kA (C CM:Addr):FL:=λds R=>∃ n bs ms u room b,ds=[wx C CM n bs ms,Rm room]/\wy n bs ms u/\n<=2/\xR room n b/\110<=b/\b<=220/\room.length<=8/\R (dO (wM n bs ms room))
def Xb (C CM:Addr):FL:=λds R=>∃ n bs ms u yq S t,ds=[wx C CM n bs ms,Rm yq,.lst (S.map U),.int ((t:Nat):Int)]/\t<=4/\wy n bs ms u/\n<=2/\xR yq n 110/\ZB S n/\R (dO (jK n bs ms (t + 1) (xS yq n S)))
theorem Xc (s:List Int) (z:Int):D.tup (s.map D.int++[.int z])=U (s++[z]):=by unfold U; rw [db]; rfl
theorem KE {α:Type} {P:α->Prop} {l:List α} {k:Nat} {x:α} (hx:l[k]? = some x) (h:∀ y∈l.take k,P y) (p:P x):∀ y∈l.take (k + 1),P y:=by
 rw [uK hx]
 exact uv h p
theorem zSF {f:Int × Int} {mo d:Int} (f0:0 < f.2) (d0:0 < d):vR (f.1 + mo * f.2) (f.2 * d)=vR (zX ((zX (f.1 * 1 - (-mo) * f.2) (f.2 * 1)).1 * (zX 1 d).1) ((zX (f.1 * 1 - (-mo) * f.2) (f.2 * 1)).2 * (zX 1 d).2)).1 (zX ((zX (f.1 * 1 - (-mo) * f.2) (f.2 * 1)).1 * (zX 1 d).1) ((zX (f.1 * 1 - (-mo) * f.2) (f.2 * 1)).2 * (zX 1 d).2)).2:=by
 obtain ⟨m1,m2⟩:=Qo (p:=f) (q:=(-mo,1)) f0 f8
 obtain ⟨w1,w2⟩:=jA (t:=1) (b:=d) (by omega)
 obtain ⟨k1,k2⟩:=Qp (p:=zX (f.1 * 1 - (-mo) * f.2) (f.2 * 1)) (q:=zX 1 d) m1 w1
 refine zMN (p:=(f.1 + mo * f.2,f.2 * d)) (eO f0 d0) k1 ?_
 rw [show zU _=_ from k2,show zU (zX (f.1 * 1 - (-mo) * f.2) (f.2 * 1))=_ from m2,show zU (zX 1 d)=_ from w2,Qn]
 have a:=vD f0
 have b:=vD d0
 have c:=vL f0
 refine XG (by have:=eO f0 d0; omega) ?_
 rw [eB,cM,cM,iJ,dG,show ((1:Int):Rat)=1 from rfl,nj,<- c]
 have e:=dF (d:Rat) (by grind)
 grind
theorem zOz {bx:List (Int × Int)} {n:Nat} (lb:bx.length=n) (n2:n<=2) (hb:∀ b∈bx,Bd 105 b.1/\Bd 105 b.2):xR (xm bx) n 106/\(xm bx).length=2 * n:=by
 have len:(xm bx).length=2 * n:=by
  unfold xm
  rw [lY]
  have e:(bx.mapIdx (wA bx.length)).map fY=cS n 2:=by
   refine mT (by simp; omega) λi h1 h2=>?_
   simp [wA]
  rw [e]
  simp
  omega
 have key:∀ r∈xm bx,∃ (us:List Int) (v:Int),r=us++[v]/\us.length=n/\(∀ x∈us,Bd 4 x)/\Bd 106 v:=λr hr=>by
  obtain ⟨l,hl,hr⟩:=lg.mp hr
  obtain ⟨i,hi,rfl⟩:=lK.mp hl
  obtain ⟨b1,b2⟩:=hb _ (d6 hi)
  have bu:∀ x∈yy (i:Int) bx.length 1,Bd 4 x:=W7 (xl (by decide))
  rcases de.mp hr with rfl | hr
  ·exact ⟨_,_,rfl,by rw [v5]; exact lb,bu,b2.mono⟩
  ·rw [dh.mp hr]
   refine ⟨_,_,rfl,by rw [a_,v5]; exact lb,λx hx=>?_,by rw [iP]; exact b1.neg.mono⟩
   obtain ⟨y,hy,rfl⟩:=cP.mp hx
   rw [iP]
   exact (bu y hy).neg
 refine ⟨⟨by omega,λr hr=>?_,λr hr x hx=>?_,λr hr=>?_⟩,len⟩ <;> obtain ⟨us,v,rfl,lu,bu,bv⟩:=key r hr
 ·rw [cJ,lu]; rfl
 ·rw [dl (by omega),cV (by omega)] at hx
  exact bu x hx
 ·rw [uN lu]; exact bv
theorem zH2 (j:Nat):∀ {r:List Int} {ls:List (List Int)},r.length=ls.length->((yE r ls j:Int):Rat)=zG r.length λi=>(r.getD i 0:Rat) * ((ls.getD i []).getD j 0:Rat)
 | [],[],_=>by show ((0:Int):Rat)=0; rfl
 | [],_ :: _,h=>nomatch h
 | _ :: _,[],h=>nomatch h
 | x :: xs,y :: ys,h=>by
  show ((x * y.getD j 0 + yE xs ys j:Int):Rat)=zG (xs.length + 1) λi=>((x :: xs).getD i 0:Rat) * (((y :: ys).getD i []).getD j 0:Rat)
  rw [jp,eB,cM,zH2 j (Nat.succ.inj h)]
  rfl
theorem zFv {n j:Nat} (f:Nat->Int) (h:j < n):((df n).map f).getD j 0=f j:=by
 rw [b',c_,eg h]
 rfl
theorem zMF {r:List Int} {ls:List (List Int)} {n:Nat} (hl:r.length=ls.length) (q:Nat->Rat):xH ((df n).map (yE r ls)) q=zG r.length λi=>(r.getD i 0:Rat) * zG n λj=>((ls.getD i []).getD j 0:Rat) * q j:=by
 unfold xH
 rw [a_,cX]
 rw [ye (g:=λj=>zG r.length λi=>(r.getD i 0:Rat) * (((ls.getD i []).getD j 0:Rat) * q j)) λj hj=>?_]
 ·rw [WU]
  exact ye λi hi=>vK _ _ _
 ·rw [zFv _ hj,zH2 j hl]
  rw [show zG r.length (λi=>(r.getD i 0:Rat) * (((ls.getD i []).getD j 0:Rat) * q j))=zG r.length (λi=>q j * ((r.getD i 0:Rat) * ((ls.getD i []).getD j 0:Rat))) from ye λi _=>by grind,vK]
  grind
def Xd (n p:Nat) (m:MD) (x u y:Nat->Rat):Prop:=∀ i,i < n->y i * (m.div:Rat)=(zG n λj=>((m.nexts.getD i []).getD j 0:Rat) * x j) + (zG p λj=>((m.push.getD i []).getD j 0:Rat) * u j) + (m.add.getD i 0:Rat)
theorem zQc {n p:Nat} {m:MD} {x u y:Nat->Rat} {ws:List Int} (B:Xd n p m x u y) (lw:ws.length=n) (ln:m.nexts.length=n) (lp:m.push.length=n) (la:m.add.length=n):xH ws y * (m.div:Rat)=xH ((df n).map (yE ws m.nexts)) x + xH ((df p).map (yE ws m.push)) u + (yI ws m.add:Rat):=by
 rw [zMF (by omega),zMF (by omega),JW (by omega),<- qQ,<- qQ]
 unfold xH
 rw [fM,<- vK]
 refine ye λi hi=>?_
 have:=B i (by omega)
 grind
def vp (n:Nat) (q:Nat->Rat) (r:List Int):Prop:=(zG n λj=>(r.getD j 0:Rat) * q j)<=(r.getD n 0:Rat)
def KF (n:Nat) (bs:List (Int × Int)) (ms:List MD) (x y:Nat->Rat):Prop:=∃ m∈ms,∃ u:Nat->Rat,(∀ r∈m.rows,vp n x r)/\(∀ i (h:i < bs.length),((bs[i].1:Int):Rat)<=u i/\u i<=((bs[i].2:Int):Rat))/\Xd n bs.length m x u y
theorem zOK {room ax:List (List Int)} {n:Nat} {z:Nat->Rat} (h:∀ r∈room,vp n z r):∀ i,i < room.length->VA (room++ax) n i z<=BA (room++ax) n i:=λi hi=>by
 rw [(ut hi z).1,(ut hi z).2]
 exact h _ (yc hi)
theorem zOx {rows:List (List Int)} {n count:Nat} {ns:List Int} {g:Nat->Rat} {z:Nat->Rat} (h:∀ j,j < n->zG count (λi=>((ns.getD i 0:Int):Rat) * (((rows.getD i []).getD j 0:Int):Rat))=g j):zG n (λj=>g j * z j)=zG count λi=>((ns.getD i 0:Int):Rat) * VA rows n i z:=by
 rw [ye (g:=λj=>zG count λi=>((ns.getD i 0:Int):Rat) * ((((rows.getD i []).getD j 0:Int):Rat) * z j)) λj hj=>?_,WU]
 ·exact ye λi _=>vK _ _ n
 ·rw [<- h j hj,fM,<- vK]
  exact ye λi _=>by grind
theorem zR5 {rows:List (List Int)} {n count:Nat} {ns:List Int} {z:Nat->Rat} (ln:ns.length=count) (n0:∀ x∈ns,0<=x) (hz:∀ i,i < count->VA rows n i z<=BA rows n i):zG count (λi=>((ns.getD i 0:Int):Rat) * VA rows n i z)<=zG count λi=>((ns.getD i 0:Int):Rat) * BA rows n i:=
 zKa λi hi=>eG (hz i hi) (by exact_mod_cast n0 _ (yc (by omega)))
theorem zLs {rows:List (List Int)} {n count:Nat} {us ns:List Int} {f:Int × Int} {D:Int} {pts:List (Int × Int)} {z:Nat->Rat} (h:v9 rows n count us (.mst f D ns pts)) (hz:∀ i,i < count->VA rows n i z<=BA rows n i):vl n us z<=zU f:=by
 obtain ⟨_,_,_,D0,ln,n0,hj,hs,_⟩:=h
 have c:=zOx (z:=z) hj
 have le:=zR5 ln n0 hz
 have e:zG n (λj=>(D:Rat) * ((us.getD j 0:Int):Rat) * z j)=(D:Rat) * vl n us z:=by
  unfold vl
  rw [<- vK]
  exact ye λj _=>by grind
 rw [<- c,e,hs] at le
 exact Rat.le_of_mul_le_mul_left le (vD D0)
theorem zLt {rows:List (List Int)} {n count:Nat} {us ns:List Int} {z:Nat->Rat} (h:v9 rows n count us (.emp ns)) (hz:∀ i,i < count->VA rows n i z<=BA rows n i):False:=by
 obtain ⟨ln,n0,hj,hs⟩:=h
 have c:=zOx (z:=z) (g:=λ_=>0) hj
 have le:=zR5 ln n0 hz
 rw [<- c,ye (g:=λ_=>0) λj _=>by grind,Z5] at le
 grind
theorem UM:∀ {s:List Int} {bx:List (Int × Int)} {z:Nat->Rat},s.length=bx.length->(∀ i (h:i < bx.length),((bx[i].1:Int):Rat)<=z i/\z i<=((bx[i].2:Int):Rat))->xH s z<=((zn s bx:Int):Rat)
 | [],[],_,_,_=>fZ
 | [],_ :: _,_,l,_=>nomatch l
 | _ :: _,[],_,l,_=>nomatch l
 | c :: cs,b :: bx,z,l,h=>by
  have ih:=UM (z:=λj=>z (j + 1)) (Nat.succ.inj l) λi hi=>h (i + 1) (fW hi)
  obtain ⟨h1,h2⟩:=h 0 (ld _)
  have h1:(b.1:Rat)<=z 0:=h1
  have h2:z 0<=(b.2:Rat):=h2
  show zG (cs.length + 1) (λj=>(((c :: cs).getD j 0:Int):Rat) * z j)<=((max (c * b.1) (c * b.2) + zn cs bx:Int):Rat)
  rw [jp,eB]
  have key:(c:Rat) * z 0<=((max (c * b.1) (c * b.2):Int):Rat):=by
   by_cases y:0<=c
   ·have y':(0:Rat)<=(c:Rat):=by exact_mod_cast y
    refine mG (eG h2 y') ?_
    rw [<- cM]
    exact_mod_cast Int.le_max_right _ _
   ·have y':(0:Rat)<=((-c:Int):Rat):=by exact_mod_cast (show 0<=-c by omega)
    have k:=eG h1 y'
    have m1:((c * b.1:Int):Rat)<=((max (c * b.1) (c * b.2):Int):Rat):=by exact_mod_cast Int.le_max_left _ _
    rw [cM] at m1
    rw [iJ] at k
    grind
  have ih:zG cs.length (λj=>((cs.getD j 0:Int):Rat) * z (j + 1))<=_:=ih
  have k2:(((c :: cs).getD 0 0:Int):Rat) * z 0<=((max (c * b.1) (c * b.2):Int):Rat):=key
  have e:zG cs.length (λj=>(((c :: cs).getD (j + 1) 0:Int):Rat) * z (j + 1))=zG cs.length λj=>((cs.getD j 0:Int):Rat) * z (j + 1):=rfl
  rw [e]
  grind
theorem zOM:∀ {s:List Int} {bx:List (Int × Int)},s.length=bx.length->(∀ b∈bx,b.1<=b.2)->∃ z:Nat->Rat,(∀ i (h:i < bx.length),((bx[i].1:Int):Rat)<=z i/\z i<=((bx[i].2:Int):Rat))/\xH s z=((zn s bx:Int):Rat)
 | [],[],_,_=>⟨λ_=>0,λi h=>absurd h (eM _),rfl⟩
 | [],_ :: _,l,_=>nomatch l
 | _ :: _,[],l,_=>nomatch l
 | c :: cs,b :: bx,l,hb=>by
  obtain ⟨z,h1,h2⟩:=zOM (Nat.succ.inj l) λb h=>hb b (cK _ h)
  have b12:=hb b cO
  obtain ⟨w,w1,w2,w3⟩:∃ w:Int,b.1<=w/\w<=b.2/\c * w=max (c * b.1) (c * b.2):=by
   by_cases y:0<=c
   ·have:=e6 b12 y
    exact ⟨b.2,b12,ig _,by omega⟩
   ·have:=iB (a:=c) (by omega) b12
    exact ⟨b.1,ig _,b12,by omega⟩
  refine ⟨λj=>match j with | 0=>(w:Rat) | j + 1=>z j,λi hi=>?_,?_⟩
  ·cases i with
   | zero=>exact ⟨by show ((b.1:Int):Rat)<=(w:Rat); exact_mod_cast w1,by show (w:Rat)<=((b.2:Int):Rat); exact_mod_cast w2⟩
   | succ i=>exact h1 i (Nat.lt_of_succ_lt_succ hi)
  ·show zG (cs.length + 1) _=((max (c * b.1) (c * b.2) + zn cs bx:Int):Rat)
   rw [jp,eB,<- w3,cM,<- h2]
   rfl
theorem zKR {a n:Nat} {y c:Int} {q:Nat->Rat} (ha:a < n):vl n (yy (a:Int) n y++[c]) q=(y:Rat) * q a:=by
 unfold vl
 rw [ye (g:=λj=>q j * (if j=a then (y:Rat) else 0)) λj hj=>?_,gF ha,fM]
 rw [jq (v5 ..) hj,zI2 hj]
 by_cases e:j=a
 ·rw [if_pos e,if_pos (by omega),fM]
 ·rw [if_neg e,if_neg (by omega)]
  show ((0:Int):Rat) * q j=q j * 0
  grind
theorem zI1 (a:Int) (w:Nat):(yy a w 1).map (λx=>0 - x)=yy a w (-1):=by
 unfold yy
 rw [dk]
 refine eh λi _=>?_
 show 0 - (if (i:Int)=a then (1:Int) else 0)=if (i:Int)=a then -1 else 0
 by_cases c:(i:Int)=a
 ·rw [if_pos c,if_pos c]; rfl
 ·rw [if_neg c,if_neg c]; rfl
theorem zSp {bx:List (Int × Int)} {n:Nat} (lb:bx.length=n) {z:Nat->Rat}:(∀ r∈xm bx,vp n z r) ↔ ∀ i (h:i < bx.length),((bx[i].1:Int):Rat)<=z i/\z i<=((bx[i].2:Int):Rat):=by
 have up:∀ i (h:i < n) (v:Int),vp n z (yy (i:Int) n 1++[v]) ↔ z i<=(v:Rat):=λi h v=>by
  show vl n (yy (i:Int) n 1++[v]) z<=((yy (i:Int) n 1++[v]).getD n 0:Rat) ↔ _
  rw [zKR h,uN (v5 ..),show ((1:Int):Rat)=1 from rfl,nj]
 have dn:∀ i (h:i < n) (v:Int),vp n z (yy (i:Int) n (-1)++[0 - v]) ↔ (v:Rat)<=z i:=λi h v=>by
  show vl n (yy (i:Int) n (-1)++[0 - v]) z<=((yy (i:Int) n (-1)++[0 - v]).getD n 0:Rat) ↔ _
  rw [zKR h,uN (v5 ..),iP,iJ v,show ((-1:Int):Rat) = -1 from rfl]
  constructor <;> intro <;> grind
 subst lb
 constructor
 ·intro h i hi
  have m:∀ r∈wA bx.length i bx[i],r∈xm bx:=λr hr=>lg.mpr ⟨_,lK.mpr ⟨i,hi,rfl⟩,hr⟩
  have k:=h _ (m _ (cK _ cO))
  rw [zI1] at k
  exact ⟨(dn i hi _).mp k,(up i hi _).mp (h _ (m _ cO))⟩
 ·intro h r hr
  obtain ⟨l,hl,h'⟩:=lg.mp hr
  obtain ⟨i,hi,rfl⟩:=lK.mp hl
  obtain ⟨h1,h2⟩:=h i hi
  rcases de.mp h' with rfl | h'
  ·exact (up i hi _).mpr h2
  ·rw [dh.mp h',zI1]
   exact (dn i hi _).mpr h1
theorem zP8 {room ax:List (List Int)} {n:Nat} {z:Nat->Rat} (h:∀ i,i < room.length->VA (room++ax) n i z<=BA (room++ax) n i):∀ r∈room,vp n z r:=λr hr=>by
 obtain ⟨i,hi,e⟩:=e8.mp hr
 have:=h i hi
 rw [(ut hi z).1,(ut hi z).2] at this
 rw [<- e,show room[i]=room.getD i [] by rw [b',b_ hi]; rfl]
 exact this
theorem zJk {bx:List (Int × Int)} {n:Nat} {s:List Int} (lb:bx.length=n) (n1:1<=n) (n2:n<=2) (hb:∀ b∈bx,b.1<=b.2/\Bd 105 b.1/\Bd 105 b.2) (ls:s.length=n):jJ (mR (xm bx) n s)=true/\uZ (xm bx) n s=zn s bx:=by
 have G:=(Q4 (us:=s) (zOz lb n2 λb h=>(hb b h).2).1 (by decide) n1 n2 ls).2
 obtain ⟨z,hz,ez⟩:=zOM (s:=s) (bx:=bx) (by omega) λb h=>(hb b h).1
 rw [jt ls] at ez
 have fz:=zOK (ax:=zb n) ((zSp lb).mpr hz)
 have up:∀ y,(∀ i,i < (xm bx).length->VA (xm bx++zb n) n i y<=BA (xm bx++zb n) n i)->vl n s y<=((zn s bx:Int):Rat):=λy hy=>by
  rw [<- jt ls]
  exact UM (by omega) ((zSp lb).mp (zP8 hy))
 unfold uZ
 cases e:mR (xm bx) n s with
 | emp ns=>rw [e] at G; exact (zLt G fz).elim
 | opn pts way=>
  rw [e] at G
  obtain ⟨⟨_,_,fe⟩,_,hd,w0⟩:=G
  have hp:=up _ fe
  have wi:=dF _ (λz=>by rw [z] at w0; exact absurd w0 eX:vl n s (λj=>((way.getD j 0:Int):Rat))≠0)
  have iv:0 < (vl n s (λj=>((way.getD j 0:Int):Rat)))⁻¹:=Rat.inv_pos.mpr w0
  generalize hW:vl n s (λj=>((way.getD j 0:Int):Rat))=W at *
  have t0:=dJ (show 0<=((zn s bx:Int):Rat) - vl n s (ze pts) + 1 by grind) (dU iv)
  have far:=up (λj=>ze pts j + ((((zn s bx:Int):Rat) - vl n s (ze pts) + 1) * W⁻¹) * ((way.getD j 0:Int):Rat)) λi hi=>by
   show vl n _ _<=_
   rw [WW]
   have a:=fe i hi
   have b:=dJ t0 (show 0<=-(vl n ((xm bx++zb n).getD i []) λj=>((way.getD j 0:Int):Rat)) by have:=hd i hi; grind)
   have a:vl n ((xm bx++zb n).getD i []) (ze pts)<=BA (xm bx++zb n) n i:=a
   grind
  rw [WW,hW,ef,fM W⁻¹,wi] at far
  grind
 | mst f D ns pts=>
  rw [e] at G
  have ub:=zLs G fz
  obtain ⟨⟨_,_,fe⟩,f0,_,_,_,_,_,_,hv⟩:=G
  have hp:=up _ fe
  have ev:zU f=zU (zn s bx,1):=by rw [Qn]; grind
  refine ⟨rfl,?_⟩
  show vR f.1 f.2=_
  rw [zMN f0 f8 ev]
  show -((-(zn s bx)).fdiv 1)=_
  rw [mE,Int.neg_neg]
theorem zSn {x d:Int} (d0:0 < d):x<=vR x d * d:=by
 unfold vR
 rw [fo _ (iw d0),ni]
 have:=Int.ediv_mul_le (-x) (d4 d0)
 omega
theorem zQD {T:List (List Int)} {n:Nat} {bs:List (Int × Int)} {ms:List MD} (hT:∀ r∈T,r.length=n + 1) (fx:wM n bs ms T=some T) {r:List Int} (hr:r∈T):wm T n bs ms (r.take n) (r.getD n 0)=some (r.getD n 0):=by
 unfold wM at fx
 split at fx
 ·rename_i c
  have e:=Option.some.inj fx
  obtain ⟨i,hi,rfl⟩:=e8.mp hr
  have s:=di.mp c _ hr
  have ei:(T.map λr=>r.take n++[(wm T n bs ms (r.take n) (r.getD n 0)).getD 0])[i]? = T[i]?:=by rw [e]
  rw [c_,b_ hi] at ei
  have ei:T[i].take n++[(wm T n bs ms (T[i].take n) (T[i].getD n 0)).getD 0]=T[i]:=Option.some.inj ei
  have l:=hT _ hr
  obtain ⟨x,hx⟩:=eJ.mp s
  rw [hx] at ei |-
  have ei:T[i].take n++[x]=T[i]:=ei
  have:=congrArg (λr=>r.getD n 0) ei
  have this:(T[i].take n++[x]).getD n 0=T[i].getD n 0:=this
  rw [uN (by rw [cU]; omega)] at this
  rw [this]
 ·cases fx
theorem zSL {T:List (List Int)} {n b:Nat} {bs:List (Int × Int)} {ms:List MD} {u:Int} (h:xR T n b) (hb:110<=b) (hb2:b<=220) (few:T.length<=8) (Th:wy n bs ms u) (n2:n<=2) (fx:wM n bs ms T=some T) {x y:Nat->Rat} (hx:∀ r∈T,vp n x r) (st:KF n bs ms x y):∀ r∈T,vp n y r:=λr hr=>by
 obtain ⟨m,hm,w,hmr,hw,B⟩:=st
 have M:=Th.md m hm
 have MO:=M.ok
 have d1:=MO.div
 have lr:=h.row r hr
 have ls:(r.take n).length=n:=by rw [cU]; omega
 have bs4:=h.co r hr
 have g:=zQD h.row fx hr
 obtain ⟨l1,l2⟩:=Q8 M n2 ls bs4
 have G:=(Q4 (h.app hb few Th hm) hb2 Th.n1 n2 l1).2
 have F:=zOK (ax:=zb n) (room:=T++m.rows) (n:=n) (z:=x) λr' hr'=>(dX.mp hr').elim (hx r') (hmr r')
 unfold wm at g
 split at g
 ·cases g
 rename_i no
 have fold:=Option.some.inj g
 have G:v9 (T++m.rows++zb n) n (T++m.rows).length (uw n m (r.take n)) (wU T n m (r.take n)):=G
 cases e:wU T n m (r.take n) with
 | emp ns=>rw [e] at G; exact (zLt G F).elim
 | opn _ _=>exact absurd (lh.mpr ⟨m,hm,by rw [e]; rfl⟩) no
 | mst f D ns pts=>
  rw [e] at G
  have ub:=zLs G F
  have f0:=G.2.1
  have bd:=zQc B ls MO.nexts.1 MO.push.1 MO.add
  have tq:=UM (s:=(df bs.length).map (yE (r.take n) m.push)) (bx:=bs) (z:=w) (by rw [a_,cX]) hw
  have bv:bV T n bs m (r.take n)<=r.getD n 0:=by
   rw [<- fold]
   exact UL.2 _ (cK _ (cP.mpr ⟨m,eL.mpr ⟨hm,by rw [e]; rfl⟩,rfl⟩))
  have ev:bV T n bs m (r.take n)=vR (f.1 + wj bs m (r.take n) * f.2) (f.2 * m.div):=by unfold bV; rw [e]; rfl
  have cg:=zSn (x:=f.1 + wj bs m (r.take n) * f.2) (eO f0 (show 0 < m.div by omega))
  rw [<- ev] at cg
  have cg:((f.1 + wj bs m (r.take n) * f.2:Int):Rat)<=((bV T n bs m (r.take n) * (f.2 * m.div):Int):Rat):=by exact_mod_cast cg
  rw [eB,cM,cM,cM,<- vL f0] at cg
  have q0:=vD f0
  have dp:(0:Rat) < (m.div:Rat):=vD (show 0 < m.div by omega)
  have cg:zU f + ((wj bs m (r.take n):Int):Rat)<=((bV T n bs m (r.take n):Int):Rat) * (m.div:Rat):=eS (c:=(f.2:Rat)) (by grind) q0
  have bv:((bV T n bs m (r.take n):Int):Rat)<=((r.getD n 0:Int):Rat):=by exact_mod_cast bv
  have bv2:=dM bv (dU dp)
  have mo:((wj bs m (r.take n):Int):Rat)=((zn ((df bs.length).map (yE (r.take n) m.push)) bs:Int):Rat) + ((yI (r.take n) m.add:Int):Rat):=by unfold wj; rw [eB]
  have ub:xH ((df n).map (yE (r.take n) m.nexts)) x<=zU f:=by rw [jt (n:=n) (by rw [a_,cX])]; exact ub
  have fin:xH (r.take n) y<=((r.getD n 0:Int):Rat):=eS (c:=(m.div:Rat)) (by rw [bd]; grind) dp
  rw [jt ls,UD] at fin
  exact fin
def xD (S:List (List Int)) (v:List Int->Int):List (List Int):=S.map λs=>s++[v s]
theorem KG {S:List (List Int)} {n:Nat} {v:List Int->Int} {bs:List (Int × Int)} {ms:List MD} (hS:∀ s∈S,s.length=n):wM n bs ms (xD S v)=none\/∃ v',wM n bs ms (xD S v)=some (xD S v')/\∀ s∈S,v s<=v' s:=by
 have ec:∀ s∈S,(s++[v s]).take n=s/\(s++[v s]).getD n 0=v s:=λs hs=>by
  have:=hS s hs
  exact ⟨by rw [dl (by omega),cV (by omega)],uN this⟩
 unfold wM
 split
 ·rename_i c
  refine .inr ⟨λs=>(wm (xD S v) n bs ms s (v s)).getD 0,?_,λs hs=>?_⟩
  ·congr 1
   show (S.map λs=>s++[v s]).map _=_
   rw [dk]
   refine eh λs hs=>?_
   show (s++[v s]).take n++[(wm (xD S v) n bs ms ((s++[v s]).take n) ((s++[v s]).getD n 0)).getD 0]=_
   rw [(ec s hs).1,(ec s hs).2]
  ·have k:=di.mp c (s++[v s]) (cP.mpr ⟨s,hs,rfl⟩)
   rw [(ec s hs).1,(ec s hs).2] at k
   show v s<=(wm (xD S v) n bs ms s (v s)).getD 0
   unfold wm at k |-
   split at k
   ·cases k
   ·rename_i no
    rw [if_neg no]
    exact UL.2 _ cO
 ·exact .inl rfl
theorem Xe {S:List (List Int)} {n:Nat} {bs:List (Int × Int)} {ms:List MD} (hS:∀ s∈S,s.length=n) {T:List (List Int)}:∀ {t:Nat} {v:List Int->Int},jK n bs ms t (some (xD S v))=some T->∃ v',T=xD S v'/\(∀ s∈S,v s<=v' s)/\wM n bs ms T=some T
 | 0,_,h=>nomatch h
 | t + 1,v,h=>by
  rw [Q9] at h
  by_cases c:wM n bs ms (xD S v)=some (xD S v)
  ·rw [if_pos c] at h
   cases h
   exact ⟨v,rfl,λ_ _=>ig _,c⟩
  ·rw [if_neg c] at h
   rcases KG (v:=v) (bs:=bs) (ms:=ms) hS with e | ⟨v1,e,le⟩
   ·rw [e,Q7] at h; cases h
   ·rw [e] at h
    obtain ⟨v',e1,e2,e3⟩:=Xe hS h
    exact ⟨v',e1,λs hs=>Int.le_trans (le s hs) (e2 s hs),e3⟩
theorem Xf {bx:List (Int × Int)} {n:Nat} {S:List (List Int)} (lb:bx.length=n) (n1:1<=n) (n2:n<=2) (hb:∀ b∈bx,b.1<=b.2/\Bd 105 b.1/\Bd 105 b.2) (hS:∀ s∈S,s.length=n):xS (xm bx) n S=some (xD S λs=>zn s bx):=by
 unfold xS
 rw [if_pos (di.mpr λs hs=>(zJk lb n1 n2 hb (hS s hs)).1)]
 congr 1
 exact eh λs hs=>by rw [(zJk lb n1 n2 hb (hS s hs)).2]
theorem zST {S:List (List Int)} {n:Nat} {v:List Int->Int} (hS:∀ s∈S,s.length=n) {x:Nat->Rat}:(∀ r∈xD S v,vp n x r) ↔ ∀ s∈S,xH s x<=((v s:Int):Rat):=by
 have e:∀ s∈S,vp n x (s++[v s]) ↔ xH s x<=((v s:Int):Rat):=λs hs=>by
  have l:=hS s hs
  show vl n (s++[v s]) x<=(((s++[v s]).getD n 0:Int):Rat) ↔ _
  rw [uN l,<- UD,dl (by omega),cV (by omega),jt l]
 constructor
 ·exact λh s hs=>(e s hs).mp (h _ (cP.mpr ⟨s,hs,rfl⟩))
 ·intro h r hr
  obtain ⟨s,hs,rfl⟩:=cP.mp hr
  exact (e s hs).mpr (h s hs)
abbrev dQ (r:Rat):D:=.tup [.int r.num,.int (r.den:Int)]
theorem zSC {a b:Int} (h:0 < b):((a:Rat) / (b:Rat)).num=a.fdiv (d_ a b:Int)/\((((a:Rat) / (b:Rat)).den:Nat):Int)=b.fdiv (d_ a b:Int):=by
 obtain ⟨n,rfl⟩:∃ n:Nat,b=(n:Int):=⟨b.toNat,by omega⟩
 have nz:n≠0:=by omega
 have e:(a:Rat) / (((n:Nat):Int):Rat)=mkRat a n:=by rw [lj]; rfl
 have g0:(0:Int)<=(d_ a (n:Int):Int):=mh _
 rw [e]
 unfold mkRat
 rw [dif_neg nz,Rat.normalize_eq,fo _ g0,fo _ g0]
 exact ⟨rfl,rfl⟩
def wG (Q e:Nat) (x:Rat):Prop:=∃ k:Int,x * (Q:Rat)=(k:Rat)/\Bd e k
theorem KH (x:Rat):(x.num:Rat)=x * (x.den:Rat):=by
 have h:=nC x
 rw [lj,dG] at h
 have d0:(x.den:Rat)≠0:=by exact_mod_cast x.den_nz
 have e:x * (x.den:Rat)=(x.num:Rat) * ((x.den:Rat)⁻¹ * (x.den:Rat)):=by
  rw [<- ef,h]
 rw [e,d9 _ d0,eN]
theorem Xg {Q e:Nat} {x:Rat} (q:0 < Q) (h:wG Q e x):x.den<=Q/\Bd e x.num:=by
 obtain ⟨k,hk,b⟩:=h
 have d0:(x.den:Rat)≠0:=by exact_mod_cast x.den_nz
 have e1:x.num * (Q:Int)=k * (x.den:Int):=by
  have:(x.num:Rat) * (Q:Rat)=(k:Rat) * (x.den:Rat):=by rw [KH,<- hk]; grind
  exact_mod_cast this
 have dv:x.den ∣ Q:=by
  have h1:x.den ∣ x.num.natAbs * Q:=by
   have:=congrArg Int.natAbs e1
   rw [im,im] at this
   exact ⟨k.natAbs,by simp at this; rw [this,mB]⟩
  exact (Nat.Coprime.dvd_of_dvd_mul_left x.reduced.symm h1)
 have le:=Nat.le_of_dvd q dv
 refine ⟨le,?_⟩
 have h2:x.num.natAbs * Q=k.natAbs * x.den:=by
  have:=congrArg Int.natAbs e1
  rw [im,im] at this
  simpa using this
 have h3:x.num.natAbs * Q<=k.natAbs * Q:=by rw [h2]; exact iH _ le
 have h4:=Nat.le_of_mul_le_mul_right h3 q
 exact iM h4 b
theorem Xh {Q e:Nat} {x y:Rat} (h:wG Q e x) (g:wG Q e y):wG Q (e + 1) (x + y):=by
 obtain ⟨k,hk,b⟩:=h
 obtain ⟨l,hl,c⟩:=g
 exact ⟨k + l,by rw [eB,<- hk,<- hl]; grind,b.add c⟩
theorem zQ4 {Q e c:Nat} {x:Rat} {w:Int} (b:Bd c w) (h:wG Q e x):wG Q (c + e) ((w:Rat) * x):=by
 obtain ⟨k,hk,bk⟩:=h
 exact ⟨w * k,by rw [cM,<- hk]; grind,b.mul bk⟩
theorem ua {Q e f:Nat} {x:Rat} (h:wG Q e x) (l:e<=f):wG Q f x:=by
 obtain ⟨k,hk,b⟩:=h
 exact ⟨k,hk,b.mono l⟩
theorem Xi {Q e c P:Nat} {x:Rat} (h:wG Q e x) (b:Bd c (P:Int)):wG (Q * P) (e + c) x:=by
 obtain ⟨k,hk,bk⟩:=h
 refine ⟨k * (P:Int),?_,bk.mul b⟩
 rw [cM,<- hk]
 have:(((Q * P:Nat)):Rat)=(Q:Rat) * (P:Rat):=nk ..
 rw [this]
 show _=x * (Q:Rat) * (P:Rat)
 grind
theorem KI {Q e c:Nat} {w:Int} (b:Bd e w) (q:Bd c (Q:Int)):wG Q (e + c) (w:Rat):=⟨w * (Q:Int),by rw [cM]; rfl,b.mul q⟩
theorem zQ5 {Q e:Nat} {x:Rat} {d:Int} (h:wG Q e x) (d1:1<=d):wG (Q * d.toNat) e (x / (d:Rat)):=by
 obtain ⟨k,hk,b⟩:=h
 refine ⟨k,?_,b⟩
 have:((Q * d.toNat:Nat):Rat)=(Q:Rat) * ((d.toNat:Nat):Rat):=nk ..
 rw [this]
 obtain ⟨n,rfl⟩:∃ n:Nat,d=(n:Int):=⟨d.toNat,by omega⟩
 have n0:(((n:Nat):Int):Rat)≠0:=by exact_mod_cast (show (n:Int)≠0 by omega)
 rw [<- hk,fO]
 show x / (((n:Nat):Int):Rat) * ((Q:Rat) * (((n:Nat):Int):Rat))=_
 rw [dG]
 have i:=d9 _ n0
 grind
theorem kB (Q e:Nat):wG Q e 0:=⟨0,by show 0 * (Q:Rat)=0; grind,wf⟩
def xK:List Int->List Rat->Rat
 | w :: ws,x :: xs=>(w:Rat) * x + xK ws xs
 | _,_=>0
theorem UN:∀ (ws:List Int) (xs:List Rat),ws.length=xs.length->xK ws xs=zG xs.length λj=>(ws.getD j 0:Rat) * xs.getD j 0
 | [],[],_=>rfl
 | [],_ :: _,h=>nomatch h
 | _ :: _,[],h=>nomatch h
 | w :: ws,x :: xs,h=>by
  show (w:Rat) * x + xK ws xs=zG (xs.length + 1) _
  rw [jp,UN ws xs (Nat.succ.inj h)]
  rfl
theorem zHz:∀ {ws:List Int} {xs:List Rat} {w:Int} {x:Rat},ws.length=xs.length->xK (ws++[w]) (xs++[x])=xK ws xs + (w:Rat) * x
 | [],[],w,x,_=>by show (w:Rat) * x + 0=0 + (w:Rat) * x; grind
 | [],_ :: _,_,_,h=>nomatch h
 | _ :: _,[],_,_,h=>nomatch h
 | a :: ws,y :: xs,w,x,h=>by
  show (a:Rat) * y + xK (ws++[w]) (xs++[x])=(a:Rat) * y + xK ws xs + (w:Rat) * x
  rw [zHz (Nat.succ.inj h)]
  grind
theorem kC {Q e c:Nat}:∀ {ws:List Int} {xs:List Rat},(∀ w∈ws,Bd c w)->(∀ x∈xs,wG Q e x)->wG Q (c + e + xs.length) (xK ws xs)
 | [],_,_,_=>kB _ _
 | _ :: _,[],_,_=>kB _ _
 | w :: ws,x :: xs,hw,hx=>by
  have h1:=zQ4 (hw w cO) (hx x cO)
  have h2:=kC (λw h=>hw w (cK _ h)) (λx h=>hx x (cK _ h)) (ws:=ws) (xs:=xs)
  exact Xh (ua h1 (eQ _ _)) h2
theorem zSs {a b:Int} {n:Nat} (h:Bd n b) (b0:0 < b):Bd n (d_ a b:Int):=h.of_le (by
 have:=mU (a:=a) b0
 omega)
def Xj:FL:=λds R=>∃ a b,ds=[.int a,.int b]/\R (.int (d_ a b:Int))
def qF:FL:=λds R=>∃ a b,ds=[.int a,.int b]/\0 < b/\Bd 8000 b/\R (dQ ((a:Rat) / (b:Rat)))
def KJ:FL:=λds R=>∃ a b c d,ds=[.tup [.int a,.int b],.tup [.int c,.int d]]/\0 < b/\0 < d/\Bd 29000 a/\Bd 4000 b/\Bd 29000 c/\Bd 4000 d/\R (dQ ((a:Rat) / (b:Rat) + (c:Rat) / (d:Rat)))
theorem zQU {a b c d:Int} (hb:0 < b) (hd:0 < d):((a * d + c * b:Int):Rat) / ((b * d:Int):Rat)=(a:Rat) / (b:Rat) + (c:Rat) / (d:Rat):=by
 have b0:(b:Rat)≠0:=by exact_mod_cast (show b≠0 by omega)
 have d0:(d:Rat)≠0:=by exact_mod_cast (show d≠0 by omega)
 have wf:((b * d:Int):Rat)≠0:=by exact_mod_cast d4 (eO hb hd)
 simp only [dG]
 have e1:=dF _ b0
 have e2:=dF _ d0
 have e3:=dF _ wf
 rw [eB,cM,cM]
 rw [cM] at e3 |-
 grind
theorem KL {α β:Type} {f:α->β} {l:List α} {k:Nat} {y:β} (h:(l.map f)[k]? = some y):∃ x,l[k]? = some x/\f x=y:=by
 rw [c_] at h
 cases c:l[k]? with
 | none=>rw [c] at h; cases h
 | some x=>rw [c] at h; cases h; exact ⟨x,rfl,rfl⟩
theorem kD (x:Rat):(x.num:Rat) / ((x.den:Int):Rat)=x:=by
 have h:=nC x
 rw [lj] at h
 exact h
theorem Xk (w:Int) (x:Rat):((w * x.num:Int):Rat) / ((x.den:Int):Rat)=(w:Rat) * x:=by
 have h:=kD x
 rw [dG] at h |-
 rw [cM,ef,h]
theorem qG (x:Rat):0 < (x.den:Int):=by
 have:=x.den_nz
 omega
theorem vI {Q e q:Nat} {x:Rat} (Q0:0 < Q) (bQ:Bd q (Q:Int)) (h:wG Q e x):Bd e x.num/\Bd q (x.den:Int):=by
 obtain ⟨h1,h2⟩:=Xg Q0 h
 exact ⟨h2,bQ.of_le (by omega)⟩
structure uE (n:Nat) (xs:List Rat) (Q e q:Nat):Prop where
 len:xs.length=n
 n3:n<=3
 Q0:0 < Q
 bQ:Bd q (Q:Int)
 q1:q<=3000
 e1:e<=15000
 sz:∀ x∈xs,wG Q e x
abbrev dP (xs:List Rat):D:=.lst (xs.map dQ)
def kE:FL:=λds R=>∃ d ns n xs Q e q,ds=[d,dP xs]/\IS d ns/\ns.length=n/\(∀ w∈ns,Bd 300 w)/\uE n xs Q e q/\R (dQ (xK ns xs))
def hQ (xs:List Rat) (r:List Int):Bool:=decide (xK (r.take xs.length) xs<=(r.getD xs.length 0:Rat))
def Xl:FL:=λds R=>∃ r n xs Q e q,ds=[U r,dP xs]/\r.length=n + 1/\(∀ w∈r,Bd 300 w)/\uE n xs Q e q/\R (.bool (hQ xs r))
def KM:FL:=λds R=>∃ rm n xs Q e q,ds=[Rm rm,dP xs]/\rm.length<=900/\(∀ r∈rm,r.length=n + 1/\∀ w∈r,Bd 300 w)/\uE n xs Q e q/\R (.bool (rm.all (hQ xs)))
theorem KN {x:Rat} {b:Int}:x.num<=b * (x.den:Int) ↔ x<=(b:Rat):=by
 have d0:(0:Rat) < (x.den:Rat):=by exact_mod_cast qG x
 have e:=KH x
 have c:x.num<=b * (x.den:Int) ↔ (x.num:Rat)<=(b:Rat) * (x.den:Rat):=by
  constructor
  ·intro h
   have:(x.num:Rat)<=((b * (x.den:Int):Int):Rat):=by exact_mod_cast h
   rw [cM] at this
   exact this
  ·intro h
   have:(x.num:Rat)<=((b * (x.den:Int):Int):Rat):=by rw [cM]; exact h
   exact_mod_cast this
 rw [c,e]
 exact ⟨λh=>eS h d0,λh=>dM h (dU d0)⟩
theorem qj {α:Type} {as:List α} {k:Nat} {z:α} (h:k < as.length):as.getD k z∈as:=by
 rw [b',b_ h]
 exact d6 _
theorem Xm {u:List Int->D} {rows:List (List Int)} {k:Nat} (h:k < rows.length):yo (rows.map u) (k:Int)=some (u (rows.getD k [])):=by
 rw [ga]
 unfold yo xw
 rw [if_pos (by omega),if_pos (by omega)]
 show fF u rows[((k:Nat):Int).toNat]? = _
 rw [show ((k:Nat):Int).toNat=k by omega,b_ h,b',b_ h]
 rfl
theorem zLp {n:Nat} {xs:List Rat} {r:List Int} (lx:xs.length=n) (lr:r.length=n + 1):hQ xs r=true ↔ vp n (λj=>xs.getD j 0) r:=by
 unfold hQ vp
 rw [decide_eq_true_iff,lx,UN _ _ (by rw [cU]; omega),lx,ye (g:=λj=>(r.getD j 0:Rat) * xs.getD j 0) λj hj=>?_]
 rw [show (r.take n).getD j 0=r.getD j 0 by rw [b',List.getElem?_take,if_pos hj,b']]
theorem Xn {lo hi p w:Int} (h:lo<=hi) (p1:1<=p) (w0:0<=w) (wp:w<=p):(lo:Rat)<=((lo * (p - w) + hi * w:Int):Rat) / (p:Rat)/\((lo * (p - w) + hi * w:Int):Rat) / (p:Rat)<=(hi:Rat):=by
 have p0:(0:Rat) < (p:Rat):=by exact_mod_cast (show 0 < p by omega)
 have pn:(p:Rat)≠0:=λz=>by rw [z] at p0; exact eX p0
 have e:((lo * (p - w) + hi * w:Int):Rat) / (p:Rat) * (p:Rat)=((lo * (p - w) + hi * w:Int):Rat):=by
  rw [dG,ef,d9 _ pn,eN]
 have d0:0<=(hi - lo) * w:=io (by omega) w0
 have d1:0<=(hi - lo) * (p - w):=io (by omega) (by omega)
 constructor
 ·refine eS (c:=(p:Rat)) ?_ p0
  rw [e,<- cM]
  exact_mod_cast (show lo * p<=lo * (p - w) + hi * w by grind)
 ·refine eS (c:=(p:Rat)) ?_ p0
  rw [e,<- cM]
  exact_mod_cast (show lo * (p - w) + hi * w<=hi * p by grind)
theorem Xo {a p:Int} {e:Nat} (b:Bd e a) (p1:1<=p) (p4:p<=4):wG 12 (e + 4) ((a:Rat) / (p:Rat)):=by
 obtain ⟨c,hc,bc⟩:∃ c:Int,p * c=12/\Bd 4 c:=by
  rcases (show p=1\/p=2\/p=3\/p=4 by omega) with rfl | rfl | rfl | rfl
  ·exact ⟨12,rfl,Bd.lit⟩
  ·exact ⟨6,rfl,Bd.lit⟩
  ·exact ⟨4,rfl,Bd.lit⟩
  ·exact ⟨3,rfl,Bd.lit⟩
 have pn:(p:Rat)≠0:=by exact_mod_cast (show p≠0 by omega)
 refine ⟨a * c,?_,b.mul bc⟩
 have e12:((12:Nat):Rat)=(p:Rat) * (c:Rat):=by
  rw [<- cM,hc]
  rfl
 rw [e12,cM,dG]
 have i:=d9 _ pn
 grind
def KO:FL:=λds R=>∃ (c:Int) (bs:List (Int × Int)),ds=[.int c,.lst (bs.map zu)]/\bs.length<=3/\(∀ b∈bs,b.1<=b.2/\Bd 105 b.1/\Bd 105 b.2)/\∀ xs:List Rat,xs.length=bs.length->(∀ i (h:i < bs.length),((bs[i].1:Int):Rat)<=xs.getD i 0/\xs.getD i 0<=((bs[i].2:Int):Rat))->(∀ x∈xs,wG 12 120 x)->R (dP xs)
def UO (m:MD) (xs us:List Rat) (i:Nat):Rat:=(xK (m.nexts.getD i []) xs + xK (m.push.getD i []) us + (m.add.getD i 0:Rat)) / (m.div:Rat)
def wC (m:MD) (n:Nat) (xs us:List Rat):List Rat:=(df n).map (UO m xs us)
def Xp:FL:=λds R=>∃ m n p xs us Q e q,ds=[wB m,dP xs,dQ 0,dP us]/\vZ m n p/\k9 200 m/\Bd 3 m.div/\uE n xs Q e q/\uE p us Q e q/\e<=13000/\2 + q<=e/\R (dP (wC m n xs us))
theorem Xq (x:Rat) {d:Int} (d1:1<=d):(x.num:Rat) / ((((x.den:Nat):Int) * d:Int):Rat)=x / (d:Rat):=by
 have h:=KH x
 have xd:(x.den:Rat)≠0:=by exact_mod_cast x.den_nz
 have dn:(d:Rat)≠0:=by exact_mod_cast (show d≠0 by omega)
 have pn:((((x.den:Nat):Int) * d:Int):Rat)≠0:=by exact_mod_cast d4 (eO (qG x) (show 0 < d by omega))
 have i1:=dF _ xd
 have i2:=dF _ dn
 have i3:=dF _ pn
 rw [h,dG,dG]
 have ec:((((x.den:Nat):Int) * d:Int):Rat)=(x.den:Rat) * (d:Rat):=by rw [cM]; rfl
 rw [ec] at i3 |-
 grind
theorem zQT (s a:Int):xK [s,a] [0,1]=(a:Rat):=by
 show (s:Rat) * 0 + ((a:Rat) * 1 + 0)=_
 grind
theorem zOG {α:Type} {l:List α} {f:α->D} {k:Nat} (z:α) (h:l.length=k + 1):yo (l.map f) (-1)=some (f (l.getD k z)):=by
 rw [ga]
 unfold yo xw
 rw [if_neg (by decide),if_pos (by omega)]
 show fF f l[((-1:Int) + (l.length:Int)).toNat]? = _
 rw [show ((-1:Int) + (l.length:Int)).toNat=k by omega,b_ (by omega),b',b_ (by omega)]
 rfl
def kF (n:Nat) (bs:List (Int × Int)) (ms:List MD) (ps:List (List Rat)):Prop:=∀ t,t + 1 < ps.length->KF n bs ms (λj=>(ps.getD t []).getD j 0) (λj=>(ps.getD (t + 1) []).getD j 0)
def ZC:D->List (List Int)
 | .tup (.lst rs :: _)=>rs.map yF
 | _=>[]
theorem zOR (m:MD):ZC (wB m)=m.rows:=by
 show (m.rows.map U).map yF=_
 rw [dk]
 exact (eh λr _=>kz r).trans (ii _)
theorem zRZ (n:Nat) (t:List (List Int)):(Tb t).pl (n + 4)=true:=di.mpr λd h=>by
 obtain ⟨r,_,rfl⟩:=cP.mp h
 exact gY (n + 1) r
theorem zRa (n:Nat) (t:List (List Int)):(Rm t).pl (n + 4)=true:=di.mpr λd h=>by
 obtain ⟨r,_,rfl⟩:=cP.mp h
 exact gY (n + 1) r
theorem Xr (n:Nat) (m:MD):(wB m).pl (n + 5)=true:=by
 show ([Rm m.rows,Tb m.nexts,L m.steer,Tb m.push,L m.add,D.int m.div].all (D.pl (n + 4)))=true
 simp only [List.all_cons,List.all_nil,Bool.and_true,zRZ,zRa]
 rw [show (L m.steer).pl (n + 4)=true from gY (n + 2) _,show (L m.add).pl (n + 4)=true from gY (n + 2) _]
 rfl
theorem zRY (ms:List MD):(D.lst (ms.map wB)).pl 50=true:=di.mpr λd h=>by
 obtain ⟨m,_,rfl⟩:=cP.mp h
 exact Xr 44 m
theorem zQE (f:D->Bool) (ms:List MD):(ms.map wB).filter f=(ms.filter λm=>f (wB m)).map wB:=by rw [nq]; rfl
theorem zOD {n:Nat} {bs:List (Int × Int)} {ms:List MD} {m:MD} {xs us:List Rat} (hm:m∈ms) (MO:vZ m n bs.length) (lx:xs.length=n) (lu:us.length=bs.length) (hr:m.rows.all (hQ xs)=true) (hu:∀ i (h:i < bs.length),((bs[i].1:Int):Rat)<=us.getD i 0/\us.getD i 0<=((bs[i].2:Int):Rat)):KF n bs ms (λj=>xs.getD j 0) (λj=>(wC m n xs us).getD j 0):=by
 refine ⟨m,hm,λj=>us.getD j 0,λr h=>(zLp lx (MO.rows r h)).mp (di.mp hr r h),hu,λi hi=>?_⟩
 have e:(wC m n xs us).getD i 0=UO m xs us i:=by
  unfold wC
  rw [b',c_,eg hi]
  rfl
 have dn:(m.div:Rat)≠0:=by exact_mod_cast (show m.div≠0 by have:=MO.div; omega)
 have l1:(m.nexts.getD i []).length=n:=MO.nexts.2 _ (qj (by rw [MO.nexts.1]; exact hi))
 have l2:(m.push.getD i []).length=bs.length:=MO.push.2 _ (qj (by rw [MO.push.1]; exact hi))
 show (wC m n xs us).getD i 0 * (m.div:Rat)=_
 rw [e]
 unfold UO
 rw [dG,ef,d9 _ dn,eN,UN _ _ (by omega),UN _ _ (by omega),lx,lu]
theorem zQb {n p Q e q P:Nat} {m:MD} {xs us:List Rat} (MO:vZ m n p) (MB:k9 200 m) (X:uE n xs Q e q) (Us:uE p us Q e q) (qe:2 + q<=e) (hP:0 < P) (dP:(P:Int)=m.div) (bd:Bd 3 m.div) (b1:e + 215<=15000) (b2:q + 3<=3000):uE n (wC m n xs us) (Q * P) (e + 215) (q + 3):=by
 have n3:=X.n3
 have p3:=Us.n3
 refine ⟨by unfold wC; rw [a_,cX],n3,mY X.Q0 hP,?_,b2,b1,λy hy=>?_⟩
 ·rw [nw,dP]
  exact X.bQ.mul bd
 ·obtain ⟨i,hi,rfl⟩:=cP.mp hy
  have hi:=dH.mp hi
  have h1:=kC (c:=200) (ws:=m.nexts.getD i []) (xs:=xs) (λw h=>MB.nexts _ (qj (by rw [MO.nexts.1]; exact hi)) w h) X.sz
  have h2:=kC (c:=200) (ws:=m.push.getD i []) (xs:=us) (λw h=>MB.push _ (qj (by rw [MO.push.1]; exact hi)) w h) Us.sz
  have h3:=KI (uW MB.add i) X.bQ
  have lx:=X.len
  have lu:=Us.len
  have s1:=Xh (Xh (ua h1 (show _<=e + 204 by omega)) (ua h2 (show _<=e + 204 by omega))) (ua h3 (show _<=e + 204 + 1 by omega))
  have s2:=zQ5 (ua s1 (show _<=e + 215 by omega)) (show 1<=m.div by omega)
  rw [show m.div.toNat=P by omega] at s2
  exact s2
def Xs:FL:=λds R=>∃ n bs ms u xs cs,ds=[qh n bs ms u,dP xs,L cs]/\vA n bs ms/\(∀ m∈ms,k9 200 m/\Bd 3 m.div)/\(∀ b∈bs,Bd 105 b.1/\Bd 105 b.2)/\bs.length<=2/\ms.length<=3/\cs.length<=30/\xs.length=n/\(∀ x∈xs,wG 12 120 x)/\∀ ps:List (List Rat),1<=ps.length->ps.length<=31->ps.getD 0 []=xs->kF n bs ms ps->(∀ p∈ps,∃ Q e q,uE n p Q e q)->R (.lst (ps.map dP))
def Xu:FL:=λds R=>∃ (n:Nat) (c:Int),ds=[.int (n:Int),.int c]/\1<=n/\n<=2/\∀ S,ZB S n->R (.lst (S.map U))
theorem zLg {α:Type} {l:List α} {k:Nat} {x:α} (h:x∈l.eraseIdx k):x∈l:=List.mem_of_mem_eraseIdx h
theorem zOu {α β:Type} (f:α->β):∀ (l:List α) (k:Nat),(l.map f).eraseIdx k=(l.eraseIdx k).map f
 | [],_=>rfl
 | _ :: _,0=>rfl
 | _ :: l,k + 1=>congrArg _ (zOu f l k)
def qH:FL:=λds R=>∃ ns,ds=[.scr ns]/\R (.bool true)
theorem zQV {α β:Type} (f:α->β) (xs:List α) (lo hi:Option Int):zv (xs.map f) lo hi=(zv xs lo hi).map f:=by
 unfold zv
 rw [a_,hV,j_]
theorem zSi (ns:List Int):(zv ns (some 9) (some 25)).length<=16:=by
 unfold zv
 have e1:=HT.sIx_nat ns.length 0 9
 have e2:=HT.sIx_nat ns.length ns.length 25
 rw [cU,fq]
 have e1:HT.sIx ns.length 0 (some 9)=min 9 ns.length:=e1
 have e2:HT.sIx ns.length ns.length (some 25)=min 25 ns.length:=e2
 rw [e1,e2]
 omega
def qV:D->Rat
 | .tup [.int a,.int b]=>(a:Rat) / (b:Rat)
 | _=>0
def ptV:D->List Rat
 | .lst ds=>ds.map qV
 | _=>[]
theorem Xv (xs:List Rat):ptV (dP xs)=xs:=by
 show (xs.map dQ).map qV=xs
 rw [dk]
 exact (eh λx _=>kD x).trans (ii _)
theorem zOv (T:List (List Int)):fR (Rm T).py (Rm T).py=true:=(KD (some T) (some T)).trans (decide_eq_true rfl)
theorem zSU {n:Nat} {bs:List (Int × Int)} {ms:List MD} {u:Int} (Th:wy n bs ms u) (n2:n<=2) {T:List (List Int)}:∀ {t b:Nat} {R0:List (List Int)},xR R0 n b->R0.length<=8->110<=b->b + 22 * t<=242->jK n bs ms t (some R0)=some T->xR T n 220/\T.length<=8
 | 0,_,_,_,_,_,_,h=>nomatch h
 | t + 1,b,R0,C,few,b1,b2,h=>by
  rw [Q9] at h
  by_cases c:wM n bs ms R0=some R0
  ·rw [if_pos c] at h
   cases h
   exact ⟨C.wid (by omega),few⟩
  ·rw [if_neg c] at h
   cases e:wM n bs ms R0 with
   | none=>rw [e,Q7] at h; cases h
   | some T1=>
    rw [e] at h
    obtain ⟨o1,o2⟩:=zR3 C b1 (by omega) few Th n2 e
    exact zSU Th n2 o1 o2 (by omega) (by omega) h
theorem zJn {n:Nat} {bs:List (Int × Int)} {ms:List MD} {u:Int} {T:List (List Int)} (h:xR T n 220) (few:T.length<=8) (Th:wy n bs ms u) (n2:n<=2) (fx:wM n bs ms T=some T) {ps:List (List Rat)} (RL:kF n bs ms ps) (h0:∀ r∈T,vp n (λj=>(ps.getD 0 []).getD j 0) r):∀ t,t < ps.length->∀ r∈T,vp n (λj=>(ps.getD t []).getD j 0) r
 | 0,_=>h0
 | t + 1,ht=>zSL h (by decide) (by decide) few Th n2 fx (zJn h few Th n2 fx RL h0 t (by omega)) (RL t ht)
section
variable {P:Program} {w:World} {K:cI} {mg:Str->Option Value} {base:Heap}
abbrev KP:Stmt:=zl 8
theorem zIH:zf ["thing"] ["thing"] (zS KP):=.a
abbrev KQ:Stmt:=zl 16
theorem zDr:zf ["value","count"] ["value","count"] (zS KQ):=.a
abbrev KR:Stmt:=zl 17
theorem zE4:zf ["value","tall","wide"] ["value","tall","wide"] (zS KR):=.a
abbrev KS:Stmt:=zl 18
theorem KT:zf ["value","depth"] ["value","depth"] (zS KS):=.a
abbrev KU:Stmt:=zl 19
theorem zKh:zf ["place","wide","number"] ["place","wide","number"] (zS KU):=.a
abbrev KW:Stmt:=zl 20
theorem zHR:zf ["numbers","others"] ["numbers","others"] (zS KW):=.a
abbrev KY:Stmt:=zl 21
theorem zE6:zf ["numbers","lists","wide"] ["numbers","lists","wide"] (zS KY):=.a
abbrev KZ:Stmt:=zl 23
theorem zHU:zf ["value","many"] ["value","many"] (zS KZ):=.a
abbrev Ka:Stmt:=zl 24
theorem zF2:zf ["value","many"] ["value","many"] (zS Ka):=.a
abbrev Kb:Stmt:=zl 25
theorem zKi:zf ["place","many","number","bound"] ["place","many","number","bound"] (zS Kb):=.a
abbrev Kc:Stmt:=Zi (zl 56) 0
theorem zEl:zf ["self","rows","nexts","steer","push","add","divisor"] ["self","rows","nexts","steer","push","add","divisor"] (zS Kc):=.a
abbrev Ke:Stmt:=zl 59
theorem zJu:zf ["value"] ["value"] (zS Ke):=.a
abbrev Kf:Stmt:=zl 60
theorem zJv:zf ["value","many","wide"] ["value","many","wide"] (zS Kf):=.a
abbrev Kg:Stmt:=zl 58
theorem Kh:zf ["many","pushes","modes"] ["many","pushes","modes"] (zS Kg):=.a
abbrev Ki:Stmt:=Zi (zl 57) 0
theorem zEC:zf ["self","many","pushes","modes"] ["self","many","pushes","modes"] (zS Ki):=.a
abbrev Kj:Stmt:=Zi (zl 57) 1
theorem zE7:zf ["self"] ["self"] (zS Kj):=.a
abbrev Kk:Stmt:=Zi (zl 57) 2
theorem zFr:zf ["self"] ["self"] (zS Kk):=.a
abbrev Kl:Stmt:=zl 61
theorem zC9:zf ["mode"] ["mode"] (zS Kl):=.a
abbrev Km:Stmt:=Zi (zl 57) 3
theorem zCX:zf ["self"] ["self"] (zS Km):=.a
abbrev Kn:Stmt:=zl 62
theorem zGP:zf ["thing"] ["thing"] (zS Kn):=.a
abbrev Ko:Stmt:=zl 49
theorem Kp:zf ["thing","mode","row","numbers","ahead"] ["thing","mode","row"] (zS Ko):=.a
abbrev Kq:Stmt:=zl 9
theorem kG:zf ["numbers","common","number","rest","left"] ["numbers"] (zS Kq):=.a
abbrev Kr:Stmt:=zl 10
theorem Ks:zf ["top","bottom","common"] ["top","bottom"] (zS Kr):=.a
abbrev Kt:Stmt:=zl 11
theorem zM5:zf ["one","other"] ["one","other"] (zS Kt):=.a
abbrev Ku:Stmt:=zl 12
theorem zM4:zf ["one","other"] ["one","other"] (zS Ku):=.a
abbrev Kv:Stmt:=zl 13
theorem zM3:zf ["one","other"] ["one","other"] (zS Kv):=.a
abbrev Kw:Stmt:=zl 14
theorem zGO:zf ["value"] ["value"] (zS Kw):=.a
abbrev Kx:Stmt:=zl 26
theorem kH:zf ["numbers","point","top","bottom","number","part"] ["numbers","point"] (zS Kx):=.a
abbrev Ky:Stmt:=zl 27
theorem zJB:zf ["row","point","total"] ["row","point"] (zS Ky):=.a
abbrev Kz:Stmt:=zl 28
theorem zJA:zf ["row","point","total"] ["row","point"] (zS Kz):=.a
abbrev K0:Stmt:=zl 31
theorem zDt:zf ["rows","place","number"] ["rows","place"] (zS K0):=.a
abbrev K1:Stmt:=zl 32
theorem zEa:zf ["rows","place","found","told"] ["rows","place","found"] (zS K1):=.a
abbrev K2:Stmt:=zl 33
theorem zF3:zf ["row","pivot","place","last"] ["row","pivot","place","last"] (zS K2):=.a
abbrev K3:Stmt:=zl 30
theorem jL:zf ["rows","left","last","place","found","pivot"] ["rows"] (zS K3):=.a
abbrev K4:Stmt:=zl 37
theorem zKk:zf ["many"] ["many"] (zS K4):=.a
abbrev K5:Stmt:=zl 39
theorem zDA:zf ["rows","corner"] ["rows","corner"] (zS K5):=.a
abbrev K6:Stmt:=zl 40
theorem zDo:zf ["rows","corner","row"] ["rows","corner","row"] (zS K6):=.a
abbrev K7:Stmt:=zl 46
theorem Xw:zf ["values","bottom","value"] ["values"] (zS K7):=.a
abbrev K8:Stmt:=zl 43
theorem zHV:zf ["corner","place","number"] ["corner","place","number"] (zS K8):=.a
abbrev K9:Stmt:=zl 41
theorem zEB:zf ["rows","corner","place","number","equations"] ["rows","corner","place","number"] (zS K9):=.a
abbrev zCv:Stmt:=zl 42
theorem zCZ:zf ["corner","fit","places"] ["corner","fit"] (zS zCv):=.a
abbrev zCd:Stmt:=zl 44
theorem zCQ:zf ["room","point","number","row"] ["room","point"] (zS zCd):=.a
abbrev zDd:Stmt:=zl 45
theorem qI:zf ["room","point","way","met","least","number","row","speed","spare"] ["room","point","way"] (zS zDd):=.a
abbrev zGQ:Stmt:=zl 47
theorem ZD:zf ["count","corner","weights","whole","numbers","number","share"] ["count","corner","weights"] (zS zGQ):=.a
abbrev zCc:Stmt:=zl 38
theorem kI:zf ["rows","count","corner","number","weights","place"] ["rows","count"] (zS zCc):=.a
abbrev zFJ:Stmt:=zl 36
theorem qk:zf ["rows","count","corner","row","point","weights","place","way","met"] ["rows","count","corner","row"] (zS zFJ):=.a
abbrev zKn:Stmt:=zl 35
theorem jM:zf ["room","row","count","rows","corner","broken","weights","place","turned_about"] ["room","row"] (zS zKn):=.a
abbrev zDc:Stmt:=zl 69
theorem zHT:zf ["_law_script","_law_k"] ["_law_script","_law_k"] (zS zDc):=.a
abbrev zED:Stmt:=zl 70
theorem ql:zf ["_law_cell","_law_many","_law_found","_law_rest","_law_k","_law_number_here"] ["_law_cell","_law_many"] (zS zED):=.a
abbrev zEE:Stmt:=zl 71
theorem zIG:zf ["_law_x","_law_far"] ["_law_x","_law_far"] (zS zEE):=.a
abbrev zIO:Stmt:=zl 75
theorem Xx:zf ["_law_cell","_law_many","_law_unit","_law_xs","_law_box_here","_law_i","_law_low"] ["_law_cell","_law_many","_law_unit"] (zS zIO):=.a
abbrev zGU:Stmt:=zl 76
theorem ZE:zf ["_law_box_here","_law_rows_here","_law_i","_law_ones"] ["_law_box_here"] (zS zGU):=.a
abbrev zGX:Stmt:=zl 74
theorem vv:zf ["_law_spec","_law_many","_law_pushes","_law_modes","_law_unit","_law_some","_law_rows_here","_law_nexts","_law_steer","_law_push","_law_add","_law_divisor_here","_law_lists"] ["_law_spec"] (zS zGX):=.a
abbrev zIM:Stmt:=zl 77
theorem Xy:zf ["_law_numbers","_law_box_here","_law_found","_law_number_here","_law_bounds"] ["_law_numbers","_law_box_here"] (zS zIM):=.a
abbrev zGW:Stmt:=zl 72
theorem uc:zf ["_law_cell","_law_many","_law_wide","_law_unit","_law_split","_law_xs","_law_divisor_here","_law_nexts","_law_push","_law_i","_law_add","_law_rows_here","_law_row"] ["_law_cell","_law_many","_law_wide","_law_unit","_law_split"] (zS zGW):=.a
abbrev zFB:Stmt:=zl 73
theorem jN:zf ["_law_script","_law_first","_law_second","_law_unit","_law_many","_law_pushes","_law_k","_law_x","_law_modes","_law_cell"] ["_law_script"] (zS zFB):=.a
abbrev zCa:Stmt:=zl 50
theorem zC8:zf ["thing","row"] ["thing","row"] (zS zCa):=.a
abbrev zB9:Stmt:=zl 51
theorem zEA:zf ["thing","row"] ["thing","row"] (zS zB9):=.a
abbrev zDF:Stmt:=zl 64
theorem UP:zf ["start","shape","told","numbers","found"] ["start","shape"] (zS zDF):=.a
abbrev zCw:Stmt:=zl 66
theorem kJ:zf ["thing","room","row","bound","mode","ahead","found","least"] ["thing","room","row"] (zS zCw):=.a
abbrev zDD:Stmt:=zl 65
theorem UQ:zf ["thing","room","told","row","bound"] ["thing","room"] (zS zDD):=.a
abbrev zIQ:Stmt:=zl 67
theorem Xz:zf ["thing","start","shape","tries","room","turn","larger"] ["thing","start","shape","tries"] (zS zIQ):=.a
abbrev zDb:Stmt:=zl 78
theorem zEb:zf ["_law_one","_law_other"] ["_law_one","_law_other"] (zS zDb):=.a
abbrev zEF:Stmt:=zl 79
theorem zE3:zf ["_law_top_here","_law_bottom","_law_share"] ["_law_top_here","_law_bottom"] (zS zEF):=.a
abbrev zGV:Stmt:=zl 80
theorem zKj:zf ["_law_one","_law_other"] ["_law_one","_law_other"] (zS zGV):=.a
abbrev zFF:Stmt:=zl 81
theorem X0:zf ["_law_numbers","_law_values","_law_found","_law_number_here","_law_value"] ["_law_numbers","_law_values"] (zS zFF):=.a
abbrev zFE:Stmt:=zl 82
theorem zF1:zf ["_law_row","_law_point_here","_law_value"] ["_law_row","_law_point_here"] (zS zFE):=.a
abbrev zGY:Stmt:=zl 83
theorem zHS:zf ["_law_room","_law_point_here"] ["_law_room","_law_point_here"] (zS zGY):=.a
abbrev zFD:Stmt:=zl 84
theorem qm:zf ["_law_cell","_law_box_here","_law_xs","_law_parts","_law_point_here","_law_k","_law_low","_law_high","_law_share"] ["_law_cell","_law_box_here"] (zS zFD):=.a
abbrev zEG:Stmt:=zl 85
theorem jO:zf ["_law_mode_here","_law_point_here","_law_steering","_law_pushes","_law_rows_here","_law_nexts","_law_steer","_law_push","_law_add","_law_divisor_here","_law_found","_law_i","_law_value"] ["_law_mode_here","_law_point_here","_law_steering","_law_pushes"] (zS zEG):=.a
abbrev zIN:Stmt:=zl 86
theorem jP:zf ["_law_spec","_law_point_here","_law_cells","_law_many","_law_pushes","_law_modes","_law_unit","_law_points","_law_cell","_law_ways","_law_mode_here","_law_drawn"] ["_law_spec","_law_point_here","_law_cells"] (zS zIN):=.a
abbrev zFC:Stmt:=zl 87
theorem jQ:zf ["_law_many","_law_cell","_law_xs","_law_shape_here","_law_k","_law_ones","_law_numbers"] ["_law_many","_law_cell"] (zS zFC):=.a
abbrev zFA:Stmt:=zl 88
theorem zJt:zf ["_law_found"] ["_law_found"] (zS zFA):=.a
abbrev ZF:Stmt:=zl 89
theorem ud:zf ["_law_script","_law_spec","_law_thing_here","_law_box_here","_law_start","_law_shape_here","_law_first","_law_room","_law_k","_law_points"] ["_law_script"] (zS ZF):=.a
variable {ag ah:Addr} (aa:xy K mg "Mode" ag) (ab:zO3 K ag) (ae:xy K mg "Thing" ah) (af:zMf K ah) {k:Nat} {f:Addr} {fd:FuncData} (B:Bl mg)
include aa ab ae af B
theorem zIY (F:zi K "is_whole" "is_whole" KP f fd):zF P w K mg base zY (k + 1) f fd ["thing"] (zH (j9)):=by
 refine zt F zIH λ_ _ _ _ _ _ hr=>⟨_,(zL (zZ (vj (yU (wo vz rfl B.isinstance_ vY (yA (zA 0) (yA (vx (v:=.ty "int") (u:=.type "int") rfl B.int_ Zk rfl) ym))) (uD zOk)) (ul (zOV (yU (wo vz rfl B.isinstance_ vY (yA (zA 0) (yA (vx (v:=.ty "bool") (u:=.type "bool") rfl B.bool_ zGG rfl) ym))) (uD zJR))))))),λds R h=>?_⟩
 obtain ⟨d,rfl,o,q⟩:=h
 refine ⟨o,λc=>⟨o,bR q ?_⟩,λc=>bR q ?_⟩
 ·unfold jg; rw [c]; rfl
 ·unfold jg; rw [c]; rfl
theorem zGq (F:zi K "is_numbers" "is_numbers" KQ f fd) (aj:Fn P w K mg base "is_whole" ["thing"] k (zH (j9))):zF P w K mg base zY (k + 1) f fd ["value","count"] (zH (QW)):=by
 refine zt F zDr λ_ _ _ _ _ _ hr=>⟨_,(zL (zZ (vj (yU (wo vz rfl B.isinstance_ vY (yA (zA 0) (yA (vx (v:=.ty "list") (u:=.type "list") rfl B.list_ wW rfl) ym))) (uD gd)) (vj (qc hr.units (yh xf xv rfl B.len_ xh (zB (zA 0) zC)) (zA 1)) (ul (yh (jU rfl) jc rfl B.all_ jV (zB (xF (own:=["number"]) (caps:=[]) (yZ zDr) rfl rfl yr (xN (zA 0)) (λ_ _ _ _=>(zz 0 (yD ["number"]))) (λ_ _ _ _=>(zQ aj hr rfl (zB (zA 0) zC)))) zC))))))),λds R h=>?_⟩
 obtain ⟨d,n,k,rfl,f,q⟩:=h
 refine ⟨f.no,λc=>?_,λc=>bR q ?_⟩
 ·obtain ⟨es,rfl,le,j,rfl,hj⟩:=f.lst_inv c
  refine ⟨λc2=>?_,λc2=>bR q ?_⟩
  ·refine zy.bool jg (by omega) (λd m=>⟨d,rfl,(hj d m).no,rfl⟩) ⟨_,rfl,bR q ?_⟩
   show (decide _ && _)=_
   rw [c2,kr]
   rfl
  ·show (decide _ && _)=_
   rw [c2]
   rfl
 ·cases d <;> first | rfl | cases c
theorem zIZ (F:zi K "is_table" "is_table" KR f fd) (aA:Fn P w K mg base "is_numbers" ["value","count"] k (zH (QW))):zF P w K mg base zY (k + 1) f fd ["value","tall","wide"] (zH (Y3)):=by
 refine zt F zE4 λ_ _ _ _ _ _ hr=>⟨_,(zL (zZ (vj (yU (wo vz rfl B.isinstance_ vY (yA (zA 0) (yA (vx (v:=.ty "list") (u:=.type "list") rfl B.list_ wW rfl) ym))) (uD gd)) (vj (qc hr.units (yh xf xv rfl B.len_ xh (zB (zA 0) zC)) (zA 1)) (ul (yh (jU rfl) jc rfl B.all_ jV (zB (xF (own:=["part"]) (caps:=[(2,"wide")]) (yZ zE4) rfl rfl yr (xN (zA 0)) (λ_ _ _ _=>(zz 0 (yD ["part","wide"]))) (λ_ _ _ _=>(zQ aA hr rfl (zB (zA 0) (zB (zA 1) zC))))) zC))))))),λds R h=>?_⟩
 obtain ⟨d,h,w,k,rfl,f,q⟩:=h
 refine ⟨f.no,λc=>?_,λc=>bR q ?_⟩
 ·obtain ⟨es,rfl,le,j,rfl,hj⟩:=f.lst_inv c
  refine ⟨λc2=>?_,λc2=>bR q ?_⟩
  ·refine zy.bool (W1 w) (by omega) (λd m=>⟨d,w,j,rfl,hj d m,rfl⟩) ⟨_,rfl,bR q ?_⟩
   show (decide _ && _)=_
   rw [c2,kr]
   rfl
  ·show (decide _ && _)=_
   rw [c2]
   rfl
 ·cases d <;> first | rfl | cases c
theorem X1 {dv:Value} {j:Nat} (F:xa K "copied" "copied" KS f fd dv) (am:wr P w K mg base "copied" ["value","depth"] k (zH (Y5 j)) (.int 5)):zF P w K mg base zY (k + 1) f fd ["value","depth"] (zH (Y5 (j + 1))):=by
 refine gm F KT λ_ _ _ _ _ _ hr=>⟨_,(zJ (yY (jZ hr.units (zA 1) zD) (zL (zZ (zA 0))) yX)
  (zJ (yY (xj (yU (wo vz rfl B.isinstance_ vY (yA (zA 0) (yA (vx (v:=.ty "list") (u:=.type "list") rfl B.list_ wW rfl) ym))) (uD gd))) (zL (zZ (xF (own:=["part"]) (caps:=[(1,"depth")]) (yZ KT) rfl rfl yr (xN (zA 0)) (λ_ _ _ _=>(zz 0 (yD ["part","depth"]))) (λ_ _ _ _=>(zQ am.fn hr rfl (zB (zA 0) (zB (vh (zA 1) zD) zC))))))) yX)
  (zJ (yY (xj (yU (wo vz rfl B.isinstance_ vY (yA (zA 0) (yA (vx (v:=.ty "tuple") (u:=.type "tuple") rfl B.tuple_ uI rfl) ym))) (uD QI))) (zL (zZ (x9 jS jb rfl B.tuple_ uI (zB (xF (own:=["part"]) (caps:=[(1,"depth")]) (yZ KT) rfl rfl yr (xN (zA 0)) (λ_ _ _ _=>(zz 0 (yD ["part","depth"]))) (λ_ _ _ _=>(zQ am.fn hr rfl (zB (zA 0) (zB (vh (zA 1) zD) zC))))) zC)))) yX)
  (zL (zZ (zA 0)))))),λds R h=>?_⟩
 obtain ⟨d,n,rfl,f,q⟩:=h
 refine ⟨λc=>q,λc=>?_⟩
 refine ⟨f.no,λc=>?_,λc=>?_⟩
 ·obtain ⟨es,rfl,le,i,e1,hj⟩:=f.lst_inv c
  cases e1
  refine zy.map id (by omega) (λd m=>⟨d,_,rfl,hj d m,rfl⟩) ?_
  rw [ii]
  exact q
 refine ⟨f.no,λc=>?_,λc=>q⟩
 obtain ⟨es,rfl,le,i,e1,hj⟩:=f.tup_inv c
 cases e1
 refine zy.map id (by omega) (λd m=>⟨d,_,rfl,hj d m,rfl⟩) ?_
 rw [ii]
 exact q
theorem zPw {dv:Value} (F:xa K "unit" "unit" KU f fd dv):zF P w K mg base zY (k + 1) f fd ["place","wide","number"] (zH (zSY)):=by
 refine gm F zKh λ_ _ _ _ _ _ hr=>⟨_,(zL (zZ (xF (own:=["other"]) (caps:=[(0,"place"),(2,"number")]) (yZ zKh) rfl rfl yr (xZ rfl B.range_ (zB (zA 1) zC)) (λ_ _ _ _=>(zz 0 (yD ["other","place","number"]))) (λ_ _ _ _=>(YM (jZ hr.units (zA 0) (zA 1)) (zA 2) zD))))),λds R h=>?_⟩
 obtain ⟨p,w,n,rfl,w0,w1,q⟩:=h
 refine ⟨by omega,by omega,zy.rng0 (λi=>.int (if (i:Int)=p then n else 0)) (by omega) (λk hk=>?_) ?_⟩
 ·refine ⟨λc=>?_,λc=>?_⟩
  ·show D.int n=_
   rw [if_pos (of_decide_eq_true c)]
  ·show D.int 0=_
   rw [if_neg (of_decide_eq_false c)]
 ·unfold yy L at q
  rw [dk] at q
  exact q
theorem zLO (F:zi K "paired" "paired" KW f fd):zF P w K mg base zY (k + 1) f fd ["numbers","others"] (zH (W4)):=by
 refine zt F zHR λ_ _ _ _ _ _ hr=>⟨_,(zL (zZ (yh (zJi rfl) zMS rfl B.sum_ zH5 (zB (xF (own:=["number","other"]) (caps:=[]) (yZ zHR) rfl rfl (qd (vP (vP qf))) (jd rfl B.zip_ (zB (zA 0) (zB (zA 1) zC))) (λ_ _ _ _=>(wc rfl (yJ 0 (yD ["number","other"]) (yJ 1 (yD ["number","other"]) wa)))) (λ_ _ _ _=>(yN (zA 0) (zA 1)))) zC)))),λds R h=>?_⟩
 obtain ⟨d,e,ns,os,rfl,h,k,l,bn,bo,q⟩:=h
 refine h.zip k (zSj (λq=>q.1 * q.2) (by rw [eP]; omega) (λp hp=>⟨(bn _ (d8 hp).1).mono,(bo _ (d8 hp).2).mono,rfl⟩) ⟨_,rfl,?_⟩)
 rw [zI5]
 exact q
theorem zIc (F:zi K "added_up" "added_up" KY f fd):zF P w K mg base zY (k + 1) f fd ["numbers","lists","wide"] (zH (zOt)):=by
 refine zt F zE6 λ_ _ _ _ _ _ hr=>⟨_,(zL (zZ (xF (own:=["place"]) (caps:=[(0,"numbers"),(1,"lists")]) (yZ zE6) rfl rfl yr (xZ rfl B.range_ (zB (zA 2) zC)) (λ_ _ _ _=>(zz 0 (yD ["place","numbers","lists"]))) (λ_ _ _ _=>(yh (zJi rfl) zMS rfl B.sum_ zH5 (zB (xF (own:=["number","part"]) (caps:=[(0,"place")]) bki rfl rfl (qd (vP (vP qf))) (jd rfl B.zip_ (zB (zA 1) (zB (zA 2) zC))) (λ_ _ _ _=>(wc rfl (yJ 0 (yD ["number","part","place"]) (yJ 1 (yD ["number","part","place"]) wa)))) (λ_ _ _ _=>(yN (zA 0) (zP (zA 1) (zA 2))))) zC)))))),λds R h=>?_⟩
 obtain ⟨d,e,ns,ls,w,rfl,h,k,lw,ln,bn,bl,q⟩:=h
 refine ⟨by omega,by omega,?_⟩
 rw [show ((w:Nat):Int).toNat=w by omega]
 refine zy.rng0 (λj=>.int (yE ns ls j)) (by omega) (λj hj=>?_) (by unfold L at q; rw [dk] at q; exact q)
 refine h.zipT k λu hu=>vG (λq=>xO (.int q.1) (u q.2)) v2 (Y6 hu) (λq=>.int (q.1 * q.2.getD j 0)) (by rw [eP]; omega) (λq hq=>?_) ⟨(ns.zip ls).map λq=>q.1 * q.2.getD j 0,by rw [dk]; rfl,rfl⟩
 have hb:=bl q.2 (d8 hq).2
 rcases hu with rfl | rfl
 all_goals exact ⟨_,uV (j:=j) (by omega) (by omega),(bn _ (d8 hq).1).mono,(uW hb.2 j).mono,rfl⟩
theorem zLU (F:zi K "is_row" "is_row" KZ f fd) (aj:Fn P w K mg base "is_whole" ["thing"] k (zH (j9))):zF P w K mg base zY (k + 1) f fd ["value","many"] (zH (Y4)):=by
 refine zt F zHU λ_ _ _ _ _ _ hr=>⟨_,(zL (zZ (vj (yU (wo vz rfl B.isinstance_ vY (yA (zA 0) (yA (vx (v:=.ty "tuple") (u:=.type "tuple") rfl B.tuple_ uI rfl) ym))) (uD QI)) (vj (qc hr.units (yh xf xv rfl B.len_ xh (zB (zA 0) zC)) (yB (zA 1) zD)) (ul (yh (jU rfl) jc rfl B.all_ jV (zB (xF (own:=["number"]) (caps:=[]) (yZ zHU) rfl rfl yr (xN (zA 0)) (λ_ _ _ _=>(zz 0 (yD ["number"]))) (λ_ _ _ _=>(zQ aj hr rfl (zB (zA 0) zC)))) zC))))))),λds R h=>?_⟩
 obtain ⟨d,n,k,rfl,f,q⟩:=h
 refine ⟨f.no,λc=>?_,λc=>bR q ?_⟩
 ·obtain ⟨es,rfl,le,j,rfl,hj⟩:=f.tup_inv c
  refine ⟨λc2=>?_,λc2=>bR q ?_⟩
  ·refine zy.bool jg (by omega) (λd m=>⟨d,rfl,(hj d m).no,rfl⟩) ⟨_,rfl,bR q ?_⟩
   show (decide _ && _)=_
   rw [c2,kr]
   rfl
  ·show (decide _ && _)=_
   rw [c2]
   rfl
 ·cases d <;> first | rfl | cases c
theorem zKA (F:zi K "is_room" "is_room" Ka f fd) (aX:Fn P w K mg base "is_row" ["value","many"] k (zH (Y4))):zF P w K mg base zY (k + 1) f fd ["value","many"] (zH (zSb)):=by
 refine zt F zF2 λ_ _ _ _ _ _ hr=>⟨_,(zL (zZ (vj (yU (wo vz rfl B.isinstance_ vY (yA (zA 0) (yA (vx (v:=.ty "list") (u:=.type "list") rfl B.list_ wW rfl) ym))) (uD gd)) (ul (yh (jU rfl) jc rfl B.all_ jV (zB (xF (own:=["row"]) (caps:=[(1,"many")]) (yZ zF2) rfl rfl yr (xN (zA 0)) (λ_ _ _ _=>(zz 0 (yD ["row","many"]))) (λ_ _ _ _=>(zQ aX hr rfl (zB (zA 0) (zB (zA 1) zC))))) zC)))))),λds R h=>?_⟩
 obtain ⟨d,n,k,rfl,f,q⟩:=h
 refine ⟨f.no,λc=>?_,λc=>bR q ?_⟩
 ·obtain ⟨es,rfl,le,j,rfl,hj⟩:=f.lst_inv c
  refine zy.bool (j8 n) (by omega) (λd m=>⟨d,n,j,rfl,hj d m,rfl⟩) ⟨_,rfl,bR q ?_⟩
  rw [kr]
  rfl
 ·cases d <;> first | rfl | cases c
theorem zLN (F:zi K "single" "single" Kb f fd) (aY:wr P w K mg base "unit" ["place","wide","number"] k (zH (zSY)) (.int 1)):zF P w K mg base zY (k + 1) f fd ["place","many","number","bound"] (zH (zL6)):=by
 refine zt F zKi λ_ _ _ _ _ _ hr=>⟨_,(zL (zZ (yB (x9 jS jb rfl B.tuple_ uI (zB (zQ aY.fn hr rfl (zB (zA 0) (zB (zA 1) (zB (zA 2) zC)))) zC)) (xX (zB (zA 3) zC))))),λds R h=>?_⟩
 obtain ⟨p,w,n,b,rfl,w0,w1,q⟩:=h
 refine ⟨p,w,n,rfl,w0,w1,k0,by rw [a_,v5]; show _ + 1<=1000; omega,?_⟩
 unfold U at q
 rw [db] at q
 exact q
theorem zEm (F:zi K "__init__" "Mode.__init__" Kc f fd) (am:wr P w K mg base "copied" ["value","depth"] k (zH (Y5 5)) (.int 5)):zF P w K mg base zY (k + 1) f fd ["self","rows","nexts","steer","push","add","divisor"] (jE ag (zOs ag)):=by
 refine okI F zEl (λds R h=>by obtain ⟨r,n,s,p,a,d,rfl,_⟩:=h; rfl) λcdv A outer s H E hr=>⟨_,(zJ (yP (jn (xM 0) (j5 (.int 5) (λ_=>.int 5) am hr rfl (zB (zA 1) zC)) rfl) j4)
  (zJ (yP (jn (xM 0) (j5 (.int 5) (λ_=>.int 5) am hr rfl (zB (zA 2) zC)) rfl) j4)
  (zJ (yP (jn (xM 0) (j5 (.int 5) (λ_=>.int 5) am hr rfl (zB (zA 3) zC)) rfl) j4)
  (zJ (yP (jn (xM 0) (j5 (.int 5) (λ_=>.int 5) am hr rfl (zB (zA 4) zC)) rfl) j4)
  (zJ (yP (jn (xM 0) (j5 (.int 5) (λ_=>.int 5) am hr rfl (zB (zA 5) zC)) rfl) j4)
  (zL (yP (jn (xM 0) (zA 6) rfl) j4))))))),λo ds R h=>?_⟩
 obtain ⟨r,n,s,p,a,d,rfl,f1,f2,f3,f4,f5,q⟩:=h
 refine ⟨r,5,rfl,f1,⟨aa.cl,ab.n_rows⟩,by decide +kernel,by decide,rfl,?_⟩
 refine ⟨n,5,rfl,f2,⟨aa.cl,ab.n_nexts⟩,by decide +kernel,by decide,rfl,?_⟩
 refine ⟨s,5,rfl,f3,⟨aa.cl,ab.n_steer⟩,by decide +kernel,by decide,rfl,?_⟩
 refine ⟨p,5,rfl,f4,⟨aa.cl,ab.n_push⟩,by decide +kernel,by decide,rfl,?_⟩
 refine ⟨a,5,rfl,f5,⟨aa.cl,ab.n_add⟩,by decide +kernel,by decide,rfl,?_⟩
 exact ⟨⟨aa.cl,ab.n_divisor⟩,by decide +kernel,by decide,rfl,rfl,q⟩
theorem zKB (F:zi K "is_push" "is_push" Ke f fd) (aj:Fn P w K mg base "is_whole" ["thing"] k (zH (j9))):zF P w K mg base zY (k + 1) f fd ["value"] (zH (zL8)):=by
 refine zt F zJu λ_ _ _ _ _ _ hr=>⟨_,(zJ (yY (PW.pt (uT (ww (xj (yU (wo vz rfl B.isinstance_ vY (yA (zA 0) (yA (vx (v:=.ty "tuple") (u:=.type "tuple") rfl B.tuple_ uI rfl) ym))) (uD QI)))) (uk (kg hr.units (yh xf xv rfl B.len_ xh (zB (zA 0) zC)) zD)))) (zL (zZ uS)) yX)
  (zL (zZ (vj (zQ aj hr rfl (zB (zP (zA 0) zD) zC)) (vj (zQ aj hr rfl (zB (zP (zA 0) zD) zC)) (ul (Jm (zP (zA 0) zD) (zP (zA 0) zD)))))))),λds R h=>?_⟩
 obtain ⟨b,rfl,h,q⟩:=h
 refine ⟨rfl,wF rfl (wF rfl ?_)⟩
 refine ⟨_,rfl,_,rfl,rfl,wT rfl ?_⟩
 refine ⟨_,rfl,_,rfl,rfl,wT rfl ?_⟩
 exact ⟨_,rfl,_,rfl,bR q (decide_eq_true h).symm⟩
theorem zKC (F:zi K "is_mode" "is_mode" Kf f fd) (aZ:Fn P w K mg base "is_room" ["value","many"] k (zH (zSb))) (aV:Fn P w K mg base "is_table" ["value","tall","wide"] k (zH (Y3))) (aA:Fn P w K mg base "is_numbers" ["value","count"] k (zH (QW))) (aj:Fn P w K mg base "is_whole" ["thing"] k (zH (j9))):zF P w K mg base zY (k + 1) f fd ["value","many","wide"] (zH (zL9 ag)):=by
 refine zt F zJv λ_ _ _ _ _ _ hr=>⟨_,(zJ (yY (PW.pt (uT (ww (xj (yU (wo zH4 rfl B.isinstance_ vY (yA (zA 0) (yA (zRj aa rfl) ym))) zMu))) (uk (ww (xj (zQ aZ hr rfl (zB (wK K (zA 0) rfl) (zB (zA 1) zC)))))))) (zL (zZ uS)) yX)
  (zJ (yY (PW.pt (uT (ww (xj (zQ aV hr rfl (zB (wK K (zA 0) rfl) (zB (zA 1) (zB (zA 1) zC)))))) (uk (ww (xj (zQ aV hr rfl (zB (wK K (zA 0) rfl) (zB (zA 1) (zB (zA 2) zC))))))))) (zL (zZ uS)) yX)
  (zJ (yY (PW.pt (uT (ww (xj (zQ aA hr rfl (zB (wK K (zA 0) rfl) (zB (zA 1) zC))))) (uk (ww (xj (zQ aA hr rfl (zB (wK K (zA 0) rfl) (zB (zA 1) zC)))))))) (zL (zZ uS)) yX)
  (zL (zZ (vj (zQ aj hr rfl (zB (wK K (zA 0) rfl) zC)) (ul (Jn (wK K (zA 0) rfl) zD)))))))),λds R h=>?_⟩
 obtain ⟨m,n,p,rfl,h,q⟩:=h
 have n3:=h.n3
 have p6:=h.p6
 refine ⟨⟨_,_,aa⟩,_,zNm,wF rfl ?_⟩
 refine ⟨⟨aa.cl,ab.n_rows⟩,_,rfl,_,_,3,rfl,zSV h.few (λr hr=>by rw [h.rows r hr]; omega),wF (by rw [zPK λr hr=>by rw [h.rows r hr]; rfl]; rfl) ?_⟩
 refine ⟨⟨aa.cl,ab.n_nexts⟩,_,rfl,_,_,_,3,rfl,W5 (by rw [h.nexts.1]; omega) (λr hr=>by rw [h.nexts.2 r hr]; omega),wF (by rw [zON (by rw [h.nexts.1]) (λr hr=>by rw [h.nexts.2 r hr])]; rfl) ?_⟩
 refine ⟨⟨aa.cl,ab.n_push⟩,_,rfl,_,_,_,3,rfl,W5 (by rw [h.push.1]; omega) (λr hr=>by rw [h.push.2 r hr]; omega),wF (by rw [zON (by rw [h.push.1]) (λr hr=>by rw [h.push.2 r hr])]; rfl) ?_⟩
 refine ⟨⟨aa.cl,ab.n_steer⟩,_,rfl,_,_,2,rfl,jG (by rw [h.steer]; omega),wF (by rw [QZ (by rw [h.steer])]; rfl) ?_⟩
 refine ⟨⟨aa.cl,ab.n_add⟩,_,rfl,_,_,2,rfl,jG (by rw [h.add]; omega),wF (by rw [QZ (by rw [h.add])]; rfl) ?_⟩
 refine ⟨⟨aa.cl,ab.n_divisor⟩,_,rfl,_,rfl,rfl,wT rfl ?_⟩
 exact ⟨⟨aa.cl,ab.n_divisor⟩,_,rfl,bR q (decide_eq_true h.div).symm⟩
theorem zIa (F:zi K "is_sound" "is_sound" Kg f fd) (aj:Fn P w K mg base "is_whole" ["thing"] k (zH (j9))) (be:Fn P w K mg base "is_push" ["value"] k (zH (zL8))) (bh:Fn P w K mg base "is_mode" ["value","many","wide"] k (zH (zL9 ag))):zF P w K mg base zY (k + 1) f fd ["many","pushes","modes"] (zH (zJX ag)):=by
 refine zt F Kh λ_ _ _ _ _ _ hr=>⟨_,(zJ (yY (PW.pt (uT (ww (xj (zQ aj hr rfl (zB (zA 0) zC)))) (uT (kh (zA 0) zD) (uk (gZ (zA 0) (Jj rfl B.MOST_NUMBERS_)))))) (zL (zZ uS)) yX)
  (zJ (yY (PW.pt (uT (ww (xj (yU (wo vz rfl B.isinstance_ vY (yA (zA 1) (yA (vx (v:=.ty "list") (u:=.type "list") rfl B.list_ wW rfl) ym))) (uD gd)))) (uk (ww (xj (yh (jU rfl) jc rfl B.all_ jV (zB (xF (own:=["push"]) (caps:=[]) (yZ Kh) rfl rfl yr (xN (zA 1)) (λ_ _ _ _=>(zz 0 (yD ["push"]))) (λ_ _ _ _=>(zQ be hr rfl (zB (zA 0) zC)))) zC))))))) (zL (zZ uS)) yX)
  (zJ (yY (PW.pt (uT (ww (xj (yU (wo vz rfl B.isinstance_ vY (yA (zA 2) (yA (vx (v:=.ty "list") (u:=.type "list") rfl B.list_ wW rfl) ym))) (uD gd)))) (uk (jZ hr.units (yh xf xv rfl B.len_ xh (zB (zA 2) zC)) zD)))) (zL (zZ uS)) yX)
  (zL (zZ (yh (jU rfl) jc rfl B.all_ jV (zB (xF (own:=["mode"]) (caps:=[(0,"many"),(1,"pushes")]) (yZ Kh) rfl rfl yr (xN (zA 2)) (λ_ _ _ _=>(zz 0 (yD ["mode","many","pushes"]))) (λ_ _ _ _=>(zQ bh hr rfl (zB (zA 0) (zB (zA 1) (zB (yh xf xv rfl B.len_ xh (zB (zA 2) zC)) zC)))))) zC))))))),λds R h=>?_⟩
 obtain ⟨n,bs,ms,rfl,h,q⟩:=h
 have n1:=h.n1
 have n3:=h.n3
 have m40:=h.m40
 have m1:=h.m1
 have b6:=h.b6
 refine ⟨_,rfl,rfl,wF rfl (wF (decide_eq_false (by omega)) (wF (decide_eq_false (by omega)) ?_))⟩
 refine ⟨rfl,wF rfl ?_⟩
 refine vG zu Qd (λ_=>rfl) (λ_=>.bool true) (by omega) (λb hb=>⟨b,rfl,h.bok b hb,rfl⟩) ⟨bs.map λ_=>true,by rw [dk]; rfl,?_⟩
 rw [show (bs.map λ_=>true).all id=true from di.mpr λx hx=>by obtain ⟨_,_,rfl⟩:=cP.mp hx; rfl]
 refine wF rfl ?_
 refine ⟨rfl,wF rfl (wF (decide_eq_false (by rw [a_]; omega)) ?_)⟩
 refine vG (jF ag) xz (zKT _) (λ_=>.bool true) (by omega) (λm hm=>⟨m,n,bs.length,by rw [a_],h.mok m hm,rfl⟩) ⟨ms.map λ_=>true,by rw [dk]; rfl,bR q ?_⟩
 exact (di.mpr λx hx=>by obtain ⟨_,_,rfl⟩:=cP.mp hx; rfl).symm
theorem zEQ (F:zi K "__init__" "Thing.__init__" Ki f fd) (bi:Fn P w K mg base "is_sound" ["many","pushes","modes"] k (zH (zJX ag))):zF P w K mg base zY (k + 1) f fd ["self","many","pushes","modes"] (jE ah (zL5 ah ag)):=by
 refine okI F zEC (λds R h=>by obtain ⟨n,bs,ms,rfl,_⟩:=h; rfl) λcdv A outer s H E hr=>⟨_,(zJ (yY (ww (xj (zQ bi hr rfl (zB (zA 1) (zB (zA 2) (zB (zA 3) zC)))))) (zL Yn) yX)
  (zJ (yY (PW.pt (uT (gZ (yh xf xv rfl B.len_ xh (zB (zA 2) zC)) (Jj rfl B.MOST_PUSHES_)) (uk (gZ (yh xf xv rfl B.len_ xh (zB (zA 3) zC)) (Jj rfl B.MOST_MODES_))))) (zL Yn) yX)
  (zJ (yP (jn (xM 0) (zA 1) rfl) j4)
  (zJ (yP (jn (xM 0) (x9 u3 ja rfl B.list_ wW (zB (zA 2) zC)) rfl) j4)
  (zL (yP (jn (xM 0) (x9 u3 ja rfl B.list_ wW (zB (zA 3) zC)) rfl) j4)))))),λo ds R h=>?_⟩
 obtain ⟨n,bs,ms,rfl,h,q⟩:=h
 have m40:=h.m40
 have b6:=h.b6
 refine ⟨n,bs,ms,rfl,h,wF rfl ?_⟩
 refine wF (decide_eq_false (by rw [a_]; omega)) (wF (decide_eq_false (by rw [a_]; omega)) ?_)
 refine ⟨⟨ae.cl,af.n_many⟩,by decide +kernel,by decide,rfl,?_⟩
 refine ⟨⟨ae.cl,af.n_kept_pushes⟩,by decide +kernel,by decide,rfl,?_⟩
 exact ⟨⟨ae.cl,af.n_kept_modes⟩,by decide +kernel,by decide,rfl,rfl,q⟩
theorem zFW (F:zi K "pushes" "Thing.pushes" Kj f fd):zF P w K mg base zY (k + 1) f fd ["self"] (zH (Qa ah ag)):=by
 refine zt F zE7 λ_ _ _ _ _ _ hr=>⟨_,(zL (zZ (x9 u3 ja rfl B.list_ wW (zB (wK K (zA 0) rfl) zC)))),λds R h=>?_⟩
 obtain ⟨n,bs,ms,rfl,q⟩:=h
 exact ⟨⟨ae.cl,af.n_kept_pushes⟩,_,rfl,q⟩
theorem zFu (F:zi K "modes" "Thing.modes" Kk f fd):zF P w K mg base zY (k + 1) f fd ["self"] (zH (zOr ah ag)):=by
 refine zt F zFr λ_ _ _ _ _ _ hr=>⟨_,(zL (zZ (x9 u3 ja rfl B.list_ wW (zB (wK K (zA 0) rfl) zC)))),λds R h=>?_⟩
 obtain ⟨n,bs,ms,rfl,q⟩:=h
 exact ⟨⟨ae.cl,af.n_kept_modes⟩,_,rfl,q⟩
theorem zFS (F:zi K "is_unsteered" "is_unsteered" Kl f fd):zF P w K mg base zY (k + 1) f fd ["mode"] (zH (zGC ag)):=by
 refine zt F zC9 λ_ _ _ _ _ _ hr=>⟨_,(zL (zZ (yh (jU rfl) jc rfl B.all_ jV (zB (xF (own:=["number"]) (caps:=[]) (yZ zC9) rfl rfl yr (xN (wK K (zA 0) rfl)) (λ_ _ _ _=>(zz 0 (yD ["number"]))) (λ_ _ _ _=>(qc hr.units (zA 0) zD))) zC)))),λds R h=>?_⟩
 obtain ⟨m,rfl,h,q⟩:=h
 refine ⟨⟨aa.cl,ab.n_steer⟩,_,rfl,?_⟩
 refine Y7 (λx=>decide (x=0)) (by omega) (λn hn=>rfl) ⟨_,rfl,bR q ?_⟩
 rw [kr]
theorem zDz (F:zi K "is_closed" "Thing.is_closed" Km f fd) (bz:Fn P w K mg base "is_unsteered" ["mode"] k (zH (zGC ag))):zF P w K mg base zY (k + 1) f fd ["self"] (zH (zMB ah ag)):=by
 refine zt F zCX λ_ _ _ _ _ _ hr=>⟨_,(zL (zZ (yh (jU rfl) jc rfl B.all_ jV (zB (xF (own:=["mode"]) (caps:=[]) (yZ zCX) rfl rfl yr (xN (wK K (zA 0) rfl)) (λ_ _ _ _=>(zz 0 (yD ["mode"]))) (λ_ _ _ _=>(zQ bz hr rfl (zB (zA 0) zC)))) zC)))),λds R h=>?_⟩
 obtain ⟨n,bs,ms,rfl,h,q⟩:=h
 refine ⟨⟨ae.cl,af.n_kept_modes⟩,_,rfl,?_⟩
 have m40:=h.m40
 refine vG (jF ag) xz (zKT _) (λm=>.bool (m.steer.all λx=>decide (x=0))) (by omega) (λm hm=>⟨m,rfl,by have:=(h.mok m hm).steer; have:=h.n3; omega,rfl⟩) ⟨ms.map λm=>m.steer.all λx=>decide (x=0),by rw [dk]; rfl,bR q ?_⟩
 rw [kr]
 rfl
theorem zGv (F:zi K "ask_closed" "ask_closed" Kn f fd) (bA:jW P w K mg base ah "is_closed" ["self"] k (zH (zMB ah ag))):zF P w K mg base zY (k + 1) f fd ["thing"] (zH (Qc ah ag)):=by
 refine zt F zGP λ_ _ _ _ _ _ hr=>⟨_,(zL (yY (ww (xj (Wy bA ae hr (zA 0)))) (zL Yn) yX)),λds R h=>?_⟩
 obtain ⟨n,bs,ms,rfl,h,c,q⟩:=h
 exact ⟨rfl,by decide +kernel,n,bs,ms,rfl,h,wF (by rw [c]; rfl) q⟩
theorem zNU (F:zi K "reach" "reach" Ko f fd) (aW:Fn P w K mg base "added_up" ["numbers","lists","wide"] k (zH (zOt))) (aD:jW P w K mg base ah "pushes" ["self"] k (zH (Qa ah ag))) (aq:Fn P w K mg base "paired" ["numbers","others"] k (zH (W4))):zF P w K mg base zY (k + 1) f fd ["thing","mode","row"] (zH (zOq ah ag)):=by
 refine zt F Kp λ_ _ _ _ _ _ hr=>⟨_,(zJ (za 3 Kp.nd (vN (zA 2) uC (wR (xU zD))))
  (zJ (za 4 Kp.nd (yB (zQ aW hr rfl (zB (zA 3) (zB (wK K (zA 1) rfl) (zB (wK K (zA 0) rfl) zC)))) (zQ aW hr rfl (zB (zA 3) (zB (wK K (zA 1) rfl) (zB (yh xf xv rfl B.len_ xh (zB (Wy aD ae hr (zA 0)) zC)) zC))))))
  (zL (zZ (yB (x9 jS jb rfl B.tuple_ uI (zB (zA 4) zC)) (xX (zB (vh (yN (wK K (zA 1) rfl) (zP (zA 2) (xU zD))) (zQ aq hr rfl (zB (zA 3) (zB (wK K (zA 1) rfl) zC)))) zC))))))),λds R h=>?_⟩
 obtain ⟨n,bs,ms,m,r,rfl,n3,b6,MO,MB,lr,br,q⟩:=h
 have lt:(r.take n).length=n:=by rw [cU]; omega
 have bt:∀ x∈r.take n,Bd 9000 x:=λx hx=>br x (dY hx)
 have hp:(fT zu bs).length=bs.length:=a_ ..
 refine ⟨⟨aa.cl,ab.n_nexts⟩,_,rfl,⟨ae.cl,af.n_many⟩,_,rfl,_,_,r.take n,m.nexts,n,rfl,.inr (by rw [jh lr]),.inl rfl,by omega,by omega,bt,λx hx=>⟨by rw [MO.nexts.2 x hx]; omega,MB.nexts x hx⟩,?_⟩
 refine ⟨⟨aa.cl,ab.n_push⟩,_,rfl,rfl,by decide +kernel,n,bs,ms,rfl,_,_,r.take n,m.push,bs.length,by rw [hp],.inr (by rw [jh lr]),.inl rfl,by omega,by omega,bt,λx hx=>⟨by rw [MO.push.2 x hx]; omega,MB.push x hx⟩,?_⟩
 refine ⟨by rw [a_,a_,a_,a_,cX,cX]; omega,?_⟩
 refine ⟨⟨aa.cl,ab.n_divisor⟩,_,rfl,_,k7 lr,MB.div.mono,(uW br n).mono,⟨aa.cl,ab.n_add⟩,_,rfl,_,_,r.take n,m.add,rfl,.inr (by rw [jh lr]),.inl rfl,by omega,bt,MB.add,k0,?_,?_⟩
 ·rw [cJ,a_,a_,a_,a_,cX,cX]
  show _ + 1<=1000
  omega
 ·unfold W6 U at q
  rw [db,db] at q
  exact q
theorem zEP (F:zi K "common_divisor" "common_divisor" Kq f fd):zF P w K mg base zY (k + 1) f fd ["numbers"] (zH (Qg)):=by
 refine zt F kG λ_ _ _ _ _ _ hr=>⟨_,(zJ (za 1 kG.nd zD)
  (zJ (xY PassesOwn.never rfl (xN (zA 0)) (zz 2 kG.nd) (zJ (za 3 kG.nd (yh zJj zQZ rfl B.abs_ zH6 (zB (zA 2) zC)))
   (zL (QR PassesOwn.never (kg hr.units (zA 3) zD) (zJ (za 4 kG.nd (xu (zA 1) (zA 3)))
    (zJ (za 1 kG.nd (zA 3))
    (zL (za 3 kG.nd (zA 4)))))))))
  (zL (zZ (zA 1))))),λds R h=>?_⟩
 obtain ⟨a,b,rfl,q⟩:=h
 refine ⟨λk Γ=>∃ s2 s3 s4,Γ=[.sh (.tup [.int a,.int b]),.sh (.int (((match k with | 0=>0 | 1=>a.natAbs | _=>lX a.natAbs b.natAbs):Nat):Int)),s2,s3,s4],⟨_,_,_,rfl⟩,?_,?_⟩
 ·have key:∀ (x:Int) (g:Nat) (s3 s4:Sl) (T:J8),(∀ s2 s3 s4,T.nx [.sh (.tup [.int a,.int b]),.sh (.int ((lX g x.natAbs:Nat):Int)),s2,s3,s4])->j3 (vn 3 (jy gj (zRo (qX 2) YN))) (zOb (xb (xT qZ (qX 3) (pC (.int 0)))) (j3 (vn 4 (xT jw (qX 1) (qX 3))) (j3 (vn 1 (qX 3)) (vn 3 (qX 4))))) T [.sh (.tup [.int a,.int b]),.sh (.int ((g:Nat):Int)),.sh (.int x),s3,s4]:=λx g s3 s4 T hT=>by
   refine ⟨λm Γ=>∃ (c r:Nat) (s4:Sl),Γ=[.sh (.tup [.int a,.int b]),.sh (.int ((c:Nat):Int)),.sh (.int x),.sh (.int ((r:Nat):Int)),s4]/\lX c r=lX g x.natAbs/\r=m,⟨_,g,x.natAbs,s4,by rw [zQk]; rfl,rfl,rfl⟩,?_⟩
   rintro m Γ' ⟨c,r,s4,rfl,hG,rfl⟩
   refine w2 (λc1=>?_) λc1=>?_
   ·have r0:r≠0:=λz=>by rw [z] at c1; cases c1
    refine ⟨by omega,c % r,Nat.mod_lt _ (by omega),r,c % r,_,by rw [zNy]; rfl,?_,rfl⟩
    rw [<- hG,Nat.gcd_comm c r,Nat.gcd_rec r c,Nat.gcd_comm]
   ·have r0:r=0:=by have:=of_decide_eq_true (Qf c1); omega
    rw [r0,Nat.gcd_zero_right] at hG
    rw [hG]
    exact hT _ _ _
  rintro k d Γ' hk ⟨s2,s3,s4,rfl⟩
  match k,hk with
  | 0,hk=>
   cases hk
   refine key a 0 s3 s4 _ λt2 t3 t4=>⟨t2,t3,t4,?_⟩
   rw [Nat.gcd_zero_left]
   rfl
  | 1,hk=>
   cases hk
   exact key b a.natAbs s3 s4 _ λt2 t3 t4=>⟨t2,t3,t4,rfl⟩
  | _ + 2,hk=>cases hk
 ·rintro Γ' ⟨s2,s3,s4,rfl⟩
  exact q
theorem zIb {dv:Value} (F:xa K "fraction" "fraction" Kr f fd dv) (aj:Fn P w K mg base "is_whole" ["thing"] k (zH (j9))) (aE:Fn P w K mg base "common_divisor" ["numbers"] k (zH (Qg))):zF P w K mg base zY (k + 1) f fd ["top","bottom"] (zH (qg)):=by
 refine gm F Ks λ_ _ _ _ _ _ hr=>⟨_,(zJ (yY (PW.pt (uT (ww (xj (zQ aj hr rfl (zB (zA 0) zC)))) (uk (ww (xj (zQ aj hr rfl (zB (zA 1) zC))))))) (zL Yn) yX)
  (zJ (yY (jZ hr.units (zA 1) zD) (zL Yn) yX)
  (zJ (za 2 Ks.nd (zQ aE hr rfl (zB (xX (zB (zA 0) (zB (zA 1) zC))) zC)))
  (Ym (yY (kh (zA 1) zD) (zL (za 2 Ks.nd (xU (zA 2)))) yX)
  (zL (zZ (xX (zB (wZ (zA 0) (zA 2)) (zB (wZ (zA 1) (zA 2)) zC))))))))),λds R h=>?_⟩
 obtain ⟨t,b,rfl,b0,bb,q⟩:=h
 refine ⟨_,rfl,rfl,wF rfl ⟨_,rfl,rfl,wF rfl (wF (decide_eq_false b0) ⟨k0,t,b,rfl,?_⟩)⟩⟩
 refine ⟨λΓ=>Γ=[.sh (.int t),.sh (.int b),.sh (.int (gI t b))],w2 (λc1=>?_) λc1=>?_,?_⟩
 ·unfold gI
  rw [if_pos (of_decide_eq_true c1)]
  rfl
 ·unfold gI
  rw [if_neg (of_decide_eq_false c1)]
  rfl
 rintro Γ' rfl
 have g0:=Y9 (t:=t) b0
 have gb:Bd 8000 (gI t b):=(XA (t:=t) b0 bb).mono
 exact ⟨g0,gb,g0,gb,k0,q⟩
theorem zNV (F:zi K "minus" "minus" Kt f fd) (ai:wr P w K mg base "fraction" ["top","bottom"] k (zH (qg)) (.int 1)):zF P w K mg base zY (k + 1) f fd ["one","other"] (zH (gq)):=by
 refine zt F zM5 λ_ _ _ _ _ _ hr=>⟨_,(zL (zZ (zQ ai.fn hr rfl (zB (vh (yN (zP (zA 0) zD) (zP (zA 1) zD)) (yN (zP (zA 1) zD) (zP (zA 0) zD))) (zB (yN (zP (zA 0) zD) (zP (zA 1) zD)) zC))))),λds R h=>?_⟩
 obtain ⟨x,y,rfl,p0,q0,b1,b2,b3,b4,bb,q⟩:=h
 exact ⟨_,rfl,_,rfl,b1.mono,b4.mono,_,rfl,_,rfl,b3.mono,b2.mono,_,rfl,_,rfl,b2.mono,b4.mono,_,_,rfl,d4 (eO p0 q0),bb,q⟩
theorem zNT (F:zi K "times" "times" Ku f fd) (ai:wr P w K mg base "fraction" ["top","bottom"] k (zH (qg)) (.int 1)):zF P w K mg base zY (k + 1) f fd ["one","other"] (zH (gr)):=by
 refine zt F zM4 λ_ _ _ _ _ _ hr=>⟨_,(zL (zZ (zQ ai.fn hr rfl (zB (yN (zP (zA 0) zD) (zP (zA 1) zD)) (zB (yN (zP (zA 0) zD) (zP (zA 1) zD)) zC))))),λds R h=>?_⟩
 obtain ⟨x,y,rfl,p0,q0,b1,b2,b3,b4,bb,q⟩:=h
 exact ⟨_,rfl,_,rfl,b1.mono,b3.mono,_,rfl,_,rfl,b2.mono,b4.mono,_,_,rfl,d4 (eO p0 q0),bb,q⟩
theorem zNS (F:zi K "under" "under" Kv f fd):zF P w K mg base zY (k + 1) f fd ["one","other"] (zH (XB)):=by
 refine zt F zM3 λ_ _ _ _ _ _ hr=>⟨_,(zL (zZ (zRO (yN (zP (zA 0) zD) (zP (zA 1) zD)) (yN (zP (zA 1) zD) (zP (zA 0) zD))))),λds R h=>?_⟩
 obtain ⟨x,y,rfl,b1,b2,b3,b4,q⟩:=h
 exact ⟨_,rfl,_,rfl,b1.mono,b4.mono,_,rfl,_,rfl,b3.mono,b2.mono,q⟩
theorem zGu (F:zi K "ceiling_of" "ceiling_of" Kw f fd):zF P w K mg base zY (k + 1) f fd ["value"] (zH (gt)):=by
 refine zt F zGO λ_ _ _ _ _ _ hr=>⟨_,(zL (zZ (xU (wZ (xU (zP (zA 0) zD)) (zP (zA 0) zD))))),λds R h=>?_⟩
 obtain ⟨p,rfl,p0,bb,q⟩:=h
 exact ⟨_,rfl,_,rfl,d4 p0,bb.mono,q⟩
theorem zJ3 (F:zi K "raw_sum" "raw_sum" Kx f fd):zF P w K mg base zY (k + 1) f fd ["numbers","point"] (zH (Qh)):=by
 refine zt F kH λ_ _ _ _ _ _ hr=>⟨_,(zJ (za 2 kH.nd zD)
  (zJ (za 3 kH.nd zD)
  (zJ (xY PassesOwn.never rfl (jd rfl B.zip_ (zB (zA 0) (zB (zA 1) zC))) (wc rfl (yJ 4 kH.nd (yJ 5 kH.nd wa))) (zJ (za 2 kH.nd (yB (yN (zA 2) (zP (zA 5) zD)) (yN (yN (zA 4) (zP (zA 5) zD)) (zA 3))))
   (zL (za 3 kH.nd (yN (zA 3) (zP (zA 5) zD))))))
  (zL (zZ (xX (zB (zA 2) (zB (zA 3) zC)))))))),λds R h=>?_⟩
 obtain ⟨d,ns,n,pts,rfl,h,ln,bn,⟨lp,n3,hp⟩,q⟩:=h
 refine h.zipL ?_
 refine ⟨λk Γ=>∃ (st:Int × Int) (s4 s5:Sl),Γ=[.sh d,.sh (xC pts),.sh (.int st.1),.sh (.int st.2),s4,s5]/\st=yC (ns.take k) (pts.take k)/\0 < st.2/\Bd (1202 + 901 * k) st.1/\Bd (1 + 900 * k) st.2,⟨(0,1),.no,.no,rfl,rfl,by decide,wf,xl (by decide)⟩,?_,?_⟩
 ·rintro k d' Γ' hk ⟨st,s4,s5,rfl,es,a0,bt,bb⟩
  obtain ⟨w,x,hw,hx,rfl⟩:=zwq (u:=D.int) (v:=zu) hk
  have kl:=(cT.mp hx).1
  obtain ⟨x0,bx1,bx2⟩:=hp x (dz hx)
  have bw:=bn w (dz hw)
  have bwx:=bw.mul bx1
  refine ⟨_,rfl,bt.mono (by omega),bx2.mono (by omega),_,rfl,bw.mono,bx1.mono,bwx.mono,bb.mono (by omega),_,rfl,bb.mono (by omega),bx2.mono,jT st (w,x),.sh (.int w),.sh (zu x),rfl,by rw [zQi hw hx,es],eO a0 x0,?_,(bb.mul bx2).mono (by omega)⟩
  exact (((bt.mul bx2).mono (show _<=1202 + 901 * k + 900 by omega)).add ((bwx.mul bb).mono (by omega))).mono (by omega)
 ·rintro Γ' ⟨st,s4,s5,rfl,es,a0,bt,bb⟩
  rw [f6,a_,a_,ln,lp,Nat.min_self] at es bt bb
  rw [cV (by omega),cV (by omega)] at es
  subst es
  exact ⟨k0,q a0 (bt.mono (by omega)) (bb.mono (by omega))⟩
theorem zNb (F:zi K "along" "along" Ky f fd) (aF:Fn P w K mg base "raw_sum" ["numbers","point"] k (zH (Qh))) (ai:wr P w K mg base "fraction" ["top","bottom"] k (zH (qg)) (.int 1)):zF P w K mg base zY (k + 1) f fd ["row","point"] (zH (Qi)):=by
 refine zt F zJB λ_ _ _ _ _ _ hr=>⟨_,(zJ (za 2 zJB.nd (zQ aF hr rfl (zB (vN (zA 0) uC (wR (xU zD))) (zB (zA 1) zC))))
  (zL (zZ (zQ ai.fn hr rfl (zB (zP (zA 2) zD) (zB (zP (zA 2) zD) zC)))))),λds R h=>?_⟩
 obtain ⟨us,b,n,pts,rfl,lu,bu,PT,q⟩:=h
 refine ⟨_,us,n,pts,rfl,.inr (by rw [W8]),lu,bu,PT,λa0 bt bb=>⟨_,rfl,_,rfl,_,_,rfl,d4 a0,bb.mono,?_⟩⟩
 exact q a0 bt bb
theorem zNZ (F:zi K "holds" "holds" Kz f fd) (aF:Fn P w K mg base "raw_sum" ["numbers","point"] k (zH (Qh))):zF P w K mg base zY (k + 1) f fd ["row","point"] (zH (zSd)):=by
 refine zt F zJA λ_ _ _ _ _ _ hr=>⟨_,(zJ (za 2 zJA.nd (zQ aF hr rfl (zB (vN (zA 0) uC (wR (xU zD))) (zB (zA 1) zC))))
  (zL (zZ (Jm (zP (zA 2) zD) (yN (zP (zA 0) (xU zD)) (zP (zA 2) zD)))))),λds R h=>?_⟩
 obtain ⟨us,b,n,pts,rfl,lu,bu,bb,PT,q⟩:=h
 refine ⟨_,us,n,pts,rfl,.inr (by rw [W8]),lu,bu,PT,λa0 bt bc=>⟨_,rfl,_,gp us b,_,rfl,bb.mono,bc.mono,?_⟩⟩
 exact q
theorem zGs (F:zi K "first_with" "first_with" K0 f fd):zF P w K mg base zY (k + 1) f fd ["rows","place"] (zH (XD)):=by
 refine zt F zDt λ_ _ _ _ _ _ hr=>⟨_,(zJ (xY PassesOwn.never rfl (zJy rfl B.range_ (zB (zA 1) (zB (yh xf xv rfl B.len_ xh (zB (zA 0) zC)) zC))) (zz 2 zDt.nd) (zL (yY (kg hr.units (zP (zP (zA 0) (zA 2)) (zA 1)) zD) (zL (zZ (zA 2))) yX)))
  (zL (zZ wX))),λds R h=>?_⟩
 obtain ⟨es,L,p,f,rfl,W,few,pl,hw,hf,q⟩:=h
 have le:=W.1
 refine ⟨by omega,by omega,by omega,by omega,?_⟩
 have en:(((es.length:Nat):Int) - ((p:Nat):Int)).toNat=L.length - p:=by omega
 refine ⟨λk Γ=>∃ s2,Γ=[.sh (.lst es),.sh (.int (p:Int)),s2]/\wu (λk=>(L.getD k []).getD p 0) (p + k) (L.length - p - k)=some f,⟨.no,rfl,hf⟩,?_,?_⟩
 ·rintro k d' Γ' hk ⟨s2,rfl,hf⟩
  have kl:k < L.length - p:=by
   have:=(cT.mp hk).1
   unfold rng at this
   rw [a_,cX] at this
   omega
  have ed:d'=.int ((p + k:Nat):Int):=by
   unfold rng at hk
   rw [c_,eg (by omega)] at hk
   have:=Option.some.inj hk
   rw [<- this]
   show D.int ((p:Int) + (k:Int))=_
   congr 1
  subst ed
  obtain ⟨m,hm⟩:∃ m,L.length - p - k=m + 1:=⟨L.length - p - k - 1,by omega⟩
  rw [hm] at hf
  unfold wu at hf
  obtain ⟨d,hd,hI⟩:=W.at_ (i:=p + k) (by omega)
  refine ⟨_,W9 hd,hI.ixD (hw _ (yc (by omega))) (w2 (λc1=>?_) λc1=>⟨_,rfl,?_⟩)⟩
  ·rw [if_pos (of_decide_eq_false (zR6 c1))] at hf
   cases hf
   exact q
  ·rw [if_neg (λz=>z (of_decide_eq_true (Qf c1)))] at hf
   rw [show L.length - p - (k + 1)=m by omega,<- Nat.add_assoc]
   exact hf
 ·rintro Γ' ⟨s2,rfl,hf⟩
  unfold rng at hf
  rw [a_,cX,show L.length - p - (((es.length:Nat):Int) - ((p:Nat):Int)).toNat=0 by omega] at hf
  cases hf
theorem zHd (F:zi K "put_ahead" "put_ahead" K1 f fd):zF P w K mg base zY (k + 1) f fd ["rows","place","found"] (zH (XE)):=by
 refine zt F zEa λ_ _ _ _ _ _ hr=>⟨_,(zJ (zNB 3 zEa.nd rfl (Or.inl rfl) rfl B.list_ (zB (zA 0) zC))
  (zJ (yP (X9 (zP (zA 0) (zA 2)) (Ui (xM 3) (zA 1) gD)) QG)
  (zJ (yP (X9 (zP (zA 0) (zA 1)) (Ui (xM 3) (zA 2) gD)) QG)
  (zL (wd 3 (zZ (zA 3))))))),λds R h=>?_⟩
 obtain ⟨es,p,f,rfl,pl,fl,few,q⟩:=h
 have ha:∀ k,k < es.length->yo es (k:Int)=some (es.getD k .non):=λk hk=>by
  rw [b',b_ hk]
  exact W9 (b_ hk)
 have hx:∀ (m k:Nat),k < m->xw m (k:Int)=some k:=λm k hk=>by unfold xw; rw [if_pos (by omega),if_pos (by omega)]; congr 1
 refine ⟨_,ha f fl,_,_,rfl,hx _ _ pl,?_⟩
 refine ⟨_,ha p pl,_,_,rfl,hx _ _ (by rw [dE]; exact fl),?_⟩
 exact q
theorem zKE (F:zi K "cleared" "cleared" K2 f fd):zF P w K mg base zY (k + 1) f fd ["row","pivot","place","last"] (zH (zSe)):=by
 refine zt F zF3 λ_ _ _ _ _ _ hr=>⟨_,(zL (zZ (xF (own:=["number","other"]) (caps:=[(0,"row"),(1,"pivot"),(2,"place"),(3,"last")]) (yZ zF3) rfl rfl (qd (vP (vP qf))) (jd rfl B.zip_ (zB (zA 0) (zB (zA 1) zC))) (λ_ _ _ _=>(wc rfl (yJ 0 (yD ["number","other","row","pivot","place","last"]) (yJ 1 (yD ["number","other","row","pivot","place","last"]) wa)))) (λ_ _ _ _=>(wZ (vh (yN (zP (zA 3) (zA 4)) (zA 0)) (yN (zP (zA 2) (zA 4)) (zA 1))) (zA 5)))))),λds R h=>?_⟩
 obtain ⟨d,e,ns,ps,p,la,rfl,h,k,ll,pl,few,l0,bl,bn,bp,q⟩:=h
 refine h.zip k (zSj (λq=>(ps.getD p 0 * q.1 - ns.getD p 0 * q.2).fdiv la) (by rw [eP]; omega) (λq hq=>?_) q)
 have h1:=bn _ (d8 hq).1
 have h2:=bp _ (d8 hq).2
 exact k.ixD (by omega) ⟨(uW bp p).mono,h1.mono,h.ixD pl ⟨(uW bn p).mono,h2.mono,l0,bl.mono,rfl⟩⟩
theorem zLM (F:zi K "solved" "solved" K3 f fd) (bB:Fn P w K mg base "first_with" ["rows","place"] k (zH (XD))) (bC:Fn P w K mg base "put_ahead" ["rows","place","found"] k (zH (XE))) (bE:Fn P w K mg base "cleared" ["row","pivot","place","last"] k (zH (zSe))) (ai:wr P w K mg base "fraction" ["top","bottom"] k (zH (qg)) (.int 1)):zF P w K mg base zY (k + 1) f fd ["rows"] (zH (UA)):=by
 refine zt F jL λ_ _ _ _ _ _ hr=>⟨_,(zJ (za 1 jL.nd (zA 0))
  (zJ (za 2 jL.nd zD)
  (zJ (xY PassesOwn.never rfl (xZ rfl B.range_ (zB (yh xf xv rfl B.len_ xh (zB (zA 0) zC)) zC)) (zz 3 jL.nd) (zJ (za 4 jL.nd (zQ bB hr rfl (zB (zA 1) (zB (zA 3) zC))))
   (zJ (yY (j7 (zA 4) wX) (zL (zZ wX)) yX)
   (zJ (za 1 jL.nd (zQ bC hr rfl (zB (zA 1) (zB (zA 3) (zB (zA 4) zC)))))
   (zJ (za 5 jL.nd (zP (zA 1) (zA 3)))
   (zJ (je 1 false jL.nd rfl rfl (own:=["number","row"]) (caps:=[(2,"last"),(3,"place"),(5,"pivot")]) (yZ jL) rfl rfl (qd (vP (vP qf))) (W0 rfl B.enumerate_ (zB (zA 1) zC)) (λ_ _ _ _=>(wc rfl (yJ 0 (yD ["number","row","last","place","pivot"]) (yJ 1 (yD ["number","row","last","place","pivot"]) wa)))) (λ_ _ _ _=>(YM (jZ hr.units (zA 0) (zA 3)) (zA 1) (zQ bE hr rfl (zB (zA 1) (zB (zA 4) (zB (zA 3) (zB (zA 2) zC))))))) rfl)
   (zL (za 2 jL.nd (zP (zA 5) (zA 3))))))))))
  (zL (zZ (xF (own:=["place","row"]) (caps:=[]) (yZ jL) rfl rfl (qd (vP (vP qf))) (W0 rfl B.enumerate_ (zB (zA 1) zC)) (λ_ _ _ _=>(wc rfl (yJ 0 (yD ["place","row"]) (yJ 1 (yD ["place","row"]) wa)))) (λ_ _ _ _=>(zQ ai.fn hr rfl (zB (zP (zA 1) (xU zD)) (zB (zP (zA 1) (zA 0)) zC)))))))))),λds R h=>?_⟩
 obtain ⟨es,rows,n,rfl,W,S,n2,dt,bd,q⟩:=h
 have n1:=S.n1
 have lr:=S.len
 have le:=W.1
 obtain ⟨LL,DD,SO⟩:=JX S dt
 refine ⟨by omega,by omega,?_⟩
 rw [show ((es.length:Nat):Int).toNat=n by omega]
 refine ⟨λk Γ=>∃ (fs:List D) (L:List (List Int)) (la:Int) (s3 s4 s5:Sl),Γ=[.sh (.lst es),.sh (.lst fs),.sh (.int la),s3,s4,s5]/\yw rows k=some (L,la)/\qA fs L/\L.length=n/\la≠0/\Bd (gu k) la/\∀ r∈L,r.length=n + 1/\∀ x∈r,Bd (gu k) x,⟨es,rows,1,.no,.no,.no,rfl,rfl,W,lr,by decide,xl (by decide),λr hr=>⟨S.row r hr,bd r hr⟩⟩,?_,?_⟩
 ·rintro k d Γ' hk ⟨fs,L,la,s3,s4,s5,rfl,hR,W2,lL,l0,bl,hL⟩
  obtain ⟨kn,rfl⟩:=vO hk
  obtain ⟨L',la',f,e1,e2,e3⟩:=zPJ SO.run kn
  rw [hR] at e1
  cases e1
  obtain ⟨f1,f2,f3⟩:=zJV e2
  have fl:f < L.length:=by omega
  have kl:k < L.length:=by omega
  have sz:gu k<=1000/\gu (k + 1)=2 * gu k + 1:=by
   rcases (by omega:k=0\/k=1) with rfl | rfl
   ·exact ⟨by decide,rfl⟩
   ·exact ⟨by decide,rfl⟩
  have lf:=W2.1
  have W3:=W2.put kl fl
  have hP:∀ r∈yf L k f,r.length=n + 1/\∀ x∈r,Bd (gu k) x:=λr hr=>hL r (zPP kl fl r hr)
  have lp:(yf L k f).length=n:=by rw [zKq,lL]
  obtain ⟨dp,hdp,hIp⟩:=W3.at_ (i:=k) (by omega)
  have hk':=hP _ (yc (d:=[]) (show k < (yf L k f).length by omega))
  have pv:((yf L k f).getD k []).getD k 0=(L.getD f []).getD k 0:=by
   unfold yf
   rw [u9 (by rw [dE]; exact fl),u9 kl]
   by_cases c:k=f
   ·rw [if_pos c,c]
   ·rw [if_neg c,if_pos rfl]
  refine ⟨fs,L,k,f,rfl,W2,by omega,by omega,λr hr=>by rw [(hL r hr).1]; omega,e2,wF rfl ⟨fs,k,f,rfl,by omega,by omega,by omega,_,W9 hdp,?_⟩⟩
  have lq:=W3.1
  refine zy.enum (λi e=>IS e (if i=k then (yf L k f).getD i [] else uM ((yf L k f).getD i []) ((yf L k f).getD k []) k la)) (by omega) (λi x hx=>?_) λfs' lf' hf=>?_
  ·have il:=(cT.mp hx).1
   refine w2 (λc1=>?_) λc1=>?_
   ·have e:i=k:=by have:=of_decide_eq_true c1; omega
    refine ⟨i,x,rfl,?_⟩
    rw [if_pos e]
    exact W3.2 i x hx
   ·have e:i≠k:=by have:=of_decide_eq_false c1; omega
    have hi':=hP _ (yc (d:=[]) (show i < (yf L k f).length by omega))
    refine ⟨x,dp,_,_,k,la,rfl,W3.2 i x hx,hIp,by rw [hi'.1,hk'.1],by rw [hi'.1]; omega,by rw [hi'.1]; omega,l0,bl.mono sz.1,λz hz=>(hi'.2 z hz).mono sz.1,λz hz=>(hk'.2 z hz).mono sz.1,i,x,rfl,?_⟩
    rw [if_neg e]
    exact .inl rfl
  refine hIp.ixD (by rw [hk'.1]; omega) ?_
  refine ⟨fs',u8 (yf L k f) k la,_,_,_,_,rfl,e3,⟨?_,λi e he=>?_⟩,?_,by rw [pv]; exact f3,?_,λr hr=>?_⟩
  ·unfold u8
   rw [a_,cX]
   omega
  ·have il:=(cT.mp he).1
   have:=hf i e he
   unfold u8
   rw [kW (by omega)]
   exact this
  ·unfold u8
   rw [a_,cX,lp]
  ·rw [sz.2]
   exact (hk'.2 _ (yc (by rw [hk'.1]; omega))).mono (by omega)
  ·unfold u8 at hr
   obtain ⟨i,hi,rfl⟩:=cP.mp hr
   have hi:=dH.mp hi
   have hi':=hP _ (yc (d:=[]) hi)
   rw [sz.2]
   by_cases c:i=k
   ·rw [if_pos c]
    exact ⟨hi'.1,λx hx=>(hi'.2 x hx).mono (by omega)⟩
   ·rw [if_neg c]
    exact ⟨by rw [zQY (by rw [hi'.1,hk'.1]),hi'.1],zSm hi'.2 hk'.2⟩
 ·rintro Γ' ⟨fs,L,la,s3,s4,s5,rfl,hR,W2,lL,l0,bl,hL⟩
  rw [vk] at hR bl hL
  rw [SO.run] at hR
  cases hR
  have lf:=W2.1
  have sz:gu n<=900:=by
   rcases (by omega:n=1\/n=2) with rfl | rfl <;> decide
  have sf:=Z6 SO
  refine zy.enum (λi e=>e=zu (zX ((LL.getD i []).getD n 0) DD)) (by omega) (λi x hx=>?_) λfs' lf' hf=>?_
  ·have il:=(cT.mp hx).1
   have hi:=hL _ (yc (d:=[]) (show i < LL.length by omega))
   have hr:=W2.2 i x hx
   refine hr.ixL (n:=n) hi.1 (hr.ixD (by rw [hi.1]; omega) ?_)
   rw [(SO.dia i (by omega)).2]
   exact ⟨_,_,rfl,l0,bl.mono (by omega),i,x,rfl,rfl⟩
  have e:fs'=(yO rows n).map zu:=by
   rw [sf]
   unfold kS
   refine mx λi=>?_
   rw [dk,c_]
   by_cases c:i < n
   ·rw [eg c,b_ (by omega)]
    exact congrArg some (hf i _ (b_ (by omega)))
   ·rw [eZ (by omega),eZ (by rw [cX]; omega)]
    rfl
  rw [e]
  refine q ⟨(ug S dt).1,S.n3,λp hp=>?_⟩
  rw [sf] at hp
  obtain ⟨i,hi,rfl⟩:=cP.mp hp
  have hi:=hL _ (yc (d:=[]) (show i < LL.length by have:=dH.mp hi; omega))
  exact ⟨u4 l0,(jH (hi.2 _ (yc (by rw [hi.1]; omega)))).mono sz,(uq bl).mono sz⟩
theorem zPy (F:zi K "axes" "axes" K4 f fd) (bF:Fn P w K mg base "single" ["place","many","number","bound"] k (zH (zL6))):zF P w K mg base zY (k + 1) f fd ["many"] (zH (XF)):=by
 refine zt F zKk λ_ _ _ _ _ _ hr=>⟨_,(zL (zZ (xF (own:=["place"]) (caps:=[(0,"many")]) (yZ zKk) rfl rfl yr (xZ rfl B.range_ (zB (zA 0) zC)) (λ_ _ _ _=>(zz 0 (yD ["place","many"]))) (λ_ _ _ _=>(zQ bF hr rfl (zB (zA 0) (zB (zA 1) (zB zD (zB zD zC))))))))),λds R h=>?_⟩
 obtain ⟨n,rfl,n3,q⟩:=h
 refine ⟨by omega,by omega,?_⟩
 rw [show ((n:Nat):Int).toNat=n by omega]
 refine zy.rng0 (λp=>U (yy (p:Int) n 1++[0])) (by omega) (λp hp=>⟨(p:Int),(n:Int),1,0,rfl,by omega,by omega,?_⟩) ?_
 ·rw [show ((n:Nat):Int).toNat=n by omega]
 ·unfold Rm zb at q
  rw [dk] at q
  exact q
theorem zFV (F:zi K "corner_point" "corner_point" K5 f fd) (ar:Fn P w K mg base "solved" ["rows"] k (zH (UA))):zF P w K mg base zY (k + 1) f fd ["rows","corner"] (zH (gv)):=by
 refine zt F zDA λ_ _ _ _ _ _ hr=>⟨_,(zL (zZ (zQ ar hr rfl (zB (xF (own:=["number"]) (caps:=[(0,"rows")]) (yZ zDA) rfl rfl yr (xN (zA 1)) (λ_ _ _ _=>(zz 0 (yD ["number","rows"]))) (λ_ _ _ _=>(zP (zA 1) (zA 0)))) zC)))),λds R h=>?_⟩
 obtain ⟨rows,cs,n,rfl,W,q⟩:=h
 have C:=W.C
 have n2:=W.n2
 have lc:=C.len
 refine Qj (λc=>U (rows.getD c [])) (by omega) (λc hc=>⟨_,wg [] (C.lt c hc),rfl⟩) ?_
 rw [show cs.map (λc=>U (rows.getD c []))=(y8 rows cs).map U by unfold y8; rw [dk]; rfl]
 refine ⟨_,y8 rows cs,n,rfl,Qk _,C.sqC,n2,C.det,λr hr=>?_,q⟩
 obtain ⟨c,hc,rfl⟩:=cP.mp hr
 exact W.bd _ (yc (C.lt c hc))
theorem zGp (F:zi K "weights_of" "weights_of" K6 f fd) (ar:Fn P w K mg base "solved" ["rows"] k (zH (UA))):zF P w K mg base zY (k + 1) f fd ["rows","corner","row"] (zH (qC)):=by
 refine zt F zDo λ_ _ _ _ _ _ hr=>⟨_,(zL (zZ (zQ ar hr rfl (zB (xF (own:=["place"]) (caps:=[(0,"rows"),(1,"corner"),(2,"row")]) (yZ zDo) rfl rfl yr (xZ rfl B.range_ (zB (yh xf xv rfl B.len_ xh (zB (zA 1) zC)) zC)) (λ_ _ _ _=>(zz 0 (yD ["place","rows","corner","row"]))) (λ_ _ _ _=>(yB (x9 jS jb rfl B.tuple_ uI (zB (xF (own:=["number"]) (caps:=[(0,"place"),(1,"rows")]) bki rfl rfl yr (xN (zA 2)) (λ_ _ _ _=>(zz 0 (yD ["number","place","rows"]))) (λ_ _ _ _=>(zP (zP (zA 2) (zA 0)) (zA 1)))) zC)) (xX (zB (zP (zA 3) (zA 0)) zC))))) zC)))),λds R h=>?_⟩
 obtain ⟨rows,cs,n,us,rfl,W,lu,bu,q⟩:=h
 have C:=W.C
 have n2:=W.n2
 have lc:=C.len
 have lm:(cs.map λx=>D.int ((x:Nat):Int)).length=n:=by rw [a_]; exact lc
 refine ⟨by omega,by omega,?_⟩
 rw [lm,show ((n:Nat):Int).toNat=n by omega]
 refine zy.rng0 (λj=>U ((cs.map λc=>(rows.getD c []).getD j 0)++[us.getD j 0])) (by omega) (λj hj=>?_) ?_
 ·refine Qj (λc=>.int ((rows.getD c []).getD j 0)) (by omega) (λc hc=>⟨_,wg [] (C.lt c hc),_,uV (j:=j) (by rw [C.row _ (yc (C.lt c hc))]; omega) rfl,rfl⟩) ?_
  refine ⟨_,uV (j:=j) (by omega) rfl,k0,by rw [a_]; show _ + 1<=1000; omega,?_⟩
  unfold U
  rw [db,dk]
  rfl
 ·rw [show (df n).map (λj=>U ((cs.map λc=>(rows.getD c []).getD j 0)++[us.getD j 0]))=(xr rows cs us n).map U by unfold xr; rw [dk]; rfl]
  refine ⟨_,xr rows cs us n,n,rfl,Qk _,C.sqW us,n2,C.detW us,λr hr x hx=>?_,q⟩
  obtain ⟨j,hj,rfl⟩:=cP.mp hr
  have hj:=dH.mp hj
  rcases dX.mp hx with hx | hx
  ·obtain ⟨c,hc,rfl⟩:=cP.mp hx
   exact uW (W.bd _ (yc (C.lt c hc))) j
  ·rw [dh.mp hx,<- qR (n:=n) hj]
   exact uW bu j
theorem zDy (F:zi K "over_one_bottom" "over_one_bottom" K7 f fd) (aE:Fn P w K mg base "common_divisor" ["numbers"] k (zH (Qg))):zF P w K mg base zY (k + 1) f fd ["values"] (zH (Ql)):=by
 refine zt F Xw λ_ _ _ _ _ _ hr=>⟨_,(zJ (za 1 Xw.nd zD)
  (zJ (xY PassesOwn.never rfl (xN (zA 0)) (zz 2 Xw.nd) (zL (za 1 Xw.nd (wZ (yN (zA 1) (zP (zA 2) zD)) (zQ aE hr rfl (zB (xX (zB (zA 1) (zB (zP (zA 2) zD) zC))) zC))))))
  (zL (zZ (xX (zB (zA 1) (zB (xF (own:=["value"]) (caps:=[(1,"bottom")]) (yZ Xw) rfl rfl yr (xN (zA 0)) (λ_ _ _ _=>(zz 0 (yD ["value","bottom"]))) (λ_ _ _ _=>(yN (zP (zA 0) zD) (wZ (zA 1) (zP (zA 0) zD))))) zC))))))),λds R h=>?_⟩
 obtain ⟨pts,rfl,l4,hp,q⟩:=h
 refine ⟨λk Γ=>∃ (o:Int) (s2:Sl),Γ=[.sh (xC pts),.sh (.int o),s2]/\o=zx (pts.take k)/\0 < o/\Bd (1 + 900 * k) o,⟨1,_,rfl,rfl,by decide,xl (by decide)⟩,?_,?_⟩
 ·rintro k d Γ' hk ⟨o,s2,rfl,eo,p0,bb⟩
  obtain ⟨kl,rfl⟩:=kM (0,1) hk
  have hx:pts[k]? = some (pts.getD k (0,1)):=by rw [b',b_ kl]; rfl
  obtain ⟨x0,bx1,bx2⟩:=hp _ (yc (d:=(0,1)) kl)
  have g0:(d_ o (pts.getD k (0,1)).2:Int)≠0:=d4 (WM (d4 x0))
  have gb:Bd 900 (d_ o (pts.getD k (0,1)).2:Int):=bx2.of_le (by
   have:=mU (a:=o) x0
   omega)
  exact ⟨_,rfl,bb.mono (by omega),bx2.mono,_,rfl,k0,_,_,rfl,g0,gb.mono,_,_,rfl,by rw [zNR hx,<- eo]; rfl,(zHo p0 x0).1,((bb.mul bx2).fdiv _).mono (by omega)⟩
 ·rintro Γ' ⟨o,s2,rfl,eo,p0,bb⟩
  rw [a_,cV (cQ _)] at eo
  subst eo
  obtain ⟨b1,b2⟩:=zR1 hp l4
  refine vG zu (λd=>match d with | .tup [x,y]=>(yV x,yV y) | _=>(0,0)) (λ_=>rfl) (λp=>.int (p.1 * (zx pts).fdiv p.2)) (by omega) (λp hq=>⟨_,rfl,_,rfl,d4 (hp p hq).1,(hp p hq).2.2.mono,(hp p hq).2.1.mono,(b1.fdiv _).mono,rfl⟩) ⟨k0,?_⟩
  rw [show pts.map (λp=>D.int (p.1 * (zx pts).fdiv p.2))=(zq pts).map D.int by unfold zq; rw [dk]; rfl]
  exact q
theorem zHh (F:zi K "exchanged" "exchanged" K8 f fd):zF P w K mg base zY (k + 1) f fd ["corner","place","number"] (zH (qB)):=by
 refine zt F zHV λ_ _ _ _ _ _ hr=>⟨_,(zL (zZ (yB (yB (vN (zA 0) uC (wR (zA 1))) (vM (zB (zA 2) zC))) (vN (zA 0) (wR (yB (zA 1) zD)) uC)))),λds R h=>?_⟩
 obtain ⟨cs,p,x,rfl,pl,l9,q⟩:=h
 have e1:HT.sIx (cs.map λx=>D.int ((x:Nat):Int)).length (cs.map λx=>D.int ((x:Nat):Int)).length (some ((p:Nat):Int))=p:=by rw [HT.sIx_nat,a_]; omega
 have e0:HT.sIx (cs.map λx=>D.int ((x:Nat):Int)).length 0 none=0:=HT.sIx_none _ _
 have e2:zv (cs.map λx=>D.int ((x:Nat):Int)) none (some ((p:Nat):Int))=(cs.take p).map λx=>D.int ((x:Nat):Int):=by
  unfold zv
  rw [e0,e1,fU,iO,hV]
 have e3:zv (cs.map λx=>D.int ((x:Nat):Int)) (some (((p:Nat):Int) + 1)) none=(cs.drop (p + 1)).map λx=>D.int ((x:Nat):Int):=by
  unfold zv
  have f1:HT.sIx (cs.map λx=>D.int ((x:Nat):Int)).length 0 (some (((p + 1:Nat)):Int))=p + 1:=by rw [HT.sIx_nat,a_]; omega
  have f2:HT.sIx (cs.map λx=>D.int ((x:Nat):Int)).length (cs.map λx=>D.int ((x:Nat):Int)).length none=cs.length:=by rw [HT.sIx_none,a_]
  rw [show (((p:Nat):Int) + 1)=((p + 1:Nat):Int) by omega,f1,f2,cV (by rw [fq,a_]; omega),j_]
 have l1:(cs.take p).length<=100:=by rw [cU]; omega
 have l2:(cs.drop (p + 1)).length<=100:=by rw [fq]; omega
 refine ⟨k0,?_,?_,?_⟩
 ·rw [e2,a_]; show _ + 1<=1000; omega
 ·rw [e2,e3,cJ,a_,a_]; show _ + 1 + _<=1000; omega
 ·rw [e2,e3]
  unfold cN at q
  rw [List.set_eq_take_append_cons_drop,if_pos pl,db,dD] at q
  rw [fA]
  exact q
theorem zJ2 (F:zi K "way_off" "way_off" K9 f fd) (aG:Fn P w K mg base "over_one_bottom" ["values"] k (zH (Ql))) (ar:Fn P w K mg base "solved" ["rows"] k (zH (UA))):zF P w K mg base zY (k + 1) f fd ["rows","corner","place","number"] (zH (zSX)):=by
 refine zt F zEB λ_ _ _ _ _ _ hr=>⟨_,(zJ (je 4 false zEB.nd rfl rfl (own:=["other"]) (caps:=[(0,"rows"),(1,"corner"),(2,"place"),(3,"number")]) (yZ zEB) rfl rfl yr (xN (zA 1)) (λ_ _ _ _=>(zz 0 (yD ["other","rows","corner","place","number"]))) (λ_ _ _ _=>(yB (vN (zP (zA 1) (zA 0)) uC (wR (xU zD))) (xX (zB (YM (jZ hr.units (zA 0) (zP (zA 2) (zA 3))) (zA 4) zD) zC)))) rfl)
  (zL (zZ (zP (zQ aG hr rfl (zB (zQ ar hr rfl (zB (zA 4) zC)) zC)) zD)))),λds R h=>?_⟩
 obtain ⟨rows,cs,n,pl,nu,rfl,W,pn,hnu,q⟩:=h
 have C:=W.C
 have n2:=W.n2
 have lc:=C.len
 refine Qj (λc=>U ((rows.getD c []).take n++[if c=cs.getD pl 0 then nu else 0])) (by omega) (λc hc=>?_) ?_
 ·have rl:=C.row _ (yc (d:=[]) (C.lt c hc))
  refine ⟨_,wg [] (C.lt c hc),_,wg 0 (by omega),?_⟩
  have e:zv ((rows.getD c []).map D.int) none (some (-1))=((rows.getD c []).take n).map D.int:=jh rl
  have f:∀ z:Int,D.tup (zv ((rows.getD c []).map D.int) none (some (-1))++[.int z])=U ((rows.getD c []).take n++[z]):=λz=>by
   rw [e]
   unfold U
   rw [db]
   rfl
  have lz:(zv ((rows.getD c []).map D.int) none (some (-1))).length + 1<=1000:=by rw [e,a_,cU]; omega
  refine w2 (λc1=>⟨k0,lz,?_⟩) λc1=>⟨k0,lz,?_⟩
  ·have z:c=cs.getD pl 0:=by have:=of_decide_eq_true c1; omega
   rw [if_pos z]
   exact f nu
  ·have z:c≠cs.getD pl 0:=by have:=of_decide_eq_false c1; omega
   rw [if_neg z]
   exact f 0
 rw [show cs.map (λc=>U ((rows.getD c []).take n++[if c=cs.getD pl 0 then nu else 0]))=(xQ rows cs pl nu n).map U by unfold xQ; rw [dk]; rfl]
 refine ⟨_,xQ rows cs pl nu n,n,rfl,Qk _,C.sqD pl nu,n2,C.detD pl nu,λr hr x hx=>?_,λPT=>⟨_,rfl,by rw [PT.1]; omega,PT.2.2,_,rfl,q PT⟩⟩
 obtain ⟨c,hc,rfl⟩:=cP.mp hr
 rcases dX.mp hx with hx | hx
 ·exact W.bd _ (yc (C.lt c hc)) x (dY hx)
 ·rw [dh.mp hx]
  split
  ·rcases hnu with rfl | rfl
   ·exact xl (by decide)
   ·exact (xl (n:=1) (by decide)).neg.mono
  ·exact wf
theorem zFs {c Pt:Addr} (hI:∀ H,yd.I H ↔ yM Pt "least_place.<locals>.<lambda>" ⟨156,27,156,54⟩ H) (hc:fd.code=.ref c) (T:we base mg c Pt) (k2:2<=k) (F:zi K "least_place" "least_place" zCv f fd):zF P w K mg base zY (k + 1) f fd ["corner","fit"] (zH (qD)):=by
 refine QQ F hc zCZ (λds R h=>by obtain ⟨cs,fs,rfl,_⟩:=h; rfl) λA outer s H E hr=>?_
 have hr2:=hr.mono k2
 refine ⟨_,(zJ (zKr 2 false zCZ.nd rfl rfl (own:=["place"]) (caps:=[(1,"fit")]) (yZ zCZ) rfl rfl yr (xZ rfl B.range_ (zB (yh xf xv rfl B.len_ xh (zB (zA 0) zC)) zC)) (λ_ _ _ _=>(zz 0 (yD ["place","fit"]))) (λ_ _ _ _=>(xj (zP (zA 1) (zA 0)))) (λ_ _ _ _=>(zA 0)) rfl)
  (zL (zZ (zKw (iy:=0) hI T (zA 2) rfl hr2 rfl B.min_ zMU rfl rfl rfl rfl rfl rfl rfl (by decide) rfl rfl rfl (λ_ _ _ _=>rfl) (by decide) (by decide) (by decide) (by decide))))),λds R h=>?_⟩
 obtain ⟨cs,fs,rfl,lf,l9,q0,q1⟩:=h
 have lm:(cs.map λx=>D.int ((x:Nat):Int)).length=cs.length:=a_ ..
 refine ⟨by omega,by omega,?_⟩
 rw [lm,show ((cs.length:Nat):Int).toNat=cs.length by omega]
 refine gi.mk (by rw [vk]; omega) (λd=>fs.getD (uX d) false) (λd e=>e=d) (λd hd=>?_) (λd hd _=>rfl) λes pe=>?_
 ·obtain ⟨j,hj⟩:=lJ.mp hd
  obtain ⟨jl,rfl⟩:=vO hj
  refine ⟨_,wg false (by omega),?_⟩
  rw [UB]
  exact rfl
 cases zLF pe
 have e1:(rng0 cs.length).filter (λd=>fs.getD (uX d) false)=(((df cs.length).filter λk=>fs.getD k false).map λ(k:Nat)=>(k:Int)).map D.int:=by
  unfold rng0
  rw [nq,dk]
  congr 1
 rw [e1]
 have e2:(cN cs)=.lst ((cs.map λ(k:Nat)=>(k:Int)).map D.int):=by rw [dk]; rfl
 refine ⟨_,_,rfl,by rw [<- e2]; rfl,λn hn=>?_,λz=>q0 λp hp=>?_,λn hn hm=>?_⟩
 ·obtain ⟨k,hk,rfl⟩:=cP.mp hn
  have:=dH.mp (eL.mp hk).1
  rw [a_]
  omega
 ·cases h:fs.getD p false with
  | false=>rfl
  | true=>
   have:((p:Nat):Int)∈((df cs.length).filter λk=>fs.getD k false).map λ(k:Nat)=>(k:Int):=cP.mpr ⟨p,eL.mpr ⟨dH.mpr hp,h⟩,rfl⟩
   rw [z] at this
   cases this
 ·obtain ⟨k,hk,rfl⟩:=cP.mp hn
  have kl:=dH.mp (eL.mp hk).1
  refine q1 k kl (eL.mp hk).2 λj jl hj=>?_
  have z:=hm ((j:Nat):Int) (cP.mpr ⟨j,eL.mpr ⟨dH.mpr jl,hj⟩,rfl⟩)
  rw [show ((k:Nat):Int).toNat=k by omega,show ((j:Nat):Int).toNat=j by omega,jB (d:=0) kl,jB (d:=0) jl] at z
  omega
theorem zFU (F:zi K "first_broken" "first_broken" zCd f fd) (bG:Fn P w K mg base "holds" ["row","point"] k (zH (zSd))):zF P w K mg base zY (k + 1) f fd ["room","point"] (zH (XH)):=by
 refine zt F zCQ λ_ _ _ _ _ _ hr=>⟨_,(zJ (xY PassesOwn.never rfl (W0 rfl B.enumerate_ (zB (zA 0) zC)) (wc rfl (yJ 2 zCQ.nd (yJ 3 zCQ.nd wa))) (zL (yY (ww (xj (zQ bG hr rfl (zB (zA 3) (zB (zA 1) zC))))) (zL (zZ (zA 2))) yX)))
  (zL (zZ wX))),λds R h=>?_⟩
 obtain ⟨room,n,pts,rfl,RO,PT,q0,q1⟩:=h
 have few:=RO.1
 refine ⟨λk Γ=>∃ s2 s3,Γ=[.sh (Rm room),.sh (xC pts),s2,s3]/\∀ j,j < k->VA room n j (ze pts)<=BA room n j,⟨_,_,rfl,λj hj=>absurd hj (eM j)⟩,?_,?_⟩
 ·rintro k d Γ' hk ⟨s2,s3,rfl,hh⟩
  obtain ⟨x,hx,rfl⟩:=ko hk
  obtain ⟨kl,rfl⟩:=kM [] hx
  obtain ⟨rl,rb⟩:=RO.2 _ (yc (d:=[]) kl)
  have ra:=UE rl
  have hf:=zNp rl PT.1 λp hp=>(PT.2.2 p hp).1
  refine ⟨(room.getD k []).take n,(room.getD k []).getD n 0,n,pts,by rw [ra],by rw [cU]; omega,λw hw=>(rb w (dY hw)).mono,(rb _ (yc (by omega))).mono,PT,?_⟩
  refine w2 (λc1=>?_) λc1=>⟨_,_,rfl,λj hj=>?_⟩
  ·rw [fL]
   refine q1 k kl ?_ hh
   have c1:=zR6 c1
   have:¬ vl n (room.getD k []) (ze pts)<=bo n (room.getD k []):=λz=>by rw [hf.mpr z] at c1; cases c1
   show bo n (room.getD k []) < vl n (room.getD k []) (ze pts)
   grind
  ·by_cases z:j=k
   ·rw [z]
    exact hf.mp (Qf c1)
   ·exact hh j (by omega)
 ·rintro Γ' ⟨s2,s3,rfl,hh⟩
  rw [gh,a_] at hh
  exact q0 hh
theorem zHg (F:zi K "first_met" "first_met" zDd f fd) (ai:wr P w K mg base "fraction" ["top","bottom"] k (zH (qg)) (.int 1)) (aq:Fn P w K mg base "paired" ["numbers","others"] k (zH (W4))) (aH:Fn P w K mg base "times" ["one","other"] k (zH (gr))) (aI:Fn P w K mg base "minus" ["one","other"] k (zH (gq))) (aJ:Fn P w K mg base "along" ["row","point"] k (zH (Qi))) (bH:Fn P w K mg base "under" ["one","other"] k (zH (XB))):zF P w K mg base zY (k + 1) f fd ["room","point","way"] (zH (XI)):=by
 refine zt F qI λ_ _ _ _ _ _ hr=>⟨_,(zJ (za 3 qI.nd wX)
  (zJ (za 4 qI.nd (j5 (.int 1) (λ_=>.int 1) ai hr rfl (zB zD zC)))
  (zJ (xY PassesOwn.never rfl (W0 rfl B.enumerate_ (zB (zA 0) zC)) (wc rfl (yJ 5 qI.nd (yJ 6 qI.nd wa))) (zJ (za 7 qI.nd (zQ aq hr rfl (zB (vN (zA 6) uC (wR (xU zD))) (zB (zA 2) zC))))
   (zL (yY (gZ (zA 7) zD) (zJ (za 8 qI.nd (zQ aH hr rfl (zB (zQ aI hr rfl (zB (j5 (.int 1) (λ_=>.int 1) ai hr rfl (zB (zP (zA 6) (xU zD)) zC)) (zB (zQ aJ hr rfl (zB (zA 6) (zB (zA 1) zC))) zC))) (zB (zQ ai.fn hr rfl (zB zD (zB (zA 7) zC))) zC))))
    (zL (yY (PW.pt (uT (j7 (zA 3) wX) (uk (xj (zQ bH hr rfl (zB (zA 8) (zB (zA 4) zC))))))) (zJ (za 3 qI.nd (zA 5))
     (zL (za 4 qI.nd (zA 8)))) yX))) yX))))
  (zL (zZ (zA 3)))))),λds R h=>?_⟩
 obtain ⟨room,n,pts,wp,rfl,RO,n2,PT,W,q0,q1⟩:=h
 have few:=RO.1
 have DQ:=vD (WY λp hp=>(W.2.2 p hp).1)
 have bow:=zR2 W n2
 have lol:(zq wp).length=n:=by rw [Z8]; exact W.1
 refine ⟨0,1,rfl,by decide,xl (by decide),?_⟩
 refine ⟨λk Γ=>∃ (me:D) (f:Int × Int) (s5 s6 s7 s8:Sl),Γ=[.sh (Rm room),.sh (xC pts),.sh (L (zq wp)),.sh me,.sh (zu f),s5,s6,s7,s8]/\Bd 5000 f.1/\Bd 7000 f.2/\0 < f.2/\((me=.non/\∀ j,j < k->¬ 0 < VA room n j (ze wp))\/∃ j:Nat,me=.int (j:Int)/\vb room n k (ze pts) (ze wp) j/\zU f=(BA room n j - VA room n j (ze pts)) / ((zx wp:Rat) * VA room n j (ze wp))),⟨.non,zX 0 1,_,_,_,_,rfl,jH (t:=0) (b:=1) wf,uq (t:=0) (b:=1) (xl (by decide)),u4 (t:=0) (b:=1) (by decide),.inl ⟨rfl,λj hj=>absurd hj (eM j)⟩⟩,?_,?_⟩
 ·rintro k d Γ' hk ⟨me,f,s5,s6,s7,s8,rfl,bf1,bf2,f0,hme⟩
  obtain ⟨y,hy,rfl⟩:=ko hk
  obtain ⟨kl,rfl⟩:=kM [] hy
  obtain ⟨rl,rb⟩:=RO.2 _ (yc (d:=[]) kl)
  have esp:=zQ7 rl W
  have ra:=UE rl
  have va:∀ z,VA room n k z=vl n (room.getD k []) z:=λ_=>rfl
  have ba:BA room n k=(((room.getD k []).getD n 0:Int):Rat):=rfl
  generalize room.getD k []=r at rl rb esp ra va ba
  have lt:(r.take n).length=n:=by rw [cU]; omega
  have bws:∀ x∈r.take n,Bd 220 x:=λx hx=>rb x (dY hx)
  refine ⟨_,_,r.take n,zq wp,rfl,.inr (by rw [jh rl]),.inl rfl,by omega,λx hx=>(bws x hx).mono,λx hx=>(bow x hx).mono,?_⟩
  have bsp:Bd 2930 (yI (r.take n) (zq wp)):=(zI6 bws bow).mono (by omega)
  have sgn:0 < yI (r.take n) (zq wp) ↔ 0 < VA room n k (ze wp):=by
   rw [va]
   constructor
   ·intro z
    have z':=vD z
    rw [esp] at z'
    apply da
    intro c
    have:=dJ (dU DQ) (show 0<=-(vl n r (ze wp)) by grind)
    grind
   ·intro z
    have z':=ie DQ z
    rw [<- esp] at z'
    exact_mod_cast z'
  generalize yI (r.take n) (zq wp)=sp at *
  rw [fL]
  refine w2 (λc1=>?_) λc1=>?_
  ·have hb':0 < sp:=of_decide_eq_true c1
   have up:=sgn.mp hb'
   have bb:=rb _ (yc (d:=0) (show n < r.length by omega))
   obtain ⟨a1,a2⟩:=Wb (us:=r.take n) (pts:=pts) (by rw [PT.1]; exact lt) λp hp=>(PT.2.2 p hp).1
   rw [jt lt,UD] at a2
   refine ⟨_,k7 rl,_,_,rfl,by decide,xl (by decide),?_⟩
   refine ⟨r.take n,r.getD n 0,n,pts,by rw [ra],lt,λw hw=>(bws w hw).mono,PT,λ_ bal1 bal2=>?_⟩
   generalize yC (r.take n) pts=al at *
   have ane:al.2≠0:=by omega
   have q0':0 < zK al.1 al.2:=u4 ane
   have b7:Bd 4000 (zN al.1 al.2):=jH bal1
   have b8:Bd 2800 (zK al.1 al.2):=uq bal2
   have v7:zU (zX al.1 al.2)=vl n r (ze pts):=((jA ane).2).trans (XG ane a2)
   refine ⟨(r.getD n 0,1),zX al.1 al.2,by show [zu (zX (r.getD n 0) 1),_]=_; rw [zSD],f8,q0',bb.mono,xl (by decide),b7.mono,b8.mono,(Bd.mul (xl (n:=1) (by decide)) b8).mono,?_⟩
   obtain ⟨m1,m2⟩:=Qo (p:=(r.getD n 0,1)) (q:=zX al.1 al.2) f8 q0'
   have c1:Bd 4010 (zN (r.getD n 0 * zK al.1 al.2 - zN al.1 al.2 * 1) (1 * zK al.1 al.2)):=jH (((bb.mul b8).mono (show 220 + 2800<=4002 by decide) |>.sub ((b7.mul (xl (n:=1) (by decide))).mono (show 4000 + 1<=4002 by decide))).mono)
   have c2:Bd 2802 (zK (r.getD n 0 * zK al.1 al.2 - zN al.1 al.2 * 1) (1 * zK al.1 al.2)):=uq ((Bd.mul (xl (n:=1) (by decide)) b8).mono)
   rw [Qn,v7] at m2
   refine ⟨1,sp,rfl,d4 hb',bsp.mono,?_⟩
   have d1:Bd 1 (zN 1 sp):=jH (xl (by decide))
   have d2:Bd 2930 (zK 1 sp):=uq bsp
   obtain ⟨w1,w2⟩:=jA (t:=1) (b:=sp) (d4 hb')
   have m1:0 < zK (r.getD n 0 * zK al.1 al.2 - zN al.1 al.2 * 1) (1 * zK al.1 al.2):=m1
   have m2:zU (zX (r.getD n 0 * zK al.1 al.2 - zN al.1 al.2 * 1) (1 * zK al.1 al.2))=((r.getD n 0:Int):Rat) - vl n r (ze pts):=m2
   refine ⟨zX (r.getD n 0 * zK al.1 al.2 - zN al.1 al.2 * 1) (1 * zK al.1 al.2),zX 1 sp,rfl,m1,w1,c1.mono,c2.mono,d1.mono,d2.mono,(c2.mul d2).mono,?_⟩
   obtain ⟨k1,k2⟩:=Qp (p:=zX (r.getD n 0 * zK al.1 al.2 - zN al.1 al.2 * 1) (1 * zK al.1 al.2)) (q:=zX 1 sp) m1 w1
   have g1:Bd 5000 (zN (zN (r.getD n 0 * zK al.1 al.2 - zN al.1 al.2 * 1) (1 * zK al.1 al.2) * zN 1 sp) (zK (r.getD n 0 * zK al.1 al.2 - zN al.1 al.2 * 1) (1 * zK al.1 al.2) * zK 1 sp)):=jH ((c1.mul d1).mono)
   have g2:Bd 7000 (zK (zN (r.getD n 0 * zK al.1 al.2 - zN al.1 al.2 * 1) (1 * zK al.1 al.2) * zN 1 sp) (zK (r.getD n 0 * zK al.1 al.2 - zN al.1 al.2 * 1) (1 * zK al.1 al.2) * zK 1 sp)):=uq ((c2.mul d2).mono)
   have vf:zU (zX ((zX (r.getD n 0 * zK al.1 al.2 - zN al.1 al.2 * 1) (1 * zK al.1 al.2)).1 * (zX 1 sp).1) ((zX (r.getD n 0 * zK al.1 al.2 - zN al.1 al.2 * 1) (1 * zK al.1 al.2)).2 * (zX 1 sp).2))=(BA room n k - VA room n k (ze pts)) / ((zx wp:Rat) * VA room n k (ze wp)):=k2.trans (by
    rw [m2,show zU (zX 1 sp)=_ from w2,esp,va,va,ba,dG,dG]
    show _ * (((1:Int):Rat) * _)=_
    rw [show ((1:Int):Rat)=1 from rfl,nj])
   generalize hg:zX ((zX (r.getD n 0 * zK al.1 al.2 - zN al.1 al.2 * 1) (1 * zK al.1 al.2)).1 * (zX 1 sp).1) ((zX (r.getD n 0 * zK al.1 al.2 - zN al.1 al.2 * 1) (1 * zK al.1 al.2)).2 * (zX 1 sp).2)=g at *
   have g1:Bd 5000 g.1:=by rw [<- hg]; exact g1
   have g2:Bd 7000 g.2:=by rw [<- hg]; exact g2
   have g0:0 < g.2:=by rw [<- hg]; exact k1
   rcases hme with ⟨rfl,hno⟩ | ⟨j,rfl,M,ej⟩
   ·exact wT rfl (wT rfl ⟨_,g,_,_,_,_,rfl,g1,g2,g0,.inr ⟨k,rfl,zLd hno up,vf⟩⟩)
   ·refine wF rfl ⟨g,f,rfl,g1.mono,g2.mono,bf1.mono,bf2.mono,?_⟩
    have cmp:(g.1 * f.2 < f.1 * g.2) ↔ (BA room n k - VA room n k (ze pts)) * VA room n j (ze wp) < (BA room n j - VA room n j (ze pts)) * VA room n k (ze wp):=by
     rw [zQs g0 f0,vf,ej]
     exact zMz up M.up DQ
    refine ⟨λhu=>⟨_,g,_,_,_,_,rfl,g1,g2,g0,.inr ⟨k,rfl,zNh M up (cmp.mp (of_decide_eq_true hu)),vf⟩⟩,λhu=>⟨_,f,_,_,_,_,rfl,bf1,bf2,f0,.inr ⟨j,rfl,zJO M λ_ z=>of_decide_eq_false hu (cmp.mpr z),ej⟩⟩⟩
  ·have up:¬ 0 < VA room n k (ze wp):=λz=>of_decide_eq_false c1 (sgn.mpr z)
   refine ⟨me,f,_,_,_,_,rfl,bf1,bf2,f0,?_⟩
   rcases hme with ⟨rfl,hno⟩ | ⟨j,rfl,M,ej⟩
   ·refine .inl ⟨rfl,λi hi=>?_⟩
    by_cases e:i=k
    ·rw [e]; exact up
    ·exact hno i (by omega)
   ·exact .inr ⟨j,rfl,zJO M λz=>absurd z up,ej⟩
 ·rintro Γ' ⟨me,f,s5,s6,s7,s8,rfl,bf1,bf2,f0,hme⟩
  rw [gh,a_] at hme
  rcases hme with ⟨rfl,hno⟩ | ⟨j,rfl,M,ej⟩
  ·exact q0 hno
  ·exact q1 j M
theorem zLL (F:zi K "spread" "spread" zGQ f fd) (aG:Fn P w K mg base "over_one_bottom" ["values"] k (zH (Ql))):zF P w K mg base zY (k + 1) f fd ["count","corner","weights"] (zH (Qq)):=by
 refine zt F ZD λ_ _ _ _ _ _ hr=>⟨_,(zJ (za 3 ZD.nd (zQ aG hr rfl (zB (zA 2) zC)))
  (zJ (je 4 true ZD.nd rfl rfl (own:=["number"]) (caps:=[]) (yZ ZD) rfl rfl yr (xZ rfl B.range_ (zB (zA 0) zC)) (λ_ _ _ _=>(zz 0 (yD ["number"]))) (λ_ _ _ _=>zD) rfl)
  (zJ (xY PassesOwn.never rfl (jd rfl B.zip_ (zB (zA 1) (zB (zP (zA 3) zD) zC))) (wc rfl (yJ 5 ZD.nd (yJ 6 ZD.nd wa))) (zL (yY (kh (zA 5) (zA 0)) (zL (yP (X9 (zA 6) (Ui (xM 4) (zA 5) gD)) QG)) yX)))
  (zL (wd 4 (zZ (xX (zB (zP (zA 3) zD) (zB (zA 4) zC))))))))),λds R h=>?_⟩
 obtain ⟨m,cs,xs,rfl,m1,l1,l2,bx,q⟩:=h
 refine ⟨xs,rfl,l2,bx,by omega,by omega,?_⟩
 rw [show ((m:Nat):Int).toNat=m by omega]
 refine zy.rng0 (λ_=>.int 0) (by omega) (λk hk=>rfl) ⟨_,rfl,?_⟩
 refine ⟨λk Γ=>∃ (zs:List Int) (s5 s6:Sl),Γ=[.sh (.int (m:Int)),.sh (cN cs),.sh (xC xs),.sh (.tup [.int (zx xs),L (zq xs)]),.ow (zs.map D.int),s5,s6]/\zs.length=m,⟨cS m 0,.no,.no,by rw [show ((df m).map λ_=>D.int 0)=(cS m (0:Int)).map D.int by rw [iQ,List.map_const',cX]]; rfl,eY⟩,?_,?_⟩
 ·rintro k d Γ' hk ⟨zs,s5,s6,rfl,lz⟩
  obtain ⟨c,x,hc,hx,rfl⟩:=zwq (u:=λx:Nat=>D.int ((x:Nat):Int)) (v:=D.int) hk
  refine w2 (λc1=>?_) λc1=>⟨zs,_,_,rfl,lz⟩
  have cm:c < m:=by have:=of_decide_eq_true c1; omega
  refine ⟨_,c,rfl,?_,zs.set c x,.sh (.int ((c:Nat):Int)),.sh (.int x),?_,by rw [dE]; exact lz⟩
  ·unfold xw
   rw [if_pos (by omega),if_pos (by rw [a_]; omega)]
   congr 1
  ·rw [List.map_set]
   rfl
 ·rintro Γ' ⟨zs,s5,s6,rfl,lz⟩
  exact ⟨_,rfl,k0,q zs⟩
theorem zFT (F:zi K "first_corner" "first_corner" zCc f fd) (au:Fn P w K mg base "weights_of" ["rows","corner","row"] k (zH (qC))) (av:Fn P w K mg base "least_place" ["corner","fit"] k (zH (qD))) (aw:Fn P w K mg base "exchanged" ["corner","place","number"] k (zH (qB))):zF P w K mg base zY (k + 1) f fd ["rows","count"] (zH (XN)):=by
 refine zt F kI λ_ _ _ _ _ _ hr=>⟨_,(zJ (za 2 kI.nd (zPS rfl rfl B.list_ rfl B.range_ (zA 1) (yh xf xv rfl B.len_ xh (zB (zA 0) zC))))
  (zJ (xY PassesOwn.never rfl (xZ rfl B.range_ (zB (zA 1) zC)) (zz 3 kI.nd) (zJ (yY (kh (yh (zMR rfl) zN8 rfl B.max_ JE (zB (zA 2) zC)) (zA 1)) (zL (zZ (zA 2))) yX)
   (zJ (za 4 kI.nd (zQ au hr rfl (zB (zA 0) (zB (zA 2) (zB (zP (zA 0) (zA 3)) zC)))))
   (zJ (za 5 kI.nd (zQ av hr rfl (zB (zA 2) (zB (xF (own:=["axis","weight"]) (caps:=[(1,"count")]) (yZ kI) rfl rfl (qd (vP (vP qf))) (jd rfl B.zip_ (zB (zA 2) (zB (zA 4) zC))) (λ_ _ _ _=>(wc rfl (yJ 0 (yD ["axis","weight","count"]) (yJ 1 (yD ["axis","weight","count"]) wa)))) (λ_ _ _ _=>(vj (Jn (zA 0) (zA 2)) (ul (zRN hr.units (zP (zA 1) zD) zD))))) zC))))
   (zL (yY (zM9 (zA 5) wX) (zL (za 2 kI.nd (zQ aw hr rfl (zB (zA 2) (zB (zA 5) (zB (zA 3) zC)))))) yX))))))
  (zL (zZ (zA 2))))),λds R h=>?_⟩
 obtain ⟨rows,n,count,rfl,X,q⟩:=h
 have RM:=X.ok
 have n1:=RM.n1
 have n2:=X.n2
 have few:=X.few
 have ll:=RM.len
 have lr:(rows.map U).length=count + n:=by rw [a_]; exact ll
 refine ⟨_,_,rfl,rfl,by omega,by omega,by omega,by omega,?_⟩
 have e0:D.lst ((df (((((rows.map U).length:Nat):Int) - ((count:Nat):Int)).toNat)).map λ(k:Nat)=>D.int (((count:Nat):Int) + (k:Int)))=cN (FC rows n count 0):=by
  rw [lr,show ((((count + n:Nat)):Int) - ((count:Nat):Int)).toNat=n by omega]
  show _=cN ((df n).map λk=>count + k)
  unfold cN
  rw [dk]
  refine congrArg D.lst (eh λk _=>?_)
  show D.int (((count:Nat):Int) + ((k:Nat):Int))=D.int (((count + k:Nat)):Int)
  rw [Int.natCast_add]
 rw [e0]
 refine ⟨by omega,by omega,?_⟩
 rw [show ((count:Nat):Int).toNat=count by omega]
 refine ⟨λk Γ=>∃ cs s3 s4 s5,Γ=[.sh (Rm rows),.sh (.int ((count:Nat):Int)),.sh (cN cs),s3,s4,s5]/\cs=FC rows n count k,⟨_,.no,.no,.no,rfl,rfl⟩,?_,?_⟩
 ·rintro k d Γ' hk ⟨cs,s3,s4,s5,rfl,ec⟩
  obtain ⟨kl,rfl⟩:=vO hk
  have C:Cr rows n cs:=by rw [ec]; exact (Jf RM k (by omega))
  have lc:=C.len
  refine ⟨cs.map λ(x:Nat)=>(x:Int),by rw [dk]; rfl,by rw [a_]; omega,λM hM hmax=>w2 (λc1=>?_) λc1=>?_⟩
  ·have c1:=of_decide_eq_true c1
   have z:=zL1 (rows:=rows) (n:=n) (count:=count) (i:=k) (λp hp=>by
    rw [<- ec]
    have:((cs.getD p 0:Nat):Int)<=M:=hmax _ (cP.mpr ⟨_,yc (by omega),rfl⟩)
    omega) (count - k)
   rw [show k + (count - k)=count by omega,<- ec] at z
   rw [z] at q
   exact q
  have hrk:=RM.row _ (yc (d:=[]) (show k < rows.length by omega))
  refine ⟨_,wg [] (by omega),rows,cs,n,rows.getD k [],rfl,X.co C,hrk,λx hx=>X.bd _ (yc (show k < rows.length by omega)) x (dY hx),λPT=>?_⟩
  have lw:=PT.1
  refine zSk (λx:Nat=>D.int ((x:Nat):Int)) uX UB (λc y=>decide (count<=c) && decide ((jI y).1≠0)) (by omega) (λc y hcy=>?_) ?_
  ·obtain ⟨x,_,rfl⟩:=cP.mp (d8 hcy).2
   refine w2 (λc1=>⟨_,rfl,?_⟩) λc1=>?_
   ·have z:decide (count<=c)=true:=decide_eq_true (by have:=of_decide_eq_true c1; omega)
    show D.bool (!decide (x.1=0))=D.bool (_ && decide (x.1≠0))
    rw [z,decide_not]
    rfl
   ·have z:decide (count<=c)=false:=decide_eq_false (by have:=of_decide_eq_false c1; omega)
    rw [z]
    rfl
  have key:∀ p,p < n->((cs.zip ((zg rows cs (rows.getD k []) n).map zu)).map λq=>(λc y=>decide (count<=c) && decide ((jI y).1≠0)) q.1 q.2).getD p false=gw (zg rows cs (rows.getD k []) n) count cs p:=λp hp=>by
   rw [zIw (g:=λc y=>decide (count<=c) && decide ((jI y).1≠0)) (by omega) (by rw [a_]; omega),zRS (by omega)]
   rfl
  refine ⟨cs,_,rfl,by rw [a_,eP,a_,lw]; omega,by omega,λhz=>wF rfl ⟨cs,_,_,_,rfl,?_⟩,λp hp hf hl=>wT rfl ⟨cs,p,k,rfl,hp,by omega,cs.set p k,_,_,_,rfl,?_⟩⟩
  ·rw [ec]
   refine (Jd k λp hp fp=>?_).symm
   rw [<- ec] at fp
   have:=hz p (by omega)
   rw [key p hp,(Qr C hp).mpr fp] at this
   cases this
  ·rw [ec]
   refine (zL2 k (by rw [<- ec]; exact C) ?_).symm
   rw [<- ec]
   have pn:p < n:=by omega
   rw [key p pn] at hf
   exact ⟨pn,(Qr C pn).mp hf,λj hj fj=>hl j (by omega) (by rw [key j hj]; exact (Qr C hj).mpr fj)⟩
 ·rintro Γ' ⟨cs,s3,s4,s5,rfl,ec⟩
  rw [vk] at ec
  rw [ec]
  exact q
theorem zKD (F:zi K "climbed" "climbed" zFJ f fd) (aK:Fn P w K mg base "corner_point" ["rows","corner"] k (zH (gv))) (au:Fn P w K mg base "weights_of" ["rows","corner","row"] k (zH (qC))) (av:Fn P w K mg base "least_place" ["corner","fit"] k (zH (qD))) (aL:Fn P w K mg base "spread" ["count","corner","weights"] k (zH (Qq))) (aJ:Fn P w K mg base "along" ["row","point"] k (zH (Qi))) (bI:Fn P w K mg base "way_off" ["rows","corner","place","number"] k (zH (zSX))) (bJ:Fn P w K mg base "first_met" ["room","point","way"] k (zH (XI))) (aw:Fn P w K mg base "exchanged" ["corner","place","number"] k (zH (qB))):zF P w K mg base zY (k + 1) f fd ["rows","count","corner","row"] (zH (zSf)):=by
 refine zt F qk λ_ _ _ _ _ _ hr=>⟨_,(zL (QR PassesOwn.never (xj uS) (zJ (za 4 qk.nd (zQ aK hr rfl (zB (zA 0) (zB (zA 2) zC))))
   (zJ (za 5 qk.nd (zQ au hr rfl (zB (zA 0) (zB (zA 2) (zB (zA 3) zC)))))
   (zJ (za 6 qk.nd (zQ av hr rfl (zB (zA 2) (zB (xF (own:=["number","weight"]) (caps:=[(1,"count")]) (yZ qk) rfl rfl (qd (vP (vP qf))) (jd rfl B.zip_ (zB (zA 2) (zB (zA 5) zC))) (λ_ _ _ _=>(wc rfl (yJ 0 (yD ["number","weight","count"]) (yJ 1 (yD ["number","weight","count"]) wa)))) (λ_ _ _ _=>(YL (zRO (zP (zA 1) zD) zD) (ul (vj (Jn (zA 0) (zA 2)) (ul (zRN hr.units (zP (zA 1) zD) zD))))))) zC))))
   (zJ (yY (j7 (zA 6) wX) (zL (zZ (xX (zB kZ (zB (zQ aJ hr rfl (zB (zA 3) (zB (zA 4) zC))) (zB (zQ aL hr rfl (zB (zA 1) (zB (zA 2) (zB (zA 5) zC)))) (zB (zA 4) zC))))))) yX)
   (zJ (za 7 qk.nd (zQ bI hr rfl (zB (zA 0) (zB (zA 2) (zB (zA 6) (zB (YM (gZ (zP (zP (zA 5) (zA 6)) zD) zD) zD (xU zD)) zC))))))
   (zJ (za 8 qk.nd (zQ bJ hr rfl (zB (vN (zA 0) uC (wR (zA 1))) (zB (zA 4) (zB (zA 7) zC)))))
   (zJ (yY (j7 (zA 8) wX) (zL (zZ (xX (zB kZ (zB (zA 4) (zB (zA 7) zC)))))) yX)
   (zL (za 2 qk.nd (zQ aw hr rfl (zB (zA 2) (zB (zA 6) (zB (zA 8) zC))))))))))))))),λds R h=>?_⟩
 obtain ⟨room,n,m,cs,us,b,R0,rfl,RO,n1,n2,C,lu,bu,hR,hT⟩:=h
 have X:=UH RO n1 n2
 have ll:=X.ok.len
 have few:=RO.1
 have bu2:∀ x∈(us++[b]).take n,Bd 220 x:=λx hx=>by
  rw [dl (by omega),cV (by omega)] at hx
  exact bu x hx
 have lu2:(us++[b]).length=n + 1:=by rw [cJ,lu]; rfl
 have cut:zv ((room++zb n).map U) none (some ((room.length:Nat):Int))=room.map U:=by
  rw [zQW,<- hV,dl (cQ _),cV (cQ _)]
 refine ⟨λm Γ=>∃ cs s4 s5 s6 s7 s8,Γ=[.sh (Rm (room++zb n)),.sh (.int ((room.length:Nat):Int)),.sh (cN cs),.sh (U (us++[b])),s4,s5,s6,s7,s8]/\Cr (room++zb n) n cs/\jX (room++zb n) n room.length us m cs R0,⟨m,cs,.no,.no,.no,.no,.no,rfl,C,hR⟩,?_⟩
 clear hR C cs m
 rintro m Γ' ⟨cs,s4,s5,s6,s7,s8,rfl,C,hR⟩
 have lc:=C.len
 refine wT rfl ⟨_,cs,n,rfl,X.co C,λPT=>⟨_,cs,n,us++[b],rfl,X.co C,lu2,bu2,λPW=>?_⟩⟩
 rw [zO5 lu] at PW |-
 have lw:=PW.1
 refine zSk (λx:Nat=>D.int ((x:Nat):Int)) uX UB (λc y=>decide ((jI y).1 < 0) || (decide (room.length<=c) && decide ((jI y).1≠0))) (by omega) (λc y hcy=>?_) ?_
 ·obtain ⟨x,_,rfl⟩:=cP.mp (d8 hcy).2
  refine ⟨_,rfl,w2 (λc0=>?_) λc0=>w2 (λc1=>⟨_,rfl,?_⟩) λc1=>?_⟩
  ·show D.bool true=D.bool (decide (x.1 < 0) || _)
   rw [show decide (x.1 < 0)=true from c0]
   rfl
  ·have z:decide (room.length<=c)=true:=decide_eq_true (by have:=of_decide_eq_true c1; omega)
   show D.bool (!decide (x.1=0))=D.bool (decide (x.1 < 0) || (_ && decide (x.1≠0)))
   rw [show decide (x.1 < 0)=false from c0,z,decide_not]
   rfl
  ·have z:decide (room.length<=c)=false:=decide_eq_false (by have:=of_decide_eq_false c1; omega)
   show D.bool false=D.bool (decide (x.1 < 0) || (_ && decide (x.1≠0)))
   rw [show decide (x.1 < 0)=false from c0,z]
   rfl
 have key:∀ p,p < n->((cs.zip ((zg (room++zb n) cs us n).map zu)).map λq=>(λc y=>decide ((jI y).1 < 0) || (decide (room.length<=c) && decide ((jI y).1≠0))) q.1 q.2).getD p false=jo (zg (room++zb n) cs us n) room.length cs p:=λp hp=>by
  rw [zIw (g:=λc y=>decide ((jI y).1 < 0) || (decide (room.length<=c) && decide ((jI y).1≠0))) (by omega) (by rw [a_]; omega),zRS (by omega)]
  rfl
 refine ⟨cs,_,rfl,by rw [a_,eP,a_,lw]; omega,by omega,λhz=>wT rfl ?_,λp hp hf hl=>wF rfl ?_⟩
 ·have no:∀ k,k < n->¬ xI (room++zb n) n room.length us cs k:=λk hk fk=>by
   have:=hz k (by omega)
   rw [key k hk,(Qs C hk).mpr fk] at this
   cases this
  refine ⟨us,b,n,_,rfl,lu,λx hx=>(bu x hx).mono,PT,λa0 b1 b2=>⟨room.length,cs,_,rfl,by omega,by omega,by omega,PW.2.2,λzs=>⟨k0,?_⟩⟩⟩
  cases hR with
  | mst h=>exact hT (u4 (d4 a0)) (jH b1) (uq b2) _ _
  | opn h _=>exact absurd h.fit (no _ h.lt)
  | go h _ _=>exact absurd h.fit (no _ h.lt)
 ·have pn:p < n:=by omega
  rw [key p pn] at hf
  have LP:v6 (xI (room++zb n) n room.length us cs) cs n p:=⟨pn,(Qs C pn).mp hf,λj hj fj=>hl j (by omega) (by rw [key j hj]; exact (Qs C hj).mpr fj)⟩
  have wp:=UG C us pn
  have sg:0 < YC (room++zb n) n cs us p ↔ 0 < ((zg (room++zb n) cs us n).getD p (0,1)).1:=(UF wp).1
  refine ⟨_,wg (0,1) (by omega),_,rfl,?_⟩
  have way:∀ nu:Int,nu=ve (YC (room++zb n) n cs us p)->yO (xQ (room++zb n) cs p nu n) n=y9 (room++zb n) cs us p n:=λnu e=>by unfold y9; rw [e]
  refine ⟨λc=>⟨_,cs,n,p,_,rfl,X.co C,pn,.inl rfl,?a⟩,λc=>⟨_,cs,n,p,_,rfl,X.co C,pn,.inr rfl,?b⟩⟩
  case' a=>rw [way 1 (by unfold ve; rw [if_pos (sg.mpr (of_decide_eq_true c))])]
  case' b=>rw [way (-1) (by unfold ve; rw [if_neg λz=>of_decide_eq_false c (sg.mp z)])]
  all_goals
   intro PD
   refine ⟨room,n,zW (room++zb n) cs n,y9 (room++zb n) cs us p n,by rw [cut],RO,n2,PT,PD,λno=>wT rfl ⟨k0,?_⟩,λr M=>wF rfl ⟨cs,p,r,rfl,hp,by omega,?_⟩⟩
   ·cases hR with
    | mst h=>exact absurd LP.fit (h p pn)
    | opn h _=>exact hT _ _
    | go h M _=>
     rw [h.one C LP] at M
     exact absurd (by have:=M.up; rw [(ut M.lt _).1] at this; exact this) (no _ M.lt)
   ·cases hR with
    | mst h=>exact absurd LP.fit (h p pn)
    | opn h no=>
     rw [h.one C LP] at no
     exact absurd (Qu M).up (no _ M.lt)
    | go h M' z=>
     rw [h.one C LP] at M' z
     rw [<- zP3 (Qu M) M'] at z
     exact ⟨_,dW _,cs.set p r,_,_,_,_,_,rfl,(WX C (by omega) pn (C.wayIs pn) M.lt (Qu M).up).1,z⟩
theorem zPx (F:zi K "most" "most" zKn f fd) (bK:Fn P w K mg base "axes" ["many"] k (zH (XF))) (bM:Fn P w K mg base "first_corner" ["rows","count"] k (zH (XN))) (bN:Fn P w K mg base "first_broken" ["room","point"] k (zH (XH))) (aK:Fn P w K mg base "corner_point" ["rows","corner"] k (zH (gv))) (bO:Fn P w K mg base "climbed" ["rows","count","corner","row"] k (zH (zSf))) (au:Fn P w K mg base "weights_of" ["rows","corner","row"] k (zH (qC))) (av:Fn P w K mg base "least_place" ["corner","fit"] k (zH (qD))) (ai:wr P w K mg base "fraction" ["top","bottom"] k (zH (qg)) (.int 1)) (aL:Fn P w K mg base "spread" ["count","corner","weights"] k (zH (Qq))) (aw:Fn P w K mg base "exchanged" ["corner","place","number"] k (zH (qB))):zF P w K mg base zY (k + 1) f fd ["room","row"] (zH (UI)):=by
 refine zt F jM λ_ _ _ _ _ _ hr=>⟨_,(zJ (za 2 jM.nd (yh xf xv rfl B.len_ xh (zB (zA 0) zC)))
  (zJ (za 3 jM.nd (yB (zA 0) (zQ bK hr rfl (zB (vh (yh xf xv rfl B.len_ xh (zB (zA 1) zC)) zD) zC))))
  (zJ (za 4 jM.nd (zQ bM hr rfl (zB (zA 3) (zB (zA 2) zC))))
  (zL (QR PassesOwn.never (xj uS) (zJ (za 5 jM.nd (zQ bN hr rfl (zB (zA 0) (zB (zQ aK hr rfl (zB (zA 3) (zB (zA 4) zC))) zC))))
   (zJ (yY (j7 (zA 5) wX) (zL (zZ (zQ bO hr rfl (zB (zA 3) (zB (zA 2) (zB (zA 4) (zB (zA 1) zC))))))) yX)
   (zJ (za 6 jM.nd (zQ au hr rfl (zB (zA 3) (zB (zA 4) (zB (zP (zA 3) (zA 5)) zC)))))
   (zJ (za 7 jM.nd (zQ av hr rfl (zB (zA 4) (zB (xF (own:=["weight"]) (caps:=[]) (yZ jM) rfl rfl yr (xN (zA 6)) (λ_ _ _ _=>(zz 0 (yD ["weight"]))) (λ_ _ _ _=>(YF (zP (zA 0) zD) zD))) zC))))
   (zJ (yY (j7 (zA 7) wX) (zJ (je 8 false jM.nd rfl rfl (own:=["weight"]) (caps:=[]) (yZ jM) rfl rfl yr (xN (zA 6)) (λ_ _ _ _=>(zz 0 (yD ["weight"]))) (λ_ _ _ _=>(zQ ai.fn hr rfl (zB (xU (zP (zA 0) zD)) (zB (zP (zA 0) zD) zC)))) rfl)
    (zL (zZ (xX (zB kZ (zB (xX (zB zD (zB (zP (zQ aL hr rfl (zB (zA 2) (zB (yB (zA 4) (vM (zB (zA 5) zC))) (zB (yB (zA 8) (vM (zB (j5 (.int 1) (λ_=>.int 1) ai hr rfl (zB zD zC)) zC))) zC)))) zD) zC))) zC)))))) yX)
   (zL (za 4 jM.nd (zQ aw hr rfl (zB (zA 4) (zB (zA 7) (zB (zA 5) zC)))))))))))))))),λds R h=>?_⟩
 obtain ⟨room,n,m,us,b,R0,rfl,RO,n1,n2,lu,bu,hR,hT⟩:=h
 have X:=UH RO n1 n2
 have ll:=X.ok.len
 have few:=RO.1
 have lr:((us++[b]).map D.int).length=n + 1:=by rw [a_,cJ,lu]; rfl
 have lT:(room.map U).length=room.length:=a_ ..
 refine ⟨n,by rw [lr,show (((n + 1:Nat):Int) - 1)=(n:Int) by omega],by omega,by rw [lT,a_,Qv]; omega,?_⟩
 rw [<- db,lT]
 refine ⟨_,n,room.length,rfl,X,?_⟩
 have C:=(Jf X.ok room.length (cQ _))
 generalize FC (room++zb n) n room.length room.length=cs at C hR
 refine ⟨λm Γ=>∃ cs s5 s6 s7 s8,Γ=[.sh (Rm room),.sh (U (us++[b])),.sh (.int ((room.length:Nat):Int)),.sh (Rm (room++zb n)),.sh (cN cs),s5,s6,s7,s8]/\Cr (room++zb n) n cs/\v8 (room++zb n) n room.length us m cs R0,⟨m,cs,.no,.no,.no,.no,rfl,C,hR⟩,?_⟩
 clear hR C cs m
 rintro m Γ' ⟨cs,s5,s6,s7,s8,rfl,C,hR⟩
 have lc:=C.len
 refine wT rfl ⟨_,cs,n,rfl,X.co C,λPT=>?_⟩
 refine ⟨room,n,_,rfl,RO,PT,λhh=>wT rfl ?_,λr hr hb hl=>wF rfl ?_⟩
 ·have Fx:Fe (room++zb n) n room.length cs:=λi hi=>by
   rw [(ut hi _).1,(ut (ax:=zb n) (n:=n) hi (λ_=>0)).2]
   exact hh i hi
  have nb:∀ r,¬ qS (room++zb n) n room.length cs r:=λr h=>by
   have:=Fx r h.1
   have:=h.2.1
   grind
  cases hR with
  | done h z=>exact ⟨room,n,_,cs,us,b,R0,rfl,RO,n1,n2,C,lu,bu,z,hT⟩
  | emp h _=>exact absurd h (nb _)
  | go h _ _=>exact absurd h (nb _)
 have FB:qS (room++zb n) n room.length cs r:=⟨hr,by rw [(ut hr _).1,(ut (ax:=zb n) (n:=n) hr (λ_=>0)).2]; exact hb,λi hi=>by
  have hi':i < room.length:=by omega
  rw [(ut hi' _).1,(ut (ax:=zb n) (n:=n) hi' (λ_=>0)).2]
  exact hl i hi⟩
 have nF:¬ Fe (room++zb n) n room.length cs:=λF=>by
  have:=F r FB.1
  have:=FB.2.1
  grind
 have hrr:=X.ok.row _ (yc (d:=[]) (show r < (room++zb n).length by omega))
 refine ⟨_,wg [] (by omega),_,cs,n,_,rfl,X.co C,hrr,λx hx=>X.bd _ (yc (show r < (room++zb n).length by omega)) x (dY hx),λPW=>?_⟩
 have lw:=PW.1
 refine vG zu jI (λ_=>rfl) (λp=>.bool (decide (0 < p.1))) (by omega) (λp _=>⟨_,rfl,rfl⟩) ?_
 have key:∀ p,p < n->((zg (room++zb n) cs ((room++zb n).getD r []) n).map λp=>decide (0 < p.1)).getD p false=gz (zg (room++zb n) cs ((room++zb n).getD r []) n) p:=λp hp=>by
  rw [jB (d:=(0,1)) (by omega)]
  rfl
 refine ⟨cs,(zg (room++zb n) cs ((room++zb n).getD r []) n).map λp=>decide (0 < p.1),by rw [dk (g:=D.bool)]; rfl,by rw [a_]; omega,by omega,λhz=>wT rfl ?_,λp hp hf hl2=>wF rfl ?_⟩
 ·refine vG zu jI (λ_=>rfl) (λp=>zu (zX (-p.1) p.2)) (by omega) (λp hp=>⟨_,rfl,_,rfl,_,_,rfl,d4 (PW.2.2 p hp).1,(PW.2.2 p hp).2.2.mono,rfl⟩) ?_
  have e1:cN (cs++[r])=.lst ((cs.map λx=>D.int ((x:Nat):Int))++[.int (r:Int)]):=by unfold cN; rw [db]; rfl
  have e2:xC ((zg (room++zb n) cs ((room++zb n).getD r []) n).map (λp=>zX (-p.1) p.2)++[zX 1 1])=.lst ((zg (room++zb n) cs ((room++zb n).getD r []) n).map (λp=>zu (zX (-p.1) p.2))++[zu (zX 1 1)]):=by unfold xC; rw [db,dk]; rfl
  refine ⟨k0,by rw [a_]; show _ + 1<=1000; omega,_,_,rfl,by decide,xl (by decide),k0,by rw [a_]; show _ + 1<=1000; omega,?_⟩
  refine ⟨room.length,cs++[r],_,by rw [e1,e2]; rfl,by omega,by rw [cJ]; show _ + 1<=100; omega,by rw [cJ,a_]; show _ + 1<=4; omega,λx hx=>?_,λzs=>⟨_,rfl,k0,k0,?_⟩⟩
  ·rcases dX.mp hx with hx | hx
   ·obtain ⟨y,hy,rfl⟩:=cP.mp hx
    obtain ⟨y0,y1,y2⟩:=PW.2.2 y hy
    exact ⟨u4 (d4 y0),jH y1.neg,uq y2⟩
   ·rw [dh.mp hx]
    exact ⟨u4 (t:=1) (b:=1) (by decide),jH (t:=1) (b:=1) (xl (by decide)),uq (t:=1) (b:=1) (xl (by decide))⟩
  ·have no:∀ k,k < n->¬ 0 < YC (room++zb n) n cs ((room++zb n).getD r []) k:=λk hk fk=>by
    have:=hz k (by omega)
    rw [key k hk,(Qt C hk).mpr fk] at this
    cases this
   cases hR with
   | done h _=>exact absurd h nF
   | emp h _=>exact hT _
   | go h l _=>
    rw [Qw h FB] at l
    exact absurd l.fit (no _ l.lt)
 ·have pn:p < n:=by omega
  rw [key p pn] at hf
  have LP:v6 (λk=>0 < YC (room++zb n) n cs ((room++zb n).getD r []) k) cs n p:=⟨pn,(Qt C pn).mp hf,λj hj fj=>hl2 j (by omega) (by rw [key j hj]; exact (Qt C hj).mpr fj)⟩
  cases hR with
  | done h _=>exact absurd h nF
  | emp h no=>
   rw [Qw h FB] at no
   exact absurd LP.fit (no _ pn)
  | go h l z=>
   rw [Qw h FB] at l z
   rw [l.one C LP] at z
   refine ⟨cs,p,r,rfl,hp,by omega,_,dW _,cs.set p r,_,_,_,_,rfl,C.exch pn (by omega) (λy=>?_),z⟩
   have:=LP.fit
   have y:YC (room++zb n) n cs ((room++zb n).getD r []) p=0:=y
   rw [y] at this
   exact absurd this eX
theorem zHf (F:zi K "_law_cell_at" "_law_cell_at" zDc f fd):zF P w K mg base zY (k + 1) f fd ["_law_script","_law_k"] (zH (Qy)):=by
 refine zt F zHT λ_ _ _ _ _ _ hr=>⟨_,(zJ (yY (kh (zA 1) (yh xf xv rfl B.len_ xh (zB (zA 0) zC))) (zL (zZ (zP (zA 0) (zA 1)))) yX)
  (zL (zZ zD))),λds R h=>?_⟩
 obtain ⟨ns,k,rfl,h0,q⟩:=h
 refine w2 (λc=>?_) λc=>q 0
 obtain ⟨x,_,e⟩:=Qx h0 (of_decide_eq_true c)
 exact ⟨x,e,q x⟩
theorem zIU (F:zi K "_law_stream" "_law_stream" zED f fd):zF P w K mg base zY (k + 1) f fd ["_law_cell","_law_many"] (zH (XR)):=by
 refine zt F ql λ_ _ _ _ _ _ hr=>⟨_,(zJ (vo 2 ql.nd rfl (Or.inl rfl) zC)
  (zJ (yY (zRM (zA 0) (qY zD zD)) (zJ (za 3 ql.nd (vh (zA 0) (qY zD zD)))
   (zJ (xY PassesOwn.never rfl (xZ rfl B.range_ (zB (zA 1) zC)) (zz 4 ql.nd) (zJ (yP (wV (wq dm dq dr y6 (xM 2) (yA (xu (zA 3) (qY zD zD)) ym))) vF)
    (zL (za 3 ql.nd (wZ (zA 3) (qY zD zD))))))
   (zL (wd 2 (zZ (zA 2)))))) yX)
  (zJ (za 5 ql.nd (yB (xu (zA 0) (yB (qY zD zD) zD)) zD))
  (zJ (xY PassesOwn.never rfl (xZ rfl B.range_ (zB (yB (zA 1) zD) zC)) (zz 4 ql.nd) (zJ (za 5 ql.nd (xu (yB (yB (yN (zA 5) (zA 5)) (yN zD (zA 5))) (zA 4)) (yB (qY zD zD) zD)))
   (zL (yP (wV (wq dm dq dr y6 (xM 2) (yA (zA 5) ym))) vF))))
  (zL (wd 2 (zZ (vN (zA 2) (wR zD) uC)))))))),λds R h=>?_⟩
 obtain ⟨c,n,rfl,n1,q⟩:=h
 have b45:Bd 150 UJ:=Bd.lit
 have p45:(0:Int) < UJ:=by decide
 have b18:Bd 60 ((10:Int) ^ (18:Int).toNat + 9):=Bd.lit
 have p18:(0:Int) < (10:Int) ^ (18:Int).toNat + 9:=by decide
 refine ⟨k0,⟨by decide,by decide,by decide⟩,w2 (λc1=>?_) λc1=>?_⟩
 ·refine ⟨⟨by decide,by decide,by decide⟩,by omega,by omega,?_⟩
  rw [show ((n:Nat):Int).toNat=n by omega]
  refine ⟨λk Γ=>∃ (xs:List Int) (r:Int) (s4:Sl),Γ=[.sh (.int c),.sh (.int (n:Int)),.ow (xs.map D.int),.sh (.int r),s4,.no]/\xs.length=k/\Qz xs,⟨[],_,.no,rfl,rfl,λ_ h=>nomatch h⟩,?_,?_⟩
  ·rintro k d Γ' hk ⟨xs,r,s4,rfl,lx,hx⟩
   obtain ⟨kn,rfl⟩:=vO hk
   refine ⟨⟨by decide,by decide,by decide⟩,by decide,by rw [a_]; omega,?_⟩
   refine ⟨⟨by decide,by decide,by decide⟩,by decide,b45.mono,?_⟩
   refine ⟨xs++[r.fmod UJ],r.fdiv UJ,.sh (.int (k:Int)),?_,by rw [cJ,lx]; rfl,uv hx ⟨(md r p45).1,uu b45 p45⟩⟩
   rw [db]
   rfl
  ·rintro Γ' ⟨xs,r,s4,rfl,lx,hx⟩
   rw [vk] at lx
   exact q xs lx hx
 ·refine ⟨⟨by decide,by decide,by decide⟩,by decide,?_⟩
  have m0:=md c p18
  have bm:Bd 60 (c.fmod ((10:Int) ^ (18:Int).toNat + 9)):=uu b18 p18
  refine ⟨by omega,by omega,?_⟩
  rw [show ((n:Int) + 2).toNat=n + 2 by omega]
  refine ⟨λk Γ=>∃ (xs:List Int) (r:Int) (s4:Sl),Γ=[.sh (.int c),.sh (.int (n:Int)),.ow (xs.map D.int),.no,s4,.sh (.int r)]/\xs.length=k/\Qz xs/\Bd 70 r,⟨[],_,.no,rfl,rfl,(λ_ h=>nomatch h),((bm.mono (show 60<=65 by decide)).add ((Bd.lit (i:=48271) (n:=16)).mono (show 16<=65 by decide))).mono⟩,?_,?_⟩
  ·rintro k d Γ' hk ⟨xs,r,s4,rfl,lx,hx,br⟩
   obtain ⟨kn,rfl⟩:=vO hk
   refine ⟨br.mono,br.mono,(Bd.lit (i:=48271) (n:=16)).mono,br.mono,⟨by decide,by decide,by decide⟩,by decide,by rw [a_]; omega,?_⟩
   refine ⟨xs++[(r * r + 48271 * r + (k:Int)).fmod ((10:Int) ^ (18:Int).toNat + 9)],(r * r + 48271 * r + (k:Int)).fmod ((10:Int) ^ (18:Int).toNat + 9),.sh (.int (k:Int)),?_,?_,uv hx ⟨(md (r * r + 48271 * r + (k:Int)) p18).1,(uu b18 p18).mono⟩,(uu b18 p18).mono⟩
   ·rw [db]
    rfl
   ·rw [cJ,lx]; rfl
  ·rintro Γ' ⟨xs,r,s4,rfl,lx,hx,br⟩
   rw [vk] at lx
   have e:zv (xs.map D.int) (some 2) none=(xs.drop 2).map D.int:=by rw [show (2:Int)=((2:Nat):Int) from rfl,zN3,j_]
   have qq:=q (xs.drop 2) (by rw [fq]; omega) (λx hx'=>hx x (List.mem_of_mem_drop hx'))
   unfold L at qq
   rw [<- e] at qq
   exact qq
theorem zIV (F:zi K "_law_number" "_law_number" zEE f fd):zF P w K mg base zY (k + 1) f fd ["_law_x","_law_far"] (zH (UK)):=by
 refine zt F zIG λ_ _ _ _ _ _ hr=>⟨_,(zL (zZ (vh (xu (zA 0) (yB (yN zD (zA 1)) zD)) (zA 1)))),λds R h=>?_⟩
 obtain ⟨x,far,rfl,f0,bf,q⟩:=h
 have:=md x (show (0:Int) < 2 * far + 1 by omega)
 exact ⟨(Bd.lit (i:=2) (n:=2)).mono,bf.mono,by omega,q _ (by omega) (by omega)⟩
theorem zNY (F:zi K "_law_box" "_law_box" zIO f fd) (ap:Fn P w K mg base "_law_stream" ["_law_cell","_law_many"] k (zH (XR))) (ak:Fn P w K mg base "_law_number" ["_law_x","_law_far"] k (zH (UK))):zF P w K mg base zY (k + 1) f fd ["_law_cell","_law_many","_law_unit"] (zH (XS)):=by
 refine zt F Xx λ_ _ _ _ _ _ hr=>⟨_,(zJ (za 3 Xx.nd (zQ ap hr rfl (zB (zA 0) (zB (yN zD (zA 1)) zC))))
  (zJ (vo 4 Xx.nd rfl (Or.inl rfl) zC)
  (zJ (xY PassesOwn.never rfl (xZ rfl B.range_ (zB (zA 1) zC)) (zz 5 Xx.nd) (zJ (za 6 Xx.nd (yN (zQ ak hr rfl (zB (zP (zA 3) (yN zD (zA 5))) (zB zD zC))) (zA 2)))
   (zL (yP (wV (wq dm dq dr y6 (xM 4) (yA (xX (zB (zA 6) (zB (yB (yB (zA 6) (yN (xu (zP (zA 3) (yB (yN zD (zA 5)) zD)) zD) (zA 2))) (xu (wZ (zP (zA 3) (yB (yN zD (zA 5)) zD)) zD) zD)) zC))) ym))) vF))))
  (zL (wd 4 (zZ (zA 4))))))),λds R h=>?_⟩
 obtain ⟨c,n,u,rfl,n3,u0,bu,q⟩:=h
 have b2:Bd 2 (2:Int):=Bd.lit
 refine ⟨b2.mono,(XO n3).mono,c,2 * n,by rw [show ((2 * n:Nat):Int)=2 * (n:Int) by omega],by omega,λxs lx hx=>?_⟩
 refine ⟨k0,by omega,by omega,?_⟩
 rw [show ((n:Nat):Int).toNat=n by omega]
 refine ⟨λk Γ=>∃ (bs:List (Int × Int)) (s5 s6:Sl),Γ=[.sh (.int c),.sh (.int (n:Int)),.sh (.int u),.sh (L xs),.ow (bs.map zu),s5,s6]/\bs.length=k/\∀ b∈bs,b.1<=b.2/\Bd 105 b.1/\Bd 105 b.2,⟨[],.no,.no,rfl,rfl,λ_ h=>nomatch h⟩,?_,?_⟩
 ·rintro k d Γ' hk ⟨bs,s5,s6,rfl,lb,hb⟩
  obtain ⟨kn,rfl⟩:=vO hk
  have bk:Bd 2 (k:Int):=XO (by omega)
  refine ⟨b2.mono,bk.mono,vQ (by omega) (by omega) λx hx1=>⟨x,3,rfl,by decide,(Bd.lit (i:=3) (n:=2)).mono,λy y1 y2=>?_⟩⟩
  have by2:Bd 2 y:=zSt (f:=3) Bd.lit y1 y2
  refine ⟨by2.mono,bu.mono,?_⟩
  refine ⟨b2.mono,bk.mono,vQ (by omega) (by omega) λx2 hx2=>⟨by decide,(Bd.mono (n:=3) (uu Bd.lit (by decide)) (by decide)),bu.mono,b2.mono,bk.mono,vQ (by omega) (by omega) λx3 hx3=>⟨by decide,(Bd.lit (i:=4) (n:=3)).mono,by decide,k0,by rw [a_]; omega,?_⟩⟩⟩
  have m1:=md x2 (show (0:Int) < 4 by decide)
  have m2:=md (x3.fdiv 4) (show (0:Int) < 2 by decide)
  have g0:0<=x2.fmod 4 * u:=io m1.1 u0
  have c1:Bd 102 (y * u):=by2.mul bu
  have c2:Bd 103 (x2.fmod 4 * u):=(uu (n:=3) Bd.lit (by decide)).mul bu
  have c3:Bd 2 ((x3.fdiv 4).fmod 2):=uu Bd.lit (by decide)
  refine ⟨bs++[(y * u,y * u + x2.fmod 4 * u + (x3.fdiv 4).fmod 2)],.sh (.int (k:Int)),.sh (.int (y * u)),?_,by rw [cJ,lb]; rfl,uv hb ⟨by show y * u<=y * u + x2.fmod 4 * u + (x3.fdiv 4).fmod 2; omega,c1.mono,((c1.mono (show 102<=103 by decide)).add c2 |>.add c3.mono).mono⟩⟩
  rw [db]
  rfl
 ·rintro Γ' ⟨bs,s5,s6,rfl,lb,hb⟩
  rw [vk] at lb
  exact q bs lb hb
theorem zLP (F:zi K "_law_rows" "_law_rows" zGU f fd):zF P w K mg base zY (k + 1) f fd ["_law_box_here"] (zH (zSa)):=by
 refine zt F ZE λ_ _ _ _ _ _ hr=>⟨_,(zJ (vo 1 ZE.nd rfl (Or.inl rfl) zC)
  (zJ (xY PassesOwn.never rfl (xZ rfl B.range_ (zB (yh xf xv rfl B.len_ xh (zB (zA 0) zC)) zC)) (zz 2 ZE.nd) (zJ (je 3 false ZE.nd rfl rfl (own:=["_law_j"]) (caps:=[(2,"_law_i")]) (yZ ZE) rfl rfl yr (xZ rfl B.range_ (zB (yh xf xv rfl B.len_ xh (zB (zA 0) zC)) zC)) (λ_ _ _ _=>(zz 0 (yD ["_law_j","_law_i"]))) (λ_ _ _ _=>(x9 Ut Jx rfl B.int_ Zk (zB (qc hr.units (zA 0) (zA 1)) zC))) rfl)
   (zJ (yP (wV (wq dm dq dr y6 (xM 1) (yA (x9 jS jb rfl B.tuple_ uI (zB (yB (zA 3) (vM (zB (zP (zP (zA 0) (zA 2)) zD) zC))) zC)) ym))) vF)
   (zL (yP (wV (wq dm dq dr y6 (xM 1) (yA (x9 jS jb rfl B.tuple_ uI (zB (yB (xF (own:=["_law_one"]) (caps:=[]) (yZ ZE) rfl rfl yr (xN (zA 3)) (λ_ _ _ _=>(zz 0 (yD ["_law_one"]))) (λ_ _ _ _=>(vh zD (zA 0)))) (vM (zB (vh zD (zP (zP (zA 0) (zA 2)) zD)) zC))) zC)) ym))) vF)))))
  (zL (wd 1 (zZ (zA 1)))))),λds R h=>?_⟩
 obtain ⟨bs,rfl,l1,q⟩:=h
 have lp:(fT zu bs).length=bs.length:=a_ ..
 refine ⟨k0,by omega,by omega,?_⟩
 rw [show ((fY (fT zu bs):Nat):Int).toNat=bs.length by omega]
 refine ⟨λk Γ=>∃ (s2 s3:Sl),Γ=[.sh (.lst (bs.map zu)),.ow ((((bs.mapIdx (wA bs.length)).take k).flatten).map U),s2,s3],⟨.no,.no,rfl⟩,?_,?_⟩
 ·rintro k d Γ' hk ⟨s2,s3,rfl⟩
  obtain ⟨kn,rfl⟩:=vO hk
  have hx:(bs.mapIdx (wA bs.length))[k]? = some (wA bs.length k bs[k]):=by rw [List.getElem?_mapIdx,b_ kn]; rfl
  have ll:((bs.mapIdx (wA bs.length)).take k).flatten.length=2 * k:=by
   rw [lY]
   have e:((bs.mapIdx (wA bs.length)).take k).map fY=cS k 2:=by
    refine mT (by simp; omega) λi h1 h2=>?_
    simp [wA]
   rw [e]
   simp
   omega
  refine ⟨by omega,by omega,?_⟩
  rw [show ((fY (fT zu bs):Nat):Int).toNat=bs.length by omega]
  refine zy.rng0 (λj=>.int (if (j:Int)=(k:Int) then 1 else 0)) (by omega) (λj hj=>by show D.int _=_; rw [zOm]) ?_
  have eu:(df bs.length).map (λj:Nat=>D.int (if (j:Int)=(k:Int) then 1 else 0))=(yy (k:Int) bs.length 1).map D.int:=by unfold yy; rw [dk]; rfl
  rw [eu]
  refine ⟨_,Q3 kn rfl,_,rfl,k0,by rw [a_,v5]; show _ + 1<=1000; omega,by rw [a_]; omega,?_⟩
  refine zy.int (λx=>0 - x) (by rw [v5]; omega) (λx hx=>rfl) ?_
  refine ⟨_,Q3 kn rfl,_,rfl,k0,by rw [a_,a_,v5]; show _ + 1<=1000; omega,by rw [cJ,a_]; show _ + 1 < 1000; omega,?_⟩
  refine ⟨.sh (.int (k:Int)),.sh (L (yy (k:Int) bs.length 1)),?_⟩
  rw [zMw hx,db]
  unfold wA
  rw [dD,dD,mC,U,U,db,db,<- List.append_cons]
  rfl
 ·rintro Γ' ⟨s2,s3,rfl⟩
  rw [vk,cV (by rw [List.length_mapIdx]; omega)]
  exact q
theorem zLS (F:zi K "_law_made" "_law_made" zGX f fd) (bS:qP P w K mg base ag ["self","rows","nexts","steer","push","add","divisor"] k (jE ag (zOs ag))) (bT:qP P w K mg base ah ["self","many","pushes","modes"] k (jE ah (zL5 ah ag))):zF P w K mg base zY (k + 1 + 1) f fd ["_law_spec"] (zH (zSc ah ag)):=by
 refine zt F vv λ_ _ _ _ _ _ hr=>⟨_,(zJ (Wt (zA 0) (wc rfl (yJ 1 vv.nd (yJ 2 vv.nd (yJ 3 vv.nd (yJ 4 vv.nd wa))))))
  (zJ (vo 5 vv.nd rfl (Or.inl rfl) zC)
  (zJ (xY PassesOwn.never rfl (xN (zA 3)) (wc rfl (yJ 6 vv.nd (yJ 7 vv.nd (yJ 8 vv.nd (yJ 9 vv.nd (yJ 10 vv.nd (yJ 11 vv.nd wa))))))) (zJ (je 12 false vv.nd rfl rfl (own:=["_law_one"]) (caps:=[]) (yZ vv) rfl rfl yr (xN (zA 7)) (λ_ _ _ _=>(zz 0 (yD ["_law_one"]))) (λ_ _ _ _=>(x9 u3 ja rfl B.list_ wW (zB (zA 0) zC))) rfl)
   (zL (yP (wV (wq dm dq dr y6 (xM 5) (yA (zKx bS aa hr rfl (zB (x9 u3 ja rfl B.list_ wW (zB (zA 6) zC)) (zB (zA 12) (zB (x9 u3 ja rfl B.list_ wW (zB (zA 8) zC)) (zB (xF (own:=["_law_one"]) (caps:=[]) (yZ vv) rfl rfl yr (xN (zA 9)) (λ_ _ _ _=>(zz 0 (yD ["_law_one"]))) (λ_ _ _ _=>(x9 u3 ja rfl B.list_ wW (zB (zA 0) zC)))) (zB (x9 u3 ja rfl B.list_ wW (zB (zA 10) zC)) (zB (zA 11) zC))))))) ym))) vF))))
  (zL (wd 5 (zZ (zKx bT ae hr rfl (zB (zA 1) (zB (x9 u3 ja rfl B.list_ wW (zB (zA 2) zC)) (zB (zA 5) zC)))))))))),λds R h=>?_⟩
 obtain ⟨n,bs,ms,u,rfl,TO,q⟩:=h
 have m40:=TO.m40
 have n3:=TO.n3
 have b6:=TO.b6
 refine ⟨k0,?_⟩
 refine ⟨λk Γ=>∃ s6 s7 s8 s9 s10 s11 s12:Sl,Γ=[.sh (qh n bs ms u),.sh (.int (n:Int)),.sh (.lst (bs.map zu)),.sh (.lst (ms.map wB)),.sh (.int u),.ow ((ms.take k).map (jF ag)),s6,s7,s8,s9,s10,s11,s12],⟨_,_,_,_,_,_,_,rfl⟩,?_,?_⟩
 ·rintro k d Γ' hk ⟨s6,s7,s8,s9,s10,s11,s12,rfl⟩
  have kl:=(cT.mp hk).1
  rw [a_] at kl
  rw [c_,b_ kl] at hk
  cases hk
  generalize hm:ms[k]=m
  have o:=TO.mok m (hm ▸ d6 kl)
  have hk2:ms[k]? = some m:=by rw [b_ kl,hm]
  refine vG L yF ku L (by rw [o.nexts.1]; omega) (λr hr=>rfl) ?_
  refine vG L yF ku L (by rw [o.push.1]; omega) (λr hr=>rfl) ?_
  refine ⟨_,_,_,_,_,_,rfl,zSV o.few (λr hr=>by rw [o.rows r hr]; omega),W5 (by rw [o.nexts.1]; omega) (λr hr=>by rw [o.nexts.2 r hr]; omega),jG (by rw [o.steer]; omega),W5 (by rw [o.push.1]; omega) (λr hr=>by rw [o.push.2 r hr]; omega),jG (by rw [o.add]; omega),by rw [a_,cU]; omega,?_⟩
  refine ⟨.sh (Rm m.rows),.sh (Tb m.nexts),.sh (L m.steer),.sh (Tb m.push),.sh (L m.add),.sh (.int m.div),.sh (Tb m.nexts),?_⟩
  rw [uK hk2,db]
  rfl
 ·rintro Γ' ⟨s6,s7,s8,s9,s10,s11,s12,rfl⟩
  rw [a_,mP]
  exact ⟨n,bs,ms,rfl,TO,q⟩
theorem zNW (F:zi K "_law_top" "_law_top" zIM f fd):zF P w K mg base zY (k + 1) f fd ["_law_numbers","_law_box_here"] (zH (zSZ)):=by
 refine zt F Xy λ_ _ _ _ _ _ hr=>⟨_,(zJ (za 2 Xy.nd zD)
  (zJ (xY PassesOwn.never rfl (jd rfl B.zip_ (zB (zA 0) (zB (zA 1) zC))) (wc rfl (yJ 3 Xy.nd (yJ 4 Xy.nd wa))) (zL (za 2 Xy.nd (yB (zA 2) (yh (zH3 rfl) zMT rfl B.max_ JE (zB (yN (zA 3) (zP (zA 4) zD)) (zB (yN (zA 3) (zP (zA 4) zD)) zC)))))))
  (zL (zZ (zA 2))))),λds R h=>?_⟩
 obtain ⟨d,ns,bs,ee,rfl,h,l3,bn,e5,bb,q⟩:=h
 refine h.zipL ?_
 refine ⟨λk Γ=>∃ (s3 s4:Sl),Γ=[.sh d,.sh (.lst (bs.map zu)),.sh (.int (zn (ns.take k) (bs.take k))),s3,s4],⟨.no,.no,rfl⟩,?_,?_⟩
 ·rintro k d' Γ' hk ⟨s3,s4,rfl⟩
  obtain ⟨x1,b1,h1,h2,rfl⟩:=Wp _ hk
  obtain ⟨x,hx,rfl⟩:=zJT h1
  obtain ⟨b,hb,rfl⟩:=zJT h2
  have hx':=bn x (dz hx)
  have hb':=bb b (dz hb)
  have kx:=(cT.mp hx).1
  have kb:=(cT.mp hb).1
  refine ⟨_,rfl,hx'.mono,hb'.1.mono (by omega),_,rfl,hx'.mono,hb'.2.mono (by omega),.sh (.int x),.sh (zu b),?_⟩
  rw [uK hx,uK hb,zI4 (by rw [cU,cU]; omega)]
  rfl
 ·rintro Γ' ⟨s3,s4,rfl⟩
  rw [f6,a_,a_,zI3]
  exact q
theorem zLR (F:zi K "_law_mode" "_law_mode" zGW f fd) (ap:Fn P w K mg base "_law_stream" ["_law_cell","_law_many"] k (zH (XR))) (ak:Fn P w K mg base "_law_number" ["_law_x","_law_far"] k (zH (UK))):zF P w K mg base zY (k + 1) f fd ["_law_cell","_law_many","_law_wide","_law_unit","_law_split"] (zH (fMd)):=by
 refine zt F uc λ_ _ _ _ _ _ hr=>⟨_,(zJ (za 5 uc.nd (zQ ap hr rfl (zB (zA 0) (zB zD zC))))
  (zJ (za 6 uc.nd (yB zD (xu (zP (zA 5) zD) zD)))
  (zJ (vo 7 uc.nd rfl (Or.inl rfl) zC)
  (zJ (vo 8 uc.nd rfl (Or.inl rfl) zC)
  (zJ (xY PassesOwn.never rfl (xZ rfl B.range_ (zB (zA 1) zC)) (zz 9 uc.nd) (zJ (yP (wV (wq dm dq dr y6 (xM 7) (yA (xF (own:=["_law_j"]) (caps:=[(5,"_law_xs"),(6,"_law_divisor_here"),(9,"_law_i")]) (yZ uc) rfl rfl yr (xZ rfl B.range_ (zB (zA 1) zC)) (λ_ _ _ _=>(zz 0 (yD ["_law_j","_law_xs","_law_divisor_here","_law_i"]))) (λ_ _ _ _=>(zQ ak hr rfl (zB (zP (zA 1) (yB (yB zD (yN zD (zA 3))) (zA 0))) (zB (zP (vM (zB zD (zB (vh (zA 2) zD) zC))) (x9 Ut Jx rfl B.int_ Zk (zB (qc hr.units (zA 3) (zA 0)) zC))) zC))))) ym))) vF)
   (zL (yP (wV (wq dm dq dr y6 (xM 8) (yA (xF (own:=["_law_j"]) (caps:=[(5,"_law_xs"),(9,"_law_i")]) (yZ uc) rfl rfl yr (xZ rfl B.range_ (zB (zA 2) zC)) (λ_ _ _ _=>(zz 0 (yD ["_law_j","_law_xs","_law_i"]))) (λ_ _ _ _=>(zQ ak hr rfl (zB (zP (zA 1) (yB (yB zD (yN zD (zA 2))) (zA 0))) (zB zD zC))))) ym))) vF))))
  (zJ (je 10 false uc.nd rfl rfl (own:=["_law_i"]) (caps:=[(3,"_law_unit"),(5,"_law_xs")]) (yZ uc) rfl rfl yr (xZ rfl B.range_ (zB (zA 1) zC)) (λ_ _ _ _=>(zz 0 (yD ["_law_i","_law_unit","_law_xs"]))) (λ_ _ _ _=>(yN (zQ ak hr rfl (zB (zP (zA 2) (yB zD (zA 0))) (zB zD zC))) (xu (zP (zA 2) zD) (zA 1)))) rfl)
  (zJ (vo 11 uc.nd rfl (Or.inl rfl) zC)
  (Ym (yY (xj (zA 4)) (zJ (je 12 false uc.nd rfl rfl (own:=["_law_i"]) (caps:=[(5,"_law_xs")]) (yZ uc) rfl rfl yr (xZ rfl B.range_ (zB (zA 1) zC)) (λ_ _ _ _=>(zz 0 (yD ["_law_i","_law_xs"]))) (λ_ _ _ _=>(zQ ak hr rfl (zB (zP (zA 1) (yB zD (zA 0))) (zB zD zC)))) rfl)
   (zL (yP (wV (wq dm dq dr y6 (xM 11) (yA (x9 jS jb rfl B.tuple_ uI (zB (yB (zA 12) (vM (zB (yN (zQ ak hr rfl (zB (zP (zA 5) zD) (zB zD zC))) (zA 3)) zC))) zC)) ym))) vF))) yX)
  (zL (wd 7 (wd 8 (wd 11 (zZ (xX (zB (zA 11) (zB (zA 7) (zB (yN (vM (zB zD zC)) (zA 1)) (zB (zA 8) (zB (zA 10) (zB (zA 6) zC)))))))))))))))))))),λds R h=>?_⟩
 obtain ⟨c,n,w,u,sp,rfl,n1,n3,wb,u1,bu,q⟩:=h
 refine ⟨c,24,rfl,by decide,λxs lx hx=>?_⟩
 refine vQ (by decide) (by omega) λx0 _=>⟨by decide,?_⟩
 have d0:=md x0 (show (0:Int) < 4 by decide)
 obtain ⟨dv,hdv⟩:∃ dv,dv=2 + x0.fmod 4:=⟨_,rfl⟩
 have dv1:2<=dv:=by omega
 have dv5:dv<=5:=by omega
 have bdv:Bd 3 dv:=uY (f:=7) (by decide) (by omega) (by omega)
 refine ⟨k0,k0,by omega,by omega,?_⟩
 rw [show ((n:Nat):Int).toNat=n by omega]
 refine ⟨λk Γ=>∃ (N P:List (List Int)) (s9:Sl),Γ=[.sh (.int c),.sh (.int (n:Int)),.sh (.int (w:Int)),.sh (.int u),.sh (.bool sp),.sh (L xs),.sh (.int dv),.ow (N.map L),.ow (P.map L),s9,.no,.no,.no]/\N.length=k/\P.length=k/\(∀ r∈N,r.length=n/\∀ x∈r,Bd 4 x)/\∀ r∈P,r.length=w/\∀ x∈r,Bd 4 x,⟨[],[],.no,by rw [hdv]; rfl,rfl,rfl,λ_ h=>(nomatch h),λ_ h=>(nomatch h)⟩,?_,?_⟩
 ·rintro k d Γ' hk ⟨N,P,s9,rfl,lN,lP,hN,hP⟩
  obtain ⟨kn,rfl⟩:=vO hk
  have bk:Bd 2 (k:Int):=XO (by omega)
  refine ⟨by omega,by omega,?_⟩
  rw [show ((n:Nat):Int).toNat=n by omega]
  refine zy.nums (λx=>Bd 4 x) (by omega) (λj hj=>?_) λns ln hn=>?_
  ·refine ⟨(Bd.lit (i:=3) (n:=2)).mono,bk.mono,vQ (by omega) (by omega) λx1 _=>⟨k0,XQ (by split <;> decide) (by show _ < (2:Int); split <;> decide) λz hz=>?_⟩⟩
   obtain ⟨f,rfl,f1,f4⟩:∃ f,z=.int f/\1<=f/\f<=4:=by
    simp only [de,d7,or_false] at hz
    rcases hz with rfl | rfl
    ·exact ⟨_,rfl,by decide,by decide⟩
    ·exact ⟨_,rfl,by omega,by omega⟩
   exact ⟨_,f,rfl,by omega,Bd.mono (n:=3) (uY (f:=7) (by decide) (by omega) (by omega)) (by decide),λy y1 y2=>⟨y,rfl,uY (f:=15) (by decide) (by omega) (by omega)⟩⟩
  refine ⟨by rw [a_]; omega,by omega,by omega,?_⟩
  rw [show ((w:Nat):Int).toNat=w by omega]
  refine zy.nums (λx=>Bd 4 x) (by omega) (λj hj=>?_) λps lps hps=>?_
  ·exact ⟨(Bd.lit (i:=2) (n:=2)).mono,bk.mono,vQ (by omega) (by omega) λx1 _=>⟨_,2,rfl,by decide,(Bd.lit (i:=2) (n:=2)).mono,λy y1 y2=>⟨y,rfl,uY (f:=15) (by decide) (by omega) (by omega)⟩⟩⟩
  refine ⟨by rw [a_]; omega,N++[ns],P++[ps],.sh (.int (k:Int)),by rw [db,db]; rfl,by rw [cJ,lN]; rfl,by rw [cJ,lP]; rfl,uv hN ⟨ln,hn⟩,uv hP ⟨lps,hps⟩⟩
 rintro Γ' ⟨N,P,s9,rfl,lN,lP,hN,hP⟩
 rw [vk] at lN lP
 refine ⟨by omega,by omega,?_⟩
 rw [show ((n:Nat):Int).toNat=n by omega]
 refine zy.nums (λx=>Bd 110 x) (by omega) (λi hi=>?_) λad lad had=>?_
 ·refine vQ (by omega) (by omega) λx1 _=>⟨_,2,rfl,by decide,(Bd.lit (i:=2) (n:=2)).mono,λy y1 y2=>vQ (by decide) (by omega) λx2 _=>⟨by omega,?_⟩⟩
  have by2:Bd 2 y:=uY (f:=3) (by decide) (by omega) (by omega)
  have bm:Bd 100 (x2.fmod u):=uu bu (by omega)
  exact ⟨by2.mono,bm.mono,_,rfl,(by2.mul bm).mono⟩
 refine ⟨k0,λΓ=>∃ (rows:List (List Int)) (s12:Sl),Γ=[.sh (.int c),.sh (.int (n:Int)),.sh (.int (w:Int)),.sh (.int u),.sh (.bool sp),.sh (L xs),.sh (.int dv),.ow (N.map L),.ow (P.map L),s9,.sh (L ad),.ow (rows.map U),s12]/\rows.length<=1/\∀ r∈rows,r.length=n + 1/\(∀ x∈r.take n,Bd 4 x)/\∀ x∈r,Bd 110 x,w2 (λc1=>?_) λc1=>⟨[],_,rfl,by decide,λ_ h=>nomatch h⟩,?_⟩
 ·refine ⟨by omega,by omega,?_⟩
  rw [show ((n:Nat):Int).toNat=n by omega]
  refine zy.nums (λx=>Bd 2 x) (by omega) (λi hi=>?_) λrw_ lrw hrw=>?_
  ·exact vQ (by omega) (by omega) λx3 _=>⟨_,1,rfl,by decide,(Bd.lit (i:=1) (n:=1)).mono,λy y1 y2=>⟨y,rfl,uY (f:=3) (by decide) (by omega) (by omega)⟩⟩
  refine vQ (by decide) (by omega) λx4 _=>⟨_,3,rfl,by decide,(Bd.lit (i:=3) (n:=2)).mono,λy y1 y2=>?_⟩
  have by3:Bd 3 y:=uY (f:=7) (by decide) (by omega) (by omega)
  refine ⟨by3.mono,bu.mono,k0,by rw [a_]; show _ + 1<=1000; omega,by decide,[rw_++[y * u]],.sh (L rw_),?_,by show 1<=1; decide,λr hr=>?_⟩
  ·rw [dD,mC,U,db]
   rfl
  ·rw [dh.mp hr]
   exact ⟨by rw [cJ,lrw]; rfl,λx hx=>by
    rw [dl (by omega),cV (by omega)] at hx
    exact (hrw x hx).mono,uv (λx hx=>(hrw x hx).mono) ((by3.mul bu).mono)⟩
 rintro Γ' ⟨rows,s12,rfl,lr,hr⟩
 have rep:D.lst (cS n (D.int 0))=L (cS n 0):=by unfold L; rw [iQ]
 refine ⟨k0,by omega,by omega,?_⟩
 rw [show ((n:Nat):Int).toNat=n by omega,rep]
 exact ⟨k0,q ⟨rows,N,cS n 0,P,ad,dv⟩ ⟨⟨λr h=>(hr r h).1,by show rows.length<=900; omega,⟨lN,λr h=>(hN r h).1⟩,eY ..,⟨lP,λr h=>(hP r h).1⟩,lad,by show 1<=dv; omega,n3,by omega⟩,λr h=>(hN r h).2,λr h=>(hP r h).2,had,λx hx=>i7 hx,bdv,lr,λr h=>(hr r h).2⟩⟩
theorem zJ5 (F:zi K "_law_thing" "_law_thing" zFB f fd) (ao:Fn P w K mg base "_law_cell_at" ["_law_script","_law_k"] k (zH (Qy))) (bU:Fn P w K mg base "_law_mode" ["_law_cell","_law_many","_law_wide","_law_unit","_law_split"] k (zH (fMd))):zF P w K mg base zY (k + 1) f fd ["_law_script"] (zH (XT)):=by
 refine zt F jN λ_ _ _ _ _ _ hr=>⟨_,(zJ (za 1 jN.nd (zQ ao hr rfl (zB (zA 0) (zB zD zC))))
  (zJ (za 2 jN.nd (zQ ao hr rfl (zB (zA 0) (zB zD zC))))
  (zJ (za 3 jN.nd (yB zD (xu (wZ (zA 1) zD) (zP (vM (zB zD (zB zD (zB (qY zD zD) (zB (qY zD zD) zC))))) (xu (zA 1) zD)))))
  (zJ (za 4 jN.nd (zP (vM (zB zD (zB zD (zB zD (zB zD (zB zD (zB zD zC))))))) (xu (zA 2) zD)))
  (zJ (vo 5 jN.nd rfl (Or.inl rfl) zC)
  (zJ (xY PassesOwn.never rfl (xZ rfl B.range_ (zB (xu (wZ (zA 2) zD) zD) zC)) (zz 6 jN.nd) (zJ (za 7 jN.nd (wZ (zA 2) (yB zD (yN zD (zA 6)))))
   (zL (yP (wV (wq dm dq dr y6 (xM 5) (yA (xX (zB (vh zD (yN (xu (zA 7) zD) (zA 3))) (zB (yN (xu (wZ (zA 7) zD) zD) (zA 3)) zC))) ym))) vF))))
  (zJ (vo 8 jN.nd rfl (Or.inl rfl) zC)
  (zJ (wd 5 (xY PassesOwn.never rfl (xZ rfl B.range_ (zB (yB zD (xu (wZ (zA 2) zD) zD)) zC)) (zz 6 jN.nd) (zJ (za 9 jN.nd (yB (zQ ao hr rfl (zB (zA 0) (zB (yB zD (zA 6)) zC))) (zA 6)))
   (zL (yP (wV (wq dm dq dr y6 (xM 8) (yA (zQ bU hr rfl (zB (zA 9) (zB (zA 4) (zB (yh xf xv rfl B.len_ xh (zB (zA 5) zC)) (zB (zA 3) (zB (qc hr.units (xu (wZ (zA 2) zD) zD) zD) zC)))))) ym))) vF)))))
  (zL (wd 8 (zZ (xX (zB (zA 4) (zB (zA 5) (zB (zA 8) (zB (zA 3) zC)))))))))))))))),λds R h=>?_⟩
 obtain ⟨ns,rfl,q⟩:=h
 refine ⟨ns,0,rfl,by decide,λfirst=>⟨ns,1,rfl,by decide,λsecond=>?_⟩⟩
 have key:∀ x∈[D.int 3,D.int 9,D.int (10 ^ (15:Int).toNat),D.int (10 ^ (30:Int).toNat)],j2 (λv=>1<=v/\Bd 100 v) x:=λx hx=>by
  simp only [de,d7,or_false] at hx
  rcases hx with rfl | rfl | rfl | rfl <;> exact ⟨_,rfl,by decide,Bd.lit⟩
 have f4:=md first (show (0:Int) < 4 by decide)
 refine ⟨by decide,(Bd.lit (i:=4) (n:=3)).mono,⟨by decide,by decide,by decide⟩,⟨by decide,by decide,by decide⟩,k0,by decide,XQ f4.1 (by show first.fmod 4 < 4; omega) λx hxk=>?_⟩
 obtain ⟨v,rfl,v1,bv⟩:=key x hxk
 have fv:=md (first.fdiv 4) (show (0:Int) < v by omega)
 obtain ⟨u,hu⟩:∃ u,u=1 + (first.fdiv 4).fmod v:=⟨_,rfl⟩
 have u1:1<=u:=by omega
 have bu:Bd 100 u:=bv.of_le (by omega)
 refine ⟨by omega,?_⟩
 have s6:=md second (show (0:Int) < 6 by decide)
 refine ⟨k0,by decide,XQ s6.1 (by show second.fmod 6 < 6; omega) λz hz=>?_⟩
 obtain ⟨n,rfl,n1,n3⟩:∃ n:Nat,z=.int (n:Int)/\1<=n/\n<=2:=by
  simp only [de,d7,or_false] at hz
  rcases hz with rfl | rfl | rfl | rfl | rfl | rfl
  ·exact ⟨1,rfl,by decide,by decide⟩
  ·exact ⟨2,rfl,by decide,by decide⟩
  ·exact ⟨2,rfl,by decide,by decide⟩
  ·exact ⟨1,rfl,by decide,by decide⟩
  ·exact ⟨2,rfl,by decide,by decide⟩
  ·exact ⟨1,rfl,by decide,by decide⟩
 have n2:=n3
 have n3:n<=3:=by omega
 have p3:=md (second.fdiv 6) (show (0:Int) < 3 by decide)
 refine ⟨k0,by decide,(Bd.lit (i:=6) (n:=3)).mono,by decide,by omega,by omega,?_⟩
 refine ⟨λk Γ=>∃ (bs:List (Int × Int)) (s6 s7:Sl),Γ=[.sh (.scr ns),.sh (.int first),.sh (.int second),.sh (.int u),.sh (.int (n:Int)),.ow (bs.map zu),s6,s7,.no,.no]/\bs.length=k/\∀ b∈bs,b.1<=b.2/\Bd 105 b.1/\Bd 105 b.2,⟨[],.no,.no,by rw [hu]; rfl,rfl,λ_ h=>nomatch h⟩,?_,?_⟩
 ·rintro k d Γ' hk ⟨bs,s6,s7,rfl,lb,hb⟩
  obtain ⟨kn,rfl⟩:=vO hk
  have bk:Bd 2 (k:Int):=XO (by omega)
  refine ⟨(Bd.lit (i:=11) (n:=4)).mono,bk.mono,by omega,Bd.mono (n:=10) (uY (f:=1000) (by decide) (by omega) (by omega)) (by decide),?_⟩
  obtain ⟨x,hx⟩:∃ x,x=second.fdiv (18 + 11 * (k:Int)):=⟨_,rfl⟩
  have a1:=md x (show (0:Int) < 3 by decide)
  have a2:=md (x.fdiv 3) (show (0:Int) < 3 by decide)
  rw [<- hx]
  have g1:0<=x.fmod 3 * u:=io a1.1 (by omega)
  have g2:0<=(x.fdiv 3).fmod 3 * u:=io a2.1 (by omega)
  have c1:Bd 102 (x.fmod 3 * u):=(uu (n:=2) Bd.lit (by decide)).mul bu
  have c2:Bd 102 ((x.fdiv 3).fmod 3 * u):=(uu (n:=2) Bd.lit (by decide)).mul bu
  refine ⟨by decide,Bd.mono (n:=2) (uu Bd.lit (by decide)) (by decide),bu.mono,by decide,(Bd.lit (i:=3) (n:=2)).mono,by decide,Bd.mono (n:=2) (uu Bd.lit (by decide)) (by decide),bu.mono,k0,by rw [a_]; omega,?_⟩
  exact ⟨bs++[(0 - x.fmod 3 * u,(x.fdiv 3).fmod 3 * u)],.sh (.int (k:Int)),.sh (.int x),by rw [db]; rfl,by rw [cJ,lb]; rfl,uv hb ⟨by show 0 - x.fmod 3 * u<=(x.fdiv 3).fmod 3 * u; omega,by rw [iP]; exact c1.neg.mono,c2.mono⟩⟩
 rintro Γ' ⟨bs,s6,s7,rfl,lb,hb⟩
 rw [vk] at lb
 have lm:(fT zu bs).length=bs.length:=a_ ..
 have p4:=md (second.fdiv 54) (show (0:Int) < 3 by decide)
 refine ⟨k0,by decide,(Bd.lit (i:=54) (n:=6)).mono,by decide,by omega,by omega,?_⟩
 refine ⟨λk Γ=>∃ (ms:List MD) (s6 s9:Sl),Γ=[.sh (.scr ns),.sh (.int first),.sh (.int second),.sh (.int u),.sh (.int (n:Int)),.sh (.lst (bs.map zu)),s6,s7,.ow (ms.map wB),s9]/\ms.length=k/\∀ m∈ms,ZA n bs.length m,⟨[],_,.no,rfl,rfl,λ_ h=>nomatch h⟩,?_,?_⟩
 ·rintro k d Γ' hk ⟨ms,s6,s9,rfl,lms,hms⟩
  obtain ⟨kn,rfl⟩:=vO hk
  refine ⟨ns,2 + (k:Int),rfl,by omega,λcc=>?_⟩
  refine ⟨by decide,(Bd.lit (i:=162) (n:=8)).mono,by decide,cc + (k:Int),n,bs.length,u,_,by rw [<- lm],n1,n3,by omega,u1,bu,λm hm=>⟨by rw [a_]; omega,ms++[m],.sh (.int (k:Int)),.sh (.int (cc + (k:Int))),by rw [db]; rfl,by rw [cJ,lms]; rfl,uv hms hm⟩⟩
 rintro Γ' ⟨ms,s6,s9,rfl,lms,hms⟩
 rw [vk] at lms
 exact ⟨k0,q n bs ms u ⟨n1,n3,by omega,hb,by omega,by omega,hms,u1,bu⟩ n2⟩
theorem zFR (F:zi K "worst_pushes" "worst_pushes" zCa f fd) (aD:jW P w K mg base ah "pushes" ["self"] k (zH (Qa ah ag))):zF P w K mg base zY (k + 1) f fd ["thing","row"] (zH (zOp ah ag)):=by
 refine zt F zC8 λ_ _ _ _ _ _ hr=>⟨_,(zL (zZ (xF (own:=["number","push"]) (caps:=[]) (yZ zC8) rfl rfl (qd (vP (vP qf))) (jd rfl B.zip_ (zB (vN (zA 1) (wR (wK K (zA 0) rfl)) (wR (xU zD))) (zB (Wy aD ae hr (zA 0)) zC))) (λ_ _ _ _=>(wc rfl (yJ 0 (yD ["number","push"]) (yJ 1 (yD ["number","push"]) wa)))) (λ_ _ _ _=>(YM (gZ (zA 0) zD) (zP (zA 1) zD) (zP (zA 1) zD)))))),λds R h=>?_⟩
 obtain ⟨n,bs,ms,a,c,e,rfl,la,lc,b6,n3,q⟩:=h
 refine ⟨⟨ae.cl,af.n_many⟩,_,rfl,rfl,by decide +kernel,n,bs,ms,rfl,?_⟩
 rw [XZ la]
 show zy (eC xO (c.map D.int) (bs.map zu)) _ _
 rw [QX zu]
 refine vG (λq:Int × Int × Int=>xO (.int q.1) (zu q.2)) (λd=>match d with | .tup [x,.tup [y,z]]=>(yV x,yV y,yV z) | _=>(0,0,0)) (λ_=>rfl) (λq=>.int (vH q)) (by rw [eP]; omega) (λq hq=>?_) (by unfold L at q; rw [dk] at q; exact q)
 refine w2 (λc1=>⟨_,rfl,?_⟩) λc1=>⟨_,rfl,?_⟩
 ·unfold vH
  rw [if_pos (of_decide_eq_true c1)]
 ·unfold vH
  rw [if_neg (of_decide_eq_false c1)]
theorem zEO (F:zi K "without_pushes" "without_pushes" zB9 f fd) (aq:Fn P w K mg base "paired" ["numbers","others"] k (zH (W4))) (bW:Fn P w K mg base "worst_pushes" ["thing","row"] k (zH (zOp ah ag))):zF P w K mg base zY (k + 1) f fd ["thing","row"] (zH (zJW ah ag)):=by
 refine zt F zEA λ_ _ _ _ _ _ hr=>⟨_,(zL (zZ (yB (vN (zA 1) uC (wR (wK K (zA 0) rfl))) (xX (zB (vh (zP (zA 1) (xU zD)) (zQ aq hr rfl (zB (vN (zA 1) (wR (wK K (zA 0) rfl)) (wR (xU zD))) (zB (zQ bW hr rfl (zB (zA 0) (zB (zA 1) zC))) zC)))) zC))))),λds R h=>?_⟩
 obtain ⟨n,bs,ms,a,c,e,rfl,la,lc,b6,n3,hb,bc,q⟩:=h
 refine ⟨⟨ae.cl,af.n_many⟩,_,rfl,_,KB,⟨ae.cl,af.n_many⟩,_,rfl,n,bs,ms,a,c,e,rfl,la,lc,b6,n3,_,_,c,(c.zip bs).map vH,rfl,.inr (by rw [XZ la]),.inl rfl,by omega,λx hx=>(bc x hx).mono,λx hx=>?_,?_⟩
 ·obtain ⟨q,hq,rfl⟩:=cP.mp hx
  have:=hb _ (d8 hq).2
  unfold vH
  split
  ·exact this.2.2.mono
  ·exact this.2.1.mono
 rw [zKf λb hb'=>(hb b hb').1,KA la]
 refine ⟨k0,by rw [a_]; show _ + 1<=1000; omega,?_⟩
 unfold U at q
 rw [db] at q
 exact q
theorem zGt (F:zi K "first_room" "first_room" zDF f fd) (aM:Fn P w K mg base "most" ["room","row"] k (zH (UI))) (aN:Fn P w K mg base "ceiling_of" ["value"] k (zH (gt))):zF P w K mg base zY (k + 1) f fd ["start","shape"] (zH (g9)):=by
 refine zt F UP λ_ _ _ _ _ _ hr=>⟨_,(zJ (vo 2 UP.nd rfl (Or.inl rfl) zC)
  (zJ (xY PassesOwn.never rfl (xN (zA 1)) (zz 3 UP.nd) (zJ (za 4 UP.nd (zQ (zO2 zOg aM) hr rfl (zB (zA 0) (zB (yB (zA 3) (xX (zB zD zC))) zC))))
   (zJ (yY (kg hr.units (zP (zA 4) zD) kZ) (zL (zZ wX)) yX)
   (zL (yP (wV (wq dm dq dr y6 (xM 2) (yA (yB (zA 3) (xX (zB (zQ aN hr rfl (zB (zP (zA 4) zD) zC)) zC))) ym))) vF)))))
  (zL (wd 2 (zZ (zA 2)))))),λds R h=>?_⟩
 obtain ⟨yq,n,S,rfl,h,n1,n2,hS,q⟩:=h
 have fS:=hS.few
 refine ⟨k0,?_⟩
 refine ⟨λk Γ=>∃ s3 s4,Γ=[.sh (Rm yq),.sh (.lst (S.map U)),.ow (((S.take k).map λs=>s++[uZ yq n s]).map U),s3,s4]/\∀ s∈S.take k,jJ (mR yq n s)=true,⟨_,_,rfl,λ_ h=>nomatch h⟩,?_,?_⟩
 ·rintro k d Γ' hk ⟨s3,s4,rfl,hM⟩
  obtain ⟨s,hg,rfl⟩:=KC hk
  have hm:=dz hg
  obtain ⟨ls,bs⟩:=hS.ok s hm
  have lz:(s.map D.int).length + 1<=1000:=by rw [a_]; omega
  refine ⟨k0,lz,?_⟩
  rw [Xc]
  refine ⟨yq,n,110,s,0,rfl,h,by decide,n1,n2,ls,λx hx=>(bs x hx).mono,?_⟩
  have no:jJ (mR yq n s)=false->xS yq n S=none:=λz=>by
   unfold xS
   rw [if_neg λc=>?_]
   have:=di.mp c s hm
   rw [z] at this
   cases this
  cases hr:mR yq n s with
  | emp _=>exact λX=>⟨_,rfl,wT (by decide) (by rw [no (by rw [hr]; rfl)] at q; exact q)⟩
  | opn _ _=>exact λX Y=>⟨_,rfl,wT (by decide) (by rw [no (by rw [hr]; rfl)] at q; exact q)⟩
  | mst f _ _ _=>
   intro f0 b1 b2 X Y
   refine ⟨_,rfl,wF (by decide) ⟨_,rfl,f,rfl,f0,b2.mono,k0,lz,by rw [a_,a_,cU]; omega,?_⟩⟩
   have z:uZ yq n s=vR f.1 f.2:=by unfold uZ; rw [hr]; rfl
   have at':=KE (P:=λs=>jJ (mR yq n s)=true) hg hM (by rw [hr]; rfl)
   show ∃ (_ _:Sl),_/\_
   rw [uK hg] at at' |-
   rw [db,db,Xc,dD,z]
   exact ⟨_,_,rfl,at'⟩
 ·rintro Γ' ⟨s3,s4,rfl,hM⟩
  rw [a_,cV (cQ _)] at hM |-
  unfold xS at q
  rw [if_pos (di.mpr hM)] at q
  exact q
theorem zFt (F:zi K "grown_bound" "grown_bound" zCw f fd) (bX:jW P w K mg base ah "modes" ["self"] k (zH (zOr ah ag))) (bY:Fn P w K mg base "without_pushes" ["thing","row"] k (zH (zJW ah ag))) (bZ:Fn P w K mg base "reach" ["thing","mode","row"] k (zH (zOq ah ag))) (aM:Fn P w K mg base "most" ["room","row"] k (zH (UI))) (aH:Fn P w K mg base "times" ["one","other"] k (zH (gr))) (ai:wr P w K mg base "fraction" ["top","bottom"] k (zH (qg)) (.int 1)) (aI:Fn P w K mg base "minus" ["one","other"] k (zH (gq))) (aN:Fn P w K mg base "ceiling_of" ["value"] k (zH (gt))):zF P w K mg base zY (k + 1) f fd ["thing","room","row"] (zH (Xa ah ag)):=by
 refine zt F kJ λ_ _ _ _ _ _ hr=>⟨_,(zJ (za 3 kJ.nd (zP (zA 2) (xU zD)))
  (zJ (xY PassesOwn.never rfl (xN (Wy bX ae hr (zA 0))) (zz 4 kJ.nd) (zJ (za 5 kJ.nd (zQ bY hr rfl (zB (zA 0) (zB (zQ bZ hr rfl (zB (zA 0) (zB (zA 4) (zB (yB (vN (zA 2) uC (wR (xU zD))) (xX (zB zD zC))) zC)))) zC))))
   (zJ (za 6 kJ.nd (zQ (zO2 zOg aM) hr rfl (zB (yB (zA 1) (wK K (zA 4) rfl)) (zB (zA 5) zC))))
   (zJ (yY (jZ hr.units (zP (zA 6) zD) kZ) (zL (zZ wX)) yX)
   (zL (yY (jZ hr.units (zP (zA 6) zD) kZ) (zJ (za 7 kJ.nd (zQ aH hr rfl (zB (zQ aI hr rfl (zB (zP (zA 6) zD) (zB (j5 (.int 1) (λ_=>.int 1) ai hr rfl (zB (zP (zA 5) (xU zD)) zC)) zC))) (zB (zQ ai.fn hr rfl (zB zD (zB (wK K (zA 4) rfl) zC))) zC))))
    (zL (za 3 kJ.nd (yh (zH3 rfl) zMT rfl B.max_ JE (zB (zA 3) (zB (zQ aN hr rfl (zB (zA 7) zC)) zC)))))) yX))))))
  (zL (zZ (zA 3))))),λds R h=>?_⟩
 obtain ⟨n,bs,ms,u,room,b,s,v,rfl,T,n2,h,hb,hb2,few,ls,hs,q⟩:=h
 have n1:=T.n1
 have b2:=T.b2
 refine ⟨_,gp _ _,rfl,by decide +kernel,n,bs,ms,rfl,?_⟩
 refine ⟨λk Γ=>∃ s4 s5 s6 s7,Γ=[.sh (wx ah ag n bs ms),.sh (Rm room),.sh (U (s++[v])),.sh (.int ((bL room n bs (ms.take k) s).foldl max v)),s4,s5,s6,s7]/\∀ m∈ms.take k,Q6 (wU room n m s)=false,⟨_,_,_,_,rfl,λ_ h=>nomatch h⟩,?_,?_⟩
 ·rintro k d Γ' hk ⟨s4,s5,s6,s7,rfl,hO⟩
  obtain ⟨m,hg,rfl⟩:=KC hk
  have hm:=dz hg
  have M:=T.md m hm
  have MO:=M.ok
  have r1:=M.r1
  obtain ⟨l1,l2⟩:=Q8 M n2 ls hs
  obtain ⟨bp,bm⟩:=zR8 T hm n2 ls hs
  refine ⟨k0,by rw [W8,a_]; show _ + 1<=1000; omega,?_⟩
  rw [W8,Xc]
  refine ⟨n,bs,ms,m,_,rfl,T.n3,by omega,MO,(T.ths.ms m hm).mbd,by rw [cJ,ls]; rfl,uv (λx hx=>(hs x hx).mono) wf,?_⟩
  have eR:W6 n bs.length ((s++[0]).take n) ((s++[0]).getD n 0) m=uw n m s++(df bs.length).map (yE s m.push)++[0 - yI s m.add]:=by
   unfold W6
   rw [dl (by omega),cV (by omega),uN ls,mF]
   rfl
  rw [eR]
  refine ⟨n,bs,ms,_,_,_,rfl,l1,by rw [a_,cX],by omega,T.n3,λx hx=>⟨(T.bb x hx).1,(T.bb x hx).2.1.mono,(T.bb x hx).2.2.mono⟩,λx hx=>(bp x hx).mono,?_⟩
  have em:0 - yI s m.add - zn ((df bs.length).map (yE s m.push)) bs = -(wj bs m s):=by unfold wj; omega
  rw [em]
  refine ⟨⟨aa.cl,ab.n_rows⟩,_,rfl,by rw [a_,a_]; omega,?_⟩
  rw [<- db]
  refine ⟨room++m.rows,n,b,uw n m s,_,rfl,h.app hb few T hm,hb2,n1,n2,l1,l2,?_⟩
  have sn:bL room n bs (ms.take (k + 1)) s=bL room n bs (ms.take k) s++if jJ (wU room n m s)=true then [bV room n bs m s] else []:=by
   unfold bL
   rw [uK hg,l_,db]
   split
   ·rename_i c; rw [List.filter_cons_of_pos (p:=λm=>jJ (wU room n m s)) c]; rfl
   ·rename_i c; rw [List.filter_cons_of_neg (p:=λm=>jJ (wU room n m s)) c]; rfl
  have at':=KE (P:=λm=>Q6 (wU room n m s)=false) hg hO
  cases hr:mR (room++m.rows) n (uw n m s) with
  | emp _=>
   have e1:jJ (wU room n m s)=false:=by unfold wU; rw [hr]; rfl
   refine λX=>⟨_,rfl,wF (by decide) ⟨_,rfl,wF (by decide) ?_⟩⟩
   show ∃ (_ _ _ _:Sl),_/\_
   rw [sn,if_neg (by rw [e1]; exact du),fy]
   exact ⟨_,_,_,_,rfl,at' (by unfold wU; rw [hr]; rfl)⟩
  | opn _ _=>
   refine λX Y=>⟨_,rfl,wT (by decide) ?_⟩
   unfold wm at q
   rw [if_pos (lh.mpr ⟨m,hm,by unfold wU; rw [hr]; rfl⟩)] at q
   exact q
  | mst f _ _ _=>
   intro f0 c1 c2 X Y
   have d1:=MO.div
   have bdv:=M.dv
   refine ⟨_,rfl,wF (by decide) ⟨_,rfl,wT (by decide) ?_⟩⟩
   refine ⟨_,rfl,_,gp _ _,_,_,rfl,by decide,xl (by decide),?_⟩
   refine ⟨f,(-wj bs m s,1),by show [_,zu (zX (-wj bs m s) 1)]=_; rw [zSD],f0,f8,c1.mono,c2.mono,bm.neg.mono,xl (by decide),(c2.mul (xl (n:=1) (by decide))).mono,?_⟩
   refine ⟨⟨aa.cl,ab.n_divisor⟩,_,rfl,_,_,rfl,by omega,bdv.mono,?_⟩
   have g1:=jH (b:=f.2 * 1) (((c1.mul (xl (n:=1) (by decide))).mono (show 4001<=4001 by decide)).sub ((bm.neg.mul c2).mono (show _<=4001 by decide)))
   have g2:=uq (t:=f.1 * 1 - (-wj bs m s) * f.2) (c2.mul (xl (n:=1) (by decide)))
   have w1:=(jA (t:=1) (b:=m.div) (by omega)).1
   have x1:Bd 1 (zN 1 m.div):=jH (xl (by decide))
   have x2:Bd 3 (zK 1 m.div):=uq bdv
   obtain ⟨m1,_⟩:=Qo (p:=f) (q:=(-wj bs m s,1)) f0 f8
   refine ⟨zX (f.1 * 1 - (-wj bs m s) * f.2) (f.2 * 1),zX 1 m.div,rfl,m1,w1,g1.mono,g2.mono,x1.mono,x2.mono,(g2.mul x2).mono,?_⟩
   obtain ⟨k1,_⟩:=Qp (p:=zX (f.1 * 1 - (-wj bs m s) * f.2) (f.2 * 1)) (q:=zX 1 m.div) m1 w1
   refine ⟨_,rfl,k1,(uq (g2.mul x2)).mono,?_⟩
   have e1:jJ (wU room n m s)=true:=by unfold wU; rw [hr]; rfl
   have e2:bV room n bs m s=vR (f.1 + wj bs m s * f.2) (f.2 * m.div):=by unfold bV wU; rw [hr]; rfl
   show ∃ (_ _ _ _:Sl),_/\_
   rw [sn,if_pos e1,i8,e2,zSF f0 (by omega)]
   exact ⟨_,_,_,_,rfl,at' (by unfold wU; rw [hr]; rfl)⟩
 ·rintro Γ' ⟨s4,s5,s6,s7,rfl,hO⟩
  rw [a_,cV (cQ _)] at hO |-
  unfold wm at q
  rw [if_neg λc=>?_] at q
  ·exact q
  ·obtain ⟨m,hm,z⟩:=lh.mp c
   rw [hO m hm] at z
   cases z
theorem zGr (F:zi K "grown_once" "grown_once" zDD f fd) (aO:Fn P w K mg base "ask_closed" ["thing"] k (zH (Qc ah ag))) (b9:Fn P w K mg base "grown_bound" ["thing","room","row"] k (zH (Xa ah ag))):zF P w K mg base zY (k + 1) f fd ["thing","room"] (zH (kA ah ag)):=by
 refine zt F UQ λ_ _ _ _ _ _ hr=>⟨_,(zJ (zJF (zQ aO hr rfl (zB (zA 0) zC)))
  (zJ (vo 2 UQ.nd rfl (Or.inl rfl) zC)
  (zJ (xY PassesOwn.never rfl (xN (zA 1)) (zz 3 UQ.nd) (zJ (za 4 UQ.nd (zQ b9 hr rfl (zB (zA 0) (zB (zA 1) (zB (zA 3) zC)))))
   (zJ (yY (j7 (zA 4) wX) (zL (zZ wX)) yX)
   (zL (yP (wV (wq dm dq dr y6 (xM 2) (yA (yB (vN (zA 3) uC (wR (xU zD))) (xX (zB (zA 4) zC))) ym))) vF)))))
  (zL (wd 2 (zZ (zA 2))))))),λds R h=>?_⟩
 obtain ⟨n,bs,ms,u,room,b,rfl,T,n2,h,hb,hb2,few,q⟩:=h
 refine ⟨n,bs,ms,rfl,T.ok,T.cl,k0,?_⟩
 refine ⟨λk Γ=>∃ s3 s4,Γ=[.sh (wx ah ag n bs ms),.sh (Rm room),.ow (((room.take k).map λr=>r.take n++[(wm room n bs ms (r.take n) (r.getD n 0)).getD 0]).map U),s3,s4]/\∀ r∈room.take k,(wm room n bs ms (r.take n) (r.getD n 0)).isSome=true,⟨_,_,rfl,λ_ h=>nomatch h⟩,?_,?_⟩
 ·rintro k d Γ' hk ⟨s3,s4,rfl,hG⟩
  obtain ⟨r,hg,rfl⟩:=KC hk
  have hm:=dz hg
  have lr:=h.row r hm
  refine ⟨n,bs,ms,u,room,b,r.take n,r.getD n 0,by rw [UE lr],T,n2,h,hb,hb2,few,by rw [cU]; omega,h.co r hm,?_⟩
  cases hr:wm room n bs ms (r.take n) (r.getD n 0) with
  | none=>
   refine wT rfl ?_
   unfold wM at q
   rw [if_neg λc=>?_] at q
   ·exact q
   ·have:=di.mp c r hm
    rw [hr] at this
    cases this
  | some x=>
   refine wF rfl ⟨k0,by rw [jh lr,a_,cU]; show _ + 1<=1000; omega,by rw [a_,a_,cU]; omega,?_⟩
   have at':=KE (P:=λr=>(wm room n bs ms (r.take n) (r.getD n 0)).isSome=true) hg hG (by rw [hr]; rfl)
   show ∃ (_ _:Sl),[_,_,Sl.ow (_++[D.tup (_++[D.int x])]),_,_]=_/\_
   rw [uK hg] at at' |-
   rw [db,db,jh lr,dD,hr,Xc]
   exact ⟨_,_,rfl,at'⟩
 ·rintro Γ' ⟨s3,s4,rfl,hG⟩
  rw [a_,cV (cQ _)] at hG |-
  unfold wM at q
  rw [if_pos (di.mpr hG)] at q
  exact q
theorem zNa (F:zi K "grown" "grown" zIQ f fd) (aO:Fn P w K mg base "ask_closed" ["thing"] k (zH (Qc ah ag))) (aQ:Fn P w K mg base "first_room" ["start","shape"] k (zH (g9))) (aR:Fn P w K mg base "grown_once" ["thing","room"] k (zH (kA ah ag))):zF P w K mg base zY (k + 1) f fd ["thing","start","shape","tries"] (zH (Xb ah ag)):=by
 refine zt F Xz λ_ _ _ _ _ _ hr=>⟨_,(zJ (zJF (zQ aO hr rfl (zB (zA 0) zC)))
  (zJ (za 4 Xz.nd (zQ aQ hr rfl (zB (zA 1) (zB (zA 2) zC))))
  (zJ (xY PassesOwn.never rfl (xZ rfl B.range_ (zB (yB (zA 3) zD) zC)) (zz 5 Xz.nd) (zJ (yY (j7 (zA 4) wX) (zL (zZ wX)) yX)
   (zJ (za 6 Xz.nd (zQ aR hr rfl (zB (zA 0) (zB (zA 4) zC))))
   (zJ (yY (zPQ hr.units (zA 6) (zA 4)) (zL (zZ (zA 4))) yX)
   (zL (za 4 Xz.nd (zA 6)))))))
  (zL (zZ wX))))),λds R h=>?_⟩
 obtain ⟨n,bs,ms,u,yq,S,t,rfl,t1,T,n2,h,hS,q⟩:=h
 have n1:=T.n1
 refine ⟨n,bs,ms,rfl,T.ok,T.cl,yq,n,S,rfl,h,n1,n2,hS,by omega,by omega,?_⟩
 rw [show (((t:Nat):Int) + 1).toNat=t + 1 by omega]
 refine ⟨λk Γ=>∃ r s5 s6,Γ=[.sh (wx ah ag n bs ms),.sh (Rm yq),.sh (.lst (S.map U)),.sh (.int ((t:Nat):Int)),.sh (dO r),s5,s6]/\(∀ T',r=some T'->xR T' n (132 + 22 * k)/\T'.length<=8)/\k<=t + 1/\jK n bs ms (t + 1) (xS yq n S)=jK n bs ms (t + 1 - k) r,⟨xS yq n S,_,_,rfl,λT' e=>⟨zOo h n1 n2 hS e,zLy hS e⟩,by omega,rfl⟩,?_,?_⟩
 ·rintro k d Γ' hk ⟨r,s5,s6,rfl,hr,kt,eq⟩
  obtain ⟨kl,rfl⟩:=vO hk
  cases r with
  | none=>
   rw [Q7] at eq
   rw [eq] at q
   exact wT rfl q
  | some T'=>
   obtain ⟨c,few⟩:=hr T' rfl
   refine wF rfl ⟨n,bs,ms,u,T',_,rfl,T,n2,c,by omega,by omega,few,qi _,qi (some T'),?_⟩
   rw [KD,nB]
   rw [show t + 1 - k=(t - k) + 1 by omega,Q9] at eq
   refine w2 (λc1=>?_) λc1=>?_
   ·rw [if_pos (of_decide_eq_true c1)] at eq
    rw [eq] at q
    exact q
   ·rw [if_neg (of_decide_eq_false c1)] at eq
    refine ⟨wM n bs ms T',_,_,rfl,λT2 e2=>?_,by omega,by rw [eq,show t + 1 - (k + 1)=t - k by omega]⟩
    obtain ⟨o1,o2⟩:=zR3 c (by omega) (by omega) few T n2 e2
    exact ⟨by rw [show 132 + 22 * (k + 1)=132 + 22 * k + 22 by omega]; exact o1,o2⟩
 ·rintro Γ' ⟨r,s5,s6,rfl,hr,kt,eq⟩
  rw [vk,fN] at eq
  rw [eq] at q
  exact q
theorem zHe (F:zi K "_law_divisor" "_law_divisor" zDb f fd):zF P w K mg base zY (k + 1) f fd ["_law_one","_law_other"] (zH Xj):=by
 refine F.ok zEb (Wv λds R h=>by obtain ⟨a,b,rfl,_⟩:=h; rfl) (λcdv A outer s H vs Q E hr h=>?_)
 obtain ⟨Z,ds,R,zd,hv,⟨a,b,rfl,q0⟩,q⟩:=h
 refine ⟨_,(Ub (zJG PassesOwn.never (zKz Ur (L2.pv 1) zOZ (w4 _)) (Uc (zRV (i:=0) (j:=1) rfl zEb.nd rfl rfl (by decide) rfl rfl (yA (L2.pv 1) (yA (Uq zLI (L2.pv 0) (L2.pv 1)) ym)) rfl)))
  (Uc (zOW (wo zJj rfl B.abs_ zH6 (yA (L2.pv 0) ym))))),?_⟩
 try dsimp only [xP,Cx.nox,Cx.wish]
 obtain ⟨v1,v2,rfl,h1,h2⟩:=jz hv
 cases h1
 cases h2
 refine zMk (λσ H'=>∃ c r:Int,σ=[some (.int c),some (.int r)]/\H'=H/\d_ c r=d_ a b) (λσ _=>match σ with | [_,some (.int r)]=>r.natAbs | _=>0) ⟨a,b,rfl,rfl,rfl⟩ ?_ ?_
 ·rintro σ H' ⟨c,r,rfl,rfl,hg⟩
  refine ⟨_,rfl,rfl,_,rfl,?_⟩
  by_cases z0:r=0
  ·subst z0
   refine Zj rfl ?_
   refine ⟨_,rfl,c,rfl,?_⟩
   rw [zSx]
   rw [Int.gcd_zero_right] at hg
   rw [hg]
   exact q _ _ _ q0 (Sm.refl _) (.int _)
  ·have ne:¬ (V.int r=V.int 0):=λe=>z0 (by injection e)
   refine Zl (zP0 z0) ?_
   refine ⟨_,rfl,_,rfl,_,rfl,_,_,rfl,rfl,z0,_,_,rfl,?_⟩
   exact ⟨⟨r,c.fmod r,rfl,rfl,by rw [zNv]; exact hg⟩,zLx z0⟩
 ·rintro σ H' Q1 Q2 h ⟨v,e,sc,k,ek,q1⟩
  exact ⟨v,e,sc,k,ek,h _ _ q1⟩
theorem zIW (F:zi K "_law_lowest" "_law_lowest" zEF f fd) (cb:Fn P w K mg base "_law_divisor" ["_law_one","_law_other"] k (zH Xj)):zF P w K mg base zY (k + 1) f fd ["_law_top_here","_law_bottom"] (zH (qF)):=by
 refine zt F zE3 λ_ _ _ _ _ _ hr=>⟨_,(zJ (za 2 zE3.nd (zQ cb hr rfl (zB (zA 0) (zB (zA 1) zC))))
  (zL (zZ (xX (zB (wZ (zA 0) (zA 2)) (zB (wZ (zA 1) (zA 2)) zC)))))),λds R h=>?_⟩
 obtain ⟨a,b,rfl,b0,bb,q⟩:=h
 have g0:(d_ a b:Int)≠0:=d4 (WM (d4 b0))
 have bg:=zSs (a:=a) bb b0
 refine ⟨a,b,rfl,g0,bg.mono,g0,bg.mono,k0,?_⟩
 unfold dQ at q
 rw [(zSC b0).1,(zSC b0).2] at q
 exact q
theorem zLQ (F:zi K "_law_plus" "_law_plus" zGV f fd) (ay:Fn P w K mg base "_law_lowest" ["_law_top_here","_law_bottom"] k (zH (qF))):zF P w K mg base zY (k + 1) f fd ["_law_one","_law_other"] (zH (KJ)):=by
 refine zt F zKj λ_ _ _ _ _ _ hr=>⟨_,(zL (zZ (zQ ay hr rfl (zB (yB (yN (zP (zA 0) zD) (zP (zA 1) zD)) (yN (zP (zA 1) zD) (zP (zA 0) zD))) (zB (yN (zP (zA 0) zD) (zP (zA 1) zD)) zC))))),λds R h=>?_⟩
 obtain ⟨a,b,c,d,rfl,b0,d0,ba,bb,bc,bd,q⟩:=h
 refine ⟨_,rfl,_,rfl,ba.mono,bd.mono,_,rfl,_,rfl,bc.mono,bb.mono,_,rfl,_,rfl,bb.mono,bd.mono,_,_,rfl,eO b0 d0,(bb.mul bd).mono,?_⟩
 rw [zQU b0 d0]
 exact q
theorem zJ9 (F:zi K "_law_along" "_law_along" zFF f fd) (aB:Fn P w K mg base "_law_plus" ["_law_one","_law_other"] k (zH (KJ))):zF P w K mg base zY (k + 1) f fd ["_law_numbers","_law_values"] (zH (kE)):=by
 refine zt F X0 λ_ _ _ _ _ _ hr=>⟨_,(zJ (za 2 X0.nd (xX (zB zD (zB zD zC))))
  (zJ (xY PassesOwn.never rfl (jd rfl B.zip_ (zB (zA 0) (zB (zA 1) zC))) (wc rfl (yJ 3 X0.nd (yJ 4 X0.nd wa))) (zL (za 2 X0.nd (zQ aB hr rfl (zB (zA 2) (zB (xX (zB (yN (zA 3) (zP (zA 4) zD)) (zB (zP (zA 4) zD) zC))) zC))))))
  (zL (zZ (zA 2))))),λds R h=>?_⟩
 obtain ⟨d,ns,n,xs,Q,ee,qq,rfl,h,ln,bn,PT,q⟩:=h
 have n3:=PT.n3
 have lx:=PT.len
 have q1:=PT.q1
 have e1:=PT.e1
 refine ⟨k0,h.zipL ?_⟩
 refine ⟨λk Γ=>∃ s3 s4,Γ=[.sh d,.sh (dP xs),.sh (dQ (xK (ns.take k) (xs.take k))),s3,s4],⟨.no,.no,rfl⟩,?_,?_⟩
 ·rintro k d' Γ' hk ⟨s3,s4,rfl⟩
  obtain ⟨a,b,h1,h2,rfl⟩:=Wp _ hk
  obtain ⟨w,hw,rfl⟩:=KL h1
  obtain ⟨x,hx,rfl⟩:=KL h2
  have bx:=vI PT.Q0 PT.bQ (PT.sz x (dz hx))
  have bp:=vI PT.Q0 PT.bQ (kC (c:=300) (ws:=ns.take k) (xs:=xs.take k) (λw h=>bn w (dY h)) λx h=>PT.sz x (dY h))
  have lt:(xs.take k).length<=6:=by rw [cU]; omega
  have bw:=bn w (dz hw)
  refine ⟨_,rfl,bw.mono,bx.1.mono (by omega),_,rfl,k0,_,_,_,_,rfl,qG _,qG x,bp.1.mono (by omega),bp.2.mono (by omega),(bw.mul bx.1).mono (by omega),bx.2.mono (by omega),.sh (.int w),.sh (dQ x),?_⟩
  rw [kD,Xk,<- zHz (by rw [cU,cU]; omega),<- uK hw,<- uK hx]
  rfl
 ·rintro Γ' ⟨s3,s4,rfl⟩
  rw [f6,a_,a_,cV (by omega),cV (by omega)]
  exact q
theorem zJ8 (F:zi K "_law_holds" "_law_holds" zFE f fd) (az:Fn P w K mg base "_law_along" ["_law_numbers","_law_values"] k (zH (kE))):zF P w K mg base zY (k + 1) f fd ["_law_row","_law_point_here"] (zH (Xl)):=by
 refine zt F zF1 λ_ _ _ _ _ _ hr=>⟨_,(zJ (za 2 zF1.nd (zQ az hr rfl (zB (vN (zA 0) uC (wR (xU zD))) (zB (zA 1) zC))))
  (zL (zZ (Jm (zP (zA 2) zD) (yN (zP (zA 0) (xU zD)) (zP (zA 2) zD)))))),λds R h=>?_⟩
 obtain ⟨r,n,xs,Q,ee,qq,rfl,lr,br,PT,q⟩:=h
 have n3:=PT.n3
 have q1:=PT.q1
 have e1:=PT.e1
 have bp:=vI PT.Q0 PT.bQ (kC (c:=300) (ws:=r.take n) (xs:=xs) (λw h=>br w (dY h)) PT.sz)
 refine ⟨_,r.take n,n,xs,Q,ee,qq,rfl,.inr (by rw [jh lr]),by rw [cU]; omega,λw h=>br w (dY h),PT,?_⟩
 refine ⟨_,rfl,_,k7 lr,_,rfl,(uW br n).mono,bp.2.mono (by omega),bR q ?_⟩
 unfold hQ
 rw [PT.len]
 exact decide_eq_decide.mpr KN.symm
theorem zLT (F:zi K "_law_lies" "_law_lies" zGY f fd) (cf:Fn P w K mg base "_law_holds" ["_law_row","_law_point_here"] k (zH (Xl))):zF P w K mg base zY (k + 1) f fd ["_law_room","_law_point_here"] (zH (KM)):=by
 refine zt F zHS λ_ _ _ _ _ _ hr=>⟨_,(zL (zZ (yh (jU rfl) jc rfl B.all_ jV (zB (xF (own:=["_law_row"]) (caps:=[(1,"_law_point_here")]) (yZ zHS) rfl rfl yr (xN (zA 0)) (λ_ _ _ _=>(zz 0 (yD ["_law_row","_law_point_here"]))) (λ_ _ _ _=>(zQ cf hr rfl (zB (zA 0) (zB (zA 1) zC))))) zC)))),λds R h=>?_⟩
 obtain ⟨rm,n,xs,Q,ee,qq,rfl,l9,hr,PT,q⟩:=h
 refine vG U yF kz (λr=>.bool (hQ xs r)) (by omega) (λr h=>⟨r,n,xs,Q,ee,qq,rfl,(hr r h).1,(hr r h).2,PT,rfl⟩) ⟨rm.map (hQ xs),by rw [dk]; rfl,bR q ?_⟩
 rw [mK]
 rfl
theorem zJ7 (F:zi K "_law_point" "_law_point" zFD f fd) (ap:Fn P w K mg base "_law_stream" ["_law_cell","_law_many"] k (zH (XR))) (ay:Fn P w K mg base "_law_lowest" ["_law_top_here","_law_bottom"] k (zH (qF))):zF P w K mg base zY (k + 1) f fd ["_law_cell","_law_box_here"] (zH (KO)):=by
 refine zt F qm λ_ _ _ _ _ _ hr=>⟨_,(zJ (za 2 qm.nd (zQ ap hr rfl (zB (zA 0) (zB (yB (yh xf xv rfl B.len_ xh (zB (zA 1) zC)) zD) zC))))
  (zJ (za 3 qm.nd (yB zD (xu (zP (zA 2) (xU zD)) zD)))
  (zJ (vo 4 qm.nd rfl (Or.inl rfl) zC)
  (zJ (xY PassesOwn.never rfl (xZ rfl B.range_ (zB (yh xf xv rfl B.len_ xh (zB (zA 1) zC)) zC)) (zz 5 qm.nd) (zJ (Wt (zP (zA 1) (zA 5)) (wc rfl (yJ 6 qm.nd (yJ 7 qm.nd wa))))
   (zJ (za 8 qm.nd (zP (vM (zB zD (zB (zA 3) (zB (xu (zP (zA 2) (zA 5)) (yB (zA 3) zD)) zC)))) (xu (wZ (zP (zA 2) (zA 5)) zD) zD)))
   (zL (yP (wV (wq dm dq dr y6 (xM 4) (yA (zQ ay hr rfl (zB (yB (yN (zA 6) (vh (zA 3) (zA 8))) (yN (zA 7) (zA 8))) (zB (zA 3) zC))) ym))) vF)))))
  (zL (wd 4 (zZ (zA 4)))))))),λds R h=>?_⟩
 obtain ⟨c,bs,rfl,l3,hb,q⟩:=h
 have lb:(fT zu bs).length=bs.length:=a_ ..
 refine ⟨c,bs.length + 1,by rw [show (((bs.length + 1:Nat)):Int)=((bs.map zu).length:Int) + 1 by omega],by omega,λxs lx hx=>?_⟩
 refine ⟨_,k7 lx,by decide,?_⟩
 have m4:=md (xs.getD bs.length 0) (show (0:Int) < 4 by decide)
 obtain ⟨p,hp⟩:∃ p,p=1 + (xs.getD bs.length 0).fmod 4:=⟨_,rfl⟩
 have p1:1<=p:=by omega
 have p4:p<=4:=by omega
 have bp:Bd 3 p:=uY (f:=7) (by decide) (by omega) (by omega)
 refine ⟨k0,by omega,by omega,?_⟩
 rw [show ((fY (fT zu bs):Nat):Int).toNat=bs.length by omega]
 refine ⟨λk Γ=>∃ (ys:List Rat) (s5 s6 s7 s8:Sl),Γ=[.sh (.int c),.sh (.lst (bs.map zu)),.sh (L xs),.sh (.int p),.ow (ys.map dQ),s5,s6,s7,s8]/\ys.length=k/\(∀ i (h:i < bs.length),i < k->((bs[i].1:Int):Rat)<=ys.getD i 0/\ys.getD i 0<=((bs[i].2:Int):Rat))/\∀ y∈ys,wG 12 120 y,⟨[],.no,.no,.no,.no,by rw [hp]; rfl,rfl,λ_ _ h=>absurd h (eM _),λ_ h=>nomatch h⟩,?_,?_⟩
 ·rintro k d Γ' hk ⟨ys,s5,s6,s7,s8,rfl,ly,hy,sy⟩
  obtain ⟨kn,rfl⟩:=vO hk
  obtain ⟨h1,h2,h3⟩:=hb _ (d6 kn)
  refine ⟨_,Q3 kn rfl,?_⟩
  refine vQ (by omega) (by omega) λx1 _=>⟨by omega,k0,vQ (by omega) (by omega) λx2 _=>⟨by decide,(Bd.lit (i:=8) (n:=4)).mono,by decide,XQ (md _ (by decide)).1 (by have:=md (x2.fdiv 8) (show (0:Int) < 3 by decide); show (x2.fdiv 8).fmod 3 < 3; omega) λz hz=>?_⟩⟩
  obtain ⟨w,rfl,w0,wp⟩:∃ w,z=.int w/\0<=w/\w<=p:=by
   have:=md x1 (show (0:Int) < p + 1 by omega)
   simp only [de,d7,or_false] at hz
   rcases hz with rfl | rfl | rfl
   ·exact ⟨_,rfl,by decide,by omega⟩
   ·exact ⟨_,rfl,by omega,by omega⟩
   ·exact ⟨_,rfl,by omega,by omega⟩
  have bw:Bd 3 w:=uY (f:=7) (by decide) (by omega) (by omega)
  have bpw:Bd 3 (p - w):=uY (f:=7) (by decide) (by omega) (by omega)
  refine ⟨h2.mono,bpw.mono,h3.mono,bw.mono,_,_,rfl,by omega,bp.mono,by rw [a_]; omega,?_⟩
  have bq:=Xn h1 p1 w0 wp
  refine ⟨ys++[((bs[k].1 * (p - w) + bs[k].2 * w:Int):Rat) / (p:Rat)],.sh (.int (k:Int)),.sh (.int bs[k].1),.sh (.int bs[k].2),.sh (.int w),by rw [db]; rfl,by rw [cJ,ly]; rfl,λi hi ik=>?_,uv sy (ua (Xo ((h2.mul bpw).add (h3.mul bw)) p1 p4) (by decide))⟩
  by_cases e:i < k
  ·rw [b',dR (by omega),<- b']
   exact hy i hi e
  ·have e:i=k:=by omega
   subst e
   rw [b',dC (by omega),ly,fN]
   exact bq
 ·rintro Γ' ⟨ys,s5,s6,s7,s8,rfl,ly,hy,sy⟩
  rw [vk] at ly hy
  exact q ys ly (λi h=>hy i h h) sy
theorem zIX (F:zi K "_law_behind" "_law_behind" zEG f fd) (aB:Fn P w K mg base "_law_plus" ["_law_one","_law_other"] k (zH (KJ))) (az:Fn P w K mg base "_law_along" ["_law_numbers","_law_values"] k (zH (kE))) (ay:Fn P w K mg base "_law_lowest" ["_law_top_here","_law_bottom"] k (zH (qF))):zF P w K mg base zY (k + 1) f fd ["_law_mode_here","_law_point_here","_law_steering","_law_pushes"] (zH (Xp)):=by
 refine zt F jO λ_ _ _ _ _ _ hr=>⟨_,(zJ (Wt (zA 0) (wc rfl (yJ 4 jO.nd (yJ 5 jO.nd (yJ 6 jO.nd (yJ 7 jO.nd (yJ 8 jO.nd (yJ 9 jO.nd wa))))))))
  (zJ (vo 10 jO.nd rfl (Or.inl rfl) zC)
  (zJ (xY PassesOwn.never rfl (xZ rfl B.range_ (zB (yh xf xv rfl B.len_ xh (zB (zA 1) zC)) zC)) (zz 11 jO.nd) (zJ (za 12 jO.nd (zQ aB hr rfl (zB (zQ az hr rfl (zB (zP (zA 5) (zA 11)) (zB (zA 1) zC))) (zB (zQ az hr rfl (zB (zP (zA 7) (zA 11)) (zB (zA 3) zC))) zC))))
   (zJ (za 12 jO.nd (zQ aB hr rfl (zB (zA 12) (zB (zQ az hr rfl (zB (vM (zB (zP (zA 6) (zA 11)) (zB (zP (zA 8) (zA 11)) zC))) (zB (vM (zB (zA 2) (zB (xX (zB zD (zB zD zC))) zC))) zC))) zC))))
   (zL (yP (wV (wq dm dq dr y6 (xM 10) (yA (zQ ay hr rfl (zB (zP (zA 12) zD) (zB (yN (zP (zA 12) zD) (zA 9)) zC))) ym))) vF)))))
  (zL (wd 10 (zZ (zA 10))))))),λds R h=>?_⟩
 obtain ⟨m,n,p,xs,us,Q,ee,qq,rfl,MO,MB,bd,X,Us,e1,qe,q⟩:=h
 have lx:=X.len
 have lu:=Us.len
 have n3:=X.n3
 have p3:=Us.n3
 have q1:=X.q1
 have d1:=MO.div
 have lm:(fT dQ xs).length=n:=by rw [a_]; exact lx
 refine ⟨k0,by omega,by omega,?_⟩
 rw [show ((fY (fT dQ xs):Nat):Int).toNat=n by omega]
 refine ⟨λk Γ=>∃ (s11 s12:Sl),Γ=[.sh (wB m),.sh (dP xs),.sh (dQ 0),.sh (dP us),.sh (Rm m.rows),.sh (Tb m.nexts),.sh (L m.steer),.sh (Tb m.push),.sh (L m.add),.sh (.int m.div),.ow (((df k).map (UO m xs us)).map dQ),s11,s12],⟨.no,.no,rfl⟩,?_,?_⟩
 ·rintro k d Γ' hk ⟨s11,s12,rfl⟩
  obtain ⟨kn,rfl⟩:=vO hk
  have k1:k < m.nexts.length:=by rw [MO.nexts.1]; exact kn
  have k2:k < m.push.length:=by rw [MO.push.1]; exact kn
  have b1:∀ w∈m.nexts.getD k [],Bd 200 w:=MB.nexts _ (qj k1)
  have b2:∀ w∈m.push.getD k [],Bd 200 w:=MB.push _ (qj k2)
  have z1:=kC b1 X.sz
  have z2:=kC b2 Us.sz
  have s1:=Xh (ua z1 (show _<=ee + 204 by omega)) (ua z2 (show _<=ee + 204 by omega))
  have z3:=KI (uW MB.add k) X.bQ
  have s2:=Xh s1 (ua z3 (show _<=ee + 204 + 1 by omega))
  have y1:=vI X.Q0 X.bQ z1
  have y2:=vI X.Q0 X.bQ z2
  have y3:=vI X.Q0 X.bQ z3
  have y4:=vI X.Q0 X.bQ s1
  have y5:=vI X.Q0 X.bQ s2
  have P2:uE 2 [0,1] Q ee qq:=⟨rfl,by decide,X.Q0,X.bQ,X.q1,X.e1,λx hx=>by
   rcases de.mp hx with rfl | hx
   ·exact kB _ _
   ·rw [dh.mp hx]
    exact ua (KI (w:=1) (e:=1) Bd.lit X.bQ) (by omega)⟩
  refine ⟨_,Xm k1,_,_,n,xs,Q,ee,qq,rfl,.inl rfl,MO.nexts.2 _ (qj k1),λw h=>(b1 w h).mono,X,?_⟩
  refine ⟨_,Xm k2,_,_,p,us,Q,ee,qq,rfl,.inl rfl,MO.push.2 _ (qj k2),λw h=>(b2 w h).mono,Us,?_⟩
  refine ⟨_,_,_,_,rfl,qG _,qG _,y1.1.mono (by omega),y1.2.mono (by omega),y2.1.mono (by omega),y2.2.mono (by omega),?_⟩
  rw [kD,kD]
  refine ⟨_,uV (j:=k) (by rw [MO.steer]; exact kn) rfl,_,uV (j:=k) (by rw [MO.add]; exact kn) rfl,k0,k0,k0,_,[m.steer.getD k 0,m.add.getD k 0],2,[0,1],Q,ee,qq,rfl,.inl rfl,rfl,λw hw=>?_,P2,?_⟩
  ·rcases de.mp hw with rfl | hw
   ·exact (uW MB.steer k).mono
   ·rw [dh.mp hw]
    exact (uW MB.add k).mono
  rw [zQT]
  refine ⟨_,_,_,_,rfl,qG _,qG _,y4.1.mono (by omega),y4.2.mono (by omega),y3.1.mono (by omega),y3.2.mono (by omega),?_⟩
  rw [kD,kD]
  refine ⟨_,rfl,_,rfl,y5.2.mono (by omega),bd.mono,_,_,rfl,eO (qG _) (by omega),(y5.2.mul bd).mono (by omega),by rw [a_,a_,cX]; omega,.sh (.int (k:Int)),.sh (dQ (xK (m.nexts.getD k []) xs + xK (m.push.getD k []) us + (m.add.getD k 0:Rat))),?_⟩
  rw [Xq _ d1,m9,db,db]
  rfl
 ·rintro Γ' ⟨s11,s12,rfl⟩
  rw [vk]
  exact q
theorem zNX (F:zi K "_law_run" "_law_run" zIN f fd) (aS:Fn P w K mg base "_law_lies" ["_law_room","_law_point_here"] k (zH (KM))) (aU:Fn P w K mg base "_law_point" ["_law_cell","_law_box_here"] k (zH (KO))) (ci:Fn P w K mg base "_law_behind" ["_law_mode_here","_law_point_here","_law_steering","_law_pushes"] k (zH (Xp))):zF P w K mg base zY (k + 1) f fd ["_law_spec","_law_point_here","_law_cells"] (zH (Xs)):=by
 refine zt F jP λ_ _ _ _ _ _ hr=>⟨_,(zJ (Wt (zA 0) (wc rfl (yJ 3 jP.nd (yJ 4 jP.nd (yJ 5 jP.nd (yJ 6 jP.nd wa))))))
  (zJ (vo 7 jP.nd rfl (Or.inr rfl) (zB (zA 1) zC))
  (zJ (xY PassesOwn.never rfl (xN (zA 2)) (zz 8 jP.nd) (zJ (zKs 7 9 jP.nd rfl rfl (own:=["_law_mode_here"]) (caps:=[(7,"_law_points")]) (yZ jP) rfl rfl yr (xN (zA 5)) (λ_ _ _ _=>(zz 0 (yD ["_law_mode_here","_law_points"]))) (λ_ _ _ _=>(xj (zQ aS hr rfl (zB (zP (zA 0) zD) (zB (zP (zA 1) (xU zD)) zC))))) (λ_ _ _ _=>(zA 0)) rfl)
   (zJ (yY (jZ hr.units (zA 9) (vM zC)) (zL zKt) yX)
   (zJ (za 10 jP.nd (zP (zA 9) (xu (zA 8) (yh xf xv rfl B.len_ xh (zB (zA 9) zC)))))
   (zJ (za 11 jP.nd (zQ aU hr rfl (zB (wZ (zA 8) zD) (zB (zA 4) zC))))
   (zL (yP (wV (wq dm dq dr y6 (xM 7) (yA (zQ ci hr rfl (zB (zA 10) (zB (zRP 7 (xU zD) (λ_ _=>rfl)) (zB (xX (zB zD (zB zD zC))) (zB (zA 11) zC))))) ym))) vF)))))))
  (zL (wd 7 (zZ (zA 7))))))),λds R h=>?_⟩
 obtain ⟨n,bs,ms,u,xs,cs,rfl,OK,hms,hbs,b2,m3,l30,lx,sx,q⟩:=h
 have n3:=OK.n3
 have lm:(fT wB ms).length=ms.length:=a_ ..
 have hb3:∀ b∈bs,b.1<=b.2/\Bd 105 b.1/\Bd 105 b.2:=λb hb=>⟨OK.bok b hb,hbs b hb⟩
 have P0s:uE n xs (12 * 1) (130 + 215 * 0) (3 * 0 + 5):=⟨lx,n3,by decide,(show Bd 5 (12:Int) from Bd.lit),by decide,by decide,λx hx=>ua (sx x hx) (by decide)⟩
 refine ⟨k0,?_⟩
 refine ⟨λk Γ=>∃ (ps:List (List Rat)) (s8 s9 s10 s11:Sl),Γ=[.sh (qh n bs ms u),.sh (dP xs),.sh (L cs),.sh (.int (n:Int)),.sh (.lst (bs.map zu)),.sh (.lst (ms.map wB)),.sh (.int u),.ow (ps.map dP),s8,s9,s10,s11]/\ps.length=k + 1/\ps.getD 0 []=xs/\kF n bs ms ps/\(∀ p∈ps,∃ Q e q,uE n p Q e q)/\∃ P:Nat,0 < P/\Bd (3 * k + 1) (P:Int)/\uE n (ps.getD k []) (12 * P) (130 + 215 * k) (3 * k + 5),⟨[xs],.no,.no,.no,.no,rfl,rfl,rfl,λt h=>absurd h (by show ¬ t + 1 < 1; omega),λp hp=>by rw [dh.mp hp]; exact ⟨_,_,_,P0s⟩,1,by decide,(show Bd 1 (1:Int) from Bd.lit),P0s⟩,?_,?_⟩
 ·rintro k d Γ' hk ⟨ps,s8,s9,s10,s11,rfl,lp,p0,RL,szs,P,P0,bP,PT⟩
  obtain ⟨c,hc,rfl⟩:=KL hk
  have kl:k < 30:=by have:=(cT.mp hc).1; omega
  have hl:yo (ps.map dP) (-1)=some (dP (ps.getD k [])):=zOG [] lp
  obtain ⟨x,hx⟩:∃ x,x=ps.getD k []:=⟨_,rfl⟩
  rw [<- hx] at PT hl
  refine gi.keep (λd=>(ZC d).all (hQ x)) (by omega) (λd hd=>?_) (λd hd=>?_) ?_
  ·obtain ⟨m,hm,rfl⟩:=cP.mp hd
   have MO:=OK.mok m hm
   have MB:=(hms m hm).1
   rw [zOR]
   exact ⟨_,rfl,_,hl,m.rows,n,x,_,_,_,rfl,MO.few,λr hr=>⟨MO.rows r hr,λw hw=>(MB.rows r hr w hw).mono⟩,PT,rfl⟩
  ·obtain ⟨m,hm,rfl⟩:=cP.mp hd
   exact rfl
  rw [zQE]
  refine ⟨k0,zRY _,rfl,w2 (λc1=>q ps (by omega) (by omega) p0 RL szs) λc1=>?_⟩
  rw [YI] at c1
  have hn:1<=((ms.filter λm=>(ZC (wB m)).all (hQ x)).map wB).length:=by
   cases h:(ms.filter λm=>(ZC (wB m)).all (hQ x)).map wB with
   | nil=>rw [h] at c1; cases c1
   | cons=>exact Nat.succ_le_succ (ib _)
  have mm:=md c (show (0:Int) < (((ms.filter λm=>(ZC (wB m)).all (hQ x)).map wB).length:Int) by omega)
  refine ⟨by omega,XQ mm.1 mm.2 λd hd=>?_⟩
  obtain ⟨m,hm,rfl⟩:=cP.mp hd
  obtain ⟨hm1,hm2⟩:=eL.mp hm
  rw [zOR] at hm2
  have MO:=OK.mok m hm1
  obtain ⟨MB,bdv⟩:=hms m hm1
  have d1:=MO.div
  refine ⟨by decide,(Bd.lit (i:=3) (n:=2)).mono,c.fdiv 3,bs,rfl,by omega,hb3,λus lu hu su=>?_⟩
  have PU:uE bs.length us (12 * P) (130 + 215 * k) (3 * k + 5):=⟨lu,by omega,PT.Q0,PT.bQ,PT.q1,PT.e1,λx hx=>ua (Xi (su x hx) bP) (by omega)⟩
  refine ⟨_,hl,k0,m,n,bs.length,x,us,12 * P,130 + 215 * k,3 * k + 5,rfl,MO,MB,bdv,PT,PU,by omega,by omega,by rw [a_]; omega,?_⟩
  have PN:=zQb (P:=m.div.toNat) MO MB PT PU (by omega) (by omega) (by omega) bdv (by omega) (by omega)
  rw [Nat.mul_assoc] at PN
  have gl:∀ t,t < k + 1->(ps++[wC m n x us]).getD t []=ps.getD t []:=λt ht=>by rw [b',dR (by omega),b']
  have ge:(ps++[wC m n x us]).getD (k + 1) []=wC m n x us:=by
   rw [b',dC (by omega),lp,fN]
   rfl
  refine ⟨ps++[wC m n x us],.sh (.int c),.sh (.lst ((ms.filter λm=>(ZC (wB m)).all (hQ x)).map wB)),.sh (wB m),.sh (dP us),by rw [db]; rfl,by rw [cJ,lp]; rfl,by rw [gl 0 (by omega)]; exact p0,λt ht=>?_,λp hp=>?_,P * m.div.toNat,mY P0 (by omega),?_,?_⟩
  ·rw [cJ,lp] at ht
   have ht:t + 1 < k + 1 + 1:=ht
   by_cases e:t + 1 < k + 1
   ·rw [gl t (by omega),gl (t + 1) e]
    exact RL t (by omega)
   ·have e:t=k:=by omega
    subst e
    rw [gl t (by omega),ge,<- hx]
    exact zOD hm1 MO PT.len lu hm2 hu
  ·rcases dX.mp hp with hp | hp
   ·exact szs p hp
   ·rw [dh.mp hp]
    exact ⟨_,_,_,PN⟩
  ·rw [nw,show ((m.div.toNat:Nat):Int)=m.div by omega]
   exact (bP.mul bdv).mono (by omega)
  ·rw [ge]
   exact ⟨PN.len,PN.n3,PN.Q0,PN.bQ.mono (by omega),by omega,by omega,λx hx=>ua (PN.sz x hx) (by omega)⟩
 ·rintro Γ' ⟨ps,s8,s9,s10,s11,rfl,lp,p0,RL,szs,_⟩
  rw [a_] at lp
  exact q ps (by omega) (by omega) p0 RL szs
theorem zJ6 (F:zi K "_law_shape" "_law_shape" zFC f fd) (ap:Fn P w K mg base "_law_stream" ["_law_cell","_law_many"] k (zH (XR))) (ak:Fn P w K mg base "_law_number" ["_law_x","_law_far"] k (zH (UK))):zF P w K mg base zY (k + 1) f fd ["_law_many","_law_cell"] (zH (Xu)):=by
 refine zt F jQ λ_ _ _ _ _ _ hr=>⟨_,(zJ (za 2 jQ.nd (zQ ap hr rfl (zB (zA 1) (zB zD zC))))
  (zJ (vo 3 jQ.nd rfl (Or.inl rfl) zC)
  (zJ (xY PassesOwn.never rfl (xZ rfl B.range_ (zB (zA 0) zC)) (zz 4 jQ.nd) (zJ (je 5 false jQ.nd rfl rfl (own:=["_law_j"]) (caps:=[(4,"_law_k")]) (yZ jQ) rfl rfl yr (xZ rfl B.range_ (zB (zA 0) zC)) (λ_ _ _ _=>(zz 0 (yD ["_law_j","_law_k"]))) (λ_ _ _ _=>(x9 Ut Jx rfl B.int_ Zk (zB (qc hr.units (zA 0) (zA 1)) zC))) rfl)
   (zL (wd 3 (zNA 3 jQ.nd rfl (Or.inl rfl) (zA 3) (vM (zB (x9 jS jb rfl B.tuple_ uI (zB (zA 5) zC)) (zB (x9 jS jb rfl B.tuple_ uI (zB (xF (own:=["_law_one"]) (caps:=[]) (yZ jQ) rfl rfl yr (xN (zA 5)) (λ_ _ _ _=>(zz 0 (yD ["_law_one"]))) (λ_ _ _ _=>(vh zD (zA 0)))) zC)) zC))))))))
  (zJ (xY PassesOwn.never rfl (xZ rfl B.range_ (zB (xu (zP (zA 2) zD) zD) zC)) (zz 4 jQ.nd) (zJ (je 6 false jQ.nd rfl rfl (own:=["_law_j"]) (caps:=[(2,"_law_xs"),(4,"_law_k")]) (yZ jQ) rfl rfl yr (xZ rfl B.range_ (zB (zA 0) zC)) (λ_ _ _ _=>(zz 0 (yD ["_law_j","_law_xs","_law_k"]))) (λ_ _ _ _=>(zQ ak hr rfl (zB (wZ (zP (zA 1) (yB zD (zA 2))) (yB zD (yN zD (zA 0)))) (zB zD zC)))) rfl)
   (zL (yY (kg hr.units (zA 6) (yN (vM (zB zD zC)) (zA 0))) (zL (yP (wV (wq dm dq dr y6 (xM 3) (yA (x9 jS jb rfl B.tuple_ uI (zB (zA 6) zC)) ym))) vF)) yX))))
  (Ym (yY (PW.pt (zPN (jZ hr.units (xu (zP (zA 2) zD) zD) zD) (zM8 (gZ (zKy 3 rfl B.len_) zD)))) (zL (yP (wV (wq dm PySem.F.slot_list_pop PySem.F.type_list_pop QU (xM 3) (yA (xu (zP (zA 2) zD) (zKy 3 rfl B.len_)) ym))) zQy)) yX)
  (zL (wd 3 (zZ (zA 3))))))))),λds R h=>?_⟩
 obtain ⟨n,c,rfl,n1,n2,q⟩:=h
 refine ⟨c,6,rfl,by decide,λxs lx hx=>⟨k0,by omega,by omega,?_⟩⟩
 rw [show ((n:Nat):Int).toNat=n by omega]
 refine ⟨λk Γ=>∃ (S:List (List Int)) (s4 s5:Sl),Γ=[.sh (.int (n:Int)),.sh (.int c),.sh (L xs),.ow (S.map U),s4,s5,.no]/\S.length=2 * k/\∀ s∈S,s.length=n/\∀ x∈s,Bd 4 x,⟨[],.no,.no,rfl,rfl,λ_ h=>nomatch h⟩,?_,?_⟩
 ·rintro k d Γ' hk ⟨S,s4,s5,rfl,lS,hS⟩
  obtain ⟨kn,rfl⟩:=vO hk
  refine ⟨by omega,by omega,?_⟩
  rw [show ((n:Nat):Int).toNat=n by omega]
  refine zy.rng0 (λj=>.int (if (j:Int)=(k:Int) then 1 else 0)) (by omega) (λj hj=>by show D.int _=_; rw [zOm]) ?_
  have eu:(df n).map (λj:Nat=>D.int (if (j:Int)=(k:Int) then 1 else 0))=(yy (k:Int) n 1).map D.int:=by unfold yy; rw [dk]; rfl
  rw [eu]
  have lu:(yy (k:Int) n 1).length=n:=v5 ..
  have bu:∀ x∈yy (k:Int) n 1,Bd 4 x:=W7 (xl (by decide))
  refine zy.int (λx=>0 - x) (by omega) (λx hx=>rfl) ?_
  refine ⟨k0,by rw [a_]; show _ + 2<=1000; omega,S++[yy (k:Int) n 1,(yy (k:Int) n 1).map λx=>0 - x],.sh (.int (k:Int)),.sh (L (yy (k:Int) n 1)),?_,by rw [cJ,lS]; rfl,λs hs=>?_⟩
  ·rw [db]
   rfl
  ·rcases dX.mp hs with hs | hs
   ·exact hS s hs
   ·rcases de.mp hs with rfl | hs
    ·exact ⟨lu,bu⟩
    ·rw [dh.mp hs]
     refine ⟨by rw [a_]; exact lu,λx hx=>?_⟩
     obtain ⟨y,hy,rfl⟩:=cP.mp hx
     rw [iP]
     exact (bu y hy).neg
 rintro Γ' ⟨S,s4,s5,rfl,lS,hS⟩
 rw [vk] at lS
 refine vQ (by decide) (by omega) λx0 _=>⟨by decide,?_⟩
 have m2:=md x0 (show (0:Int) < 3 by decide)
 refine ⟨by omega,by omega,?_⟩
 refine ⟨λk Γ=>∃ (S:List (List Int)) (s4 s5 s6:Sl),Γ=[.sh (.int (n:Int)),.sh (.int c),.sh (L xs),.ow (S.map U),s4,s5,s6]/\S.length<=2 * n + k/\∀ s∈S,s.length=n/\∀ x∈s,Bd 4 x,⟨S,_,_,_,rfl,by omega,hS⟩,?_,?_⟩
 ·rintro k d Γ' hk ⟨S,s4,s5,s6,rfl,lS,hS⟩
  obtain ⟨kn,rfl⟩:=vO hk
  refine ⟨by omega,by omega,?_⟩
  rw [show ((n:Nat):Int).toNat=n by omega]
  refine zy.nums (λx=>Bd 4 x) (by omega) (λj hj=>?_) λns ln hn=>?_
  ·have bj:Bd 2 (j:Int):=XO (by omega)
   refine vQ (by omega) (by omega) λx1 _=>⟨(Bd.lit (i:=7) (n:=3)).mono,bj.mono,by omega,Bd.mono (n:=10) (uY (f:=1000) (by decide) (by omega) (by omega)) (by decide),?_⟩
   exact ⟨_,2,rfl,by decide,(Bd.lit (i:=2) (n:=2)).mono,λy y1 y2=>⟨y,rfl,uY (f:=15) (by decide) (by omega) (by omega)⟩⟩
  refine ⟨k0,by omega,by omega,?_⟩
  rw [show ((n:Nat):Int).toNat=n by omega,show D.lst (cS n (D.int 0))=L (cS n 0) by unfold L; rw [iQ]]
  refine ⟨gY 48 ns,gY 48 _,w2 (λc1=>⟨by rw [a_]; omega,S++[ns],.sh (.int (k:Int)),s5,.sh (L ns),by rw [db]; rfl,by rw [cJ]; show _ + 1<=_; omega,uv hS ⟨ln,hn⟩⟩) λc1=>⟨S,_,_,_,rfl,by omega,hS⟩⟩
 rintro Γ' ⟨S,s4,s5,s6,rfl,lS,hS⟩
 rw [vk] at lS
 have l5:S.length<=6:=by omega
 refine ⟨λΓ=>∃ (S:List (List Int)),Γ=[.sh (.int (n:Int)),.sh (.int c),.sh (L xs),.ow (S.map U),s4,s5,s6]/\ZB S n,?_,?_⟩
 ·refine vQ (by decide) (by omega) λx3 _=>⟨by decide,w2 (λc1=>?_) λc1=>wF rfl ⟨S,rfl,by omega,hS⟩⟩
  refine w2 (λc2=>?_) λc2=>⟨S,rfl,by omega,hS⟩
  have z:1 < ((S.map U).length:Int):=of_decide_eq_true c2
  refine vQ (by decide) (by omega) λx4 _=>⟨by omega,?_⟩
  have mk:=md x4 (show (0:Int) < ((S.map U).length:Int) by omega)
  obtain ⟨k,hk⟩:=hX mk.1
  refine ⟨_,k,rfl,?_,S.eraseIdx k,by rw [<- zOu]; rfl,?_,λs hs=>hS s (zLg hs)⟩
  ·rw [hk]
   unfold xw
   rw [if_pos (by omega),if_pos (by omega)]
   rfl
  ·have:=List.length_eraseIdx_le S k
   omega
 rintro Γ' ⟨S,rfl,hS⟩
 exact q S hS
theorem zJ4 (F:zi K "_law_whole" "_law_whole" zFA f fd):zF P w K mg base zY (k + 1) f fd ["_law_found"] (zH (j9)):=by
 refine zt F zJt λ_ _ _ _ _ _ hr=>⟨_,(zL (zZ (vj (yU (wo vz rfl B.isinstance_ vY (yA (zA 0) (yA (vx (v:=.ty "int") (u:=.type "int") rfl B.int_ Zk rfl) ym))) (uD zOk)) (ul (zOV (yU (wo vz rfl B.isinstance_ vY (yA (zA 0) (yA (vx (v:=.ty "bool") (u:=.type "bool") rfl B.bool_ zGG rfl) ym))) (uD zJR))))))),λds R h=>?_⟩
 obtain ⟨d,rfl,o,q⟩:=h
 refine ⟨o,λc=>⟨o,bR q ?_⟩,λc=>bR q ?_⟩
 ·unfold jg; rw [c]; rfl
 ·unfold jg; rw [c]; rfl
theorem zR4 (F:zi K "law" "law" ZF f fd) (cj:Fn P w K mg base "_law_thing" ["_law_script"] k (zH (XT))) (ck:Fn P w K mg base "_law_made" ["_law_spec"] k (zH (zSc ah ag))) (cn:Fn P w K mg base "_law_box" ["_law_cell","_law_many","_law_unit"] k (zH (XS))) (ao:Fn P w K mg base "_law_cell_at" ["_law_script","_law_k"] k (zH (Qy))) (cq:Fn P w K mg base "_law_rows" ["_law_box_here"] k (zH (zSa))) (cr:Fn P w K mg base "_law_shape" ["_law_many","_law_cell"] k (zH (Xu))) (aQ:Fn P w K mg base "first_room" ["start","shape"] k (zH (g9))) (cu:Fn P w K mg base "_law_top" ["_law_numbers","_law_box_here"] k (zH (zSZ))) (cv:Fn P w K mg base "grown" ["thing","start","shape","tries"] k (zH (Xb ah ag))) (cw:Fn P w K mg base "_law_whole" ["_law_found"] k (zH (j9))) (cx:Fn P w K mg base "_law_run" ["_law_spec","_law_point_here","_law_cells"] k (zH (Xs))) (aU:Fn P w K mg base "_law_point" ["_law_cell","_law_box_here"] k (zH (KO))) (aS:Fn P w K mg base "_law_lies" ["_law_room","_law_point_here"] k (zH (KM))) (aR:Fn P w K mg base "grown_once" ["thing","room"] k (zH (kA ah ag))):zF P w K mg base zY (k + 1) f fd ["_law_script"] (zH (qH)):=by
 refine zt F ud λ_ _ _ _ _ _ hr=>⟨_,(zJ (za 1 ud.nd (zQ cj hr rfl (zB (zA 0) zC)))
  (zJ (za 2 ud.nd (zQ ck hr rfl (zB (zA 1) zC)))
  (zJ (za 3 ud.nd (zQ cn hr rfl (zB (zQ ao hr rfl (zB (zA 0) (zB zD zC))) (zB (zP (zA 1) zD) (zB (zP (zA 1) zD) zC)))))
  (zJ (za 4 ud.nd (zQ cq hr rfl (zB (zA 3) zC)))
  (zJ (za 5 ud.nd (zQ cr hr rfl (zB (zP (zA 1) zD) (zB (zQ ao hr rfl (zB (zA 0) (zB zD zC))) zC))))
  (Ym (za 6 ud.nd (zQ aQ hr rfl (zB (zA 4) (zB (zA 5) zC))))
  (zJ (yY (zPO hr.units (zA 6) (xF (own:=["_law_numbers"]) (caps:=[(3,"_law_box_here")]) (yZ ud) rfl rfl yr (xN (zA 5)) (λ_ _ _ _=>(zz 0 (yD ["_law_numbers","_law_box_here"]))) (λ_ _ _ _=>(yB (zA 0) (xX (zB (zQ cu hr rfl (zB (zA 0) (zB (zA 1) zC))) zC)))))) (zL (zZ uS)) yX)
  (Ym (za 7 ud.nd (zQ cv hr rfl (zB (zA 2) (zB (zA 4) (zB (zA 5) (zB (xu (zQ ao hr rfl (zB (zA 0) (zB zD zC))) zD) zC))))))
  (zJ (yY (j7 (zA 7) wX) (zL (zZ uS)) yX)
  (zJ (yY (PW.pt (uT (ww (xj (yU (wo vz rfl B.isinstance_ vY (yA (zA 7) (yA (vx (v:=.ty "list") (u:=.type "list") rfl B.list_ wW rfl) ym))) (uD gd)))) (uk (kg hr.units (xF (own:=["_law_row"]) (caps:=[]) (yZ ud) rfl rfl yr (xN (zA 7)) (λ_ _ _ _=>(zz 0 (yD ["_law_row"]))) (λ_ _ _ _=>(vN (zA 0) uC (wR (xU zD))))) (zA 5))))) (zL (zZ uS)) yX)
  (zJ (xY PassesOwn.never rfl (xZ rfl B.range_ (zB (yh xf xv rfl B.len_ xh (zB (zA 7) zC)) zC)) (zz 8 ud.nd) (zL (yY (PW.pt (uT (ww (xj (zQ cw hr rfl (zB (zP (zP (zA 7) (zA 8)) (xU zD)) zC)))) (uk (kh (zP (zP (zA 7) (zA 8)) (xU zD)) (zP (zP (zA 6) (zA 8)) (xU zD)))))) (zL (zZ uS)) yX)))
  (zJ (za 9 ud.nd (zQ cx hr rfl (zB (zA 1) (zB (zQ aU hr rfl (zB (zQ ao hr rfl (zB (zA 0) (zB zD zC))) (zB (zA 3) zC))) (zB (zKv (zA 0) (wR zD) (wR zD)) zC)))))
  (zL (zZ (vj (zRQ hr.units (zQ aR hr rfl (zB (zA 2) (zB (zA 7) zC))) (zA 7)) (ul (yh (jU rfl) jc rfl B.all_ jV (zB (xF (own:=["_law_point_here"]) (caps:=[(7,"_law_room")]) (yZ ud) rfl rfl yr (xN (zA 9)) (λ_ _ _ _=>(zz 0 (yD ["_law_point_here","_law_room"]))) (λ_ _ _ _=>(zQ aS hr rfl (zB (zA 1) (zB (zA 0) zC))))) zC)))))))))))))))))),λds R h=>?_⟩
 obtain ⟨ns,rfl,q⟩:=h
 refine ⟨ns,rfl,λn bs ms u T n2=>?_⟩
 have n1:=T.n1
 have u1:=T.u1
 refine ⟨n,bs,ms,u,rfl,T.ok,?_⟩
 refine ⟨ns,5,rfl,by decide,λc5=>⟨_,rfl,_,rfl,c5,n,u,rfl,T.n3,by omega,T.bu,λbx lb hb=>?_⟩⟩
 refine ⟨bx,rfl,by omega,?_⟩
 have B:xR (xm bx) n 110:=(zOz lb n2 λb h=>(hb b h).2).1.wid (by decide)
 refine ⟨_,rfl,ns,6,rfl,by decide,λc6=>⟨n,c6,rfl,n1,n2,λS hS=>?_⟩⟩
 have hS1:∀ s∈S,s.length=n:=λs hs=>(hS.ok s hs).1
 have few:=hS.few
 have eF:=Xf lb n1 n2 hb hS1
 refine ⟨λΓ=>Γ=[.sh (.scr ns),.sh (qh n bs ms u),.sh (wx ah ag n bs ms),.sh (.lst (bx.map zu)),.sh (Rm (xm bx)),.sh (.lst (S.map U)),.sh (Rm (xD S λs=>zn s bx)),.no,.no,.no],⟨xm bx,n,S,rfl,B,n1,n2,hS,by rw [eF]; rfl⟩,?_⟩
 rintro Γ' rfl
 refine vG U yF kz (λs=>U (s++[zn s bx])) (by omega) (λs hs=>?_) ?_
 ·refine ⟨_,s,bx,105,rfl,.inr rfl,by rw [hS1 s hs]; omega,λx hx=>((hS.ok s hs).2 x hx).mono,by decide,λb h=>(hb b h).2,k0,by rw [a_,hS1 s hs]; show _ + 1<=1000; omega,?_⟩
  rw [Xc]
 have e1:D.lst (S.map λs=>U (s++[zn s bx]))=Rm (xD S λs=>zn s bx):=by unfold xD; show _=D.lst (fT U _); rw [dk]; rfl
 rw [e1]
 refine ⟨qi (some _),qi (some _),wF (by rw [zOv]; rfl) ?_⟩
 refine ⟨λΓ=>∃ t:Nat,t<=4/\Γ=[.sh (.scr ns),.sh (qh n bs ms u),.sh (wx ah ag n bs ms),.sh (.lst (bx.map zu)),.sh (Rm (xm bx)),.sh (.lst (S.map U)),.sh (Rm (xD S λs=>zn s bx)),.sh (dO (jK n bs ms (t + 1) (xS (xm bx) n S))),.no,.no],⟨ns,7,rfl,by decide,λc7=>⟨by decide,?_⟩⟩,?_⟩
 ·have m2:=md c7 (show (0:Int) < 5 by decide)
  obtain ⟨t,ht⟩:=hX m2.1
  have t4:t<=4:=by omega
  exact ⟨n,bs,ms,u,xm bx,S,t,by rw [<- ht],t4,T,n2,B,hS,t,t4,rfl⟩
 rintro Γ' ⟨t,t4,rfl⟩
 cases hr:jK n bs ms (t + 1) (xS (xm bx) n S) with
 | none=>exact wT rfl q
 | some R0=>
 have hr0:=hr
 rw [eF] at hr
 obtain ⟨C,fC⟩:=zSU T n2 (zOo B n1 n2 hS eF) (zLy hS eF) (by decide) (by omega) hr
 obtain ⟨v,rfl,hv,fx⟩:=Xe hS1 hr
 have lT:(xD S v).length=S.length:=a_ ..
 have gT:∀ k (h:k < S.length),(xD S v)[k]? = some (S[k]++[v S[k]]):=λk h=>by unfold xD; rw [c_,b_ h]; rfl
 refine wF rfl ?_
 refine ⟨rfl,wF rfl ?_⟩
 refine vG U yF kz (λr=>U (r.take n)) (by omega) (λr hr=>by show D.tup _=D.tup _; rw [jh (C.row r hr)]) ?_
 have e2:(xD S v).map (λr=>U (r.take n))=S.map U:=by
  unfold xD
  rw [dk]
  refine eh λs hs=>?_
  show U ((s++[v s]).take n)=U s
  rw [dl (by rw [hS1 s hs]; omega),cV (by rw [hS1 s hs]; omega)]
 rw [e2]
 refine ⟨qi (some S),qi (some S),wF (by rw [show D.lst (S.map U)=Rm S from rfl,zOv]; rfl) ?_⟩
 have lM:(fT U (xD S v)).length=S.length:=by rw [a_]; exact lT
 refine ⟨by omega,by omega,?_⟩
 rw [show ((fY (fT U (xD S v)):Nat):Int).toNat=S.length by omega]
 refine ⟨λk Γ=>∃ s8,Γ=[.sh (.scr ns),.sh (qh n bs ms u),.sh (wx ah ag n bs ms),.sh (.lst (bx.map zu)),.sh (Rm (xm bx)),.sh (.lst (S.map U)),.sh (Rm (xD S λs=>zn s bx)),.sh (Rm (xD S v)),s8,.no],⟨_,rfl⟩,?_,?_⟩
 ·rintro k d Γ' hk ⟨s8,rfl⟩
  obtain ⟨kl,rfl⟩:=vO hk
  have lk:=hS1 _ (d6 kl)
  have aT:∀ w:List Int->Int,yo ((xD S w).map U) (k:Int)=some (U (S[k]++[w S[k]])):=λw=>by
   unfold xD
   rw [dk,wg [] kl,b',b_ kl]
   rfl
  refine ⟨_,aT v,_,gp _ _,_,rfl,rfl,wF rfl ?_⟩
  refine ⟨_,aT v,_,gp _ _,_,aT _,_,gp _ _,wF (decide_eq_false (Int.not_lt.mpr (hv _ (d6 kl)))) ⟨_,rfl⟩⟩
 rintro Γ' ⟨s8,rfl⟩
 refine ⟨ns,8,rfl,by decide,λc8=>⟨c8,bx,rfl,by omega,hb,λxs lx hx sx=>?_⟩⟩
 refine ⟨n,bs,ms,u,xs,zv ns (some 9) (some 25),by rw [zQV],T.ok,λm hm=>⟨(T.md m hm).mse,(T.md m hm).dv⟩,λb h=>(T.bb b h).2,T.b2,T.m3,by have:=zSi ns; omega,by rw [lx]; exact lb,sx,λps l1 l31 p0 RL szs=>?_⟩
 have lp:(fT dP ps).length=ps.length:=a_ ..
 refine ⟨n,bs,ms,u,xD S v,220,rfl,T,n2,C,by decide,by decide,fC,qi _,qi (some (xD S v)),?_⟩
 refine wT (by rw [fx,show (Rm (xD S v)).py=(dO (some (xD S v))).py from rfl,KD,decide_eq_true rfl]; rfl) ?_
 refine vG dP ptV Xv (λp=>.bool ((xD S v).all (hQ p))) (by omega) (λp hp=>?_) ⟨ps.map λp=>(xD S v).all (hQ p),by rw [dk]; rfl,bR q ?_⟩
 ·obtain ⟨Q,ee,qq,PT⟩:=szs p hp
  exact ⟨xD S v,n,p,Q,ee,qq,rfl,by omega,λr hr=>⟨C.row r hr,λw hw=>(zLf (C.row r hr) hw).elim (λz=>(C.co r hr w z).mono) λz=>by rw [z]; exact (C.bo r hr).mono⟩,PT,rfl⟩
 ·have h0:∀ r∈xD S v,vp n (λj=>(ps.getD 0 []).getD j 0) r:=by
   rw [p0]
   refine (zST hS1).mpr λs hs=>mG (UM (by rw [hS1 s hs,lb]) hx) ?_
   exact_mod_cast hv s hs
  have H:=zJn C fC T n2 fx RL h0
  rw [mK]
  refine (di.mpr λp hp=>di.mpr λr hr=>?_).symm
  obtain ⟨Q,ee,qq,PT⟩:=szs p hp
  obtain ⟨i,hi,rfl⟩:=e8.mp hp
  have h:=H i hi r hr
  rw [b',b_ hi] at h
  exact (zLp PT.len (C.row r hr)).mpr h
end
end K74
namespace L2
open PySem PySem.Spec PyProof.Rows
theorem zMe {α:Type} {P:List α->Prop} (h:∀ x0:α,P [x0]):∀ us:List α,us.length=1->P us
 | [x0],_=>h x0
theorem X2 {α:Type} {P:List α->Prop} (h:∀ x0 x1:α,P [x0,x1]):∀ us:List α,us.length=2->P us
 | [x0,x1],_=>h x0 x1
theorem UR {α:Type} {P:List α->Prop} (h:∀ x0 x1 x2:α,P [x0,x1,x2]):∀ us:List α,us.length=3->P us
 | [x0,x1,x2],_=>h x0 x1 x2
theorem zMd {α:Type} {P:List α->Prop} (h:∀ x0 x1 x2 x3:α,P [x0,x1,x2,x3]):∀ us:List α,us.length=4->P us
 | [x0,x1,x2,x3],_=>h x0 x1 x2 x3
theorem zMc {α:Type} {P:List α->Prop} (h:∀ x0 x1 x2 x3 x4:α,P [x0,x1,x2,x3,x4]):∀ us:List α,us.length=5->P us
 | [x0,x1,x2,x3,x4],_=>h x0 x1 x2 x3 x4
theorem zMb {α:Type} {P:List α->Prop} (h:∀ x0 x1 x2 x3 x4 x5 x6:α,P [x0,x1,x2,x3,x4,x5,x6]):∀ us:List α,us.length=7->P us
 | [x0,x1,x2,x3,x4,x5,x6],_=>h x0 x1 x2 x3 x4 x5 x6
structure Gf (K:W.Frag) (x:Str) (st:Stmt) (f:Addr) (fd:FuncData):Prop where
 at_:W.nsIn K mainGlobals x=some (some (.ref f))
 F:zi K x x st f fd
abbrev Ge (K:W.Frag) (x:Str) (st:Stmt):Prop:=∃ f fd,Gf K x st f fd
structure Gm (K:W.Frag) (C:Addr) (x q:Str) (st:Stmt) (f:Addr) (fd:FuncData):Prop where
 at_:W.findIn K (.ref C) x=some (some (.ref f))
 fn:W.isFn K (.ref f)=true
 F:zi K x q st f fd
abbrev Gn (K:W.Frag) (C:Addr) (x q:Str) (st:Stmt):Prop:=∃ f fd,Gm K C x q st f fd
structure Gd (K:W.Frag) (x:Str) (st:Stmt) (f:Addr) (fd:FuncData) (d:Value):Prop where
 at_:W.nsIn K mainGlobals x=some (some (.ref f))
 F:xa K x x st f fd d
abbrev Gi (K:W.Frag) (x:Str) (st:Stmt) (i:Int):Prop:=∃ f fd t,Gd K x st f fd (.int i t)
structure Gc (K:W.Frag) (x:Str) (C:Addr):Prop where
 nm:W.nsIn K mainGlobals x=some (some (.ref C))
 pg:W.plainGet K C Str.empty=true
 hd:W.hasDictIn K C=true
 po:W.plainOver K C=true
 sa:W.findIn K (.ref C) "__setattr__" = some (some (.builtin "object.__setattr__"))
 mk_:W.makesIn K C=true
 kc:W.keepIn K (.ref C)=true
 ha:W.findIn K (.ref C) "__class__" = some (some (.builtin "object.__class__"))
 hn:W.specialIn K (.builtin "object.__class__") "__get__" = some (some (.builtin "getset_descriptor.__get__"))
 tk:W.takesIn K (.builtin "object.__class__")=some true
 hm:W.mroIn K C (.type "object")=some true
section
variable {P:Program} {w:World} {K:W.Frag} {mg:Str->Option Value} {base h:Heap} {x q:Str} {st:Stmt} {f C T:Addr} {fd:FuncData} {ps:List Str} {k:Nat} {sp:Sp} {oc kV doc pm cdv ct oT:Value} {od an dT:Option Addr} {osl sT:Array (Option Value)}
theorem X3 (a:W.nsIn K mainGlobals x=some (some (.ref f))) (l:K.lookup f=some ⟨oc,od,.func (W.fnOf x x (w8 st) (xg st) (zS st) .none kV doc pm an cdv ct),osl⟩) (c:W.codeIn K cdv x=true) (k:W.keepIn K (.ref f)=true):Ge K x st:=⟨f,_,a,U7 l c k⟩
theorem X4 (a:W.findIn K (.ref C) x=some (some (.ref f))) (i:W.isFn K (.ref f)=true) (l:K.lookup f=some ⟨oc,od,.func (W.fnOf x q (w8 st) (xg st) (zS st) .none kV doc pm an cdv ct),osl⟩) (c:W.codeIn K cdv q=true) (k:W.keepIn K (.ref f)=true):Gn K C x q st:=⟨f,_,a,i,U7 l c k⟩
theorem X5 {i:Int} {t:Tok} {n:Nat} (a:W.nsIn K mainGlobals x=some (some (.ref f))) (l:K.lookup f=some ⟨oc,od,.func (W.fnOf x x (w8 st) (xg st) (zS st) (.ref T) kV doc pm an cdv ct),osl⟩) (c:W.codeIn K cdv x=true) (k:W.keepIn K (.ref f)=true) (d:K.lookup T=some ⟨oT,dT,.seq #[.int i t] n,sT⟩):Gi K x st i:=⟨f,_,t,a,zQB l c k d rfl⟩
theorem Gc.cls (g:Gc K x C) (X:K.In h) (G:h.Ns mainGlobals mg):xy K mg x C:=⟨⟨g.pg,g.hd,g.po,g.sa⟩,W.mg_of X G g.nm,g.ha,g.hn,g.tk,g.hm⟩
abbrev Bn (x q:Str) (st:Stmt) (ps:List Str):Prop:=∀ (kV doc pm:Value) (an:Option Addr) (cdv ct:Value) (us:List Value),us.length=ps.length->bindArgs (W.fnOf x q (w8 st) (xg st) (zS st) .none kV doc pm an cdv ct) ⟨us,[]⟩=pure (ps.zip us)
structure Wh (P:Program) (w:World) (K:W.Frag) (mg:Str->Option Value) (base h:Heap):Prop where
 X:K.In h
 G:h.Ns mainGlobals mg
theorem Gf.fn (g:Gf K x st f fd) (Y:Wh P w K mg base h) (o:zF P w K mg base zY k f fd ps sp) (b:Bn x x st ps:=by intro _ _ _ _ _ _; first | exact L2.zMe λ_=>rfl | exact L2.X2 λ_ _=>rfl | exact L2.UR λ_ _ _=>rfl | exact L2.zMd λ_ _ _ _=>rfl | exact L2.zMc λ_ _ _ _ _=>rfl | exact L2.zMb λ_ _ _ _ _ _ _=>rfl):Fn P w K mg base x ps k sp:=⟨f,fd,o,W.mg_of Y.X Y.G g.at_,g.F.kp,g.F.binds b⟩
theorem Gm.fm (g:Gm K C x q st f fd) (_:Wh P w K mg base h) (o:zF P w K mg base zY k f fd ps sp) (b:Bn x q st ps:=by intro _ _ _ _ _ _; first | exact L2.zMe λ_=>rfl | exact L2.X2 λ_ _=>rfl | exact L2.UR λ_ _ _=>rfl | exact L2.zMd λ_ _ _ _=>rfl | exact L2.zMc λ_ _ _ _ _=>rfl | exact L2.zMb λ_ _ _ _ _ _ _=>rfl):jW P w K mg base C x ps k sp:=⟨f,fd,o,⟨g.at_,g.fn,g.F.kp⟩,g.F.binds b⟩
theorem Gm.fc {y:Str} (g:Gm K C "__init__" q st f fd) (_:Wh P w K mg base h) (c:Gc K y C) (o:zF P w K mg base zY k f fd ps sp) (b:Bn "__init__" q st ps:=by intro _ _ _ _ _ _; first | exact L2.zMe λ_=>rfl | exact L2.X2 λ_ _=>rfl | exact L2.UR λ_ _ _=>rfl | exact L2.zMd λ_ _ _ _=>rfl | exact L2.zMc λ_ _ _ _ _=>rfl | exact L2.zMb λ_ _ _ _ _ _ _=>rfl):qP P w K mg base C ps k sp:=⟨f,fd,o,⟨c.mk_,g.at_,g.fn,c.kc⟩,g.F.binds b⟩
theorem Gd.fn {i:Int} {t:Tok} (g:Gd K x st f fd (.int i t)) (Y:Wh P w K mg base h) (b:∀ (T:Addr) (kV doc pm:Value) (an:Option Addr) (cdv ct:Value) (us:List Value),us.length=ps.length->∃ k:Option (Array Value)->Sem (List (Str × Value)),bindArgs (W.fnOf x x (w8 st) (xg st) (zS st) (.ref T) kV doc pm an cdv ct) ⟨us,[]⟩=seqItems? (.ref T) >>= k/\k (some #[.int i t])=pure (ps.zip us))
  (d:∀ (T:Addr) (kV doc pm:Value) (an:Option Addr) (cdv ct:Value) (us:List Value),us.length + 1=ps.length->∃ k:Option (Array Value)->Sem (List (Str × Value)),bindArgs (W.fnOf x x (w8 st) (xg st) (zS st) (.ref T) kV doc pm an cdv ct) ⟨us,[]⟩=seqItems? (.ref T) >>= k/\k (some #[.int i t])=pure (ps.zip (us++[.int i t]))) (o:zF P w K mg base zY k f fd ps sp):wr P w K mg base x ps k sp (.int i):=
 ⟨f,fd,_,o,W.mg_of Y.X Y.G g.at_,g.F.kp,g.F.binds b,g.F.binds1 d,⟨_,rfl⟩⟩
end
end L2
namespace K74
open PySem L2 Sh Pu
abbrev Gq (K:W.Frag) (x:Str) (st:Stmt) (c:Addr):Prop:=∃ f fd,Gf K x st f fd/\fd.code=.ref c
theorem gq_mk {K:W.Frag} {x:Str} {st:Stmt} {f c0:Addr} {oc kV doc pm ct:Value} {od an:Option Addr} {osl:_} (a:W.nsIn K mainGlobals x=some (some (.ref f))) (l:K.lookup f=some ⟨oc,od,.func (W.fnOf x x (w8 st) (xg st) (zS st) .none kV doc pm an (.ref c0) ct),osl⟩) (c:W.codeIn K (.ref c0) x=true) (k:W.keepIn K (.ref f)=true):Gq K x st c0:=⟨f,_,⟨a,U7 l c k⟩,rfl⟩
variable [iT:yd]
theorem zQ8 {F:FL} (h:∀ ds R,¬ F ds R):∀ vs H Q E,¬ zH F vs H Q E:=λ_ _ _ _ ⟨_,ds,R,_,_,f,_⟩=>h ds R f
theorem zN1:∀ ds R,¬ Y5 0 ds R:=λ_ _ ⟨_,_,_,h,_⟩=>by cases h
theorem all_mk {cL Pt:Addr} (hI:∀ H,yd.I H ↔ yM Pt "least_place.<locals>.<lambda>" ⟨156,27,156,54⟩ H) {l:W.OpenLaw} {w:World} {K:W.Frag} {h:Heap} {mg:Str->Option Value} {fa:Addr} (X:K.In h) (G:h.Ns mainGlobals mg) (hfa:mg "law" = some (.ref fa))
  {ag ah:Addr}
  (GMode:Gc K "Mode" ag)
  (GThing:Gc K "Thing" ah)
  (cz:W.findIn K (.ref ag) "rows" = some none)
  (cA:W.findIn K (.ref ag) "nexts" = some none)
  (cB:W.findIn K (.ref ag) "steer" = some none)
  (cC:W.findIn K (.ref ag) "push" = some none)
  (cD:W.findIn K (.ref ag) "add" = some none)
  (cE:W.findIn K (.ref ag) "divisor" = some none)
  (cF:W.findIn K (.ref ah) "many" = some none)
  (cG:W.findIn K (.ref ah) "kept_pushes" = some none)
  (cH:W.findIn K (.ref ah) "kept_modes" = some none)
  (z0:W.nsIn K mainGlobals "isinstance" = some none)
  (z1:W.nsIn K mainGlobals "int" = some none)
  (z2:W.nsIn K mainGlobals "bool" = some none)
  (z3:W.nsIn K mainGlobals "tuple" = some none)
  (z4:W.nsIn K mainGlobals "len" = some none)
  (z5:W.nsIn K mainGlobals "all" = some none)
  (z6:W.nsIn K mainGlobals "list" = some none)
  (z7:W.nsIn K mainGlobals "range" = some none)
  (z8:W.nsIn K mainGlobals "zip" = some none)
  (z9:W.nsIn K mainGlobals "sum" = some none)
  (z10:W.nsIn K mainGlobals "max" = some none)
  (z11:W.nsIn K mainGlobals "enumerate" = some none)
  (z12:W.nsIn K mainGlobals "min" = some none)
  (z13:W.nsIn K mainGlobals "abs" = some none)
  {gt0:Tok} (cst0:W.nsIn K mainGlobals "MOST_NUMBERS" = some (some (.int 3 gt0)))
  {gt1:Tok} (cst1:W.nsIn K mainGlobals "MOST_PUSHES" = some (some (.int 6 gt1)))
  {gt2:Tok} (cst2:W.nsIn K mainGlobals "MOST_MODES" = some (some (.int 40 gt2)))
  : Ge K "is_whole" KP->Ge K "is_numbers" KQ->Ge K "is_table" KR->Gi K "copied" KS 5->Gi K "unit" KU 1->Ge K "paired" KW->Ge K "added_up" KY->Ge K "is_row" KZ->Ge K "is_room" Ka->Ge K "single" Kb->Gn K ag "__init__" "Mode.__init__" Kc->Ge K "is_push" Ke->Ge K "is_mode" Kf->Ge K "is_sound" Kg->Gn K ah "__init__" "Thing.__init__" Ki->Gn K ah "pushes" "Thing.pushes" Kj->Gn K ah "modes" "Thing.modes" Kk->Ge K "is_unsteered" Kl->Gn K ah "is_closed" "Thing.is_closed" Km->Ge K "ask_closed" Kn->Ge K "reach" Ko->Ge K "common_divisor" Kq->Gi K "fraction" Kr 1->Ge K "minus" Kt->Ge K "times" Ku->Ge K "under" Kv->Ge K "ceiling_of" Kw->Ge K "raw_sum" Kx->Ge K "along" Ky->Ge K "holds" Kz->Ge K "first_with" K0->Ge K "put_ahead" K1->Ge K "cleared" K2->Ge K "solved" K3->Ge K "axes" K4->Ge K "corner_point" K5->Ge K "weights_of" K6->Ge K "over_one_bottom" K7->Ge K "exchanged" K8->Ge K "way_off" K9->Gq K "least_place" zCv cL->Ge K "first_broken" zCd->Ge K "first_met" zDd->Ge K "spread" zGQ->Ge K "first_corner" zCc->Ge K "climbed" zFJ->Ge K "most" zKn->Ge K "_law_cell_at" zDc->Ge K "_law_stream" zED->Ge K "_law_number" zEE->Ge K "_law_box" zIO->Ge K "_law_rows" zGU->Ge K "_law_made" zGX->Ge K "_law_top" zIM->Ge K "_law_mode" zGW->Ge K "_law_thing" zFB->Ge K "worst_pushes" zCa->Ge K "without_pushes" zB9->Ge K "first_room" zDF->Ge K "grown_bound" zCw->Ge K "grown_once" zDD->Ge K "grown" zIQ->Ge K "_law_divisor" zDb->Ge K "_law_lowest" zEF->Ge K "_law_plus" zGV->Ge K "_law_along" zFF->Ge K "_law_holds" zFE->Ge K "_law_lies" zGY->Ge K "_law_point" zFD->Ge K "_law_behind" zEG->Ge K "_law_run" zIN->Ge K "_law_shape" zFC->Ge K "_law_whole" zFA->Ge K "law" ZF->∃ fd:FuncData,(∀ (s:Shared) (v:Value),BindsTo s fd ⟨[v],[]⟩ [("_law_script",v)])/\∀ base:Heap,K.In base->base.Ns mainGlobals mg->we base mg cL Pt->zF l.prog w K mg base zY 10 fa fd ["_law_script"] (zH qH):=by
 rintro ⟨_,_,G0⟩ ⟨_,_,G1⟩ ⟨_,_,G2⟩ ⟨_,_,_,G3⟩ ⟨_,_,_,G4⟩ ⟨_,_,G5⟩ ⟨_,_,G6⟩ ⟨_,_,G7⟩ ⟨_,_,G8⟩ ⟨_,_,G9⟩ ⟨_,_,G10⟩ ⟨_,_,G11⟩ ⟨_,_,G12⟩ ⟨_,_,G13⟩ ⟨_,_,G14⟩ ⟨_,_,G15⟩ ⟨_,_,G16⟩ ⟨_,_,G17⟩ ⟨_,_,G18⟩ ⟨_,_,G19⟩ ⟨_,_,G20⟩ ⟨_,_,G21⟩ ⟨_,_,_,G22⟩ ⟨_,_,G23⟩ ⟨_,_,G24⟩ ⟨_,_,G25⟩ ⟨_,_,G26⟩ ⟨_,_,G27⟩ ⟨_,_,G28⟩ ⟨_,_,G29⟩ ⟨_,_,G30⟩ ⟨_,_,G31⟩ ⟨_,_,G32⟩ ⟨_,_,G33⟩ ⟨_,_,G34⟩ ⟨_,_,G35⟩ ⟨_,_,G36⟩ ⟨_,_,G37⟩ ⟨_,_,G38⟩ ⟨_,_,G39⟩ ⟨_,_,G40,ecd⟩ ⟨_,_,G41⟩ ⟨_,_,G42⟩ ⟨_,_,G43⟩ ⟨_,_,G44⟩ ⟨_,_,G45⟩ ⟨_,_,G46⟩ ⟨_,_,G47⟩ ⟨_,_,G48⟩ ⟨_,_,G49⟩ ⟨_,_,G50⟩ ⟨_,_,G51⟩ ⟨_,_,G52⟩ ⟨_,_,G53⟩ ⟨_,_,G54⟩ ⟨_,_,G55⟩ ⟨_,_,G56⟩ ⟨_,_,G57⟩ ⟨_,_,G58⟩ ⟨_,_,G59⟩ ⟨_,_,G60⟩ ⟨_,_,G61⟩ ⟨_,_,G62⟩ ⟨_,_,G63⟩ ⟨_,_,G64⟩ ⟨_,_,G65⟩ ⟨_,_,G66⟩ ⟨_,_,G67⟩ ⟨_,_,G68⟩ ⟨_,_,G69⟩ ⟨_,_,G70⟩ ⟨_,_,G71⟩ ⟨_,_,G72⟩ ⟨_,_,G73⟩
 have e:=hfa.symm.trans (W.mg_of X G G73.at_)
 cases e
 have B:Bl mg:=⟨W.mg_none_of X G z0,W.mg_none_of X G z1,W.mg_none_of X G z2,W.mg_none_of X G z3,W.mg_none_of X G z4,W.mg_none_of X G z5,W.mg_none_of X G z6,W.mg_none_of X G z7,W.mg_none_of X G z8,W.mg_none_of X G z9,W.mg_none_of X G z10,W.mg_none_of X G z11,W.mg_none_of X G z12,W.mg_none_of X G z13,⟨_,W.mg_of X G cst0⟩,⟨_,W.mg_of X G cst1⟩,⟨_,W.mg_of X G cst2⟩⟩
 have aa:=GMode.cls X G
 have ab:zO3 K ag:=⟨cz,cA,cB,cC,cD,cE⟩
 have ae:=GThing.cls X G
 have af:zMf K ah:=⟨cF,cG,cH⟩
 obtain ⟨_,_,kV,dc,pm,an,cd,ct,_,rfl,_⟩:=G73.F.ex
 refine ⟨W.fnOf "law" "law" (w8 ZF) (xg ZF) (zS ZF) .none kV dc pm an cd ct,λs v=>.of_eq rfl,λbase _ _ T=>?_⟩
 have Yw:Wh l.prog w K mg base h:=⟨X,G⟩
 have N0:=G0.fn Yw (zIY (k:=0) aa ab ae af B G0.F )
 have N1:=G1.fn Yw (zGq (k:=1) aa ab ae af B G1.F N0.mono)
 have N2:=G2.fn Yw (zIZ (k:=2) aa ab ae af B G2.F N1.mono)
 have D3:=λ{k sp}=>G3.fn (ps:=["value","depth"]) (k:=k) (sp:=sp) Yw (λ_ _ _ _ _ _ _=>L2.X2 λ_ _=>⟨_,rfl,rfl⟩) λ_ _ _ _ _ _ _ us hl=>match us,hl with | [_],_=>⟨_,rfl,rfl⟩
 have N3_0:=D3 (zF.no (k:=1) (sp:=(zH (Y5 0))) (zQ8 zN1))
 have N3_1:=D3 (X1 (k:=1) (j:=0) aa ab ae af B G3.F N3_0.mono)
 have N3_2:=D3 (X1 (k:=2) (j:=1) aa ab ae af B G3.F N3_1.mono)
 have N3_3:=D3 (X1 (k:=3) (j:=2) aa ab ae af B G3.F N3_2.mono)
 have N3_4:=D3 (X1 (k:=4) (j:=3) aa ab ae af B G3.F N3_3.mono)
 have N3_5:=D3 (X1 (k:=5) (j:=4) aa ab ae af B G3.F N3_4.mono)
 have N3:=N3_5
 have D4:=λ{k sp}=>G4.fn (ps:=["place","wide","number"]) (k:=k) (sp:=sp) Yw (λ_ _ _ _ _ _ _=>L2.UR λ_ _ _=>⟨_,rfl,rfl⟩) λ_ _ _ _ _ _ _ us hl=>match us,hl with | [_,_],_=>⟨_,rfl,rfl⟩
 have N4:=D4 (zPw (k:=0) aa ab ae af B G4.F )
 have N5:=G5.fn Yw (zLO (k:=0) aa ab ae af B G5.F )
 have N6:=G6.fn Yw (zIc (k:=0) aa ab ae af B G6.F )
 have N7:=G7.fn Yw (zLU (k:=1) aa ab ae af B G7.F N0.mono)
 have N8:=G8.fn Yw (zKA (k:=2) aa ab ae af B G8.F N7.mono)
 have N9:=G9.fn Yw (zLN (k:=1) aa ab ae af B G9.F N4.mono)
 have N10:=G10.fc Yw GMode (zEm (k:=6) aa ab ae af B G10.F N3.mono)
 have N11:=G11.fn Yw (zKB (k:=1) aa ab ae af B G11.F N0.mono)
 have N12:=G12.fn Yw (zKC (k:=3) aa ab ae af B G12.F N8.mono N2.mono N1.mono N0.mono)
 have N13:=G13.fn Yw (zIa (k:=4) aa ab ae af B G13.F N0.mono N11.mono N12.mono)
 have N14:=G14.fc Yw GThing (zEQ (k:=5) aa ab ae af B G14.F N13.mono)
 have N15:=G15.fm Yw (zFW (k:=0) aa ab ae af B G15.F )
 have N16:=G16.fm Yw (zFu (k:=0) aa ab ae af B G16.F )
 have N17:=G17.fn Yw (zFS (k:=0) aa ab ae af B G17.F )
 have N18:=G18.fm Yw (zDz (k:=1) aa ab ae af B G18.F N17.mono)
 have N19:=G19.fn Yw (zGv (k:=2) aa ab ae af B G19.F N18.mono)
 have N20:=G20.fn Yw (zNU (k:=1) aa ab ae af B G20.F N6.mono N15.mono N5.mono)
 have N21:=G21.fn Yw (zEP (k:=0) aa ab ae af B G21.F )
 have D22:=λ{k sp}=>G22.fn (ps:=["top","bottom"]) (k:=k) (sp:=sp) Yw (λ_ _ _ _ _ _ _=>L2.X2 λ_ _=>⟨_,rfl,rfl⟩) λ_ _ _ _ _ _ _ us hl=>match us,hl with | [_],_=>⟨_,rfl,rfl⟩
 have N22:=D22 (zIb (k:=1) aa ab ae af B G22.F N0.mono N21.mono)
 have N23:=G23.fn Yw (zNV (k:=2) aa ab ae af B G23.F N22.mono)
 have N24:=G24.fn Yw (zNT (k:=2) aa ab ae af B G24.F N22.mono)
 have N25:=G25.fn Yw (zNS (k:=0) aa ab ae af B G25.F )
 have N26:=G26.fn Yw (zGu (k:=0) aa ab ae af B G26.F )
 have N27:=G27.fn Yw (zJ3 (k:=0) aa ab ae af B G27.F )
 have N28:=G28.fn Yw (zNb (k:=2) aa ab ae af B G28.F N27.mono N22.mono)
 have N29:=G29.fn Yw (zNZ (k:=1) aa ab ae af B G29.F N27.mono)
 have N30:=G30.fn Yw (zGs (k:=0) aa ab ae af B G30.F )
 have N31:=G31.fn Yw (zHd (k:=0) aa ab ae af B G31.F )
 have N32:=G32.fn Yw (zKE (k:=0) aa ab ae af B G32.F )
 have N33:=G33.fn Yw (zLM (k:=2) aa ab ae af B G33.F N30.mono N31.mono N32.mono N22.mono)
 have N34:=G34.fn Yw (zPy (k:=2) aa ab ae af B G34.F N9.mono)
 have N35:=G35.fn Yw (zFV (k:=3) aa ab ae af B G35.F N33.mono)
 have N36:=G36.fn Yw (zGp (k:=3) aa ab ae af B G36.F N33.mono)
 have N37:=G37.fn Yw (zDy (k:=1) aa ab ae af B G37.F N21.mono)
 have N38:=G38.fn Yw (zHh (k:=0) aa ab ae af B G38.F )
 have N39:=G39.fn Yw (zJ2 (k:=3) aa ab ae af B G39.F N37.mono N33.mono)
 have N40:=G40.fn Yw (zFs (k:=2) (hI:=hI) (hc:=ecd) (T:=T) (k2:=by decide) aa ab ae af B G40.F )
 have N41:=G41.fn Yw (zFU (k:=2) aa ab ae af B G41.F N29.mono)
 have N42:=G42.fn Yw (zHg (k:=3) aa ab ae af B G42.F N22.mono N5.mono N24.mono N23.mono N28.mono N25.mono)
 have N43:=G43.fn Yw (zLL (k:=2) aa ab ae af B G43.F N37.mono)
 have N44:=G44.fn Yw (zFT (k:=4) aa ab ae af B G44.F N36.mono N40.mono N38.mono)
 have N45:=G45.fn Yw (zKD (k:=4) aa ab ae af B G45.F N35.mono N36.mono N40.mono N43.mono N28.mono N39.mono N42.mono N38.mono)
 have N46:=G46.fn Yw (zPx (k:=5) aa ab ae af B G46.F N34.mono N44.mono N41.mono N35.mono N45.mono N36.mono N40.mono N22.mono N43.mono N38.mono)
 have N47:=G47.fn Yw (zHf (k:=0) aa ab ae af B G47.F )
 have N48:=G48.fn Yw (zIU (k:=0) aa ab ae af B G48.F )
 have N49:=G49.fn Yw (zIV (k:=0) aa ab ae af B G49.F )
 have N50:=G50.fn Yw (zNY (k:=1) aa ab ae af B G50.F N48.mono N49.mono)
 have N51:=G51.fn Yw (zLP (k:=0) aa ab ae af B G51.F )
 have N52:=G52.fn Yw (zLS (k:=7) aa ab ae af B G52.F N10.mono N14.mono)
 have N53:=G53.fn Yw (zNW (k:=0) aa ab ae af B G53.F )
 have N54:=G54.fn Yw (zLR (k:=1) aa ab ae af B G54.F N48.mono N49.mono)
 have N55:=G55.fn Yw (zJ5 (k:=2) aa ab ae af B G55.F N47.mono N54.mono)
 have N56:=G56.fn Yw (zFR (k:=1) aa ab ae af B G56.F N15.mono)
 have N57:=G57.fn Yw (zEO (k:=2) aa ab ae af B G57.F N5.mono N56.mono)
 have N58:=G58.fn Yw (zGt (k:=6) aa ab ae af B G58.F N46.mono N26.mono)
 have N59:=G59.fn Yw (zFt (k:=6) aa ab ae af B G59.F N16.mono N57.mono N20.mono N46.mono N24.mono N22.mono N23.mono N26.mono)
 have N60:=G60.fn Yw (zGr (k:=7) aa ab ae af B G60.F N19.mono N59.mono)
 have N61:=G61.fn Yw (zNa (k:=8) aa ab ae af B G61.F N19.mono N58.mono N60.mono)
 have N62:=G62.fn Yw (zHe (k:=0) aa ab ae af B G62.F )
 have N63:=G63.fn Yw (zIW (k:=1) aa ab ae af B G63.F N62.mono)
 have N64:=G64.fn Yw (zLQ (k:=2) aa ab ae af B G64.F N63.mono)
 have N65:=G65.fn Yw (zJ9 (k:=3) aa ab ae af B G65.F N64.mono)
 have N66:=G66.fn Yw (zJ8 (k:=4) aa ab ae af B G66.F N65.mono)
 have N67:=G67.fn Yw (zLT (k:=5) aa ab ae af B G67.F N66.mono)
 have N68:=G68.fn Yw (zJ7 (k:=2) aa ab ae af B G68.F N48.mono N63.mono)
 have N69:=G69.fn Yw (zIX (k:=4) aa ab ae af B G69.F N64.mono N65.mono N63.mono)
 have N70:=G70.fn Yw (zNX (k:=6) aa ab ae af B G70.F N67.mono N68.mono N69.mono)
 have N71:=G71.fn Yw (zJ6 (k:=1) aa ab ae af B G71.F N48.mono N49.mono)
 have N72:=G72.fn Yw (zJ4 (k:=0) aa ab ae af B G72.F )
 exact zR4 (k:=9) aa ab ae af B G73.F N55.mono N52.mono N50.mono N47.mono N51.mono N71.mono N58.mono N53.mono N61.mono N72.mono N70.mono N68.mono N67.mono N60.mono
def zLY (o:Obj):Bool:=match o.cls with
 | .type t=>!(t == "list")
 | _=>true
theorem nolist {K:cI} (h:K.all (λp=>zLY p.2)=true) (a:Addr) (o:Obj) (e:K.lookup a=some o):o.cls≠.type "list":=λz=>by
 have m:∃ b,(b,o)∈K:=by
  clear h
  induction K with
  | nil=>cases e
  | cons p K ih=>
   obtain ⟨b,o'⟩:=p
   rw [dw] at e
   cases q:a == b with
   | true=>rw [q] at e; cases e; exact ⟨b,cO⟩
   | false=>rw [q] at e; obtain ⟨c,hc⟩:=ih e; exact ⟨c,cK _ hc⟩
 obtain ⟨b,hb⟩:=m
 have:=di.mp h _ hb
 unfold zLY at this
 rw [z] at this
 exact absurd this (by decide)
theorem walk {l:m_} {q:Program} {loose:List Str} {XP:(Str->Option Value)->Heap->Prop} {YP:World->Heap->Prop} {d:DefRec} {K:Params->cI} {cL Pt:Addr} (hI:∀ H,yd.I H ↔ yM Pt "least_place.<locals>.<lambda>" ⟨156,27,156,54⟩ H) (hn:l.most=some 63) (hdf:d.params.defaults=[])
  (hY:∀ (w:World) (h:Heap),YP w h->(K w.params).In h) (hrec:∃ d2,(PyProof.Rows.recsOf q).find? (λe=>e.name == ("least_place" : Str))=some d2) (htab:∀ w:World,nI (K w.params) "least_place" = some (cL,Pt)) (hKP:∀ w:World,(K w.params).lookup Pt=none)
  (hL:∀ (p:Params) (a:Addr) (o:Obj),(K p).lookup a=some o->o.cls≠.type "list")
  (F:∀ (w:World) (mg:Str->Option Value) (fa:Addr) (h:Heap),(K w.params).In h->h.Ns mainGlobals mg->mg d.name=some (.ref fa)->
   ∃ fd:FuncData,(∀ (s:Shared) (u:Value),BindsTo s fd ⟨[u],[]⟩ [("_law_script",u)])/\∀ base:Heap,(K w.params).In base->base.Ns mainGlobals mg->we base mg cL Pt->zF l.prog w (K w.params) mg base zY 10 fa fd ["_law_script"] (zH qH)) :
  nJ q loose XP YP l.row.toRowW d [] (λf vs=>PySem.call f vs):=
 hrec.elim λ_ hrec=>L2.zMl (n:=63) (k:=10) (x:="_law_script") (x2:="least_place") (sp:=λ_=>zH qH) hn (by decide) hdf ⟨rfl,by decide,by decide⟩ hY hrec htab hKP F (λw H a ns _ hO hS=>⟨λ_=>False,[.scr ns],λd=>d=.bool true,⟨λ_ z=>z.elim,(hI H).mpr (.inl hO.1)⟩,.cons (.scr ((hS.elim id λ⟨o,_,_,h1,h2,_⟩=>absurd h2 (hL w.params a o h1)).imp (λe=>uR (λz=>z) e) λ⟨o,e⟩=>⟨o,uR (λz=>z) e⟩)) .nil,⟨ns,rfl,rfl⟩,λd v H2 e _ h=>by subst e; cases h; rfl⟩)
end K74
open PySem PySem.W PyProof.Rows
set_option maxRecDepth 100000 in
set_option maxHeartbeats 0 in
theorem PySem.Challenge.cw_steadyhand_k74_whole_grown_rooms_are_kep_holds : PySem.Challenge.rw_steadyhand_k74_whole_grown_rooms_are_kep.Holds := by
 w_on; o_law
 refine holds_open (q:=H74.vw) (loose:=H74.lo) (Xt:=H74.xt) (XP:=XL H74.vw []) (Yf:=(kHook H74.KK H74.ks H74.ke).obs) (Ya:=(kHook H74.KK H74.ks H74.ke).val) (YP:=(kHook H74.KK H74.ks H74.ke).says) H74.left
  (kHook H74.KK H74.ks H74.ke).of (kHook H74.KK H74.ks H74.ke).keeps
  (λs e=>xl_of s (e7.mp e).1) XL.keeps (by rfl) (by rfl) (by rfl)
  (λs e=>recFacts_of (e7.mp e).2) (by rfl) (by assumption) (by decide +kernel)
  ⟨rfl,rfl,rfl,rfl,rfl,by decide +kernel⟩ ?hw ?hc
 case hw=>w_witness2
 rename_i sd
 clear sd
 k_fill
 refine K74.walk (l:=PySem.Challenge.rw_steadyhand_k74_whole_grown_rooms_are_kep) (iT:=Pu.tbI 263 "least_place.<locals>.<lambda>" ⟨156,27,156,54⟩) (cL:=265) (Pt:=263) (λ_=>Iff.rfl) rfl rfl (λw h Y=>PySem.W.kIn_of Y) ?hrec ?htab ?hKP (λp a o=>K74.nolist (iT:=Pu.tbI 263 "least_place.<locals>.<lambda>" ⟨156,27,156,54⟩) (K:=H74.KK p) (by kernel_rfl) a o) ?F
 case hrec=>exact ⟨_,rfl⟩
 case htab=>intro w; first | rfl | kernel_rfl
 case hKP=>intro w; rfl
 case F=>
  intro w mg fa h KX G hmg
  refine' K74.all_mk (iT:=Pu.tbI 263 "least_place.<locals>.<lambda>" ⟨156,27,156,54⟩) (λ_=>Iff.rfl) KX G hmg ?g_Mode ?g_Thing ?_ ?_ ?_ ?_ ?_ ?_ ?_ ?_ ?_ ?_ ?_ ?_ ?_ ?_ ?_ ?_ ?_ ?_ ?_ ?_ ?_ ?_ ?_ ?_ ?_ ?_ ?_ ?_ ?_ ?_ ?_ ?_ ?_ ?_ ?_ ?_ ?_ ?_ ?_ ?_ ?_ ?_ ?_ ?_ ?_ ?_ ?_ ?_ ?_ ?_ ?_ ?_ ?_ ?_ ?_ ?_ ?_ ?_ ?_ ?_ ?_ ?_ ?_ ?_ ?_ ?_ ?_ ?_ ?_ ?_ ?_ ?_ ?_ ?_ ?_ ?_ ?_ ?_ ?_ ?_ ?_ ?_ ?_ ?_ ?_ ?_ ?_ ?_ ?_ ?_ ?_ ?_ ?_ ?_ ?_ ?_ ?_ ?_ ?_ ?_
  (case g_Mode=>refine' L2.Gc.mk ?a ?b ?c ?d ?e ?f ?g ?h ?i ?j ?k; (case a=>k_is); (case b=>k_is); (case c=>k_is); (case d=>k_is); (case e=>k_is); (case f=>k_is); (case g=>k_is); (case h=>k_is); (case i=>k_is); (case j=>k_is); (case k=>k_is))
  (case g_Thing=>refine' L2.Gc.mk ?a ?b ?c ?d ?e ?f ?g ?h ?i ?j ?k; (case a=>k_is); (case b=>k_is); (case c=>k_is); (case d=>k_is); (case e=>k_is); (case f=>k_is); (case g=>k_is); (case h=>k_is); (case i=>k_is); (case j=>k_is); (case k=>k_is))
  any_goals first | (refine' L2.Gc.mk ?a ?b ?c ?d ?e ?f ?g ?h ?i ?j ?k; (case a=>k_is); (case b=>k_is); (case c=>k_is); (case d=>k_is); (case e=>k_is); (case f=>k_is); (case g=>k_is); (case h=>k_is); (case i=>k_is); (case j=>k_is); (case k=>k_is)) | (refine' L2.X3 ?a ?l ?c ?k; (case a=>k_is); (case l=>k_is); (case c=>k_is); (case k=>k_is)) | (refine' K74.gq_mk ?a ?l ?c ?k; (case a=>k_is); (case l=>k_is); (case c=>k_is); (case k=>k_is)) | (refine' L2.X4 ?a ?i ?l ?c ?k; (case a=>k_is); (case i=>k_is); (case l=>k_is); (case c=>k_is); (case k=>k_is)) | (refine' L2.X5 ?a ?l ?c ?k ?d; (case a=>k_is); (case l=>k_is); (case c=>k_is); (case k=>k_is); (case d=>k_is)) | (refine' L2.gk_mk ?a ?z ?l ?c ?k ?d; (case a=>k_is); (case z=>k_is); (case l=>k_is); (case c=>k_is); (case k=>k_is); (case d=>k_is)) | k_is
#print axioms PySem.Challenge.cw_steadyhand_k74_whole_grown_rooms_are_kep_holds
