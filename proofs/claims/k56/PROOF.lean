import PyProof.Rows.All
import Wide.All
import OpenK.AllK
import Wide.FinOn
import Lean
import PyProof.EqAt
import PyProof.EqKinds
import PyProof.TupleCall
import PyProof.ZipIter
import PyProof.Draws
import PyProof.StationsW
import PyProof.EnumStmt
import PyProof.EnumMake
import PyProof.CallType
import PyProof.Rows.CallKwBuiltin
import PyProof.EnumIter
import PyProof.Rows.SeqMore
import PyProof.P3In
import PySem.Challenge.RW_steadyhand_k56_papers_of_rooms_as_told
open List renaming length_map→a_,getD_eq_getElem?_getD→cg,length_append→cj,getElem?_eq_getElem→ck,mem_cons_of_mem→cn,mem_cons_self→cq,mem_map→cr,mem_cons→cu,replicate→cv,map_map→cw,map_append→cx,size_toArray→cz,length_take→cE,getElem?_eq_some_iff→cH,length_range→cI,length_cons→cJ,all_eq_true→cK,take_of_length_le→cL,map_congr_left→cN,mem_singleton→cQ,range→cR,getElem?_map→cS,map_cons→cT,mem_append_right→cU,not_mem_nil→cW,take_append_of_le_length→cX,mem_of_getElem?→cY,mem_append→cZ,of_mem_zip→c_,getElem?_set_ne→da,length_drop→db,getElem?_append_right→dg,zipWith→dh,length_replicate→di,getElem?_range→dj,getElem?_append_left→dm,mem_filter→dq,replicate_succ→dr,mem_range→du,lookup_cons→dy,mem_of_mem_drop→dB,getElem?_set_self→dD,append_nil→dF,map→dG,getElem_mem→dN,length→dS,eq_of_mem_replicate→dX,flatten_cons→d9,append_assoc→d_,filterMap_cons→ek,length_zip→eA,getElem?_eq_none→eC,map_singleton→eE,take_succ_eq_append_getElem→eG,getElem?_cons_succ→eP,take_length→eR,range_succ_eq_map→eW,length_singleton→eX,getElem?_toArray→eZ,length_set→e7,map_id→e_,map_drop→fg,mem_of_mem_take→fj,any_eq_true→fo,ext_getElem→fu,length_flatten→fD,getD_cons_succ→fE,nodup_cons→fJ,foldl_cons→fL,forIn_cons→fM,map_replicate→fQ,zipWith_cons_cons→fV,lookup→fW,range'→fY,forIn_nil→f8,map_nil→f_,zipIdx_cons→hV,mem_append_left→hW,mem_iff_getElem→hZ,zipIdx_nil→ia,take_succ_cons→ib,mem_filterMap→ig,mapIdx_eq_mapIdx_iff→io,foldl_append→ir,getElem?_replicate→iw,sum_cons→iA,mem_flatten→iE,flatten_singleton→iG,drop_eq_nil_of_le→iH,length_filter_le→iL,mem_mapIdx→iM,range_succ→iP,all_append→iQ,mem_iff_getElem?→iR,getElem?_mapIdx→iS,drop_zero→iU,length_zipWith→iZ,flatten_append→i0,zip_cons_cons→i9,getElem?_take→i_,length_range'→j_,length_mapIdx→k_,mapIdx_cons→lT,cons_append→lV,getElem_map→l5,length_nil→me,foldl→mn,any_cons→mr,map_take→mw
open PySem.W renaming Frag→b_,kitOne→cO,kia_one→dE,emptyDict→dI,findIn→dJ,cellsFrom_some→dR,keepIn→dU,fnOf→d7,instObj→eh,kia_tup→eJ,hideAll_get→fC,hideAll→fI,kitx_list→fX,codeIn→f7,plainGet→hG,plainGet_of→h7,of_hideAll→ic,callWith_K→ii,lookIn→il,methodObj→ip,hasDictIn→iq,excIn→iz,takerIn→iI,exmOne→iV,kitAny→iX,kitx_tuple→i5,plainOver→lh,specialIn→lj,kitx_none→lC,kitx_bool→lD,kitx_dict→lE,isFn→lH,handedIn→lL,kitx_int→lO,kitx_str→lQ,makesIn→l6,takesIn→l7,OpenLaw→l8,mroIn→mo,WalkO→mq
open PySem.Heap renaming get?_push_of_some→ci,get?_push_size→cy,lt_size→cA,size_push→dl,get?_update_other→dn,get?_update_self→eY,IsList→iY,MadeExcOf→ml
open PySem.F renaming plainAttrs_list→cB,slot_list_append→cF,type_list_append→cG,args_tuple_add_2→fF,entry_tuple_add→fK,slot_list_clear→fR,type_list_clear→fT,slot_tuple_add→fU
open Nat renaming le_refl→cD,lt_of_lt_of_le→cP,ne_of_lt→de,lt_irrefl→df,le_add_right→dA,le_trans→dH,sub_self→eD,ne_of_gt→eM,zero_le→eO,lt_succ_of_lt→fe,zero_add→gV,two_pow_pos→h_,le_of_lt→ie,sub_zero→ij,add_sub_cancel_left→iy,lt_succ_self→iB,zero_lt_succ→iC,add_zero→iN,lt_of_le_of_lt→i6,le_of_succ_le→lF,succ_lt_succ→lU,min_eq_right→lW,not_lt_zero→l',min_eq_left→l_,succ→mD
open Bool renaming false_ne_true→cV,and_eq_true→dk,false_eq_true→dL,eq_iff_iff→eI,true_and→eQ,and_eq_true_iff→fi,and_false→fk,false_and→fZ,beq_eq_decide_eq→iK,not_true→i8,not_eq_false'→lf,not_eq_true'→lG,and_true→my
open PySem.Str renaming ofString→dM
open Int renaming fdiv_eq_ediv_of_nonneg→dQ,eq_ofNat_of_zero_le→dZ,toNat_natCast→d8,le_refl→eF,zero_mul→eN,mul_le_mul_of_nonneg_left→eS,mul_le_mul_of_nonpos_left→eT,zero_add→e9,zero_sub→fb,max_eq_right→fB,add_zero→fH,max_eq_left→fP,mul_le_mul_of_nonneg_right→g_,mul_comm→ik,ediv_mul_le→iO,mul_nonneg→iW,natAbs_eq_zero→i7,mul_zero→lK,min_eq_right→lZ,one_mul→mf,sub_mul→mh,min_eq_left→mj,gcd→mB
open Option renaming isSome_iff_exists→dW,map_some→fN,filter_eq_some_iff→im,map→iv,map_eq_some_iff→iF,getD_none→lS
open PySem.PyData renaming eqvAll→dY,eqv→eU,canLay0→eV,depth→fG,canLayAll0→iu,depthAll→iJ
open Array renaming length_toList→ez,getElem?_eq_some_iff→eB,append_assoc→i4,toList→mz
set_option Elab.async false
set_option linter.all false
set_option maxRecDepth 100000
set_option maxHeartbeats 0
namespace TT
open PySem PySem.W
noncomputable def runT (tb:String->Option Builtin) (p:Program) (w:World) (k:Nat) (an:Option Value):Nat->SharedT->Thread->Option SharedT
 | 0,_,_=>none
 | j + 1,x,t=>match through t with
  | true=>some x
  | false=>match stepOk k an t with
   | false=>none
   | true=>match stepT (denote tb) p w x t with
    | none=>none
    | some y=>runT tb p w k an j y.1 y.2
theorem zKy {tb:String->Option Builtin} {p:Program} {w:World} {k:Nat} {an:Option Value}:∀ (j:Nat) (x y:SharedT) (t:Thread),runT tb p w k an j x t=some y->topRun tb p w k an j x.abs t=some y.abs
 | 0,_,_,_,e=>by cases e
 | j + 1,x,y,t,e=>by
  unfold runT at e
  unfold topRun
  cases e1:through t with
  | true=>
   rw [e1] at e
   cases e
   rfl
  | false=>
   rw [e1] at e
   cases e2:stepOk k an t with
   | false=>rw [e2] at e; cases e
   | true=>
    rw [e2] at e
    cases e3:stepT (denote tb) p w x t with
    | none=>rw [e3] at e; cases e
    | some z=>
     rw [e3] at e
     rw [stepT_spec e3]
     exact zKy j z.1 y z.2 e
theorem left_is {p q:Program} {lo:List Str} {xt:Shared->Bool} {α:Type} {Yf:Shared->α} {Ya:World->α} {N k n0:Nat} {an:Option Value} {tr:Params->BT} (op:∀ w:World,(fencedOpening treeTable p w N).map (λs=>(s.heap,s.gens,s.drawn,s.toks))=some (boot_heap w.params,Array.mk [],boot_drawn,boot_toks))
  (et:∀ P:Params,absHeap (tr P) n0 (boot_heap P).life=boot_heap P) (z1:∀ P:Params,(boot_heap P).isNs mainGlobals=true) (z2:∀ P:Params,(boot_heap P).objs.size=k) (z3:∀ P:Params,(boot_heap P).nsMap mainGlobals "__annotations__" = an)
  (h:∀ (w:World) (os:OsState),(runT treeTable p w k an N ⟨tr w.params,n0,(boot_heap w.params).life,Array.mk [],boot_drawn,boot_toks,os⟩ (topStub p)).map (λs=>((staticsOk (importedModules p.main.body) (boot_heap w.params) s.abs.heap && namesBound p s.abs.heap && gensDone s.abs && laidKept (boot_heap w.params) s.abs.heap),openSeen q lo (importedModules p.main.body) xt true s.abs,Yf s.abs))=some (true,openGood q lo,Ya w)) :
  LeftO p q lo xt Yf Ya N:=λw=>by
 obtain ⟨⟨hp,gs,d,tk,os⟩,e,e'⟩:=iF.mp (op w)
 injection e' with a1 e'
 injection e' with a2 e'
 injection e' with a3 a4
 subst a1 a2 a3 a4
 obtain ⟨y,ey,eo⟩:=iF.mp (h w os)
 injection eo with l1 eo
 injection eo with l2 l3
 have r:=zKy _ _ _ _ ey
 have r':topRun treeTable p w k an N ⟨boot_heap w.params,Array.mk [],boot_drawn,boot_toks,os⟩ (topStub p)=some y.abs:=by
  rw [<- r]
  unfold SharedT.abs
  rw [et]
 have f:topFrom treeTable p w N ⟨boot_heap w.params,Array.mk [],boot_drawn,boot_toks,os⟩=some y.abs:=by
  unfold topFrom
  show (match (boot_heap w.params).isNs mainGlobals && true with | true=>_ | false=>_)=_
  rw [z1,z2,z3,r']
  show (match (_ && _ && _ && _) with | true=>_ | false=>_)=_
  rw [l1]
 unfold openEnds
 rw [e]
 show (topFrom treeTable p w N _).map _=_
 rw [f]
 exact congrArg some (Prod.ext l2 l3)
end TT
namespace H56
open PySem PySem.W
set_option maxRecDepth 100000
noncomputable def hT (i:Nat):Stmt:=PySem.Challenge.pw_steadyhand_k56_papers_of_rooms_as_told.main.body.getD i (.Pass ⟨0,0,0,0⟩)
noncomputable def hI (i j:Nat):Stmt:=match hT i with
 | .ClassDef _ _ _ b _ _ _ _ _ _ _=>b.getD j (.Pass ⟨0,0,0,0⟩)
 | s=>s
noncomputable def hA:Stmt->Arguments
 | .FunctionDef _ a _ _ _ _ _ _ _ _=>a
 | _=>⟨[],[],none,[],[],none,[]⟩
noncomputable def hB:Stmt->List Stmt
 | .FunctionDef _ _ b _ _ _ _ _ _ _=>b
 | _=>[]
noncomputable def hC:Stmt->Scope
 | .FunctionDef _ _ _ _ _ _ c _ _ _=>c
 | _=>{ kind:=.function,names:=[],isGenerator:=false,isCoroutine:=false }
noncomputable abbrev hS (s:String) (n:Nat):Value:=.str (dM s) n
noncomputable abbrev hE (P:Params) (s:String) (n:Nat) (v:Value):DictEntry:=⟨PyData.keyHash P (dM s),hS s n,v⟩
noncomputable abbrev hU (x:Array Value):Obj:={ cls:=.type "tuple",data:=.seq x }
noncomputable abbrev hD (s:String) (a:Nat) (s2:String) (b c:Nat) (i j f:Int) (r1 r2:Nat) (u v t r:Value) (y z:Int) (d:Nat):Obj:={ cls:=.type "code",data:=.fields #[hS s a,hS s2 b,hS "/claim/cut.py" c,.int i 0,.int j 0,.int 0 0,.int 0 0,.int f 0,.ref r1,.bool true,.int 181 0,.ref r2,u,v,t,r,.int y 0,.int z 0,hS "/claim/cut.py" d] }
noncomputable abbrev hF (n q:String) (s:Stmt) (d k:Value) (m:String) (j c:Nat):Obj:={ cls:=.type "function",data:=.func { name:=n,qualname:=q,params:=hA s,body:=.stmts (hB s),scope:=hC s,globals:=3,closure:=[],defaults:=d,kwdefaults:=k,pyModule:=hS m j,code:=.ref c } }
noncomputable def KK:Params->Frag:=λP=>
 (nat_lit 2,{ cls:=.none,data:=.dict #[] })::(nat_lit 3,{ cls:=.type "dict",data:=.dict #[hE P "__name__" 165 (hS "law_steadyhand_k56_papers_of_rooms_as_told" 852),hE P "__doc__" 166 (.none),hE P "__package__" 167 (.none),hE P "__loader__" 168 (.builtin "__main__.__loader__#opaque"),hE P "__spec__" 169 (.none),hE P "__annotations__" 170 (.ref 6),hE P "__builtins__" 171 (.ref 4),hE P "__file__" 173 (hS "/claim/cut.py" 172),hE P "__cached__" 174 (.none),hE P "_wall" 193 (.ref 21),hE P "SteadyError" 213 (.ref 31),hE P "BadThing" 229 (.ref 44),hE P "TooMany" 245 (.ref 56),hE P "NotClosed" 261 (.ref 68),hE P "is_whole" 270 (.ref 77),hE P "is_numbers" 278 (.ref 82),hE P "is_table" 284 (.ref 87),hE P "copied" 291 (.ref 93),hE P "unit" 298 (.ref 99),hE P "scaled" 304 (.ref 104),hE P "mixed" 310 (.ref 109),hE P "paired" 316 (.ref 114),hE P "added_up" 322 (.ref 119),hE P "Claim" 344 (.ref 129),hE P "Settles" 374 (.ref 151),hE P "Comes" 403 (.ref 170),hE P "is_row" 411 (.ref 177),hE P "is_room" 417 (.ref 182),hE P "single" 427 (.ref 189),hE P "other_side" 433 (.ref 194),hE P "standing" 441 (.ref 199),hE P "reach" 452 (.ref 206),hE P "added" 463 (.ref 213),hE P "is_from_0_on" 470 (.ref 220),hE P "are_shares" 476 (.ref 225),hE P "shows" 482 (.ref 230),hE P "MOST_NUMBERS" 486 (.int 3 485),hE P "MOST_PUSHES" 488 (.int 6 487),hE P "MOST_MODES" 490 (.int 40 489),hE P "Mode" 529 (.ref 247),hE P "Thing" 589 (.ref 294),hE P "is_sound" 595 (.ref 303),hE P "is_push" 602 (.ref 310),hE P "is_mode" 611 (.ref 317),hE P "is_unsteered" 617 (.ref 322),hE P "ask_closed" 624 (.ref 329),hE P "Paper" 646 (.ref 339),hE P "Rooms" 679 (.ref 360),hE P "Falls" 720 (.ref 379),hE P "lets_by" 729 (.ref 388),hE P "is_list_of" 737 (.ref 395),hE P "each_shown" 743 (.ref 400),hE P "settles_over" 751 (.ref 407),hE P "comes_over" 759 (.ref 414),hE P "lets_rooms_by" 768 (.ref 421),hE P "are_rooms" 774 (.ref 426),hE P "rooms_follow" 780 (.ref 431),hE P "leads" 786 (.ref 436),hE P "mode_leads" 792 (.ref 441),hE P "rooms_stay" 798 (.ref 446),hE P "lets_fall_by" 807 (.ref 453),hE P "height_at_most" 815 (.ref 460),hE P "height_from_0_on" 821 (.ref 465),hE P "fall_row" 833 (.ref 472),hE P "floors_hold" 839 (.ref 477),hE P "falls_hold" 845 (.ref 482),hE P "mode_falls" 851 (.ref 487),hE P "_law_cell_at" 861 (.ref 494),hE P "_law_stream" 873 (.ref 501),hE P "_law_number" 881 (.ref 508),hE P "_law_mode" 887 (.ref 513),hE P "_law_thing" 903 (.ref 520),hE P "_law_made" 909 (.ref 525),hE P "_law_box" 922 (.ref 532),hE P "_law_rows" 928 (.ref 537),hE P "_law_top" 939 (.ref 544),hE P "_law_beyond" 945 (.ref 549),hE P "_law_image" 951 (.ref 554),hE P "_law_hull" 957 (.ref 559),hE P "_law_kept" 966 (.ref 566),hE P "_law_both" 975 (.ref 573),hE P "_law_step_shares" 981 (.ref 578),hE P "_law_box_steps" 987 (.ref 583),hE P "_law_box_starts" 996 (.ref 590),hE P "_law_boxes" 1008 (.ref 597),hE P "_law_claim_rows" 1014 (.ref 602),hE P "_law_parts" 1020 (.ref 607),hE P "_law_odd" 1039 (.ref 614),hE P "_law_emptied" 1047 (.ref 621),hE P "_law_claim" 1059 (.ref 628),hE P "_law_open" 1065 (.ref 633),hE P "_law_wide_rows" 1071 (.ref 638),hE P "law" 1089 (.ref 645)] 93 })::(nat_lit 15,hU #[])::(nat_lit 17,hU #[hS "k" 190])::(nat_lit 18,hU #[])::(nat_lit 20,hD "_wall" 187 "_wall" 188 189 1 1 3 15 16 .none (.ref 17) (.ref 18) (.ref 19) 191 1 192)::(nat_lit 21,hF "_wall" "_wall" (hT 0) .none .none "__main__" 164 20)::(nat_lit 22,hU #[.type "ValueError"])::(nat_lit 29,hU #[])::(nat_lit 30,{ cls:=.type "dict",data:=.dict #[hE P "__module__" 203 (hS "steadyhand.errors" 194),hE P "__firstlineno__" 207 (.int 5 206),hE P "__static_attributes__" 208 (.ref 29),hE P "__weakref__" 210 (.ref 32),hE P "__doc__" 211 (.none)] 3 })::(nat_lit 31,{ cls:=.type "type",data:=.cls { name:="SteadyError",bases:=[.type "ValueError"],mro:=[.ref 31,.type "ValueError",.type "Exception",.type "BaseException",.type "object"],ns:=30,qualname:="SteadyError",subclasses:=[.ref 44,.ref 56,.ref 68] },slots:=#[some (.ref 22),none,some (hS "SteadyError" 196),some (hS "SteadyError" 204),some (.builtin "ValueError.__new__"),some (.bool true)] })::(nat_lit 32,{ cls:=.type "getset_descriptor",data:=.fields #[hS "__weakref__" 209,.ref 31,.builtin "ExceptionGroup.__weakref__",.none] })::(nat_lit 35,hU #[.ref 31])::(nat_lit 42,hU #[])::(nat_lit 43,{ cls:=.type "dict",data:=.dict #[hE P "__module__" 221 (hS "steadyhand.errors" 194),hE P "__firstlineno__" 225 (.int 7 224),hE P "__static_attributes__" 226 (.ref 42),hE P "__doc__" 227 (.none)] 2 })::(nat_lit 44,{ cls:=.type "type",data:=.cls { name:="BadThing",bases:=[.ref 31],mro:=[.ref 44,.ref 31,.type "ValueError",.type "Exception",.type "BaseException",.type "object"],ns:=43,qualname:="BadThing" },slots:=#[some (.ref 35),none,some (hS "BadThing" 214),some (hS "BadThing" 222),some (.builtin "ValueError.__new__"),some (.bool true)] })::(nat_lit 47,hU #[.ref 31])::(nat_lit 54,hU #[])::(nat_lit 55,{ cls:=.type "dict",data:=.dict #[hE P "__module__" 237 (hS "steadyhand.errors" 194),hE P "__firstlineno__" 241 (.int 9 240),hE P "__static_attributes__" 242 (.ref 54),hE P "__doc__" 243 (.none)] 2 })::(nat_lit 56,{ cls:=.type "type",data:=.cls { name:="TooMany",bases:=[.ref 31],mro:=[.ref 56,.ref 31,.type "ValueError",.type "Exception",.type "BaseException",.type "object"],ns:=55,qualname:="TooMany" },slots:=#[some (.ref 47),none,some (hS "TooMany" 230),some (hS "TooMany" 238),some (.builtin "ValueError.__new__"),some (.bool true)] })::(nat_lit 59,hU #[.ref 31])::(nat_lit 66,hU #[])::(nat_lit 67,{ cls:=.type "dict",data:=.dict #[hE P "__module__" 253 (hS "steadyhand.errors" 194),hE P "__firstlineno__" 257 (.int 11 256),hE P "__static_attributes__" 258 (.ref 66),hE P "__doc__" 259 (.none)] 2 })::(nat_lit 68,{ cls:=.type "type",data:=.cls { name:="NotClosed",bases:=[.ref 31],mro:=[.ref 68,.ref 31,.type "ValueError",.type "Exception",.type "BaseException",.type "object"],ns:=67,qualname:="NotClosed" },slots:=#[some (.ref 59),none,some (hS "NotClosed" 246),some (hS "NotClosed" 254),some (.builtin "ValueError.__new__"),some (.bool true)] })::(nat_lit 71,hU #[])::(nat_lit 73,hU #[hS "thing" 267])::(nat_lit 74,hU #[])::(nat_lit 76,hD "is_whole" 264 "is_whole" 265 266 14 1 3 71 72 .none (.ref 73) (.ref 74) (.ref 75) 268 14 269)::(nat_lit 77,hF "is_whole" "is_whole" (hT 7) .none .none "steadyhand.fractions" 262 76)::(nat_lit 78,hU #[])::(nat_lit 81,hD "is_numbers" 273 "is_numbers" 274 275 17 2 3 78 79 .none .none .none (.ref 80) 276 17 277)::(nat_lit 82,hF "is_numbers" "is_numbers" (hT 9) .none .none "steadyhand.tables" 271 81)::(nat_lit 83,hU #[])::(nat_lit 86,hD "is_table" 279 "is_table" 280 281 19 3 3 83 84 .none .none .none (.ref 85) 282 19 283)::(nat_lit 87,hF "is_table" "is_table" (hT 10) .none .none "steadyhand.tables" 271 86)::(nat_lit 88,hU #[.int 5 285])::(nat_lit 89,hU #[])::(nat_lit 92,hD "copied" 286 "copied" 287 288 21 2 3 89 90 .none .none .none (.ref 91) 289 21 290)::(nat_lit 93,hF "copied" "copied" (hT 11) (.ref 88) .none "steadyhand.tables" 271 92)::(nat_lit 94,hU #[.int 1 292])::(nat_lit 95,hU #[])::(nat_lit 98,hD "unit" 293 "unit" 294 295 29 3 3 95 96 .none .none .none (.ref 97) 296 29 297)::(nat_lit 99,hF "unit" "unit" (hT 12) (.ref 94) .none "steadyhand.tables" 271 98)::(nat_lit 100,hU #[])::(nat_lit 103,hD "scaled" 299 "scaled" 300 301 31 2 3 100 101 .none .none .none (.ref 102) 302 31 303)::(nat_lit 104,hF "scaled" "scaled" (hT 13) .none .none "steadyhand.tables" 271 103)::(nat_lit 105,hU #[])::(nat_lit 108,hD "mixed" 305 "mixed" 306 307 33 4 3 105 106 .none .none .none (.ref 107) 308 33 309)::(nat_lit 109,hF "mixed" "mixed" (hT 14) .none .none "steadyhand.tables" 271 108)::(nat_lit 110,hU #[])::(nat_lit 113,hD "paired" 311 "paired" 312 313 35 2 3 110 111 .none .none .none (.ref 112) 314 35 315)::(nat_lit 114,hF "paired" "paired" (hT 15) .none .none "steadyhand.tables" 271 113)::(nat_lit 115,hU #[])::(nat_lit 118,hD "added_up" 317 "added_up" 318 319 37 3 3 115 116 .none .none .none (.ref 117) 320 37 321)::(nat_lit 119,hF "added_up" "added_up" (hT 16) .none .none "steadyhand.tables" 271 118)::(nat_lit 127,hU #[])::(nat_lit 128,{ cls:=.type "dict",data:=.dict #[hE P "__module__" 332 (hS "steadyhand.claims" 323),hE P "__firstlineno__" 336 (.int 40 335),hE P "__static_attributes__" 337 (.ref 127),hE P "__dict__" 339 (.ref 130),hE P "__weakref__" 341 (.ref 131),hE P "__doc__" 342 (.none)] 4 })::(nat_lit 129,{ cls:=.type "type",data:=.cls { name:="Claim",bases:=[.type "object"],mro:=[.ref 129,.type "object"],ns:=128,qualname:="Claim",subclasses:=[.ref 151,.ref 170] },slots:=#[none,none,some (hS "Claim" 325),some (hS "Claim" 333),some (.builtin "object.__new__"),some (.bool true)] })::(nat_lit 130,{ cls:=.type "getset_descriptor",data:=.fields #[hS "__dict__" 338,.ref 129,.builtin "function.__dict__",.builtin "function.__dict__#set"] })::(nat_lit 131,{ cls:=.type "getset_descriptor",data:=.fields #[hS "__weakref__" 340,.ref 129,.builtin "ExceptionGroup.__weakref__",.none] })::(nat_lit 134,hU #[.ref 129])::(nat_lit 141,hU #[.int 0 357])::(nat_lit 142,hU #[])::(nat_lit 144,hU #[hS "self" 361,hS "start" 362,hS "rows" 363,hS "turn" 364])::(nat_lit 145,hU #[])::(nat_lit 147,hD "__init__" 358 "Settles.__init__" 359 360 44 4 3 142 143 .none (.ref 144) (.ref 145) (.ref 146) 365 44 366)::(nat_lit 148,hF "__init__" "Settles.__init__" (hI 19 0) (.ref 141) .none "steadyhand.claims" 323 147)::(nat_lit 149,hU #[hS "rows" 368,hS "start" 369,hS "turn" 370])::(nat_lit 150,{ cls:=.type "dict",data:=.dict #[hE P "__module__" 352 (hS "steadyhand.claims" 323),hE P "__firstlineno__" 356 (.int 42 355),hE P "__init__" 367 (.ref 148),hE P "__static_attributes__" 371 (.ref 149),hE P "__doc__" 372 (.none)] 2 })::(nat_lit 151,{ cls:=.type "type",data:=.cls { name:="Settles",bases:=[.ref 129],mro:=[.ref 151,.ref 129,.type "object"],ns:=150,qualname:="Settles" },slots:=#[some (.ref 134),none,some (hS "Settles" 345),some (hS "Settles" 353),some (.builtin "object.__new__"),some (.bool true)] })::(nat_lit 154,hU #[.ref 129])::(nat_lit 161,hU #[])::(nat_lit 163,hU #[hS "self" 390,hS "start" 391,hS "goal" 392,hS "turns" 393])::(nat_lit 164,hU #[])::(nat_lit 166,hD "__init__" 387 "Comes.__init__" 388 389 50 4 3 161 162 .none (.ref 163) (.ref 164) (.ref 165) 394 50 395)::(nat_lit 167,hF "__init__" "Comes.__init__" (hI 20 0) .none .none "steadyhand.claims" 323 166)::(nat_lit 168,hU #[hS "goal" 397,hS "start" 398,hS "turns" 399])::(nat_lit 169,{ cls:=.type "dict",data:=.dict #[hE P "__module__" 382 (hS "steadyhand.claims" 323),hE P "__firstlineno__" 386 (.int 48 385),hE P "__init__" 396 (.ref 167),hE P "__static_attributes__" 400 (.ref 168),hE P "__doc__" 401 (.none)] 2 })::(nat_lit 170,{ cls:=.type "type",data:=.cls { name:="Comes",bases:=[.ref 129],mro:=[.ref 170,.ref 129,.type "object"],ns:=169,qualname:="Comes" },slots:=#[some (.ref 154),none,some (hS "Comes" 375),some (hS "Comes" 383),some (.builtin "object.__new__"),some (.bool true)] })::(nat_lit 173,hU #[])::(nat_lit 176,hD "is_row" 406 "is_row" 407 408 55 2 3 173 174 .none .none .none (.ref 175) 409 55 410)::(nat_lit 177,hF "is_row" "is_row" (hT 22) .none .none "steadyhand.rows" 404 176)::(nat_lit 178,hU #[])::(nat_lit 181,hD "is_room" 412 "is_room" 413 414 57 2 3 178 179 .none .none .none (.ref 180) 415 57 416)::(nat_lit 182,hF "is_room" "is_room" (hT 23) .none .none "steadyhand.rows" 404 181)::(nat_lit 183,hU #[])::(nat_lit 185,hU #[hS "place" 421,hS "many" 422,hS "number" 423,hS "bound" 424])::(nat_lit 186,hU #[])::(nat_lit 188,hD "single" 418 "single" 419 420 59 4 3 183 184 .none (.ref 185) (.ref 186) (.ref 187) 425 59 426)::(nat_lit 189,hF "single" "single" (hT 24) .none .none "steadyhand.rows" 404 188)::(nat_lit 190,hU #[])::(nat_lit 193,hD "other_side" 428 "other_side" 429 430 61 1 3 190 191 .none .none .none (.ref 192) 431 61 432)::(nat_lit 194,hF "other_side" "other_side" (hT 25) .none .none "steadyhand.rows" 404 193)::(nat_lit 195,hU #[])::(nat_lit 198,hD "standing" 436 "standing" 437 438 64 2 3 195 196 .none .none .none (.ref 197) 439 64 440)::(nat_lit 199,hF "standing" "standing" (hT 27) .none .none "steadyhand.reach" 434 198)::(nat_lit 200,hU #[])::(nat_lit 202,hU #[hS "thing" 445,hS "mode" 446,hS "row" 447,hS "numbers" 448,hS "ahead" 449])::(nat_lit 203,hU #[])::(nat_lit 205,hD "reach" 442 "reach" 443 444 73 3 3 200 201 .none (.ref 202) (.ref 203) (.ref 204) 450 73 451)::(nat_lit 206,hF "reach" "reach" (hT 28) .none .none "steadyhand.reach" 434 205)::(nat_lit 207,hU #[])::(nat_lit 209,hU #[hS "rows" 458,hS "numbers" 459,hS "many" 460])::(nat_lit 210,hU #[])::(nat_lit 212,hD "added" 455 "added" 456 457 78 3 3 207 208 .none (.ref 209) (.ref 210) (.ref 211) 461 78 462)::(nat_lit 213,hF "added" "added" (hT 30) .none .none "steadyhand.shares" 453 212)::(nat_lit 214,hU #[])::(nat_lit 216,hU #[hS "value" 467])::(nat_lit 217,hU #[])::(nat_lit 219,hD "is_from_0_on" 464 "is_from_0_on" 465 466 80 1 3 214 215 .none (.ref 216) (.ref 217) (.ref 218) 468 80 469)::(nat_lit 220,hF "is_from_0_on" "is_from_0_on" (hT 31) .none .none "steadyhand.shares" 453 219)::(nat_lit 221,hU #[])::(nat_lit 224,hD "are_shares" 471 "are_shares" 472 473 82 2 3 221 222 .none .none .none (.ref 223) 474 82 475)::(nat_lit 225,hF "are_shares" "are_shares" (hT 32) .none .none "steadyhand.shares" 453 224)::(nat_lit 226,hU #[])::(nat_lit 229,hD "shows" 477 "shows" 478 479 88 3 3 226 227 .none .none .none (.ref 228) 480 88 481)::(nat_lit 230,hF "shows" "shows" (hT 33) .none .none "steadyhand.shares" 453 229)::(nat_lit 238,hU #[])::(nat_lit 240,hU #[hS "self" 506,hS "rows" 507,hS "nexts" 508,hS "steer" 509,hS "push" 510,hS "add" 511,hS "divisor" 512])::(nat_lit 241,hU #[])::(nat_lit 243,hD "__init__" 503 "Mode.__init__" 504 505 102 7 3 238 239 .none (.ref 240) (.ref 241) (.ref 242) 513 102 514)::(nat_lit 244,hF "__init__" "Mode.__init__" (hI 38 0) .none .none "steadyhand.things" 483 243)::(nat_lit 245,hU #[hS "add" 516,hS "divisor" 517,hS "nexts" 518,hS "push" 519,hS "rows" 520,hS "steer" 521])::(nat_lit 246,{ cls:=.type "dict",data:=.dict #[hE P "__module__" 498 (hS "steadyhand.things" 483),hE P "__firstlineno__" 502 (.int 100 501),hE P "__init__" 515 (.ref 244),hE P "__static_attributes__" 522 (.ref 245),hE P "__dict__" 524 (.ref 248),hE P "__weakref__" 526 (.ref 249),hE P "__doc__" 527 (.none)] 4 })::(nat_lit 247,{ cls:=.type "type",data:=.cls { name:="Mode",bases:=[.type "object"],mro:=[.ref 247,.type "object"],ns:=246,qualname:="Mode" },slots:=#[none,none,some (hS "Mode" 491),some (hS "Mode" 499),some (.builtin "object.__new__"),some (.bool true)] })::(nat_lit 248,{ cls:=.type "getset_descriptor",data:=.fields #[hS "__dict__" 523,.ref 247,.builtin "function.__dict__",.builtin "function.__dict__#set"] })::(nat_lit 249,{ cls:=.type "getset_descriptor",data:=.fields #[hS "__weakref__" 525,.ref 247,.builtin "ExceptionGroup.__weakref__",.none] })::(nat_lit 259,hU #[])::(nat_lit 261,hU #[hS "self" 545,hS "many" 546,hS "pushes" 547,hS "modes" 548])::(nat_lit 262,hU #[])::(nat_lit 264,hD "__init__" 542 "Thing.__init__" 543 544 111 4 3 259 260 .none (.ref 261) (.ref 262) (.ref 263) 549 111 550)::(nat_lit 265,hF "__init__" "Thing.__init__" (hI 39 0) .none .none "steadyhand.things" 483 264)::(nat_lit 266,hU #[])::(nat_lit 268,hU #[hS "self" 555])::(nat_lit 269,hU #[])::(nat_lit 271,hD "pushes" 552 "Thing.pushes" 553 554 120 1 3 266 267 .none (.ref 268) (.ref 269) (.ref 270) 556 120 557)::(nat_lit 272,hF "pushes" "Thing.pushes" (hI 39 1) .none .none "steadyhand.things" 483 271)::(nat_lit 273,hU #[])::(nat_lit 275,hU #[hS "self" 562])::(nat_lit 276,hU #[])::(nat_lit 278,hD "modes" 559 "Thing.modes" 560 561 123 1 3 273 274 .none (.ref 275) (.ref 276) (.ref 277) 563 123 564)::(nat_lit 279,hF "modes" "Thing.modes" (hI 39 2) .none .none "steadyhand.things" 483 278)::(nat_lit 280,hU #[])::(nat_lit 283,hD "is_closed" 566 "Thing.is_closed" 567 568 126 1 3 280 281 .none .none .none (.ref 282) 569 126 570)::(nat_lit 284,hF "is_closed" "Thing.is_closed" (hI 39 3) .none .none "steadyhand.things" 483 283)::(nat_lit 285,hU #[])::(nat_lit 287,hU #[hS "self" 575])::(nat_lit 288,hU #[])::(nat_lit 290,hD "is_plain" 572 "Thing.is_plain" 573 574 129 1 3 285 286 .none (.ref 287) (.ref 288) (.ref 289) 576 129 577)::(nat_lit 291,hF "is_plain" "Thing.is_plain" (hI 39 4) .none .none "steadyhand.things" 483 290)::(nat_lit 292,hU #[hS "kept_modes" 579,hS "kept_pushes" 580,hS "many" 581])::(nat_lit 293,{ cls:=.type "dict",data:=.dict #[hE P "__module__" 537 (hS "steadyhand.things" 483),hE P "__firstlineno__" 541 (.int 109 540),hE P "__init__" 551 (.ref 265),hE P "pushes" 558 (.ref 272),hE P "modes" 565 (.ref 279),hE P "is_closed" 571 (.ref 284),hE P "is_plain" 578 (.ref 291),hE P "__static_attributes__" 582 (.ref 292),hE P "__dict__" 584 (.ref 295),hE P "__weakref__" 586 (.ref 296),hE P "__doc__" 587 (.none)] 4 })::(nat_lit 294,{ cls:=.type "type",data:=.cls { name:="Thing",bases:=[.type "object"],mro:=[.ref 294,.type "object"],ns:=293,qualname:="Thing" },slots:=#[none,none,some (hS "Thing" 530),some (hS "Thing" 538),some (.builtin "object.__new__"),some (.bool true)] })::(nat_lit 295,{ cls:=.type "getset_descriptor",data:=.fields #[hS "__dict__" 583,.ref 294,.builtin "function.__dict__",.builtin "function.__dict__#set"] })::(nat_lit 296,{ cls:=.type "getset_descriptor",data:=.fields #[hS "__weakref__" 585,.ref 294,.builtin "ExceptionGroup.__weakref__",.none] })::(nat_lit 299,hU #[])::(nat_lit 302,hD "is_sound" 590 "is_sound" 591 592 131 3 3 299 300 .none .none .none (.ref 301) 593 131 594)::(nat_lit 303,hF "is_sound" "is_sound" (hT 40) .none .none "steadyhand.things" 483 302)::(nat_lit 304,hU #[])::(nat_lit 306,hU #[hS "value" 599])::(nat_lit 307,hU #[])::(nat_lit 309,hD "is_push" 596 "is_push" 597 598 139 1 3 304 305 .none (.ref 306) (.ref 307) (.ref 308) 600 139 601)::(nat_lit 310,hF "is_push" "is_push" (hT 41) .none .none "steadyhand.things" 483 309)::(nat_lit 311,hU #[])::(nat_lit 313,hU #[hS "value" 606,hS "many" 607,hS "wide" 608])::(nat_lit 314,hU #[])::(nat_lit 316,hD "is_mode" 603 "is_mode" 604 605 143 3 3 311 312 .none (.ref 313) (.ref 314) (.ref 315) 609 143 610)::(nat_lit 317,hF "is_mode" "is_mode" (hT 42) .none .none "steadyhand.things" 483 316)::(nat_lit 318,hU #[])::(nat_lit 321,hD "is_unsteered" 612 "is_unsteered" 613 614 151 1 3 318 319 .none .none .none (.ref 320) 615 151 616)::(nat_lit 322,hF "is_unsteered" "is_unsteered" (hT 43) .none .none "steadyhand.things" 483 321)::(nat_lit 323,hU #[])::(nat_lit 325,hU #[hS "thing" 621])::(nat_lit 326,hU #[])::(nat_lit 328,hD "ask_closed" 618 "ask_closed" 619 620 153 1 3 323 324 .none (.ref 325) (.ref 326) (.ref 327) 622 153 623)::(nat_lit 329,hF "ask_closed" "ask_closed" (hT 44) .none .none "steadyhand.things" 483 328)::(nat_lit 337,hU #[])::(nat_lit 338,{ cls:=.type "dict",data:=.dict #[hE P "__module__" 634 (hS "steadyhand.papers" 625),hE P "__firstlineno__" 638 (.int 157 637),hE P "__static_attributes__" 639 (.ref 337),hE P "__dict__" 641 (.ref 340),hE P "__weakref__" 643 (.ref 341),hE P "__doc__" 644 (.none)] 4 })::(nat_lit 339,{ cls:=.type "type",data:=.cls { name:="Paper",bases:=[.type "object"],mro:=[.ref 339,.type "object"],ns:=338,qualname:="Paper",subclasses:=[.ref 360,.ref 379] },slots:=#[none,none,some (hS "Paper" 627),some (hS "Paper" 635),some (.builtin "object.__new__"),some (.bool true)] })::(nat_lit 340,{ cls:=.type "getset_descriptor",data:=.fields #[hS "__dict__" 640,.ref 339,.builtin "function.__dict__",.builtin "function.__dict__#set"] })::(nat_lit 341,{ cls:=.type "getset_descriptor",data:=.fields #[hS "__weakref__" 642,.ref 339,.builtin "ExceptionGroup.__weakref__",.none] })::(nat_lit 344,hU #[.ref 339])::(nat_lit 351,hU #[])::(nat_lit 353,hU #[hS "self" 662,hS "rooms" 663,hS "back" 664,hS "starts" 665,hS "steps" 666,hS "stays" 667])::(nat_lit 354,hU #[])::(nat_lit 356,hD "__init__" 659 "Rooms.__init__" 660 661 161 6 3 351 352 .none (.ref 353) (.ref 354) (.ref 355) 668 161 669)::(nat_lit 357,hF "__init__" "Rooms.__init__" (hI 47 0) .none .none "steadyhand.papers" 625 356)::(nat_lit 358,hU #[hS "back" 671,hS "rooms" 672,hS "starts" 673,hS "stays" 674,hS "steps" 675])::(nat_lit 359,{ cls:=.type "dict",data:=.dict #[hE P "__module__" 654 (hS "steadyhand.papers" 625),hE P "__firstlineno__" 658 (.int 159 657),hE P "__init__" 670 (.ref 357),hE P "__static_attributes__" 676 (.ref 358),hE P "__doc__" 677 (.none)] 2 })::(nat_lit 360,{ cls:=.type "type",data:=.cls { name:="Rooms",bases:=[.ref 339],mro:=[.ref 360,.ref 339,.type "object"],ns:=359,qualname:="Rooms" },slots:=#[some (.ref 344),none,some (hS "Rooms" 647),some (hS "Rooms" 655),some (.builtin "object.__new__"),some (.bool true)] })::(nat_lit 363,hU #[.ref 339])::(nat_lit 370,hU #[])::(nat_lit 372,hU #[hS "self" 695,hS "room" 696,hS "starts" 697,hS "steps" 698,hS "measure" 699,hS "step" 700,hS "top" 701,hS "falls" 702,hS "floors" 703,hS "tops" 704])::(nat_lit 373,hU #[])::(nat_lit 375,hD "__init__" 692 "Falls.__init__" 693 694 169 10 3 370 371 .none (.ref 372) (.ref 373) (.ref 374) 705 169 706)::(nat_lit 376,hF "__init__" "Falls.__init__" (hI 48 0) .none .none "steadyhand.papers" 625 375)::(nat_lit 377,hU #[hS "falls" 708,hS "floors" 709,hS "measure" 710,hS "room" 711,hS "starts" 712,hS "step" 713,hS "steps" 714,hS "top" 715,hS "tops" 716])::(nat_lit 378,{ cls:=.type "dict",data:=.dict #[hE P "__module__" 687 (hS "steadyhand.papers" 625),hE P "__firstlineno__" 691 (.int 167 690),hE P "__init__" 707 (.ref 376),hE P "__static_attributes__" 717 (.ref 377),hE P "__doc__" 718 (.none)] 2 })::(nat_lit 379,{ cls:=.type "type",data:=.cls { name:="Falls",bases:=[.ref 339],mro:=[.ref 379,.ref 339,.type "object"],ns:=378,qualname:="Falls" },slots:=#[some (.ref 363),none,some (hS "Falls" 680),some (hS "Falls" 688),some (.builtin "object.__new__"),some (.bool true)] })::(nat_lit 382,hU #[])::(nat_lit 384,hU #[hS "thing" 724,hS "claim" 725,hS "paper" 726])::(nat_lit 385,hU #[])::(nat_lit 387,hD "lets_by" 721 "lets_by" 722 723 179 3 3 382 383 .none (.ref 384) (.ref 385) (.ref 386) 727 179 728)::(nat_lit 388,hF "lets_by" "lets_by" (hT 49) .none .none "steadyhand.papers" 625 387)::(nat_lit 389,hU #[])::(nat_lit 391,hU #[hS "value" 733,hS "count" 734])::(nat_lit 392,hU #[])::(nat_lit 394,hD "is_list_of" 730 "is_list_of" 731 732 186 2 3 389 390 .none (.ref 391) (.ref 392) (.ref 393) 735 186 736)::(nat_lit 395,hF "is_list_of" "is_list_of" (hT 50) .none .none "steadyhand.papers" 625 394)::(nat_lit 396,hU #[])::(nat_lit 399,hD "each_shown" 738 "each_shown" 739 740 188 3 3 396 397 .none .none .none (.ref 398) 741 188 742)::(nat_lit 400,hF "each_shown" "each_shown" (hT 51) .none .none "steadyhand.papers" 625 399)::(nat_lit 401,hU #[])::(nat_lit 403,hU #[hS "claim" 747,hS "many" 748])::(nat_lit 404,hU #[])::(nat_lit 406,hD "settles_over" 744 "settles_over" 745 746 192 2 3 401 402 .none (.ref 403) (.ref 404) (.ref 405) 749 192 750)::(nat_lit 407,hF "settles_over" "settles_over" (hT 52) .none .none "steadyhand.papers" 625 406)::(nat_lit 408,hU #[])::(nat_lit 410,hU #[hS "claim" 755,hS "many" 756])::(nat_lit 411,hU #[])::(nat_lit 413,hD "comes_over" 752 "comes_over" 753 754 194 2 3 408 409 .none (.ref 410) (.ref 411) (.ref 412) 757 194 758)::(nat_lit 414,hF "comes_over" "comes_over" (hT 53) .none .none "steadyhand.papers" 625 413)::(nat_lit 415,hU #[])::(nat_lit 417,hU #[hS "thing" 763,hS "claim" 764,hS "paper" 765])::(nat_lit 418,hU #[])::(nat_lit 420,hD "lets_rooms_by" 760 "lets_rooms_by" 761 762 196 3 3 415 416 .none (.ref 417) (.ref 418) (.ref 419) 766 196 767)::(nat_lit 421,hF "lets_rooms_by" "lets_rooms_by" (hT 54) .none .none "steadyhand.papers" 625 420)::(nat_lit 422,hU #[])::(nat_lit 425,hD "are_rooms" 769 "are_rooms" 770 771 204 2 3 422 423 .none .none .none (.ref 424) 772 204 773)::(nat_lit 426,hF "are_rooms" "are_rooms" (hT 55) .none .none "steadyhand.papers" 625 425)::(nat_lit 427,hU #[])::(nat_lit 430,hD "rooms_follow" 775 "rooms_follow" 776 777 206 2 3 427 428 .none .none .none (.ref 429) 778 206 779)::(nat_lit 431,hF "rooms_follow" "rooms_follow" (hT 56) .none .none "steadyhand.papers" 625 430)::(nat_lit 432,hU #[])::(nat_lit 435,hD "leads" 781 "leads" 782 783 211 4 3 432 433 .none .none .none (.ref 434) 784 211 785)::(nat_lit 436,hF "leads" "leads" (hT 57) .none .none "steadyhand.papers" 625 435)::(nat_lit 437,hU #[])::(nat_lit 440,hD "mode_leads" 787 "mode_leads" 788 789 216 5 3 437 438 .none .none .none (.ref 439) 790 216 791)::(nat_lit 441,hF "mode_leads" "mode_leads" (hT 58) .none .none "steadyhand.papers" 625 440)::(nat_lit 442,hU #[])::(nat_lit 445,hD "rooms_stay" 793 "rooms_stay" 794 795 218 2 3 442 443 .none .none .none (.ref 444) 796 218 797)::(nat_lit 446,hF "rooms_stay" "rooms_stay" (hT 59) .none .none "steadyhand.papers" 625 445)::(nat_lit 447,hU #[])::(nat_lit 449,hU #[hS "thing" 802,hS "claim" 803,hS "paper" 804])::(nat_lit 450,hU #[])::(nat_lit 452,hD "lets_fall_by" 799 "lets_fall_by" 800 801 223 3 3 447 448 .none (.ref 449) (.ref 450) (.ref 451) 805 223 806)::(nat_lit 453,hF "lets_fall_by" "lets_fall_by" (hT 60) .none .none "steadyhand.papers" 625 452)::(nat_lit 454,hU #[])::(nat_lit 456,hU #[hS "measure" 811,hS "top" 812])::(nat_lit 457,hU #[])::(nat_lit 459,hD "height_at_most" 808 "height_at_most" 809 810 237 2 3 454 455 .none (.ref 456) (.ref 457) (.ref 458) 813 237 814)::(nat_lit 460,hF "height_at_most" "height_at_most" (hT 61) .none .none "steadyhand.papers" 625 459)::(nat_lit 461,hU #[])::(nat_lit 464,hD "height_from_0_on" 816 "height_from_0_on" 817 818 239 1 3 461 462 .none .none .none (.ref 463) 819 239 820)::(nat_lit 465,hF "height_from_0_on" "height_from_0_on" (hT 62) .none .none "steadyhand.papers" 625 464)::(nat_lit 466,hU #[])::(nat_lit 468,hU #[hS "thing" 825,hS "mode" 826,hS "measure" 827,hS "step" 828,hS "ahead" 829,hS "less" 830])::(nat_lit 469,hU #[])::(nat_lit 471,hD "fall_row" 822 "fall_row" 823 824 241 4 3 466 467 .none (.ref 468) (.ref 469) (.ref 470) 831 241 832)::(nat_lit 472,hF "fall_row" "fall_row" (hT 63) .none .none "steadyhand.papers" 625 471)::(nat_lit 473,hU #[])::(nat_lit 476,hD "floors_hold" 834 "floors_hold" 835 836 245 2 3 473 474 .none .none .none (.ref 475) 837 245 838)::(nat_lit 477,hF "floors_hold" "floors_hold" (hT 64) .none .none "steadyhand.papers" 625 476)::(nat_lit 478,hU #[])::(nat_lit 481,hD "falls_hold" 840 "falls_hold" 841 842 250 3 3 478 479 .none .none .none (.ref 480) 843 250 844)::(nat_lit 482,hF "falls_hold" "falls_hold" (hT 65) .none .none "steadyhand.papers" 625 481)::(nat_lit 483,hU #[])::(nat_lit 486,hD "mode_falls" 846 "mode_falls" 847 848 255 5 3 483 484 .none .none .none (.ref 485) 849 255 850)::(nat_lit 487,hF "mode_falls" "mode_falls" (hT 66) .none .none "steadyhand.papers" 625 486)::(nat_lit 488,hU #[])::(nat_lit 490,hU #[hS "_law_script" 857,hS "_law_k" 858])::(nat_lit 491,hU #[])::(nat_lit 493,hD "_law_cell_at" 854 "_law_cell_at" 855 856 262 2 3 488 489 .none (.ref 490) (.ref 491) (.ref 492) 859 262 860)::(nat_lit 494,hF "_law_cell_at" "_law_cell_at" (hT 68) .none .none "law_steadyhand_k56_papers_of_rooms_as_told" 852 493)::(nat_lit 495,hU #[])::(nat_lit 497,hU #[hS "_law_cell" 865,hS "_law_many" 866,hS "_law_found" 867,hS "_law_rest" 868,hS "_law_k" 869,hS "_law_number_here" 870])::(nat_lit 498,hU #[])::(nat_lit 500,hD "_law_stream" 862 "_law_stream" 863 864 266 2 3 495 496 .none (.ref 497) (.ref 498) (.ref 499) 871 266 872)::(nat_lit 501,hF "_law_stream" "_law_stream" (hT 69) .none .none "law_steadyhand_k56_papers_of_rooms_as_told" 852 500)::(nat_lit 502,hU #[])::(nat_lit 504,hU #[hS "_law_x" 877,hS "_law_far" 878])::(nat_lit 505,hU #[])::(nat_lit 507,hD "_law_number" 874 "_law_number" 875 876 279 2 3 502 503 .none (.ref 504) (.ref 505) (.ref 506) 879 279 880)::(nat_lit 508,hF "_law_number" "_law_number" (hT 70) .none .none "law_steadyhand_k56_papers_of_rooms_as_told" 852 507)::(nat_lit 509,hU #[])::(nat_lit 512,hD "_law_mode" 882 "_law_mode" 883 884 281 5 3 509 510 .none .none .none (.ref 511) 885 281 886)::(nat_lit 513,hF "_law_mode" "_law_mode" (hT 71) .none .none "law_steadyhand_k56_papers_of_rooms_as_told" 852 512)::(nat_lit 514,hU #[])::(nat_lit 516,hU #[hS "_law_script" 891,hS "_law_first" 892,hS "_law_second" 893,hS "_law_unit" 894,hS "_law_many" 895,hS "_law_pushes" 896,hS "_law_k" 897,hS "_law_x" 898,hS "_law_modes" 899,hS "_law_cell" 900])::(nat_lit 517,hU #[])::(nat_lit 519,hD "_law_thing" 888 "_law_thing" 889 890 295 1 3 514 515 .none (.ref 516) (.ref 517) (.ref 518) 901 295 902)::(nat_lit 520,hF "_law_thing" "_law_thing" (hT 72) .none .none "law_steadyhand_k56_papers_of_rooms_as_told" 852 519)::(nat_lit 521,hU #[])::(nat_lit 524,hD "_law_made" 904 "_law_made" 905 906 309 1 3 521 522 .none .none .none (.ref 523) 907 309 908)::(nat_lit 525,hF "_law_made" "_law_made" (hT 73) .none .none "law_steadyhand_k56_papers_of_rooms_as_told" 852 524)::(nat_lit 526,hU #[])::(nat_lit 528,hU #[hS "_law_cell" 913,hS "_law_many" 914,hS "_law_unit" 915,hS "_law_xs" 916,hS "_law_box_here" 917,hS "_law_i" 918,hS "_law_low" 919])::(nat_lit 529,hU #[])::(nat_lit 531,hD "_law_box" 910 "_law_box" 911 912 316 3 3 526 527 .none (.ref 528) (.ref 529) (.ref 530) 920 316 921)::(nat_lit 532,hF "_law_box" "_law_box" (hT 74) .none .none "law_steadyhand_k56_papers_of_rooms_as_told" 852 531)::(nat_lit 533,hU #[])::(nat_lit 536,hD "_law_rows" 923 "_law_rows" 924 925 323 1 3 533 534 .none .none .none (.ref 535) 926 323 927)::(nat_lit 537,hF "_law_rows" "_law_rows" (hT 75) .none .none "law_steadyhand_k56_papers_of_rooms_as_told" 852 536)::(nat_lit 538,hU #[])::(nat_lit 540,hU #[hS "_law_numbers" 932,hS "_law_box_here" 933,hS "_law_found" 934,hS "_law_number_here" 935,hS "_law_bounds" 936])::(nat_lit 541,hU #[])::(nat_lit 543,hD "_law_top" 929 "_law_top" 930 931 330 2 3 538 539 .none (.ref 540) (.ref 541) (.ref 542) 937 330 938)::(nat_lit 544,hF "_law_top" "_law_top" (hT 76) .none .none "law_steadyhand_k56_papers_of_rooms_as_told" 852 543)::(nat_lit 545,hU #[])::(nat_lit 548,hD "_law_beyond" 940 "_law_beyond" 941 942 335 2 3 545 546 .none .none .none (.ref 547) 943 335 944)::(nat_lit 549,hF "_law_beyond" "_law_beyond" (hT 77) .none .none "law_steadyhand_k56_papers_of_rooms_as_told" 852 548)::(nat_lit 550,hU #[])::(nat_lit 553,hD "_law_image" 946 "_law_image" 947 948 340 2 3 550 551 .none .none .none (.ref 552) 949 340 950)::(nat_lit 554,hF "_law_image" "_law_image" (hT 78) .none .none "law_steadyhand_k56_papers_of_rooms_as_told" 852 553)::(nat_lit 555,hU #[])::(nat_lit 558,hD "_law_hull" 952 "_law_hull" 953 954 361 2 3 555 556 .none .none .none (.ref 557) 955 361 956)::(nat_lit 559,hF "_law_hull" "_law_hull" (hT 79) .none .none "law_steadyhand_k56_papers_of_rooms_as_told" 852 558)::(nat_lit 560,hU #[])::(nat_lit 562,hU #[hS "_law_spec" 961,hS "_law_box_here" 962,hS "_law_turn" 963])::(nat_lit 563,hU #[])::(nat_lit 565,hD "_law_kept" 958 "_law_kept" 959 960 363 2 3 560 561 .none (.ref 562) (.ref 563) (.ref 564) 964 363 965)::(nat_lit 566,hF "_law_kept" "_law_kept" (hT 80) .none .none "law_steadyhand_k56_papers_of_rooms_as_told" 852 565)::(nat_lit 567,hU #[])::(nat_lit 569,hU #[hS "_law_numbers" 970,hS "_law_found" 971,hS "_law_number_here" 972])::(nat_lit 570,hU #[])::(nat_lit 572,hD "_law_both" 967 "_law_both" 968 969 367 1 3 567 568 .none (.ref 569) (.ref 570) (.ref 571) 973 367 974)::(nat_lit 573,hF "_law_both" "_law_both" (hT 81) .none .none "law_steadyhand_k56_papers_of_rooms_as_told" 852 572)::(nat_lit 574,hU #[])::(nat_lit 577,hD "_law_step_shares" 976 "_law_step_shares" 977 978 372 4 3 574 575 .none .none .none (.ref 576) 979 372 980)::(nat_lit 578,hF "_law_step_shares" "_law_step_shares" (hT 82) .none .none "law_steadyhand_k56_papers_of_rooms_as_told" 852 577)::(nat_lit 579,hU #[])::(nat_lit 582,hD "_law_box_steps" 982 "_law_box_steps" 983 984 379 3 3 579 580 .none .none .none (.ref 581) 985 379 986)::(nat_lit 583,hF "_law_box_steps" "_law_box_steps" (hT 83) .none .none "law_steadyhand_k56_papers_of_rooms_as_told" 852 582)::(nat_lit 584,hU #[])::(nat_lit 586,hU #[hS "_law_box_here" 991,hS "_law_some" 992,hS "_law_row" 993])::(nat_lit 587,hU #[])::(nat_lit 589,hD "_law_box_starts" 988 "_law_box_starts" 989 990 384 1 3 584 585 .none (.ref 586) (.ref 587) (.ref 588) 994 384 995)::(nat_lit 590,hF "_law_box_starts" "_law_box_starts" (hT 84) .none .none "law_steadyhand_k56_papers_of_rooms_as_told" 852 589)::(nat_lit 591,hU #[])::(nat_lit 593,hU #[hS "_law_spec" 1000,hS "_law_cell" 1001,hS "_law_xs" 1002,hS "_law_inner" 1003,hS "_law_boxes_here" 1004,hS "_law_k" 1005])::(nat_lit 594,hU #[])::(nat_lit 596,hD "_law_boxes" 997 "_law_boxes" 998 999 389 2 3 591 592 .none (.ref 593) (.ref 594) (.ref 595) 1006 389 1007)::(nat_lit 597,hF "_law_boxes" "_law_boxes" (hT 85) .none .none "law_steadyhand_k56_papers_of_rooms_as_told" 852 596)::(nat_lit 598,hU #[])::(nat_lit 601,hD "_law_claim_rows" 1009 "_law_claim_rows" 1010 1011 396 3 3 598 599 .none .none .none (.ref 600) 1012 396 1013)::(nat_lit 602,hF "_law_claim_rows" "_law_claim_rows" (hT 86) .none .none "law_steadyhand_k56_papers_of_rooms_as_told" 852 601)::(nat_lit 603,hU #[])::(nat_lit 606,hD "_law_parts" 1015 "_law_parts" 1016 1017 405 2 3 603 604 .none .none .none (.ref 605) 1018 405 1019)::(nat_lit 607,hF "_law_parts" "_law_parts" (hT 87) .none .none "law_steadyhand_k56_papers_of_rooms_as_told" 852 606)::(nat_lit 608,hU #[])::(nat_lit 610,hU #[hS "_law_parts_here" 1024,hS "_law_cell" 1025,hS "_law_rooms" 1026,hS "_law_back" 1027,hS "_law_starts" 1028,hS "_law_steps" 1029,hS "_law_stays" 1030,hS "_law_at" 1031,hS "_law_row" 1032,hS "_law_bad" 1033,hS "_law_room" 1034,hS "_law_some" 1035,hS "_law_which" 1036])::(nat_lit 611,hU #[])::(nat_lit 613,hD "_law_odd" 1021 "_law_odd" 1022 1023 417 2 3 608 609 .none (.ref 610) (.ref 611) (.ref 612) 1037 417 1038)::(nat_lit 614,hF "_law_odd" "_law_odd" (hT 88) .none .none "law_steadyhand_k56_papers_of_rooms_as_told" 852 613)::(nat_lit 615,hU #[])::(nat_lit 617,hU #[hS "_law_thing_here" 1043,hS "_law_one" 1044])::(nat_lit 618,hU #[])::(nat_lit 620,hD "_law_emptied" 1040 "_law_emptied" 1041 1042 434 1 3 615 616 .none (.ref 617) (.ref 618) (.ref 619) 1045 434 1046)::(nat_lit 621,hF "_law_emptied" "_law_emptied" (hT 89) .none .none "law_steadyhand_k56_papers_of_rooms_as_told" 852 620)::(nat_lit 622,hU #[])::(nat_lit 624,hU #[hS "_law_start" 1051,hS "_law_rows_here" 1052,hS "_law_turn" 1053,hS "_law_cell" 1054,hS "_law_handed" 1055,hS "_law_claim_here" 1056])::(nat_lit 625,hU #[])::(nat_lit 627,hD "_law_claim" 1048 "_law_claim" 1049 1050 440 4 3 622 623 .none (.ref 624) (.ref 625) (.ref 626) 1057 440 1058)::(nat_lit 628,hF "_law_claim" "_law_claim" (hT 90) .none .none "law_steadyhand_k56_papers_of_rooms_as_told" 852 627)::(nat_lit 629,hU #[])::(nat_lit 632,hD "_law_open" 1060 "_law_open" 1061 1062 449 3 3 629 630 .none .none .none (.ref 631) 1063 449 1064)::(nat_lit 633,hF "_law_open" "_law_open" (hT 91) .none .none "law_steadyhand_k56_papers_of_rooms_as_told" 852 632)::(nat_lit 634,hU #[])::(nat_lit 637,hD "_law_wide_rows" 1066 "_law_wide_rows" 1067 1068 457 2 3 634 635 .none .none .none (.ref 636) 1069 457 1070)::(nat_lit 638,hF "_law_wide_rows" "_law_wide_rows" (hT 92) .none .none "law_steadyhand_k56_papers_of_rooms_as_told" 852 637)::(nat_lit 639,hU #[])::(nat_lit 641,hU #[hS "_law_script" 1075,hS "_law_spec" 1076,hS "_law_cell" 1077,hS "_law_inner" 1078,hS "_law_rows_here" 1079,hS "_law_turn" 1080,hS "_law_parts_here" 1081,hS "_law_box_here" 1082,hS "_law_boxes_here" 1083,hS "_law_paper" 1084,hS "_law_claim_here" 1085,hS "_law_found" 1086])::(nat_lit 642,hU #[])::(nat_lit 644,hD "law" 1072 "law" 1073 1074 463 1 3 639 640 .none (.ref 641) (.ref 642) (.ref 643) 1087 463 1088)::(nat_lit 645,hF "law" "law" (hT 93) .none .none "law_steadyhand_k56_papers_of_rooms_as_told" 852 644) :: []
noncomputable def ks:List Addr:=[2,3,15,17,18,20,21,22,29,30,31,32,35,42,43,44,47,54,55,56,59,66,67,68,71,73,74,76,77,78,81,82,83,86,87,88,89,92,93,94,95,98,99,100,103,104,105,108,109,110,113,114,115,118,119,127,128,129,130,131,134,141,142,144,145,147,148,149,150,151,154,161,163,164,166,167,168,169,170,173,176,177,178,181,182,183,185,186,188,189,190,193,194,195,198,199,200,202,203,205,206,207,209,210,212,213,214,216,217,219,220,221,224,225,226,229,230,238,240,241,243,244,245,246,247,248,249,259,261,262,264,265,266,268,269,271,272,273,275,276,278,279,280,283,284,285,287,288,290,291,292,293,294,295,296,299,302,303,304,306,307,309,310,311,313,314,316,317,318,321,322,323,325,326,328,329,337,338,339,340,341,344,351,353,354,356,357,358,359,360,363,370,372,373,375,376,377,378,379,382,384,385,387,388,389,391,392,394,395,396,399,400,401,403,404,406,407,408,410,411,413,414,415,417,418,420,421,422,425,426,427,430,431,432,435,436,437,440,441,442,445,446,447,449,450,452,453,454,456,457,459,460,461,464,465,466,468,469,471,472,473,476,477,478,481,482,483,486,487,488,490,491,493,494,495,497,498,500,501,502,504,505,507,508,509,512,513,514,516,517,519,520,521,524,525,526,528,529,531,532,533,536,537,538,540,541,543,544,545,548,549,550,553,554,555,558,559,560,562,563,565,566,567,569,570,572,573,574,577,578,579,582,583,584,586,587,589,590,591,593,594,596,597,598,601,602,603,606,607,608,610,611,613,614,615,617,618,620,621,622,624,625,627,628,629,632,633,634,637,638,639,641,642,644,645]
theorem ke:∀ P:Params,ks=(KK P).map (·.1):=λ_=>by
 kernel_rfl
noncomputable def vw:Program:={ PySem.Challenge.pw_steadyhand_k56_papers_of_rooms_as_told with main:={ PySem.Challenge.pw_steadyhand_k56_papers_of_rooms_as_told.main with body:=[hT 0,hT 2,hT 3,hT 4,hT 5,hT 7,hT 9,hT 10,hT 13,hT 14,hT 15,hT 16,hT 18,hT 19,hT 20,hT 22,hT 23,hT 24,hT 25,hT 27,hT 28,hT 30,hT 31,hT 32,hT 33,hT 35,hT 36,hT 37,hT 38,hT 39,hT 40,hT 41,hT 42,hT 43,hT 44,hT 46,hT 47,hT 48,hT 49,hT 50,hT 51,hT 52,hT 53,hT 54,hT 55,hT 56,hT 57,hT 58,hT 59,hT 60,hT 61,hT 62,hT 63,hT 64,hT 65,hT 66,hT 68,hT 69,hT 70,hT 71,hT 72,hT 73,hT 74,hT 75,hT 76,hT 77,hT 78,hT 79,hT 80,hT 81,hT 82,hT 83,hT 84,hT 85,hT 86,hT 87,hT 88,hT 89,hT 90,hT 91,hT 92,hT 93] } }
noncomputable def lo:List Str:=[dM "copied",dM "unit",dM "Settles"]
noncomputable abbrev rr:RowW:=(OpenLaw.row PySem.Challenge.rw_steadyhand_k56_papers_of_rooms_as_told).toRowW
noncomputable abbrev xt:Shared->Bool:=λs=>xlAt vw [] s && recOk rr.records s
noncomputable def bt:Params->BT:=λP=>(.node (boot_o_0 P) (.node (boot_o_1 P) (.node (boot_o_3 P) (.node (boot_o_7 P) .nil .nil) .nil) (.node (boot_o_5 P) (.node (boot_o_9 P) .nil .nil) .nil)) (.node (boot_o_2 P) (.node (boot_o_4 P) (.node (boot_o_8 P) .nil .nil) .nil) (.node (boot_o_6 P) (.node (boot_o_10 P) .nil .nil) .nil)))
noncomputable def lhs (T:Params->BT) (h:Params->Heap) (d:Drawn) (k:Nat) (w:World) (os:OsState):=(TT.runT treeTable PySem.Challenge.pw_steadyhand_k56_papers_of_rooms_as_told w 11 (some (.ref 6)) 9922 ⟨T w.params,11,(h w.params).life,Array.mk [],d,k,os⟩ (topStub PySem.Challenge.pw_steadyhand_k56_papers_of_rooms_as_told)).map (λs=>((staticsOk (importedModules PySem.Challenge.pw_steadyhand_k56_papers_of_rooms_as_told.main.body) (h w.params) s.abs.heap && namesBound PySem.Challenge.pw_steadyhand_k56_papers_of_rooms_as_told s.abs.heap && gensDone s.abs && laidKept (h w.params) s.abs.heap),ks.map s.abs.heap.get?))
noncomputable def lhs2 (T:Params->BT) (h:Params->Heap) (d:Drawn) (k:Nat) (w:World) (os:OsState):=(TT.runT treeTable PySem.Challenge.pw_steadyhand_k56_papers_of_rooms_as_told w 11 (some (.ref 6)) 9922 ⟨T w.params,11,(h w.params).life,Array.mk [],d,k,os⟩ (topStub PySem.Challenge.pw_steadyhand_k56_papers_of_rooms_as_told)).map (λs=>(openSeen vw lo (importedModules PySem.Challenge.pw_steadyhand_k56_papers_of_rooms_as_told.main.body) xt true s.abs).1)
noncomputable def lhs3 (T:Params->BT) (h:Params->Heap) (d:Drawn) (k:Nat) (w:World) (os:OsState):=(TT.runT treeTable PySem.Challenge.pw_steadyhand_k56_papers_of_rooms_as_told w 11 (some (.ref 6)) 9922 ⟨T w.params,11,(h w.params).life,Array.mk [],d,k,os⟩ (topStub PySem.Challenge.pw_steadyhand_k56_papers_of_rooms_as_told)).map (λs=>(openSeen vw lo (importedModules PySem.Challenge.pw_steadyhand_k56_papers_of_rooms_as_told.main.body) xt true s.abs).2)
noncomputable def rhs (F:Params->Frag) (w:World) (_:OsState):=some (true,(F w.params).map λp=>some p.2)
noncomputable def rhs2 (_:Params->Frag) (w:World) (_:OsState):=some (openGood vw lo).1
noncomputable def rhs3 (_:Params->Frag) (w:World) (_:OsState):=some (openGood vw lo).2
lay_quick lhs rhs
lay_quick lhs2 rhs2
lay_quick lhs3 rhs3
theorem same (w:World) (os:OsState):PySem.W.Fast.tw15254478184802131384 bt boot_heap boot_drawn boot_toks w os=PySem.W.Fast.tw5739614416899339347 KK w os:=by
 kernel_rfl
theorem ZA (w:World) (os:OsState):PySem.W.Fast.tw7415013144507245552 bt boot_heap boot_drawn boot_toks w os=PySem.W.Fast.tw3225240147681291149 KK w os:=by
 kernel_rfl
theorem ZB (w:World) (os:OsState):PySem.W.Fast.tw14386747102079114537 bt boot_heap boot_drawn boot_toks w os=PySem.W.Fast.tw6494841257107148983 KK w os:=by
 kernel_rfl
theorem two {α β γ ε δ:Type} {o:Option α} {f:α->β} {g:α->γ × ε} {e:α->δ} {b:β} {c:γ × ε} {d:δ} (h1:o.map (λs=>(f s,e s))=some (b,d)) (h2:o.map (λs=>(g s).1)=some c.1) (h3:o.map (λs=>(g s).2)=some c.2):o.map (λs=>(f s,g s,e s))=some (b,c,d):=by
 cases o with
 | none=>cases h1
 | some a=>
  injection h1 with h1
  injection h2 with h2
  injection h3 with h3
  injection h1 with h1 h4
  have h2:(g a).1=c.1:=h2
  have h3:(g a).2=c.2:=h3
  have h4:e a=d:=h4
  show some (f a,((g a).1,(g a).2),e a)=_
  rw [h1,h2,h3,h4]
theorem left:LeftO rr.prog vw lo xt (kHook KK ks ke).obs (kHook KK ks ke).val 9922:=
 TT.left_is (boot_open (by kernel_rfl) (by decide) (λ_=>by kernel_rfl)) (λ_=>by kernel_rfl) (λ_=>by kernel_rfl) (λ_=>by kernel_rfl) (λ_=>by kernel_rfl)
  λw os=>two ((congrArg (λf=>f bt boot_heap boot_drawn boot_toks w os) PySem.W.Fast.te15254478184802131384).trans ((same w os).trans (congrFun (congrFun (congrFun PySem.W.Fast.te5739614416899339347 KK) w) os).symm)) ((congrArg (λf=>f bt boot_heap boot_drawn boot_toks w os) PySem.W.Fast.te7415013144507245552).trans ((ZA w os).trans (congrFun (congrFun (congrFun PySem.W.Fast.te3225240147681291149 KK) w) os).symm)) ((congrArg (λf=>f bt boot_heap boot_drawn boot_toks w os) PySem.W.Fast.te14386747102079114537).trans ((ZB w os).trans (congrFun (congrFun (congrFun PySem.W.Fast.te6494841257107148983 KK) w) os).symm))
end H56
namespace L2
open PySem PySem.Spec PyProof.Rows
noncomputable abbrev wd:=Sum Int Str
noncomputable def zRp:wd->Value->Bool
 | .inl k,v=>Value.isInt k v
 | .inr x,v=>Value.isStrOf x v
noncomputable def Um (w:World):wd->Int
 | .inl k=>hashInt k
 | .inr x=>hashStr w x
theorem jR:∀ {k:wd} {v:Value},zRp k v=true->(∃ i t,k=Sum.inl i/\v=Value.int i t)\/(∃ x t,k=Sum.inr x/\v=Value.str x t)
 | .inl i,v,h=>by
  obtain ⟨t,e⟩:=Value.isInt_shape (k:=i) (v:=v) h
  exact .inl ⟨i,t,rfl,e⟩
 | .inr x,v,h=>by
  obtain ⟨t,e⟩:=Value.isStrOf_shape (x:=x) (v:=v) h
  exact .inr ⟨x,t,rfl,e⟩
theorem zRo (a b:Int):decide ((Sum.inl a:wd)=Sum.inl b)=(a == b):=by
 by_cases e:a=b
 ·subst e; simp
 ·have h:¬ (Sum.inl a:wd)=Sum.inl b:=λq=>e (Sum.inl.inj q)
  rw [decide_eq_false h]
  exact (beq_eq_false_iff_ne.mpr e).symm
theorem zRl (a b:Str):decide ((Sum.inr a:wd)=Sum.inr b)=decide (a=b):=by
 by_cases e:a=b
 ·subst e; simp
 ·have h:¬ (Sum.inr a:wd)=Sum.inr b:=λq=>e (Sum.inr.inj q)
  rw [decide_eq_false h,decide_eq_false e]
theorem zRn (a:Int) (b:Str):decide ((Sum.inl a:wd)=Sum.inr b)=false:=decide_eq_false (λq=>nomatch q)
theorem zRm (a:Str) (b:Int):decide ((Sum.inr a:wd)=Sum.inl b)=false:=decide_eq_false (λq=>nomatch q)
noncomputable def zLm (prog:Program) (w:World):PySem.KeyKind prog w wd where
 is:=zRp
 hash:=Um w
 inj:=λv a b ha hb=>by
  rcases jR ha with ⟨i,t,rfl,rfl⟩ | ⟨x,t,rfl,rfl⟩
  ·rcases jR hb with ⟨j,u,rfl,e⟩ | ⟨y,u,rfl,e⟩
   ·injection e with e1 _; rw [e1]
   ·exact nomatch e
  ·rcases jR hb with ⟨j,u,rfl,e⟩ | ⟨y,u,rfl,e⟩
   ·exact nomatch e
   ·injection e with e1 _; rw [e1]
 byValue:=λk v h=>by
  rcases jR h with ⟨i,t,rfl,rfl⟩ | ⟨x,t,rfl,rfl⟩ <;> rfl
 pyHash:=λhv h=>by
  rcases jR hv with ⟨i,t,rfl,rfl⟩ | ⟨x,t,rfl,rfl⟩
  ·exact wpAny_pyHash_int h
  ·exact wpAny_pyHash_str h
 eqBool:=λhu hv h=>by
  rcases jR hu with ⟨i,t,rfl,rfl⟩ | ⟨x,t,rfl,rfl⟩
  ·rcases jR hv with ⟨j,u,rfl,rfl⟩ | ⟨y,u,rfl,rfl⟩
   ·rw [zRo] at h; exact wpAny_eqBool_int h
   ·rw [zRn] at h; exact SeqAt.EqAt.int_str i t y u _ _ _ _ h
  ·rcases jR hv with ⟨j,u,rfl,rfl⟩ | ⟨y,u,rfl,rfl⟩
   ·rw [zRm] at h; exact SeqAt.EqAt.str_int x t j u _ _ _ _ h
   ·rw [zRl] at h; exact wpAny_eqBool_str h
 «strs»:=λk x t v h=>by
  rcases jR h with ⟨i,u,rfl,e⟩ | ⟨y,u,rfl,e⟩
  ·exact nomatch e
  ·injection e with e1 _
   subst e1
   cases v <;> rfl
end L2
namespace L2
open PySem PySem.Spec PyProof.Rows
inductive V where
 | non | bl (b:Bool) | int (i:Int) | str (x:Str) | byt (b:Array UInt8) | flt (b:UInt64) | ref (a:Addr) | ty (n:String)
 deriving DecidableEq
noncomputable def zS:V->Value->Prop
 | .non,u=>u=Value.none
 | .bl b,u=>u=Value.bool b
 | .int i,u=>∃ t,u=Value.int i t
 | .str x,u=>∃ t,u=Value.str x t
 | .byt b,u=>∃ t,u=Value.bytes b t
 | .flt b,u=>∃ t,u=Value.float b t
 | .ref a,u=>u=Value.ref a
 | .ty n,u=>u=Value.type n
noncomputable abbrev zL:List V->List Value->Prop:=Paired zS
theorem zL.length {xs:List V} {us:List Value} (r:zL xs us):xs.length=us.length:=Paired.length r
theorem zL.get:∀ {xs:List V} {us:List Value} {i:Nat} {x:V},zL xs us->xs[i]? = some x->∃ u,us[i]? = some u/\zS x u
 | _,_,_,_,.nil,e=>by simp at e
 | _,_,0,_,.cons r _,e=>by simp at e; subst e; exact ⟨_,rfl,r⟩
 | _,_,i + 1,x,.cons _ t,e=>by
  obtain ⟨u,h1,h2⟩:=zL.get (i:=i) (x:=x) t (by simpa using e)
  exact ⟨u,by simpa using h1,h2⟩
theorem zL.append:∀ {xs ys:List V} {us ws:List Value},zL xs us->zL ys ws->zL (xs++ys) (us++ws)
 | _,_,_,_,.nil,s=>s
 | _,_,_,_,.cons r t,s=>.cons r (zL.append t s)
theorem zL.take:∀ {xs:List V} {us:List Value} (n:Nat),zL xs us->zL (xs.take n) (us.take n)
 | _,_,0,_=>.nil
 | _,_,_ + 1,.nil=>.nil
 | _,_,n + 1,.cons r t=>.cons r (zL.take n t)
theorem zL.drop:∀ {xs:List V} {us:List Value} (n:Nat),zL xs us->zL (xs.drop n) (us.drop n)
 | _,_,0,r=>r
 | _,_,_ + 1,.nil=>.nil
 | _,_,n + 1,.cons _ t=>zL.drop n t
noncomputable def wV:Option V->Option Value->Prop
 | some v,some u=>zS v u
 | none,none=>True
 | _,_=>False
noncomputable def KV {κ:Type}:List (κ × V)->List (κ × Value)->Prop:=Paired λ(p:κ × V) (q:κ × Value)=>p.1=q.1/\zS p.2 q.2
noncomputable def kV:wd->V
 | .inl i=>.int i
 | .inr x=>.str x
inductive HO where
 | lst (xs:List V)
 | tup (xs:List V)
 | dK (kvs:List (wd × V)) | dT (kvs:List (List wd × V))
 | set (S:Int->Bool) (n:Nat)
 | ins (C dx:Addr) (fs:List (Str × V))
 | own (x:Addr)
 | xd (fs:List (Str × V))
 | met (f x:Addr)
 | rng (lo hi:Int)
 | frz (o:Obj) (u:HO)
 | tbl (ps:Array Value)
 | ext (φ:Heap->Prop)
noncomputable abbrev Hp:=Addr->Option HO
noncomputable def zY (H:Hp) (a:Addr) (o:HO):Hp:=λb=>if b=a then some o else H b
theorem wS {H:Hp} {a:Addr} {o:HO}:zY H a o a=some o:=by unfold zY; rw [if_pos rfl]
theorem zc {H:Hp} {a b:Addr} {o:HO} (h:b≠a):zY H a o b=H b:=by unfold zY; rw [if_neg h]
theorem ZC {H:Hp} {a b:Addr} {o u:HO} (h:H a=some o) (h':H b=some u) (d:o≠u):a≠b:=by
 intro e; subst e; rw [h] at h'; exact d (Option.some.inj h')
theorem xZ {H:Hp} {a b:Addr} {o:HO} (h:H a=some o) (h':H b=none):a≠b:=by
 intro e; subst e; rw [h] at h'; cases h'
section
variable (P:Program) (w:World)
noncomputable def xa (H:Hp) (h:Heap) (a:Addr):HO->Prop
 | .lst xs=>xs.length<=sizeLine/\∃ (its:List Value) (n:Nat),zL xs its/\h.get? a=some { cls:=.type "list",data:=.seq its.toArray n }
 | .tup xs=>xs.length<=sizeLine/\∃ its:List Value,zL xs its/\IsTup h a its.toArray
 | .dK kvs=>kvs.length<=sizeLine/\(a == sysModules)=false/\∃ vs,KV kvs vs/\h.DictOf (zLm P w) a vs
 | .dT kvs=>kvs.length<=sizeLine/\(a == sysModules)=false/\∃ xs:List (List wd × Addr × Value),
   Paired (λ(p:List wd × V) (q:List wd × Addr × Value)=>p.1=q.1/\H q.2.1=some (.tup (p.1.map kV))/\zS p.2 q.2.2) kvs xs∧
   ∃ o es ep,h.get? a=some o/\o.ExactDict/\o.data=.dict es ep/\es.toList=xs.map (entryOfKey (tupleKind (zLm P w)))/\(xs.map (·.1)).Nodup
 | .set S n=>h.SetOf (intKind P w) a S n
 | .ins C dx fs=>H dx=some (.own a)/\fs.length<=1000/\dx≠a/\h.get? a=some (eh C dx)∧
   ∃ mA,h.Ns1 dx mA/\(∀ f,wV (fs.lookup f) (mA f))/\PySem.Within mA (fs.map (·.1))
 | .own _=>∃ o,h.get? a=some o
 | .xd fs=>∃ mA,h.Ns1 a mA/\∀ f,wV (fs.lookup f) (mA f)
 | .rng lo hi=>∃ t u v,h.get? a=some { cls:=.type "range",data:=.fields #[.int lo t,.int hi u,.int 1 v] }
 | .frz o u=>h.get? a=some o/\xa H h a u
 | .tbl ps=>h.get? a=some { cls:=.none,data:=.fields ps }
 | .met f x=>h.get? a=some (ip (.ref f) (.ref x))
 | .ext φ=>φ h/\(∃ o,h.get? a=some o)/\∀ h1 h2:Heap,φ h1->(∀ o,h1.get? a=some o->h2.get? a=some o)->φ h2
noncomputable def yy (H:Hp) (h:Heap):Prop:=∀ a o,H a=some o->xa P w H h a o
end
section
variable {P:Program} {w:World} {H H':Hp} {h h':Heap} {a:Addr} {o:HO}
theorem xa.lt (x:xa P w H h a o):a < h.objs.size:=by
 cases o with
 | lst xs=>obtain ⟨_,_,_,_,e⟩:=x; exact cA e
 | tup xs=>obtain ⟨_,_,_,p⟩:=x; exact p.lt
 | dK kvs=>obtain ⟨_,_,_,_,o,_,_,e,_⟩:=x; exact cA e
 | dT kvs=>obtain ⟨_,_,_,_,o,_,_,e,_⟩:=x; exact cA e
 | set S n=>obtain ⟨o,_,_,_,e,_⟩:=x; exact cA e
 | ins C dx fs=>obtain ⟨_,_,_,e,_⟩:=x; exact cA e
 | own y=>obtain ⟨_,e⟩:=x; exact cA e
 | xd fs=>obtain ⟨_,⟨_,_,_,e,_⟩,_⟩:=x; exact cA e
 | rng lo hi=>obtain ⟨_,_,_,e⟩:=x; exact cA e
 | frz ob u=>obtain ⟨e,_⟩:=x; exact cA e
 | tbl ps=>exact cA (show h.get? a=some _ from x)
 | met f y=>exact cA (show h.get? a=some _ from x)
 | ext φ=>obtain ⟨_,⟨_,e⟩,_⟩:=x; exact cA e
theorem Paired.mapP {α β:Type} {F G:α->β->Prop}:∀ {l₁:List α} {l₂:List β},Paired F l₁ l₂->(∀ a b,F a b->G a b)->Paired G l₁ l₂
 | _,_,.nil,_=>.nil
 | _,_,.cons r t,f=>.cons (f _ _ r) (Paired.mapP t f)
theorem xa.stay (x:xa P w H h a o) (k:∀ b u,(b=a\/H b=some (.own a))->h.get? b=some u->h'.get? b=some u)
  (ho:∀ b,H b=some (.own a)->H' b=some (.own a)) (ht:∀ b xs,H b=some (.tup xs)->H' b=some (.tup xs)):xa P w H' h' a o:=by
 induction o with
 | lst xs=>obtain ⟨z,its,n,r,e⟩:=x; exact ⟨z,its,n,r,k _ _ (.inl rfl) e⟩
 | tup xs=>obtain ⟨z,its,r,ob,e,c⟩:=x; exact ⟨z,its,r,ob,k _ _ (.inl rfl) e,c⟩
 | dK kvs=>obtain ⟨z,y,vs,r,ob,es,ep,e,c⟩:=x; exact ⟨z,y,vs,r,ob,es,ep,k _ _ (.inl rfl) e,c⟩
 | dT kvs=>
  obtain ⟨z,y,xs,r,ob,es,ep,e,c⟩:=x
  exact ⟨z,y,xs,Paired.mapP r λp q z=>⟨z.1,ht _ _ z.2.1,z.2.2⟩,ob,es,ep,k _ _ (.inl rfl) e,c⟩
 | set S n=>obtain ⟨ob,es,ep,t,e,c⟩:=x; exact ⟨ob,es,ep,t,k _ _ (.inl rfl) e,c⟩
 | ins C dx fs=>
  obtain ⟨d,z,ne,e,mA,⟨od,es,ep,e2,c⟩,r⟩:=x
  exact ⟨ho _ d,z,ne,k _ _ (.inl rfl) e,mA,⟨od,es,ep,k _ _ (.inr d) e2,c⟩,r⟩
 | own y=>obtain ⟨ob,e⟩:=x; exact ⟨ob,k _ _ (.inl rfl) e⟩
 | xd fs=>obtain ⟨mA,⟨od,es,ep,e,c⟩,r⟩:=x; exact ⟨mA,⟨od,es,ep,k _ _ (.inl rfl) e,c⟩,r⟩
 | rng lo hi=>obtain ⟨t,u,v,e⟩:=x; exact ⟨t,u,v,k _ _ (.inl rfl) e⟩
 | frz ob u ih=>obtain ⟨e,q⟩:=x; exact ⟨k _ _ (.inl rfl) e,ih q⟩
 | tbl ps=>
  have e:h.get? a=some { cls:=.none,data:=.fields ps }:=x
  show h'.get? a=some { cls:=.none,data:=.fields ps }
  exact k a _ (.inl rfl) e
 | met f y=>
  have e:h.get? a=some (ip (.ref f) (.ref y)):=x
  show h'.get? a=some (ip (.ref f) (.ref y))
  exact k a _ (.inl rfl) e
 | ext φ=>obtain ⟨p,⟨o,e⟩,st⟩:=x; exact ⟨st _ _ p λo q=>k _ _ (.inl rfl) q,⟨o,k _ _ (.inl rfl) e⟩,st⟩
theorem yy.lt (x:yy P w H h) (e:H a=some o):a < h.objs.size:=(x a o e).lt
theorem yy.fresh (x:yy P w H h) (e:h.objs.size<=a):H a=none:=by
 cases q:H a with
 | none=>rfl
 | some u=>exact absurd (cP (x.lt q) e) (df _)
theorem yy.kept (x:yy P w H h) (k:∀ b u,h.get? b=some u->h'.get? b=some u):yy P w H h':=λa o e=>
 (x a o e).stay (λb u _ q=>k b u q) (λ_ q=>q) λ_ _ q=>q
theorem yy.laid (x:yy P w H h) (k:∀ b u,h.get? b=some u->h'.get? b=some u) (hp:h.objs.size<=a) (new:xa P w (zY H a o) h' a o):yy P w (zY H a o) h':=λb u e=>by
 have hn:=x.fresh hp
 by_cases hb:b=a
 ·subst hb; rw [wS] at e; cases e; exact new
 ·rw [zc hb] at e
  exact (x b u e).stay (λc v _ q=>k c v q) (λc q=>by rw [zc (xZ q hn)]; exact q) λc xs q=>by rw [zc (xZ q hn)]; exact q
end
noncomputable def Rd (H:Hp) (a:Addr) (u:HO):Prop:=H a=some u\/∃ o,H a=some (.frz o u)
theorem Rd.ok {P:Program} {w:World} {H:Hp} {h:Heap} {a:Addr} {u:HO} (r:Rd H a u) (x:yy P w H h):xa P w H h a u:=by
 rcases r with r | ⟨o,r⟩
 ·exact x a u r
 ·obtain ⟨_,q⟩:=x a _ r
  exact q
noncomputable def WC:Option HO->Prop
 | some (.lst _)=>True
 | some (.dK _)=>True
 | some (.dT _)=>True
 | some (.set _ _)=>True
 | some (.ins _ _ _)=>True
 | some (.ext _)=>True
 | _=>False
section
variable {P:Program} {w:World} {H:Hp} {h h':Heap} {x e:Addr} {o':HO}
theorem yy.write (ok:yy P w H h) (mu:WC (H x)) (he:e=x\/H e=some (.own x)) (k:∀ b u,b≠e->h.get? b=some u->h'.get? b=some u) (heo:∃ u,h'.get? e=some u)
  (new:xa P w (zY H x o') h' x o'):yy P w (zY H x o') h':=λb u q=>by
 have nown:∀ c y,H c=some (.own y)->c≠x:=λc y r z=>by subst z; rw [r] at mu; exact mu
 have ntup:∀ c xs,H c=some (.tup xs)->c≠x:=λc xs r z=>by subst z; rw [r] at mu; exact mu
 by_cases hb:b=x
 ·subst hb; rw [wS] at q; cases q; exact new
 ·rw [zc hb] at q
  by_cases hbe:b=e
  ·have q':H b=some (.own x):=by
    rcases he with z | z
    ·exact absurd (hbe.trans z) hb
    ·rw [hbe]; exact z
   rw [q] at q'; cases q'
   obtain ⟨v,hv⟩:=heo
   exact ⟨v,by rw [hbe]; exact hv⟩
  ·refine (ok b u q).stay (λc v hc r=>k c v ?_ r) (λc r=>by rw [zc (nown c b r)]; exact r) λc xs r=>by rw [zc (ntup c xs r)]; exact r
   rcases hc with rfl | hc
   ·exact hbe
   ·rintro rfl
    rcases he with z | z
    ·exact nown c b hc z
    ·rw [hc] at z; cases z; exact hb rfl
end
structure Un (fs ex:List Addr) (H H':Hp) (h h':Heap):Prop where
 keep:∀ b o,h.get? b=some o->H b=none->b∉fs->b∉ex->h'.get? b=some o
 slot:∀ b o,h.get? b=some o->H b=none->b∈fs->b∉ex->∃ sl,h'.get? b=some { o with slots:=sl }
 free:∀ b o,h.get? b=some o->H b=none->b∉ex->H' b=none
 there:∀ b o,h.get? b=some o->b∉ex->∃ o',h'.get? b=some o'
 tups:∀ b xs,H b=some (.tup xs)->H' b=some (.tup xs)
 frzs:∀ b o u,H b=some (.frz o u)->H' b=some (.frz o u)
 tbls:∀ b ps,H b=some (.tbl ps)->∃ more,H' b=some (.tbl (ps++more))
section
variable {fs fs' ex ex':List Addr} {H H1 H2:Hp} {h h1 h2 h':Heap} {a x e:Addr} {o:HO}
theorem Un.any (u:Un fs ex H H1 h h1) {b:Addr} {ob:Obj} (q:h.get? b=some ob) (n:H b=none) (hx:b∉ex):∃ sl,h1.get? b=some { ob with slots:=sl }:=by
 by_cases hb:b∈fs
 ·exact u.slot b ob q n hb hx
 ·exact ⟨ob.slots,u.keep b ob q n hb hx⟩
theorem Un.trans (a:Un fs ex H H1 h h1) (b:Un fs ex H1 H2 h1 h2):Un fs ex H H2 h h2 where
 keep:=λc ob q n hc hx=>b.keep c ob (a.keep c ob q n hc hx) (a.free c ob q n hx) hc hx
 slot:=λc ob q n hc hx=>by
  obtain ⟨sl,e1⟩:=a.slot c ob q n hc hx
  obtain ⟨sl',e2⟩:=b.slot c _ e1 (a.free c ob q n hx) hc hx
  exact ⟨sl',e2⟩
 free:=λc ob q n hx=>by
  obtain ⟨o',e1⟩:=a.there c ob q hx
  exact b.free c o' e1 (a.free c ob q n hx) hx
 there:=λc ob q hx=>by
  obtain ⟨o',e1⟩:=a.there c ob q hx
  exact b.there c o' e1 hx
 tups:=λc xs q=>b.tups c xs (a.tups c xs q)
 frzs:=λc ob xs q=>b.frzs c ob xs (a.frzs c ob xs q)
 tbls:=λc ps q=>by
  obtain ⟨m1,e1⟩:=a.tbls c ps q
  obtain ⟨m2,e2⟩:=b.tbls c _ e1
  exact ⟨m1++m2,by rw [e2,i4]⟩
theorem Un.kept (k:∀ b u,h.get? b=some u->h'.get? b=some u):Un fs ex H H h h':=
 ⟨λb ob q _ _ _=>k b ob q,λb ob q _ _ _=>⟨ob.slots,k b ob q⟩,λ_ _ _ n _=>n,λb ob q _=>⟨ob,k b ob q⟩,λ_ _ q=>q,λ_ _ _ q=>q,λ_ ps q=>⟨#[],by rw [q]; simp⟩⟩
theorem Un.refl:Un fs ex H H h h:=Un.kept λ_ _ q=>q
theorem Un.laid (k:∀ b u,h.get? b=some u->h'.get? b=some u) (hp:h.objs.size<=a) (hn:H a=none):Un fs ex H (zY H a o) h h' where
 keep:=λb u q _ _ _=>k b u q
 slot:=λb u q _ _ _=>⟨u.slots,k b u q⟩
 free:=λb u q n _=>by rw [zc (de (cP (cA q) hp))]; exact n
 there:=λb u q _=>⟨u,k b u q⟩
 tups:=λb xs q=>by rw [zc (xZ q hn)]; exact q
 frzs:=λb u xs q=>by rw [zc (xZ q hn)]; exact q
 tbls:=λb ps q=>⟨#[],by rw [zc (xZ q hn),q]; simp⟩
theorem Un.write (mu:WC (H x)) (he:e=x\/H e=some (.own x)) (k:∀ b u,b≠e->h.get? b=some u->h'.get? b=some u) (heo:∃ u,h'.get? e=some u):Un fs ex H (zY H x o) h h':=by
 have hx:∀ b,H b=none->b≠x:=λb n z=>by subst z; rw [n] at mu; exact mu
 have hb:∀ b,H b=none->b≠e:=λb n z=>by
  subst z
  rcases he with r | r
  ·exact hx b n r
  ·rw [n] at r; cases r
 have hm:∀ b u,H b=some u->¬ WC (some u)->b≠x:=λb u q nm z=>by subst z; rw [q] at mu; exact nm mu
 refine ⟨λb u q n _ _=>k b u (hb b n) q,λb u q n _ _=>⟨u.slots,k b u (hb b n) q⟩,λb u q n _=>by rw [zc (hx b n)]; exact n,λb u q _=>?_,
  λb xs q=>by rw [zc (hm b _ q λz=>z)]; exact q,λb u xs q=>by rw [zc (hm b _ q λz=>z)]; exact q,λb ps q=>⟨#[],by rw [zc (hm b _ q λz=>z),q]; simp⟩⟩
 by_cases hbe:b=e
 ·subst hbe; exact heo
 ·exact ⟨u,k b u hbe q⟩
theorem Un.mono (u:Un fs ex H H1 h h1) (hs:∀ b∈fs,b∈fs') (hx:∀ b∈ex,b∈ex'):Un fs' ex' H H1 h h1:=
 ⟨λb ob q n hb he=>u.keep b ob q n (λz=>hb (hs b z)) λz=>he (hx b z),λ_ _ q n _ he=>u.any q n λz=>he (hx _ z),λb ob q n he=>u.free b ob q n λz=>he (hx b z),λb ob q he=>u.there b ob q λz=>he (hx b z),u.tups,u.frzs,u.tbls⟩
end
noncomputable def uJ (h:Heap) (H:Hp):List Addr:=(cR h.objs.size).filter λa=>(H a).isSome
noncomputable def wl (h:Heap) (H:Hp):Heap:=fI h (uJ h H)
theorem zLw (h:Heap) (H:Hp):(wl h H).objs.size=h.objs.size:=PySem.W.hideAll_size _ _
theorem zNk {h:Heap} {H:Hp} {b:Addr} {o:Obj} (e:h.get? b=some o) (n:H b=none):(wl h H).get? b=some o:=
 fC _ e λhm=>by
  have q:(H b).isSome=true:=(dq.mp hm).2
  rw [n] at q; simp at q
theorem zPs {h:Heap} {H:Hp} {b:Addr} {o:Obj} (e:(wl h H).get? b=some o):h.get? b=some o/\H b=none:=by
 have e':h.get? b=some o:=ic (uJ h H) e
 refine ⟨e',?_⟩
 cases q:H b with
 | none=>rfl
 | some x=>
  have hm:b∈uJ h H:=dq.mpr ⟨du.mpr (cA e'),by simp [q]⟩
  have z:(wl h H).get? b=none:=PySem.W.hideAll_none (uJ h H) hm
  rw [z] at e; cases e
noncomputable def zQV (g h:Heap) (L:Addr):List (Addr × Obj):=(cR h.objs.size).filterMap λa=>if a=L\/(g.get? a).isSome=true then none else (h.get? a).map λo=>(a,o)
noncomputable def yh (g h:Heap) (L d:Addr):List (Addr × Obj):=(zQV g h L).filter λp=>decide (p.1≠d)
end L2
namespace L2
open PySem PySem.Spec PyProof.Rows
structure Mod (K:b_) (mg:Str->Option Value) (base:Heap):Prop where
 kin:K.In base
 glob:base.Ns mainGlobals mg
 blt:∃ mb,base.Ns builtinsNs mb/\∀ x:Str,x≠"__name__"->mb x=bootBuiltins x
 nolimit:base.NoLimit
structure Cx where
 prog:Program
 w:World
 K:b_
 mg:Str->Option Value
 base:Heap
 A:Around
 N:List Str
 s₀:Shared
 H₀:Hp
 env:Env
 outer:List Env
 stack:List Env
 ex:List Addr
 fn:Str->Bool
 calm:Bool
 pn:List (Addr × Obj)
 xe:Value->Shared->Prop
noncomputable def xJ (l:List Env):List Addr:=l.filterMap (·.frame)
noncomputable abbrev Cx.fs (X:Cx):List Addr:=xJ X.outer
noncomputable def gU (sc:Scope) (x:Str):Prop:=sc.names.lookup x=some .local\/sc.names.lookup x=some .cell\/sc.names.lookup x=some .free
noncomputable def uh (sc:Scope) (x:Str):Prop:=sc.names.lookup x=some .local\/sc.names.lookup x=some .cell
noncomputable def Uo (env:Env) (h:Heap) (m:Str->Option Value) (x:Str) (u:Value):Prop:=
 (env.kindOf x=some .local/\m x=some u)\/((env.kindOf x=some .cell\/env.kindOf x=some .free)/\∃ c,env.cells.lookup x=some c/\h.IsCell c (some u))
structure Cx.Ok (X:Cx):Prop where
 mod:Mod X.K X.mg X.base
 kind:X.env.scope.kind=.function
 glob:X.env.globals=mainGlobals
 blt:X.env.builtins=builtinsNs
 above:X.s₀.heap.objs.size<=X.env.locals
 inj:∀ x y c,X.env.cells.lookup x=some c->X.env.cells.lookup y=some c->x=y
 has:∀ x,(X.env.kindOf x=some .cell\/X.env.kindOf x=some .free)->∃ c,X.env.cells.lookup x=some c
 cab:∀ x c,X.fn x=true->X.env.cells.lookup x=some c->X.s₀.heap.objs.size<=c
 hd:X.calm=true->X.A.handled=none
 frames:X.A.frames=some X.stack
 stk:X.stack=X.outer\/(X.stack=X.env :: X.outer/\X.env.frame=some X.env.locals)
 exf:∀ b∈X.ex,b≠X.env.locals/\∀ x c,X.env.cells.lookup x=some c->c≠b
 bs:∀ b o,X.base.get? b=some o->X.s₀.heap.get? b=some o/\X.H₀ b=none
 bsz:X.base.objs.size<=X.s₀.heap.objs.size
 noex:∀ b o,X.base.get? b=some o->b∉X.ex
 exfs:∀ b∈X.ex,b∉X.fs
 funs:X.s₀.heap.FunFrames X.base X.outer
 frf:∀ b∈X.fs,X.H₀ b=none
structure zF (X:Cx) (pins:List (Addr × Obj)) (σ:List (Option V)) (H:Hp) (s:Shared):Prop where
 ok:X.Ok
 os:s.os=X.s₀.os
 bare:AllBare s.gens
 base:Un X.fs X.ex X.H₀ H X.s₀.heap s.heap
 loc:∃ m,s.heap.Ns X.env.locals m/\∀ (i:Nat) (x:Str) (v:V),X.N[i]? = some x->σ[i]? = some (some v)->gU X.env.scope x->∃ u,zS v u/\Uo X.env s.heap m x u
 cell:∀ x c,X.env.cells.lookup x=some c->∃ v,s.heap.IsCell c v
 free:H X.env.locals=none
 freeC:∀ x c,X.env.cells.lookup x=some c->H c=none
 pin:∀ p∈X.pn++pins,s.heap.get? p.1=some p.2/\H p.1=none/\p.1≠X.env.locals/\p.1∉X.fs/\∀ v,p.2.data≠.cell v
 hok:yy X.prog X.w H s.heap
 len:σ.length=X.N.length
section
variable {X:Cx} {pins:List (Addr × Obj)} {σ:List (Option V)} {H H':Hp} {s:Shared} {h':Heap}
theorem Cx.Ok.nofr (ok:X.Ok) {b:Addr} {o:Obj} (e:X.base.get? b=some o):b∉X.fs:=λhb=>by
 have:=(ok.funs.mem hb).1
 rw [e] at this; cases this
theorem zF.bs (I:zF X pins σ H s):∀ b o,X.base.get? b=some o->s.heap.get? b=some o/\H b=none:=λb o e=>
 ⟨I.base.keep b o (I.ok.bs b o e).1 (I.ok.bs b o e).2 (I.ok.nofr e) (I.ok.noex b o e),I.base.free b o (I.ok.bs b o e).1 (I.ok.bs b o e).2 (I.ok.noex b o e)⟩
theorem zF.bk (I:zF X pins σ H s):∀ b o,X.base.get? b=some o->s.heap.get? b=some o:=λb o e=>(I.bs b o e).1
theorem zF.mod (I:zF X pins σ H s):Mod X.K X.mg X.base:=I.ok.mod
theorem zF.kIn (I:zF X pins σ H s):X.K.In s.heap:=I.ok.mod.kin.keeps I.bk
theorem zF.lt (I:zF X pins σ H s):X.env.locals < s.heap.objs.size:=let ⟨_,hn,_⟩:=I.loc; hn.lt
theorem zF.sz (I:zF X pins σ H s):X.s₀.heap.objs.size<=s.heap.objs.size:=dH I.ok.above (ie I.lt)
theorem zF.nofs (I:zF X pins σ H s) {a:Addr} (h:s.heap.objs.size<=a):a∉X.fs:=λhb=>by
 obtain ⟨_,o,ho,_⟩:=I.ok.funs.mem hb
 exact absurd (cP (cA ho) (dH I.sz h)) (df _)
theorem zF.cne (I:zF X pins σ H s):∀ x c,X.env.cells.lookup x=some c->c≠X.env.locals:=λx c e z=>by
 obtain ⟨v,o,ho,hd⟩:=I.cell x c e
 obtain ⟨m,⟨o',es,ep,ho',hd',_⟩,_⟩:=I.loc
 rw [z,ho'] at ho; cases ho; rw [hd'] at hd; cases hd
theorem zF.funs (I:zF X pins σ H s):s.heap.FunFrames X.base X.outer:=by
 have all:∀ (l:List Env),(∀ b∈xJ l,b∈X.fs)->X.s₀.heap.FunFrames X.base l->s.heap.FunFrames X.base l:=by
  intro l
  induction l with
  | nil=>intro _ _; trivial
  | cons env r ih=>
   intro hs hl
   obtain ⟨hk,⟨L,o,hf,hn,ho,hd⟩,hr⟩:=hl
   have hL:L∈X.fs:=hs L (by unfold xJ; rw [ek,hf]; exact cq)
   obtain ⟨sl,e⟩:=I.base.slot L o ho (I.ok.frf L hL) hL λz=>I.ok.exfs L z hL
   exact ⟨hk,⟨L,_,hf,hn,e,hd⟩,ih (λb hb=>hs b (by unfold xJ; rw [ek,hf]; exact cn _ hb)) hr⟩
 exact all X.outer (λ_ hb=>hb) I.ok.funs
theorem zF.stack (I:zF X pins σ H s):s.heap.FunFrames X.base X.stack:=by
 rcases I.ok.stk with e | ⟨e,hf⟩
 ·rw [e]; exact I.funs
 ·rw [e]
  obtain ⟨m,hn,_⟩:=I.loc
  refine .cons (by rw [I.ok.kind]; decide) hf hn ?_ I.funs
  exact Heap.get?_none_of_le (dH I.ok.bsz I.ok.above)
theorem zF.stkSub (I:zF X pins σ H s):∀ b∈xJ X.stack,b∈X.env.locals :: X.fs:=λb hb=>by
 rcases I.ok.stk with e | ⟨e,hf⟩
 ·rw [e] at hb; exact cn _ hb
 ·rw [e] at hb
  unfold xJ at hb
  rw [ek,hf] at hb
  exact hb
theorem zF.stkFree (I:zF X pins σ H s):∀ b∈xJ X.stack,H b=none:=λb hb=>by
 rcases cu.mp (I.stkSub b hb) with e | hb
 ·rw [e]; exact I.free
 ·obtain ⟨_,o,ho,_⟩:=I.ok.funs.mem hb
  exact I.base.free b o ho (I.ok.frf b hb) λz=>I.ok.exfs b z hb
theorem zF.step {g':Array GenState} {t':Nat} {d':Drawn} {ch:List Addr} (I:zF X pins σ H s)
  (hch:∀ b∈ch,(b∈X.ex\/X.s₀.heap.objs.size<=b)/\b≠X.env.locals/\(∀ x c,X.env.cells.lookup x=some c->c≠b)/\∀ p∈X.pn++pins,p.1≠b)
  (keep:∀ b o,b≠X.env.locals->b∉X.fs->b∉ch->s.heap.get? b=some o->H b=none->h'.get? b=some o)
  (slot:∀ b o,b≠X.env.locals->b∈X.fs->b∉ch->s.heap.get? b=some o->H b=none->∃ sl,h'.get? b=some { o with slots:=sl }) (free:∀ b o,b∉ch->s.heap.get? b=some o->H b=none->H' b=none)
  (there:∀ b o,b∉ch->s.heap.get? b=some o->∃ o',h'.get? b=some o')
  (tups:∀ b xs,H b=some (.tup xs)->H' b=some (.tup xs)) (frzs:∀ b o u,H b=some (.frz o u)->H' b=some (.frz o u)) (tbls:∀ b ps,H b=some (.tbl ps)->∃ more,H' b=some (.tbl (ps++more)))
  (ns:∀ m,s.heap.Ns X.env.locals m->h'.Ns X.env.locals m) (hok:yy X.prog X.w H' h') (hg:AllBare g') :
  zF X pins σ H' { s with heap:=h',gens:=g',drawn:=d',toks:=t' }:=by
 have neL:∀ b o,X.s₀.heap.get? b=some o->b≠X.env.locals:=λb o e=>de (cP (cA e) I.ok.above)
 have neC:∀ b o,X.s₀.heap.get? b=some o->b∉X.ex->b∉ch:=λb o e hx hb=>by
  rcases (hch b hb).1 with z | z
  ·exact hx z
  ·exact absurd (cP (cA e) z) (df _)
 have cellK:∀ x c,X.env.cells.lookup x=some c->∀ v,s.heap.IsCell c v->h'.IsCell c v:=λx c e v ⟨o,ho,hd⟩=>by
  have nch:c∉ch:=λz=>(hch c z).2.2.1 x c e rfl
  by_cases hc:c∈X.fs
  ·obtain ⟨sl,q⟩:=slot c o (I.cne x c e) hc nch ho (I.freeC x c e)
   exact ⟨_,q,hd⟩
  ·exact ⟨o,keep c o (I.cne x c e) hc nch ho (I.freeC x c e),hd⟩
 refine ⟨I.ok,I.os,hg,⟨λb o e n hb hx=>?_,λb o e n hb hx=>?_,λb o e n hx=>?_,λb o e hx=>?_,λb xs e=>tups b xs (I.base.tups b xs e),λb o xs e=>frzs b o xs (I.base.frzs b o xs e),λb ps e=>?_⟩,?_,λx c e=>?_,?_,λx c e=>?_,λp hp=>?_,hok,I.len⟩
 ·exact keep b o (neL b o e) hb (neC b o e hx) (I.base.keep b o e n hb hx) (I.base.free b o e n hx)
 ·obtain ⟨sl,e1⟩:=I.base.slot b o e n hb hx
  obtain ⟨sl',e2⟩:=slot b _ (neL b o e) hb (neC b o e hx) e1 (I.base.free b o e n hx)
  exact ⟨sl',e2⟩
 ·obtain ⟨o',e1⟩:=I.base.there b o e hx
  exact free b o' (neC b o e hx) e1 (I.base.free b o e n hx)
 ·obtain ⟨o',e1⟩:=I.base.there b o e hx
  exact there b o' (neC b o e hx) e1
 ·obtain ⟨m1,e1⟩:=I.base.tbls b ps e
  obtain ⟨m2,e2⟩:=tbls b _ e1
  exact ⟨m1++m2,by rw [e2,i4]⟩
 ·obtain ⟨m,hn,hl⟩:=I.loc
  refine ⟨m,ns m hn,λi x v e1 e2 e3=>?_⟩
  obtain ⟨u,r,l⟩:=hl i x v e1 e2 e3
  refine ⟨u,r,?_⟩
  rcases l with l | ⟨k,c,e,z⟩
  ·exact .inl l
  ·exact .inr ⟨k,c,e,cellK x c e _ z⟩
 ·obtain ⟨v,z⟩:=I.cell x c e
  exact ⟨v,cellK x c e v z⟩
 ·obtain ⟨m,⟨o,_,_,ho,_⟩,_⟩:=I.loc
  exact free _ o (λz=>(hch _ z).2.1 rfl) ho I.free
 ·obtain ⟨v,o,ho,hd⟩:=I.cell x c e
  exact free c o (λz=>(hch c z).2.2.1 x c e rfl) ho (I.freeC x c e)
 ·obtain ⟨e,n,ne,nf,d⟩:=I.pin p hp
  have nch:p.1∉ch:=λz=>(hch p.1 z).2.2.2 p hp rfl
  exact ⟨keep p.1 p.2 ne nf nch e n,free p.1 p.2 nch e n,ne,nf,d⟩
theorem zF.un {t':Nat} (I:zF X pins σ H s) (u:Un X.fs [] H H' s.heap h') (hok:yy X.prog X.w H' h'):zF X pins σ H' { s with heap:=h',toks:=t' }:=by
 obtain ⟨m,⟨o,es,ep,ho,r⟩,_⟩:=id I.loc
 obtain ⟨sl,hL⟩:=u.any ho I.free (by simp)
 exact I.step (g':=s.gens) (d':=s.drawn) (ch:=[]) (λ_ z=>nomatch z) (λb o _ hb _ e n=>u.keep b o e n hb (by simp)) (λb o _ hb _ e n=>u.slot b o e n hb (by simp)) (λb o _ e n=>u.free b o e n (by simp)) (λb o _ e=>u.there b o e (by simp)) u.tups u.frzs u.tbls (λm' hm=>by
  obtain ⟨o',es',ep',ho',r'⟩:=hm
  rw [ho] at ho'; cases ho'
  exact ⟨_,es',ep',hL,r'⟩) hok I.bare
theorem zF.call {g':Array GenState} {t':Nat} {d':Drawn} {ch:List Addr} (I:zF X pins σ H s) (u:Un (xJ X.stack) ch H H' s.heap h') (hok:yy X.prog X.w H' h') (hg:AllBare g')
  (hch:∀ b∈ch,(b∈X.ex\/X.s₀.heap.objs.size<=b)/\b≠X.env.locals/\(∀ x c,X.env.cells.lookup x=some c->c≠b)/\∀ p∈X.pn++pins,p.1≠b) :
  zF X pins σ H' { s with heap:=h',gens:=g',drawn:=d',toks:=t' }:=by
 obtain ⟨m,⟨o,es,ep,ho,r⟩,_⟩:=id I.loc
 obtain ⟨sl,hL⟩:=u.any ho I.free λz=>(hch _ z).2.1 rfl
 exact I.step (ch:=ch) hch (λb o hL hb hc e n=>u.keep b o e n (λz=>(cu.mp (I.stkSub b z)).elim hL hb) hc) (λb o _ _ hc e n=>u.any e n hc) (λb o hc e n=>u.free b o e n hc) (λb o hc e=>u.there b o e hc) u.tups u.frzs u.tbls (λm' hm=>by
  obtain ⟨o',es',ep',ho',r'⟩:=hm
  rw [ho] at ho'; cases ho'
  exact ⟨_,es',ep',hL,r'⟩) hok hg
theorem zF.turned {t':Nat} {it:Addr} (I:zF X pins σ H s) (k:∀ b o,b≠it->s.heap.get? b=some o->h'.get? b=some o) (hn:H it=none) (hL:it≠X.env.locals)
  (h1:it∈X.ex\/X.s₀.heap.objs.size<=it) (h2:∀ x c,X.env.cells.lookup x=some c->c≠it) (h3:∀ p∈X.pn++pins,p.1≠it):zF X pins σ H { s with heap:=h',toks:=t' }:=by
 have nit:∀ b u,H b=some u->b≠it:=λb u e z=>by rw [z,hn] at e; cases e
 refine I.step (g':=s.gens) (d':=s.drawn) (ch:=[it]) (λb hb=>?_) (λb o _ _ hc e _=>k b o (λz=>hc (by simp [z])) e) (λb o _ _ hc e _=>⟨o.slots,k b o (λz=>hc (by simp [z])) e⟩) (λ_ _ _ _ n=>n)
  (λb o hc e=>⟨o,k b o (λz=>hc (by simp [z])) e⟩) (λ_ _ e=>e) (λ_ _ _ e=>e) (λb ps e=>⟨#[],by rw [e]; simp⟩) (λm hm=>?_) (λb u e=>?_) I.bare
 ·have e:b=it:=by simpa using hb
  subst e
  exact ⟨h1,hL,h2,h3⟩
 ·obtain ⟨o,es,ep,ho,r⟩:=hm
  exact ⟨o,es,ep,k _ o (Ne.symm hL) ho,r⟩
 ·refine (I.hok b u e).stay (λc v hc q=>k c v ?_ q) (λ_ q=>q) λ_ _ q=>q
  rcases hc with z | z
  ·rw [z]; exact nit b u e
  ·exact nit c _ z
theorem zF.tok (I:zF X pins σ H s) (t:Nat):zF X pins σ H { s with toks:=t }:=I.un (h':=s.heap) (t':=t) Un.refl I.hok
theorem zF.kept {t':Nat} (I:zF X pins σ H s) (k:∀ b u,s.heap.get? b=some u->h'.get? b=some u):zF X pins σ H { s with heap:=h',toks:=t' }:=I.un (Un.kept k) (I.hok.kept k)
theorem zF.laid {a:Addr} {o:HO} {t':Nat} (I:zF X pins σ H s) (k:∀ b u,s.heap.get? b=some u->h'.get? b=some u) (hp:s.heap.objs.size<=a) (new:xa X.prog X.w (zY H a o) h' a o) :
  zF X pins σ (zY H a o) { s with heap:=h',toks:=t' }:=I.un (Un.laid k hp (I.hok.fresh hp)) (I.hok.laid k hp new)
theorem zF.write {x e:Addr} {o:HO} {t':Nat} (I:zF X pins σ H s) (mu:WC (H x)) (he:e=x\/H e=some (.own x)) (k:∀ b u,b≠e->s.heap.get? b=some u->h'.get? b=some u) (heo:∃ u,h'.get? e=some u)
  (new:xa X.prog X.w (zY H x o) h' x o):zF X pins σ (zY H x o) { s with heap:=h',toks:=t' }:=I.un (Un.write mu he k heo) (I.hok.write mu he k heo new)
theorem zF.pins_of {pins':List (Addr × Obj)} (I:zF X pins σ H s) (h:∀ p∈pins',s.heap.get? p.1=some p.2/\H p.1=none/\p.1≠X.env.locals/\p.1∉X.fs/\∀ v,p.2.data≠.cell v):zF X pins' σ H s:=
 ⟨I.ok,I.os,I.bare,I.base,I.loc,I.cell,I.free,I.freeC,λp hp=>(cZ.mp hp).elim (λz=>I.pin p (hW _ z)) (h p),I.hok,I.len⟩
theorem zJL {N:List Str} (hN:N.Nodup) {i j:Nat} {x:Str} (a:N[i]? = some x) (b:N[j]? = some x):i=j:=by
 obtain ⟨h1,e1⟩:=cH.mp a
 obtain ⟨h2,e2⟩:=cH.mp b
 exact (List.getElem_inj hN).mp (e1.trans e2.symm)
theorem zHW {M:Model} {A:Around} {E:Value->Shared->Prop} {i:Nat} {x:Str} {v:V} {u:Value} {Q:Unit->Shared->Prop} (I:zF X pins σ H s) (hN:X.N.Nodup) (hi:X.N[i]? = some x) (hx:uh X.env.scope x) (r:zS v u)
  (h:∀ s',zF X pins (σ.set i (some v)) H s'->(∃ a,Heap.SameBut a s.heap s'.heap/\(a=X.env.locals\/X.env.cells.lookup x=some a))->Q () s') (hf:X.fn x=true\/X.env.scope.names.lookup x=some .local:=by first | exact .inl rfl | exact .inr rfl | assumption):wpAny M A (storeName X.env x u) Q E s:=by
 obtain ⟨m,hn,hl⟩:=id I.loc
 have hcls:(X.env.scope.kind == .class || (X.env.scope.kind == .module && X.env.locals != X.env.globals))=false:=by rw [I.ok.kind]; rfl
 have hiσ:i < σ.length:=by rw [I.len]; exact (cH.mp hi).1
 have cne:=I.cne
 have tracked:∀ {a:Addr} {h':Heap},(∃ o,s.heap.get? a=some o/\H a=none)->Heap.SameBut a s.heap h'->yy X.prog X.w H h':=λ{a h'} ha hs b ob e=>by
  obtain ⟨_,_,hfree⟩:=ha
  refine (I.hok b ob e).stay (λc w' hc q=>(hs.2 c ?_).trans q) (λ_ q=>q) λ_ _ q=>q
  rintro rfl
  rcases hc with rfl | hc
  ·rw [hfree] at e; cases e
  ·rw [hfree] at hc; cases hc
 rcases hx with hk | hk
 ·refine wpAny_storeName_local hk hn (λh' hn' hs=>?_) hcls
  obtain ⟨oL,_,_,hoL,_⟩:=id hn
  refine h _ ⟨I.ok,I.os,I.bare,⟨λb o e n hb hx=>?_,λb o e n hb hx=>?_,I.base.free,λb o e hx=>?_,I.base.tups,I.base.frzs,I.base.tbls⟩,⟨_,hn',λj y v' e1 e2 e3=>?_⟩,λy c e=>?_,I.free,I.freeC,λp hp=>?_,tracked ⟨oL,hoL,I.free⟩ hs,by simpa using I.len⟩ ⟨_,hs,.inl rfl⟩
  ·exact (hs.2 b (de (cP (cA e) I.ok.above))).trans (I.base.keep b o e n hb hx)
  ·obtain ⟨sl,e1⟩:=I.base.slot b o e n hb hx
   exact ⟨sl,(hs.2 b (de (cP (cA e) I.ok.above))).trans e1⟩
  ·obtain ⟨o',e1⟩:=I.base.there b o e hx
   exact ⟨o',(hs.2 b (de (cP (cA e) I.ok.above))).trans e1⟩
  ·by_cases hj:j=i
   ·subst hj
    rw [hi] at e1; cases e1
    rw [dD hiσ] at e2
    cases e2
    exact ⟨u,r,.inl ⟨hk,by simp⟩⟩
   ·rw [da (Ne.symm hj)] at e2
    obtain ⟨u',r',q⟩:=hl j y v' e1 e2 e3
    refine ⟨u',r',?_⟩
    rcases q with ⟨k,e⟩ | ⟨k,c,e,z⟩
    ·refine .inl ⟨k,?_⟩
     have:y≠x:=λe=>hj (zJL hN e1 (e ▸ hi))
     simp [this,e]
    ·exact .inr ⟨k,c,e,z.sameBut hs (cne y c e)⟩
  ·obtain ⟨w',z⟩:=I.cell y c e
   exact ⟨w',z.sameBut hs (cne y c e)⟩
  ·obtain ⟨e,n,ne,nf,d⟩:=I.pin p hp
   exact ⟨(hs.2 p.1 ne).trans e,n,ne,nf,d⟩
 ·have hfn:X.fn x=true:=by
   rcases hf with z | z
   ·exact z
   ·rw [z] at hk; cases hk
  obtain ⟨c,hc⟩:=I.ok.has x (.inl hk)
  obtain ⟨w',z⟩:=I.cell x c hc
  refine wpAny_storeName_cell I.ok.kind hk hc z (λh' hc' hs=>?_)
  obtain ⟨oc,hoc,hocd⟩:=id z
  refine h { s with heap:=h' } ⟨I.ok,I.os,I.bare,⟨λb o e n hb hx=>?_,λb o e n hb hx=>?_,I.base.free,λb o e hx=>?_,I.base.tups,I.base.frzs,I.base.tbls⟩,⟨m,hn.sameBut hs (Ne.symm (cne x c hc)),λj y v' e1 e2 e3=>?_⟩,λy c' e=>?_,I.free,I.freeC,λp hp=>?_,tracked ⟨oc,hoc,I.freeC x c hc⟩ hs,by simpa using I.len⟩ ⟨c,hs,.inr hc⟩
  ·exact (hs.2 b (de (cP (cA e) (I.ok.cab x c hfn hc)))).trans (I.base.keep b o e n hb hx)
  ·obtain ⟨sl,e1⟩:=I.base.slot b o e n hb hx
   exact ⟨sl,(hs.2 b (de (cP (cA e) (I.ok.cab x c hfn hc)))).trans e1⟩
  ·obtain ⟨o',e1⟩:=I.base.there b o e hx
   exact ⟨o',(hs.2 b (de (cP (cA e) (I.ok.cab x c hfn hc)))).trans e1⟩
  ·by_cases hj:j=i
   ·subst hj
    rw [hi] at e1; cases e1
    rw [dD hiσ] at e2
    cases e2
    exact ⟨u,r,.inr ⟨.inl hk,c,hc,hc'⟩⟩
   ·rw [da (Ne.symm hj)] at e2
    obtain ⟨u',r',q⟩:=hl j y v' e1 e2 e3
    refine ⟨u',r',?_⟩
    rcases q with q | ⟨k,c',e,z'⟩
    ·exact .inl q
    ·refine .inr ⟨k,c',e,z'.sameBut hs ?_⟩
     rintro rfl
     exact hj (zJL hN e1 (I.ok.inj _ _ _ e hc ▸ hi))
  ·by_cases hcc:c'=c
   ·subst hcc; exact ⟨_,hc'⟩
   ·obtain ⟨w2,z2⟩:=I.cell y c' e
    exact ⟨w2,z2.sameBut hs hcc⟩
  ·obtain ⟨e,n,ne,nf,d⟩:=I.pin p hp
   refine ⟨(hs.2 p.1 ?_).trans e,n,ne,nf,d⟩
   intro q
   rw [q,hoc] at e
   have q':oc=p.2:=Option.some.inj e
   exact d w' (by rw [<- q']; exact hocd)
theorem zI6 {M:Model} {A:Around} {E:Value->Shared->Prop} {i:Nat} {x:Str} {v:V} {u:Value} {Q:Unit->Shared->Prop} (I:zF X pins σ H s) (hN:X.N.Nodup) (hi:X.N[i]? = some x) (hx:uh X.env.scope x) (r:zS v u)
  (h:∀ s',zF X pins (σ.set i (some v)) H s'->Q () s') (hf:X.fn x=true\/X.env.scope.names.lookup x=some .local:=by first | exact .inl rfl | exact .inr rfl | assumption):wpAny M A (storeName X.env x u) Q E s:=
 zHW I hN hi hx r (λs' I' _=>h s' I') hf
theorem zF.call' {s':Shared} {ch:List Addr} (I:zF X pins σ H s) (ho:s'.os=s.os) (u:Un (xJ X.stack) ch H H' s.heap s'.heap) (hok:yy X.prog X.w H' s'.heap) (hg:AllBare s'.gens)
  (hch:∀ b∈ch,(b∈X.ex\/X.s₀.heap.objs.size<=b)/\b≠X.env.locals/\(∀ x c,X.env.cells.lookup x=some c->c≠b)/\∀ p∈X.pn++pins,p.1≠b):zF X pins σ H' s':=by
 obtain ⟨h',g',d',t',o'⟩:=s'
 have e:o'=s.os:=ho
 subst e
 exact I.call (g':=g') (t':=t') (d':=d') u hok hg hch
end
noncomputable abbrev XK:=Value->Option Addr->Hp->Prop
noncomputable abbrev St:=List (Option V)
noncomputable abbrev VK:=V->Hp->Prop
noncomputable abbrev TE:=St->Hp->VK->Prop
noncomputable abbrev TT:=St->Hp->(Bool->Hp->Prop)->Prop
noncomputable abbrev TA:=St->Hp->(List V->Hp->Prop)->Prop
structure yq where
 nx:St->Hp->Prop
 rt:VK
 bk:St->Hp->Prop:=λ_ _=>False
 ct:St->Hp->Prop:=λ_ _=>False
noncomputable abbrev TS:=yq->St->Hp->Prop
noncomputable def EP (X:Cx) (pins:List (Addr × Obj)) (σ:St) (Q:VK) (u:Value) (s':Shared):Prop:=∃ v H',zF X pins σ H' s'/\zS v u/\Q v H'
noncomputable def TP (X:Cx) (pins:List (Addr × Obj)) (σ:St) (Q:Bool->Hp->Prop) (b:Bool) (s':Shared):Prop:=∃ H',zF X pins σ H' s'/\Q b H'
noncomputable def AP (X:Cx) (pins:List (Addr × Obj)) (σ:St) (Q:List V->Hp->Prop) (us:List Value) (s':Shared):Prop:=∃ vs H',zF X pins σ H' s'/\zL vs us/\Q vs H'
noncomputable def SP (X:Cx) (pins:List (Addr × Obj)) (D:yq) (f:Flow) (s':Shared):Prop:=
 match f with
 | .next=>∃ σ' H',zF X pins σ' H' s'/\D.nx σ' H'
 | .brk=>∃ σ' H',zF X pins σ' H' s'/\D.bk σ' H'
 | .cont=>∃ σ' H',zF X pins σ' H' s'/\D.ct σ' H'
 | .ret u=>∃ v σ' H',zF X pins σ' H' s'/\zS v u/\D.rt v H'
noncomputable def PE (X:Cx) (e:Expr) (t:TE):Prop:=
 ∀ (pins:List (Addr × Obj)) (s:Shared) (σ:St) (H:Hp) (Q:VK),zF X pins σ H s->t σ H Q->wpAny (model X.prog X.w) X.A (eval e X.env) (EP X pins σ Q) X.xe s
noncomputable def PT (X:Cx) (e:Expr) (t:TT):Prop:=
 ∀ (pins:List (Addr × Obj)) (s:Shared) (σ:St) (H:Hp) (Q:Bool->Hp->Prop),zF X pins σ H s->t σ H Q->wpAny (model X.prog X.w) X.A (isTrue e X.env (eval e X.env)) (TP X pins σ Q) X.xe s
noncomputable def PW (X:Cx) (e:Expr) (t:TT):Prop:=
 ∀ (whole:Sem Value) (pins:List (Addr × Obj)) (s:Shared) (σ:St) (H:Hp) (Q:Bool->Hp->Prop),zF X pins σ H s->t σ H Q->wpAny (model X.prog X.w) X.A (isTrue e X.env whole) (TP X pins σ Q) X.xe s
theorem PW.pt {X:Cx} {e:Expr} {t:TT} (h:PW X e t):PT X e t:=h _
noncomputable def PA (X:Cx) (es:List Expr) (t:TA):Prop:=
 ∀ (pos:Pos) (pins:List (Addr × Obj)) (s:Shared) (σ:St) (H:Hp) (Q:List V->Hp->Prop),zF X pins σ H s->t σ H Q->wpAny (model X.prog X.w) X.A (spliced (backTo pos (starEach es X.env))) (AP X pins σ Q) X.xe s
noncomputable def PS (X:Cx) (st:Stmt) (t:TS):Prop:=
 ∀ (pins:List (Addr × Obj)) (s:Shared) (σ:St) (H:Hp) (D:yq),zF X pins σ H s->t D σ H->wpAny (model X.prog X.w) X.A (exec st X.env) (SP X pins D) X.xe s
noncomputable def yS (X:Cx) (st:List Stmt) (t:TS):Prop:=
 ∀ (pins:List (Addr × Obj)) (s:Shared) (σ:St) (H:Hp) (D:yq),zF X pins σ H s->t D σ H->wpAny (model X.prog X.w) X.A (execs st X.env) (SP X pins D) X.xe s
theorem zp {α:Type} {t:Sem α} {Q Q':α->Shared->Prop} {M:Model} {A:Around} {E:Value->Shared->Prop} {s:Shared} (h:wpAny M A t Q E s) (hQ:∀ a s,Q a s->Q' a s):wpAny M A t Q' E s:=wpAny_mono h hQ λ_ _ x=>x
end L2
namespace L2
open PySem PySem.Spec PyProof.Rows
section
variable {X:Cx}
noncomputable def Up (i:Nat):TE:=λσ H Q=>∃ v,σ[i]? = some (some v)/\Q v H
noncomputable def tC (v:V):TE:=λ_ H Q=>Q v H
theorem zOX {i:Nat} {x:Str} {pos:Pos} (hN:X.N[i]? = some x) (hv:gU X.env.scope x) (hd:(x == ("__debug__" : Str))=false:=by decide) (hcd:(x == ("__classdict__" : Str))=false:=by decide):PE X (.Name x pos) (Up i):=by
 intro pins s σ H Q I h
 obtain ⟨v,e,h⟩:=h
 obtain ⟨m,hn,hl⟩:=I.loc
 obtain ⟨u,r,l⟩:=hl i x v hN e hv
 have fin:EP X pins σ Q u s:=⟨v,H,I,r,h⟩
 rcases l with ⟨hk,hm⟩ | ⟨hk,c,hc,hcell⟩
 ·exact wpAny_Name (wpAny_loadName_local I.ok.kind hk hn hm fin) hd
 ·rcases hk with hk | hk
  ·exact wpAny_Name (wpAny_loadName_cell I.ok.kind hk hc hcell fin) hd
  ·exact wpAny_Name (wpAny_loadName_free I.ok.kind hk hc hcell fin hcd) hd
theorem Uq {i j pos}:PE X (.Constant (.int i) j pos) (tC (.int i)):=λ_ _ _ H _ I h=>wpAny_Constant_int ⟨.int i,H,I.tok _,⟨_,rfl⟩,h⟩
theorem ZD {b j pos}:PE X (.Constant (.bool b) j pos) (tC (.bl b)):=λ_ _ _ H _ I h=>Constant_bool ⟨.bl b,H,I,rfl,h⟩
theorem zRG {j pos}:PE X (.Constant .none j pos) (tC .non):=λ_ _ _ H _ I h=>Constant_none ⟨.non,H,I,rfl,h⟩
theorem zRD {x j pos}:PE X (.Constant (.str x) j pos) (tC (.str x)):=λ_ _ _ H _ I h=>Calls.Constant_str ⟨.str x,H,I.tok _,⟨_,rfl⟩,h⟩
noncomputable def Gl (X:Cx) (x:Str):Prop:=X.env.kindOf x=some .globalImplicit
theorem gW {E:Value->Shared->Prop} {pins:List (Addr × Obj)} {s:Shared} {σ:St} {H:Hp} {x:Str} {u:Value} {pos:Pos} {Q:Value->Shared->Prop} (I:zF X pins σ H s) (hg:Gl X x) (hm:X.mg x=some u) (h:Q u s)
  (hd:(x == ("__debug__" : Str))=false:=by decide):wpAny (model X.prog X.w) X.A (eval (.Name x pos) X.env) Q E s:=
 Calls.Name_function_global I.ok.kind hg (Calls.loadGlobal_global (by rw [I.ok.glob]; exact I.mod.glob.keeps I.bk) hm h) hd
theorem qG {E:Value->Shared->Prop} {pins:List (Addr × Obj)} {s:Shared} {σ:St} {H:Hp} {x:Str} {u:Value} {pos:Pos} {Q:Value->Shared->Prop} (I:zF X pins σ H s) (hg:Gl X x) (hm:X.mg x=none) (hv:bootBuiltins x=some u) (h:Q u s)
  (hn:x≠"__name__":=by decide) (hd:(x == ("__debug__" : Str))=false:=by decide):wpAny (model X.prog X.w) X.A (eval (.Name x pos) X.env) Q E s:=by
 obtain ⟨mb,h1,h2⟩:=I.mod.blt
 exact Calls.Name_function_global I.ok.kind hg (Calls.loadGlobal_builtin (by rw [I.ok.glob]; exact I.mod.glob.keeps I.bk) hm (by rw [I.ok.blt]; exact h1.keeps I.bk) ((h2 x hn).trans hv) h) hd
theorem zLI {x:Str} {v:V} {u:Value} {pos:Pos} (hg:Gl X x) (hm:X.mg x=some u) (r:zS v u) (hd:(x == ("__debug__" : Str))=false:=by decide):PE X (.Name x pos) (tC v):=
 λ_ _ _ H _ I h=>gW I hg hm ⟨v,H,I,r,h⟩ hd
theorem wm {x:Str} {v:V} {u:Value} {pos:Pos} (hg:Gl X x) (hm:X.mg x=none) (hv:bootBuiltins x=some u) (r:zS v u) (hn:x≠"__name__":=by decide) (hd:(x == ("__debug__" : Str))=false:=by decide):PE X (.Name x pos) (tC v):=
 λ_ _ _ H _ I h=>qG I hg hm hv ⟨v,H,I,r,h⟩ hn hd
variable {a b:Expr} {ta tb:TE} {pos:Pos}
noncomputable def tB (t:TE):TT:=λσ H Q=>t σ H λx H1=>∃ c,x=.bl c/\Q c H1
theorem Ur {e:Expr} {t:TE} (h:PE X e t) (he:∀ whole,isTrue e X.env whole=(do let v <- whole; standAt e.pos; holding [v] (truthy v)):=by intro _; rfl):PT X e (tB t):=by
 intro pins s σ H Q I hw
 refine isTrue_plain (zp (h pins s σ H _ I hw) λv s1 ⟨x,H1,I1,r1,q1⟩=>?_) (he _)
 obtain ⟨d,rfl,q⟩:=q1
 cases r1
 exact wpAny_truthy_bool ⟨H1,I1,q⟩
variable {tA tB':TT} {yh:List Expr}
noncomputable def Us (t u:TT):TT:=λσ H Q=>t σ H λc H1=>if c=true then u σ H1 Q else Q false H1
noncomputable def tOr (t u:TT):TT:=λσ H Q=>t σ H λc H1=>if c=true then Q true H1 else u σ H1 Q
noncomputable def Ut (t:TT):TT:=λσ H Q=>t σ H λc H1=>Q (!c) H1
theorem zPL (ha:PT X a tA):PW X (.BoolOp .And [a] pos) tA:=by
 intro wh pins s σ H Q I h
 refine isTrue_and (zp (ha pins s σ H Q I h) λc s1 e=>?_)
 cases c with
 | true=>exact isTrue_and_nil e
 | false=>exact e
theorem zQz (ha:PT X a tA):PW X (.BoolOp .Or [a] pos) tA:=by
 intro wh pins s σ H Q I h
 refine isTrue_or (zp (ha pins s σ H Q I h) λc s1 e=>?_)
 cases c with
 | false=>exact isTrue_or_nil e
 | true=>exact e
theorem zQ0 (ha:PT X a tA) (hb:PW X (.BoolOp .And (b :: yh) pos) tB'):PW X (.BoolOp .And (a :: b :: yh) pos) (Us tA tB'):=by
 intro wh pins s σ H Q I h
 refine isTrue_and (zp (ha pins s σ H _ I h) λc s1 ⟨H1,I1,q1⟩=>?_)
 cases c with
 | true=>exact hb wh pins s1 σ H1 Q I1 q1
 | false=>exact ⟨H1,I1,q1⟩
theorem ZE (ha:PT X a tA) (hb:PW X (.BoolOp .Or (b :: yh) pos) tB'):PW X (.BoolOp .Or (a :: b :: yh) pos) (tOr tA tB'):=by
 intro wh pins s σ H Q I h
 refine isTrue_or (zp (ha pins s σ H _ I h) λc s1 ⟨H1,I1,q1⟩=>?_)
 cases c with
 | true=>exact ⟨H1,I1,q1⟩
 | false=>exact hb wh pins s1 σ H1 Q I1 q1
theorem zQ4 (ha:PT X a tA):PT X (.UnaryOp .Not a pos) (Ut tA):=by
 intro pins s σ H Q I h
 exact isTrue_not (ha pins s σ H (λc H1=>Q (!c) H1) I h)
noncomputable def ZF (ta tb:TE):TE:=λσ H Q=>ta σ H λx H1=>∃ c,x=.bl c/\if c=true then tb σ H1 Q else Q (.bl false) H1
noncomputable def ZG (ta:TE):TE:=λσ H Q=>ta σ H λx H1=>∃ c,x=.bl c/\Q (.bl (!c)) H1
theorem zRE {op} {t:TE} (h:PE X a t):PE X (.BoolOp op [a] pos) t:=λpins s σ H Q I hw=>BoolOp_one (h pins s σ H Q I hw)
theorem zRI (ha:PE X a ta) (hb:PE X (.BoolOp .And (b :: yh) pos) tb):PE X (.BoolOp .And (a :: b :: yh) pos) (ZF ta tb):=by
 intro pins s σ H Q I h
 refine BoolOp_and (zp (ha pins s σ H _ I h) λv s1 ⟨x,H1,I1,r1,q1⟩=>?_)
 obtain ⟨c,rfl,q1⟩:=q1
 cases r1
 refine wpAny_truthy_bool ?_
 cases c with
 | true=>exact hb pins s1 σ H1 Q I1 q1
 | false=>exact ⟨.bl false,H1,I1,rfl,q1⟩
theorem zRF (ha:PE X a ta):PE X (.UnaryOp .Not a pos) (ZG ta):=by
 intro pins s σ H Q I h
 refine UnaryOp_ (zp (ha pins s σ H _ I h) λv s1 ⟨x,H1,I1,r1,q1⟩=>?_)
 obtain ⟨c,rfl,q1⟩:=q1
 cases r1
 exact not_of (wpAny_truthy_bool ⟨.bl (!c),H1,I1,rfl,q1⟩)
noncomputable def tIf (t:TT) (ta tb:TE):TE:=λσ H Q=>t σ H λc H1=>if c=true then ta σ H1 Q else tb σ H1 Q
theorem zNM {c:Expr} (hc:PT X c tA) (ha:PE X a ta) (hb:PE X b tb):PE X (.IfExp c a b pos) (tIf tA ta tb):=by
 intro pins s σ H Q I h
 refine wpAny_IfExp (zp (hc pins s σ H _ I h) λd s1 ⟨H1,I1,q1⟩=>?_)
 cases d with
 | true=>exact ha pins s1 σ H1 Q I1 q1
 | false=>exact hb pins s1 σ H1 Q I1 q1
end
end L2
namespace L2
open PySem PySem.Spec PyProof.Rows
noncomputable def zZ (K:b_) (H:Hp) (a:Addr) (xs:List V):Prop:=
 Rd H a (.lst xs)∨
  ∃ (o:Obj) (its:Array Value) (n:Nat),K.lookup a=some o/\o.cls=.type "list"/\o.dict=none/\o.data=.seq its n/\its.size<=sizeLine/\zL xs its.toList
noncomputable def yQ (K:b_) (H:Hp) (a:Addr) (xs:List V):Prop:=
 Rd H a (.tup xs)∨
  ∃ (o:Obj) (its:Array Value) (n:Nat),K.lookup a=some o/\o.cls=.type "tuple"/\o.data=.seq its n/\its.size<=sizeLine/\zL xs its.toList
noncomputable def Uu:Value->Option V
 | .none=>some .non
 | .bool b=>some (.bl b)
 | .int i _=>some (.int i)
 | .str x _=>some (.str x)
 | .bytes b _=>some (.byt b)
 | .float b _=>some (.flt b)
 | .ref a=>some (.ref a)
 | .type n=>some (.ty n)
 | _=>none
theorem zS.abs {x:V} {u:Value} (r:zS x u):Uu u=some x:=by
 cases x with
 | non=>cases r; rfl
 | bl _=>cases r; rfl
 | int _=>obtain ⟨t,rfl⟩:=r; rfl
 | str _=>obtain ⟨t,rfl⟩:=r; rfl
 | byt _=>obtain ⟨t,rfl⟩:=r; rfl
 | flt _=>obtain ⟨t,rfl⟩:=r; rfl
 | ref _=>cases r; rfl
 | ty _=>cases r; rfl
theorem zS.inj {x y:V} {u:Value} (r:zS x u) (q:zS y u):x=y:=Option.some.inj (r.abs.symm.trans q.abs)
theorem zL.inj:∀ {xs ys:List V} {us:List Value},zL xs us->zL ys us->xs=ys
 | _,_,_,.nil,.nil=>rfl
 | _,_,_,.cons r t,.cons r' t'=>by rw [r.inj r',zL.inj t t']
section
variable {X:Cx} {pins:List (Addr × Obj)} {σ:St} {H:Hp} {s:Shared} {a:Addr} {xs ys:List V}
theorem zZ.of {K:b_} (h:H a=some (.lst xs)):zZ K H a xs:=.inl (.inl h)
theorem yQ.of {K:b_} (h:H a=some (.tup xs)):yQ K H a xs:=.inl (.inl h)
theorem zF.list (I:zF X pins σ H s) (h:zZ X.K H a xs):∃ its:List Value,zL xs its/\PlainL s.heap a its.toArray/\xs.length<=sizeLine:=by
 rcases h with h | ⟨o,its,n,hk,hc,hd,hs,hz,r⟩
 ·obtain ⟨z,its,n,r,e⟩:=h.ok I.hok
  exact ⟨its,r,⟨_,n,e,rfl,rfl,rfl⟩,z⟩
 ·refine ⟨its.toList,r,⟨o,n,I.kIn a o hk,hc,hd,by simpa using hs⟩,?_⟩
  have e:=r.length
  simp only [ez] at e
  omega
theorem zF.tuple (I:zF X pins σ H s) (h:yQ X.K H a xs):∃ its:List Value,zL xs its/\IsTup s.heap a its.toArray/\xs.length<=sizeLine:=by
 rcases h with h | ⟨o,its,n,hk,hc,hs,hz,r⟩
 ·obtain ⟨z,its,r,p⟩:=h.ok I.hok
  exact ⟨its,r,p,z⟩
 ·refine ⟨its.toList,r,⟨o,I.kIn a o hk,hc,n,by simpa using hs⟩,?_⟩
  have e:=r.length
  simp only [ez] at e
  omega
theorem zF.list_inj (I:zF X pins σ H s) (h:zZ X.K H a xs) (h':zZ X.K H a ys):xs=ys:=by
 obtain ⟨its,r,⟨o,n,e,_,_,d⟩,_⟩:=I.list h
 obtain ⟨its',r',⟨o',n',e',_,_,d'⟩,_⟩:=I.list h'
 rw [e] at e'; cases e'
 rw [d] at d'
 injection d' with d1 _
 have:its=its':=by simpa using congrArg mz d1
 subst this
 exact r.inj r'
theorem zF.tuple_inj (I:zF X pins σ H s) (h:yQ X.K H a xs) (h':yQ X.K H a ys):xs=ys:=by
 obtain ⟨its,r,⟨o,e,_,n,d⟩,_⟩:=I.tuple h
 obtain ⟨its',r',⟨o',e',_,n',d'⟩,_⟩:=I.tuple h'
 rw [e] at e'; cases e'
 rw [d] at d'
 injection d' with d1 _
 have:its=its':=by simpa using congrArg mz d1
 subst this
 exact r.inj r'
end
noncomputable abbrev Cx.wish (X:Cx) (E:Value->Shared->Prop):Cx:={ X with xe:=E }
noncomputable abbrev Cx.nox (X:Cx):Cx:=X.wish λ_ _=>False
theorem Cx.Ok.wish {X:Cx} (ok:X.Ok) (E:Value->Shared->Prop):(X.wish E).Ok:=
 ⟨ok.mod,ok.kind,ok.glob,ok.blt,ok.above,ok.inj,ok.has,ok.cab,ok.hd,ok.frames,ok.stk,ok.exf,ok.bs,ok.bsz,ok.noex,ok.exfs,ok.funs,ok.frf⟩
theorem Cx.Ok.unwish {X:Cx} {E:Value->Shared->Prop} (ok:(X.wish E).Ok):X.Ok:=
 ⟨ok.mod,ok.kind,ok.glob,ok.blt,ok.above,ok.inj,ok.has,ok.cab,ok.hd,ok.frames,ok.stk,ok.exf,ok.bs,ok.bsz,ok.noex,ok.exfs,ok.funs,ok.frf⟩
section
variable {X:Cx} {pins:List (Addr × Obj)} {σ:St} {H:Hp} {s:Shared} {E:Value->Shared->Prop}
theorem zF.wish (I:zF X pins σ H s) (E:Value->Shared->Prop):zF (X.wish E) pins σ H s:=⟨I.ok.wish E,I.os,I.bare,I.base,I.loc,I.cell,I.free,I.freeC,I.pin,I.hok,I.len⟩
theorem zF.unwish (I:zF (X.wish E) pins σ H s):zF X pins σ H s:=⟨I.ok.unwish,I.os,I.bare,I.base,I.loc,I.cell,I.free,I.freeC,I.pin,I.hok,I.len⟩
theorem SP.unwish {D:yq} {f:Flow} {s':Shared} (h:SP (X.wish E) pins D f s'):SP X pins D f s':=by
 cases f with
 | next=>obtain ⟨σ',H',I,q⟩:=h; exact ⟨σ',H',I.unwish,q⟩
 | brk=>obtain ⟨σ',H',I,q⟩:=h; exact ⟨σ',H',I.unwish,q⟩
 | cont=>obtain ⟨σ',H',I,q⟩:=h; exact ⟨σ',H',I.unwish,q⟩
 | ret u=>obtain ⟨v,σ',H',I,r,q⟩:=h; exact ⟨v,σ',H',I.unwish,r,q⟩
theorem yS.nox {st:List Stmt} {t:TS} (h:yS X.nox st t):yS X st t:=λpins s σ H D I hw=>
 wpAny_mono (h pins s σ H D (I.wish _) hw) (λ_ _ q=>q.unwish) λ_ _ z=>False.elim z
end
section
variable {X:Cx} {st:Stmt} {yh:List Stmt} {t u:TS} {e:Expr} {te:TE} {pos:Pos}
noncomputable def WD:TS:=λD σ H=>D.nx σ H
noncomputable def jS (t u:TS):TS:=λD σ H=>t { D with nx:=u D } σ H
theorem gX:yS X [] WD:=λ_ _ σ H _ I h=>wpAny_execs_nil ⟨σ,H,I,h⟩
theorem vQ (h1:PS X st t) (h2:yS X yh u):yS X (st :: yh) (jS t u):=by
 intro pins s σ H D I h
 refine wpAny_execs_cons (zp (h1 pins s σ H { D with nx:=u D } I h) λf s1 q=>?_)
 cases f with
 | next=>
  obtain ⟨σ',H',I',q⟩:=q
  exact h2 pins s1 σ' H' D I' q
 | ret v=>exact q
 | brk=>exact q
 | cont=>exact q
theorem jv (h1:PS X st t):yS X [st] t:=by
 intro pins s σ H D I h
 refine wpAny_execs_cons (zp (h1 pins s σ H D I h) λf s1 q=>?_)
 cases f with
 | next=>exact wpAny_execs_nil q
 | ret v=>exact q
 | brk=>exact q
 | cont=>exact q
theorem zF.quiet {pins:List (Addr × Obj)} {σ:St} {H:Hp} {s:Shared} (I:zF X pins σ H s):interactive X.env=false:=by simp [interactive,I.ok.kind]
noncomputable def gY (te:TE):TS:=λD σ H=>te σ H λ_ H1=>D.nx σ H1
theorem xX (he:PE X e te) (hs:swapsWith e none pos.line X.env=pure false:=by rfl):PS X (.Expr e pos) (gY te):=by
 intro pins s σ H D I h
 exact wpAny_Expr_any (zp (he pins s σ H _ I h) λv s1 ⟨x,H1,I1,r1,q1⟩=>⟨σ,H1,I1,q1⟩) I.quiet hs
noncomputable def Uv (te:TE):TS:=λD σ H=>te σ H D.rt
theorem zOT (he:PE X e te):PS X (.Return (some e) pos) (Uv te):=by
 intro pins s σ H D I h
 exact wpAny_Return_some (zp (he pins s σ H _ I h) λv s1 ⟨x,H1,I1,r1,q1⟩=>⟨x,σ,H1,I1,r1,q1⟩)
noncomputable def qH (c:TT) (t u:TS):TS:=λD σ H=>c σ H λb H1=>if b=true then t D σ H1 else u D σ H1
theorem ZH {c:Expr} {a b:List Stmt} {tc:TT} (hc:PT X c tc) (ha:yS X a t) (hb:yS X b u):PS X (.If c a b pos) (qH tc t u):=by
 intro pins s σ H D I h
 refine wpAny_If (zp (hc pins s σ H _ I h) λd s1 ⟨H1,I1,q1⟩=>?_)
 cases d with
 | true=>exact ha pins s1 σ H1 D I1 q1
 | false=>exact hb pins s1 σ H1 D I1 q1
noncomputable def zQl:TS:=λ_ _ _=>False
theorem zND:PS X st zQl:=λ_ _ _ _ _ _ h=>h.elim
end
noncomputable abbrev TG:=V->St->Hp->(St->Hp->Prop)->Prop
noncomputable abbrev jT:=List V->St->Hp->(St->Hp->Prop)->Prop
noncomputable def PG (X:Cx) (target:Expr) (t:TG):Prop:=
 ∀ (pins:List (Addr × Obj)) (s:Shared) (σ:St) (H:Hp) (v:V) (u:Value) (Q:St->Hp->Prop),zF X pins σ H s->zS v u->t v σ H Q->
  wpAny (model X.prog X.w) X.A (assign target X.env u) (λ_ s'=>∃ σ' H',zF X pins σ' H' s'/\Q σ' H') X.xe s
noncomputable def gZ (X:Cx) (ts:List Expr) (t:jT):Prop:=
 ∀ (pins:List (Addr × Obj)) (s:Shared) (σ:St) (H:Hp) (vs:List V) (us:List Value) (Q:St->Hp->Prop),zF X pins σ H s->zL vs us->t vs σ H Q->
  wpAny (model X.prog X.w) X.A (assignInOrder ((assignEach ts X.env).map (·.2)) us) (λ_ s'=>∃ σ' H',zF X pins σ' H' s'/\Q σ' H') X.xe s
section
variable {X:Cx} {pos:Pos}
noncomputable def ga (i:Nat):TG:=λv σ H Q=>Q (σ.set i (some v)) H
theorem Uw {i:Nat} {x:Str} (hN:X.N.Nodup) (hi:X.N[i]? = some x) (hx:uh X.env.scope x) (hf:X.fn x=true\/X.env.scope.names.lookup x=some .local:=by first | exact .inl rfl | exact .inr rfl | assumption):PG X (.Name x pos) (ga i):=by
 intro pins s σ H v u Q I r h
 exact wpAny_assign_Name (zI6 I hN hi hx r (λs' I'=>⟨_,H,I',h⟩) hf)
noncomputable def Ux:jT:=λvs σ H Q=>vs=[]/\Q σ H
noncomputable def ZI (t:TG) (u:jT):jT:=λvs σ H Q=>∃ v r,vs=v :: r/\t v σ H λσ' H'=>u r σ' H' Q
theorem zPX:gZ X [] Ux:=by
 intro pins s σ H vs us Q I r h
 obtain ⟨e,h⟩:=h
 subst e
 cases r
 exact assignInOrder_nil ⟨σ,H,I,h⟩
theorem zNI {e:Expr} {es:List Expr} {t:TG} {u:jT} (h1:PG X e t) (h2:gZ X es u)
  (hs:(assignEach (e :: es) X.env).map (·.2)=assign e X.env :: (assignEach es X.env).map (·.2):=by rfl):gZ X (e :: es) (ZI t u):=by
 intro pins s σ H vs us Q I r h
 obtain ⟨v,vr,e1,h⟩:=h
 subst e1
 cases r with
 | cons r rr=>
  rw [hs]
  refine assignInOrder_cons (zp (h1 pins s σ H _ _ _ I r h) λ_ s1 ⟨σ1,H1,I1,q1⟩=>?_)
  exact h2 pins s1 σ1 H1 _ _ Q I1 rr q1
noncomputable def Uy (K:b_) (n:Nat) (t:jT):TG:=λv σ H Q=>∃ a xs,v=.ref a/\yQ K H a xs/\xs.length=n/\t xs σ H Q
theorem zRB {es:List Expr} {k:Nat} {t:jT} {n:Nat} (hc:X.calm=true) (h:gZ X es t)
  (hn:(assignEach es X.env).length=n:=by rfl) (hst:(assignEach es X.env).findIdx? (·.1)=none:=by rfl):PG X (.Tuple es k pos) (Uy X.K n t):=by
 intro pins s σ H v u Q I r hw
 obtain ⟨a,xs,e1,hq,hl,hw⟩:=hw
 subst e1
 cases r
 obtain ⟨its,rv,ht,hz⟩:=I.tuple hq
 refine assign_Tuple_tuple (I.ok.hd hc) ht (by simp [hn,<- hl,rv.length]) hst λh' hx=>?_
 have I1:zF X pins σ H { s with heap:=h' }:=I.kept (t':=s.toks) λb o e=>hx b o (de (cA e)) e
 exact h pins _ σ H xs _ Q I1 (by simpa using rv) hw
noncomputable def jU (te:TE) (g:TG):TS:=λD σ H=>te σ H λx H1=>g x σ H1 D.nx
theorem zQ5 {tg e:Expr} {te:TE} {g:TG} (he:PE X e te) (hg:PG X tg g) (hs:swapsWithSole [tg] e pos.line X.env=pure false:=by rfl) (hw:swappedStores [tg] e X.env=pure none:=by rfl)
  (h1:(assignEach [tg] X.env).map (·.2)=[assign tg X.env]:=by rfl):PS X (.Assign [tg] e pos) (jU te g):=by
 intro pins s σ H D I h
 refine wpAny_Assign_stores (zp (he pins s σ H _ I h) λv s1 ⟨x,H1,I1,r1,q1⟩=>?_) hs hw
 rw [h1]
 exact zp (hg pins s1 σ H1 x v _ I1 r1 q1) λ_ s2 q=>q
theorem gc {i:Nat} {x:Str} {e:Expr} {te:TE} {pos':Pos} (hN:X.N.Nodup) (hi:X.N[i]? = some x) (hx:uh X.env.scope x) (he:PE X e te) (hs:swapsWith e (some (.Name x pos')) pos.line X.env=pure false:=by rfl) (hf:X.fn x=true\/X.env.scope.names.lookup x=some .local:=by first | exact .inl rfl | exact .inr rfl | assumption) :
  PS X (.Assign [.Name x pos'] e pos) (jU te (ga i)):=by
 intro pins s σ H D I h
 refine wpAny_Assign_Name (zp (he pins s σ H _ I h) λv s1 ⟨y,H1,I1,r1,q1⟩=>?_) hs
 exact zI6 I1 hN hi hx r1 (λs2 I2=>⟨_,H1,I2,q1⟩) hf
end
structure It where
 go:Nat->Hp->Prop
 yld:Nat->Hp->V->Hp->Prop
 stop:Nat->Hp->Prop
noncomputable def yz (X:Cx) (pins:List (Addr × Obj)) (H:Hp) (b:Addr):Prop:=
 H b=none/\b≠X.env.locals/\b∉X.fs/\(b∈X.ex\/X.s₀.heap.objs.size<=b)/\(∀ x c,X.env.cells.lookup x=some c->c≠b)/\∀ p∈X.pn++pins,p.1≠b
theorem zF.fpOk {X:Cx} {pins:List (Addr × Obj)} {σ:St} {H H':Hp} {s:Shared} {b:Addr} (I:zF X pins σ H s) (hb:s.heap.objs.size<=b) (hn:H' b=none):yz X pins H' b:=by
 refine ⟨hn,eM (cP I.lt hb),I.nofs hb,.inr (dH I.sz hb),λx c e z=>?_,λp hp z=>?_⟩
 ·obtain ⟨v,q⟩:=I.cell x c e
  exact absurd (cP q.lt (by rw [z]; exact hb)) (df _)
 ·exact absurd (cP (cA (I.pin p hp).1) (by rw [z]; exact hb)) (df _)
structure vC (P:Program) (w:World) (K:b_) (tg:Expr) (J:It) (fp:List Addr) (it:Addr) (tn:Nat->Heap->Prop):Prop where
 mem:it∈fp
 obj:∀ i h,tn i h->∀ b∈fp,∃ o,h.get? b=some o/\∀ v,o.data≠.cell v
 keep:∀ i h h',tn i h->(∀ b∈fp,∀ o,h.get? b=some o->h'.get? b=some o)->tn i h'
 item:∀ (X:Cx),X.prog=P->X.w=w->X.K=K->X.calm=true->∀ (i:Nat) (pins:List (Addr × Obj)) (s:Shared) (σ:St) (H:Hp) (E:Value->Shared->Prop),zF X pins σ H s->(∀ b∈fp,yz X pins H b)->tn i s.heap->J.go i H->
  wpAny (model P w) X.A (pyNext (.ref it)) (λr s1=>∃ u,r=some u∧
   wpAny (model P w) X.A (letOwnedTupleGo tg (.ref it) u) (λ_ s2=>∃ x H',zF X pins σ H' s2/\zS x u/\J.yld i H x H'/\tn (i + 1) s2.heap/\∀ b∈fp,H' b=none) E s1) E s
 done:∀ (X:Cx),X.prog=P->X.w=w->X.K=K->X.calm=true->∀ (i:Nat) (pins:List (Addr × Obj)) (s:Shared) (σ:St) (H:Hp) (E:Value->Shared->Prop),zF X pins σ H s->(∀ b∈fp,yz X pins H b)->tn i s.heap->J.stop i H->
  wpAny (model P w) X.A (pyNext (.ref it)) (λr s1=>r=none/\zF X pins σ H s1) E s
 self:∀ (A:Around) (i:Nat) (s:Shared) (Q:Value->Shared->Prop) (E:Value->Shared->Prop),tn i s.heap->Q (.ref it) s->wpAny (model P w) A (pyIter (.ref it)) Q E s
noncomputable abbrev TI:=St->Hp->(It->Hp->Prop)->Prop
noncomputable def PIE (X:Cx) (pins:List (Addr × Obj)) (σ:St) (tg:Expr) (R:It->Hp->Prop) (itv:Value) (s2:Shared):Prop:=
 ∃ (it:Addr) (fp:List Addr) (tn:Nat->Heap->Prop) (J:It) (H':Hp),itv=.ref it/\zF X pins σ H' s2/\vC X.prog X.w X.K tg J fp it tn/\tn 0 s2.heap/\(∀ b∈fp,yz X pins H' b)/\R J H'
noncomputable def PI (X:Cx) (tg iter:Expr) (wi:TI):Prop:=
 ∀ (pins:List (Addr × Obj)) (s:Shared) (σ:St) (H:Hp) (R:It->Hp->Prop),zF X pins σ H s->wi σ H R->
  wpAny (model X.prog X.w) X.A (eval iter X.env) (λv s1=>wpAny (model X.prog X.w) X.A (pyIter v) (PIE X pins σ tg R) X.xe s1) X.xe s
theorem Uz {M:Model} {A:Around} {E:Value->Shared->Prop} {s:Shared} {tg:Expr} {it:Addr} {u:Value} {o:Obj} {n:String} {vs:Array Value} {Q:Unit->Shared->Prop} (ho:s.heap.get? it=some o) (hc:o.cls=.type n) (hd:o.data=.fields vs)
  (hn:["enumerate","zip","dict_itemiterator","dict_reverseitemiterator","odict_iterator","itertools.zip_longest","itertools.pairwise"].contains n=false) (hQ:Q () s):wpAny M A (letOwnedTupleGo tg (.ref it) u) Q E s:=by
 unfold letOwnedTupleGo
 cases tg <;> first
  | exact wpAny_pure hQ
  | (cases u <;> first
    | exact wpAny_pure hQ
    | (refine wpAny_bind (wpAny_load ho ?_)
       rw [hc,hd]
       show wpAny M A (if (["enumerate","zip","dict_itemiterator","dict_reverseitemiterator","odict_iterator","itertools.zip_longest","itertools.pairwise"].contains n && vs[0]? == some (rawInt _))=true then _ else _) Q E s
       rw [if_neg (by intro h; rw [hn,fZ] at h; cases h)]
       exact wpAny_pure hQ))
noncomputable def WE (K:b_) (a:Addr):It:=
 ⟨λi H=>∃ xs x,zZ K H a xs/\xs[i]? = some x,λi H x H'=>H'=H/\∀ xs,zZ K H a xs->xs[i]? = some x,λi H=>∃ xs,zZ K H a xs/\xs.length<=i⟩
noncomputable def WF (K:b_) (a:Addr):It:=
 ⟨λi H=>∃ xs x,yQ K H a xs/\xs[i]? = some x,λi H x H'=>H'=H/\∀ xs,yQ K H a xs->xs[i]? = some x,λi H=>∃ xs,yQ K H a xs/\xs.length<=i⟩
noncomputable def WG (lo:Int) (n:Nat):It:=⟨λi _=>i < n,λi H x H'=>H'=H/\x=.int (lo + i),λi _=>n<=i⟩
theorem zKg {P:Program} {w:World} {K:b_} {tg:Expr} (a it:Addr):vC P w K tg (WE K a) [it] it (λi h=>h.IsListIter it a i) where
 mem:=by simp
 obj:=λi h st b hb=>by
  have e:b=it:=by simpa using hb
  subst e
  obtain ⟨o,e,c,d⟩:=st
  exact ⟨o,e,λv z=>by rw [d] at z; cases z⟩
 keep:=λi h h' st k=>st.at λo e=>k it (by simp) o e
 item:=by
  intro X hP hw hK hc i pins s σ H E I hf st hg
  subst hP hw hK
  obtain ⟨xs,x,hq,hx⟩:=hg
  obtain ⟨its,rv,p,hz⟩:=I.list hq
  obtain ⟨u,hu,ru⟩:=rv.get hx
  obtain ⟨f0,f1,f2,f3,f4,f5⟩:=hf it (by simp)
  refine wpAny_pyNext_list_item st p.isList (x:=u) (by simpa using hu) λh' st' sb=>?_
  have I1:zF X pins σ H { s with heap:=h' }:=I.turned (t':=s.toks) (λb o hb e=>(sb.2 b hb).trans e) f0 f1 f3 f4 f5
  obtain ⟨o,e,c,d⟩:=id st'
  exact ⟨u,rfl,Uz (s:={ s with heap:=h' }) e c d (by decide) ⟨x,H,I1,ru,⟨rfl,λys hy=>by rw [I.list_inj hy hq]; exact hx⟩,st',λb hb=>(hf b hb).1⟩⟩
 done:=by
  intro X hP hw hK hc i pins s σ H E I hf st hg
  subst hP hw hK
  obtain ⟨xs,hq,hx⟩:=hg
  obtain ⟨its,rv,p,hz⟩:=I.list hq
  obtain ⟨f0,f1,f2,f3,f4,f5⟩:=hf it (by simp)
  have hl:=rv.length
  exact wpAny_pyNext_list_end (I.ok.hd hc) st p.isList (by simp; omega) λh' eb=>⟨rfl,I.turned (t':=s.toks) (λb o hb e=>eb b o hb e) f0 f1 f3 f4 f5⟩
 self:=λ_ _ _ _ _ st h=>wpAny_pyIter_listiter st h
theorem zJs {P:Program} {w:World} {K:b_} {tg:Expr} (a it:Addr):vC P w K tg (WF K a) [it] it (λi h=>h.IsTupleIter it a i) where
 mem:=by simp
 obj:=λi h st b hb=>by
  have e:b=it:=by simpa using hb
  subst e
  obtain ⟨o,e,c,d⟩:=st
  exact ⟨o,e,λv z=>by rw [d] at z; cases z⟩
 keep:=λi h h' st k=>st.at λo e=>k it (by simp) o e
 item:=by
  intro X hP hw hK hc i pins s σ H E I hf st hg
  subst hP hw hK
  obtain ⟨xs,x,hq,hx⟩:=hg
  obtain ⟨its,rv,p,hz⟩:=I.tuple hq
  obtain ⟨u,hu,ru⟩:=rv.get hx
  obtain ⟨f0,f1,f2,f3,f4,f5⟩:=hf it (by simp)
  refine wpAny_pyNext_tuple_item st (show s.heap.IsTuple a its.toArray from p) (x:=u) (by simpa using hu) λh' st' sb=>?_
  have I1:zF X pins σ H { s with heap:=h' }:=I.turned (t':=s.toks) (λb o hb e=>(sb.2 b hb).trans e) f0 f1 f3 f4 f5
  obtain ⟨o,e,c,d⟩:=id st'
  exact ⟨u,rfl,Uz (s:={ s with heap:=h' }) e c d (by decide) ⟨x,H,I1,ru,⟨rfl,λys hy=>by rw [I.tuple_inj hy hq]; exact hx⟩,st',λb hb=>(hf b hb).1⟩⟩
 done:=by
  intro X hP hw hK hc i pins s σ H E I hf st hg
  subst hP hw hK
  obtain ⟨xs,hq,hx⟩:=hg
  obtain ⟨its,rv,p,hz⟩:=I.tuple hq
  obtain ⟨f0,f1,f2,f3,f4,f5⟩:=hf it (by simp)
  have hl:=rv.length
  exact wpAny_pyNext_tuple_end (I.ok.hd hc) st (show s.heap.IsTuple a its.toArray from p) (by simp; omega) λh' eb=>⟨rfl,I.turned (t':=s.toks) (λb o hb e=>eb b o hb e) f0 f1 f3 f4 f5⟩
 self:=λ_ _ _ _ _ st h=>wpAny_pyIter_tupleiter st h
theorem zJt {P:Program} {w:World} {K:b_} {tg:Expr} (it:Addr) (lo:Int) (n:Nat):vC P w K tg (WG lo n) [it] it (λi h=>IsRangeIter h it (lo + (i:Nat) * 1) ((n:Int) - (i:Nat)) 1) where
 mem:=by simp
 obj:=λi h st b hb=>by
  have e:b=it:=by simpa using hb
  subst e
  exact ⟨_,st,λv z=>by
   have z':Data.fields _=Data.cell v:=z
   cases z'⟩
 keep:=λi h h' st k=>k it (by simp) _ st
 item:=by
  intro X hP hw hK hc i pins s σ H E I hf st hg
  subst hP hw hK
  obtain ⟨f0,f1,f2,f3,f4,f5⟩:=hf it (by simp)
  have W:=Walks.range (prog:=X.prog) (w:=X.w) (I.ok.hd hc) it lo 1 n
  refine W.item i s _ _ hg st λv h' tk hv st' kk=>?_
  obtain ⟨t,rfl⟩:=hv
  have I1:zF X pins σ H { s with heap:=h',toks:=tk }:=I.turned (λb o hb e=>kk b o (by simpa using hb) e) f0 f1 f3 f4 f5
  refine ⟨_,rfl,Uz (s:={ s with heap:=h',toks:=tk }) (n:="range_iterator") st' rfl rfl (by decide) ⟨.int (lo + i),H,I1,⟨t,?_⟩,⟨rfl,rfl⟩,st',λb hb=>(hf b hb).1⟩⟩
  rw [Int.mul_one]
 done:=by
  intro X hP hw hK hc i pins s σ H E I hf st hg
  subst hP hw hK
  obtain ⟨f0,f1,f2,f3,f4,f5⟩:=hf it (by simp)
  exact wpAny_pyNext_range_end (I.ok.hd hc) st (by have:n<=i:=hg; omega) λh' eb=>⟨rfl,I.turned (t':=s.toks) (λb o hb e=>eb b o hb e) f0 f1 f3 f4 f5⟩
 self:=λ_ _ _ _ _ st h=>wpAny_pyIter_rangeiter st h
end L2
namespace L2
open PySem PySem.Spec PyProof.Rows
section
variable {X:Cx} {tg:Expr}
theorem zM3 {pins:List (Addr × Obj)} {σ:St} {H:Hp} {s:Shared} {R:It->Hp->Prop} {E:Value->Shared->Prop} {lo hi:Int} {t u v:Tok} {tk:Nat} (I:zF X pins σ H s) (h1 : -(2 ^ 62)<=lo) (h2:lo < 2 ^ 62) (h3 : -(2 ^ 62)<=hi) (h4:hi < 2 ^ 62)
  (q:R (WG lo (hi - lo).toNat) H):wpAny (model X.prog X.w) X.A (pyIter (.ref s.heap.objs.size)) (PIE X pins σ tg R) E { s with heap:=s.heap.push { cls:=.type "range",data:=.fields #[.int lo t,.int hi u,.int 1 v] },toks:=tk }:=by
 refine wpAny_pyIter_range (IsRange.new ..) (small_one h1 h2 h3 h4) ?_
 have I1:zF X pins σ H { s with heap:=s.heap.push { cls:=.type "range",data:=.fields #[.int lo t,.int hi u,.int 1 v] },toks:=tk }:=I.kept λb o e=>ci _ e
 refine ⟨(s.heap.push { cls:=.type "range",data:=.fields #[.int lo t,.int hi u,.int 1 v] }).objs.size,[(s.heap.push { cls:=.type "range",data:=.fields #[.int lo t,.int hi u,.int 1 v] }).objs.size],_,_,H,rfl,
  I1.kept (t':=tk) λb o e=>ci _ e,zJt _ lo (hi - lo).toNat,?_,λb hb=>?_,q⟩
 ·have e1:lo + ((0:Nat):Int) * 1=lo:=by simp
  have e2:(((hi - lo).toNat:Nat):Int) - ((0:Nat):Int)=Builtin.Range.rangeSize lo hi 1:=by rw [rangeSize_one]; split <;> omega
  show IsRangeIter _ _ (lo + ((0:Nat):Int) * 1) ((((hi - lo).toNat:Nat):Int) - ((0:Nat):Int)) 1
  rw [e1,e2]
  exact cy _ rfl
 ·have e:b=(s.heap.push { cls:=.type "range",data:=.fields #[.int lo t,.int hi u,.int 1 v] }).objs.size:=by simpa using hb
  subst e
  exact I1.fpOk (cD _) (I1.hok.fresh (cD _))
noncomputable def ZJ (ta:TA):TI:=λσ H R=>ta σ H λvs H1=>∃ j:Int,vs=[.int j]/\-(2 ^ 62)<=j/\j < 2 ^ 62/\R (WG 0 j.toNat) H1
theorem zLC {a:Expr} {ta:TA} {p pos:Pos} (hg:Gl X "range") (hm:X.mg "range" = none) (ha:PA X [a] ta) (hs:starEach [a] X.env=[(false,eval a X.env)]:=by rfl):PI X tg (.Call (.Name "range" p) [a] [] pos) (ZJ ta):=by
 intro pins s σ H R I h
 refine Call_ (qG I hg hm boot_range (PyProof.Rows.callWith_type1 (zp (ha pos pins s σ H _ I h) λus s1 ⟨vs,H1,I1,r1,q1⟩=>?_) hs rfl))
 obtain ⟨j,e,q1,q2,q⟩:=q1
 subst e
 cases r1 with
 | cons r rr=>
  cases rr
  obtain ⟨t,rfl⟩:=r
  exact call_range_1 (zM3 I1 (by omega) (by omega) q1 q2 (by simpa using q))
noncomputable def U0 (wi:TI) (g:TG) (tb:TS):TS:=λD σ H=>wi σ H λJ H1=>∃ W:Nat->Nat->St->Hp->Prop,(∃ m,W 0 m σ H1)/\∀ i m σ H,W i m σ H->
 (J.stop i H/\D.nx σ H)\/(J.go i H/\∃ N:St->Hp->Prop,(∀ σ' H',N σ' H'->∃ m',m' < m/\W (i + 1) m' σ' H')/\∀ x H',J.yld i H x H'->g x σ H' λσ2 H2=>tb { D with nx:=N,ct:=N,bk:=D.nx } σ2 H2)
noncomputable def ZK (fp:List Addr) (h:Heap):List (Addr × Obj):=fp.filterMap λb=>(h.get? b).map λo=>(b,o)
theorem gd {fp:List Addr} {h:Heap} {b:Addr} {o:Obj} (hb:b∈fp) (e:h.get? b=some o):(b,o)∈ZK fp h:=ig.mpr ⟨b,hb,by rw [e]; rfl⟩
theorem zLe {fp:List Addr} {h:Heap} {p:Addr × Obj} (hp:p∈ZK fp h):p.1∈fp/\h.get? p.1=some p.2:=by
 obtain ⟨b,hb,e⟩:=ig.mp hp
 cases q:h.get? b with
 | none=>rw [q] at e; cases e
 | some o=>
  rw [q] at e
  have e':(b,o)=p:=Option.some.inj e
  subst e'
  exact ⟨hb,q⟩
theorem zF.pinned {pins:List (Addr × Obj)} {σ:St} {H:Hp} {s:Shared} {fp:List Addr} (I:zF X pins σ H s) (hf:∀ b∈fp,yz X pins H b) (ho:∀ b∈fp,∃ o,s.heap.get? b=some o/\∀ v,o.data≠.cell v):zF X (pins++ZK fp s.heap) σ H s:=
 I.pins_of λp hp=>(cZ.mp hp).elim (λz=>I.pin p (cU _ z)) λz=>by
  obtain ⟨hb,e⟩:=zLe z
  obtain ⟨f0,f1,f2,_⟩:=hf p.1 hb
  obtain ⟨o,e',d⟩:=ho p.1 hb
  rw [e] at e'; cases e'
  exact ⟨e,f0,f1,f2,d⟩
theorem zF.unpinned {pins pl:List (Addr × Obj)} {σ:St} {H:Hp} {s:Shared} (I:zF X (pins++pl) σ H s):zF X pins σ H s:=I.pins_of λp hp=>I.pin p (cU _ (hW _ hp))
theorem zOU {iter:Expr} {body:List Stmt} {wi:TI} {g:TG} {tb:TS} {pos:Pos} (hp:PassesOwn (model X.prog X.w) X.A X.env X.xe) (hc:X.calm=true) (hi:PI X tg iter wi) (hg:PG X tg g) (hb:yS X body tb)
  (hs:∀ x,foldedSetIterable iter X.env x=pure x:=by intro _; rfl):PS X (.For tg iter body [] pos) (U0 wi g tb):=by
 intro pins s σ H D I h
 refine wpAny_For (zp (hi pins s σ H _ I h) λv s1 h1=>zp h1 λitv s2 h2=>?_) hs
 obtain ⟨it,fp,tn,J,H2,e,I2,T,st2,f2,W,⟨m0,w0⟩,turn⟩:=h2
 subst e
 have stat:∀ {H':Hp},(∀ b∈fp,H' b=none)->∀ b∈fp,yz X pins H' b:=λhn b hb=>⟨hn b hb,(f2 b hb).2⟩
 refine codeAny_forLoop_any (λn s'=>∃ i σ' H',zF X pins σ' H' s'/\tn i s'.heap/\(∀ b∈fp,H' b=none)/\W i n σ' H') ?_ m0 ⟨0,σ,H2,I2,st2,λb hb=>(f2 b hb).1,w0⟩
 rintro n s3 ⟨i,σ3,H3,I3,st3,fr3,w3⟩
 rcases turn i n σ3 H3 w3 with ⟨stop,qn⟩ | ⟨go,N,hN,step⟩
 ·refine wpAny_passesOwn hp (zp (T.done X rfl rfl rfl hc i pins s3 σ3 H3 X.xe I3 (stat fr3) st3 stop) λr s4 ⟨hr,I4⟩=>?_)
  subst hr
  exact wpAny_execs_nil ⟨σ3,H3,I4,qn⟩
 ·refine wpAny_passesOwn hp (zp (T.item X rfl rfl rfl hc i pins s3 σ3 H3 X.xe I3 (stat fr3) st3 go) λr s4 ⟨u,hr,h4⟩=>?_)
  subst hr
  refine wpAny_passesOwn hp (zp h4 λ_ s5 ⟨x,H5,I5,r5,y5,st5,fr5⟩=>?_)
  have I5':=I5.pinned (stat fr5) (T.obj _ _ st5)
  refine wpAny_passesOwn hp (zp (hg _ s5 σ3 H5 x u _ I5' r5 (step x H5 y5)) λ_ s6 ⟨σ6,H6,I6,q6⟩=>?_)
  refine wpAny_passesOwn hp (zp (hb _ s6 σ6 H6 _ I6 q6) λf s7 q7=>?_)
  have again:∀ {σ7:St} {H7:Hp},zF X (pins++ZK fp s5.heap) σ7 H7 s7->N σ7 H7->∃ m,m < n/\∃ i σ' H',zF X pins σ' H' s7/\tn i s7.heap/\(∀ b∈fp,H' b=none)/\W i m σ' H':=λ{σ7 H7} I7 n7=>by
   obtain ⟨m',hm,w7⟩:=hN σ7 H7 n7
   refine ⟨m',hm,i + 1,σ7,H7,I7.unpinned,T.keep _ _ _ st5 λb hb o e=>(I7.pin (b,o) (cU _ (cU _ (gd hb e)))).1,λb hb=>?_,w7⟩
   obtain ⟨o,e,d⟩:=T.obj _ _ st5 b hb
   exact (I7.pin (b,o) (cU _ (cU _ (gd hb e)))).2.1
  cases f with
  | next=>obtain ⟨σ7,H7,I7,n7⟩:=q7; exact again I7 n7
  | cont=>obtain ⟨σ7,H7,I7,n7⟩:=q7; exact again I7 n7
  | brk=>obtain ⟨σ7,H7,I7,q7⟩:=q7; exact ⟨σ7,H7,I7.unpinned,q7⟩
  | ret v=>obtain ⟨x7,σ7,H7,I7,r7,q7⟩:=q7; exact ⟨x7,σ7,H7,I7.unpinned,r7,q7⟩
end
end L2
namespace L2
open PySem PySem.Spec PyProof.Rows
noncomputable abbrev R2:=V->V->Hp->VK->Prop
noncomputable def y9 (X:Cx) (f:Value->Value->Sem Value) (r:R2):Prop:=
 ∀ (pins:List (Addr × Obj)) (s:Shared) (σ:St) (H:Hp) (x y:V) (v u:Value) (Q:VK),zF X pins σ H s->zS x v->zS y u->r x y H Q->
  wpAny (model X.prog X.w) X.A (f v u) (EP X pins σ Q) X.xe s
noncomputable def U1 (X:Cx) (f:Value->Sem Value) (r:V->Hp->VK->Prop):Prop:=
 ∀ (pins:List (Addr × Obj)) (s:Shared) (σ:St) (H:Hp) (x:V) (v:Value) (Q:VK),zF X pins σ H s->zS x v->r x H Q->
  wpAny (model X.prog X.w) X.A (f v) (EP X pins σ Q) X.xe s
noncomputable def vD (X:Cx) (f:Value) (r:List V->Hp->VK->Prop):Prop:=
 ∀ (pins:List (Addr × Obj)) (s:Shared) (σ:St) (H:Hp) (xs:List V) (us:List Value) (Q:VK),zF X pins σ H s->zL xs us->r xs H Q->
  wpAny (model X.prog X.w) X.A (call f us) (EP X pins σ Q) X.xe s
noncomputable def ZM (r:R2) (ta tb:TE):TE:=λσ H Q=>ta σ H λx H1=>tb σ H1 λy H2=>r x y H2 Q
noncomputable def tUn (r:V->Hp->VK->Prop) (ta:TE):TE:=λσ H Q=>ta σ H λx H1=>r x H1 Q
noncomputable def rI (C:Int->Int->Prop) (g:Int->Int->V):R2:=λx y H Q=>∃ i j,x=.int i/\y=.int j/\C i j/\Q (g i j) H
noncomputable def uZ (g:Int->Int->V):R2:=λx y H Q=>∃ i j,x=.int i/\y=.int j/\Q (g i j) H
noncomputable def rU (g:Int->V):V->Hp->VK->Prop:=λx H Q=>∃ i,x=.int i/\Q (g i) H
section
variable {X:Cx} {a b c:Expr} {ta tb tc:TE} {pos:Pos}
theorem qI (ha:PE X a ta) (hb:PE X b tb) {pins:List (Addr × Obj)} {s:Shared} {σ:St} {H:Hp} {R:V->V->Hp->Prop} (I:zF X pins σ H s)
  (h:ta σ H λx H1=>tb σ H1 λy H2=>R x y H2) {Q:Value->Shared->Prop} {f:Value->Value->Sem Value}
  (hf:∀ v u s2 x y H2,zF X pins σ H2 s2->zS x v->zS y u->R x y H2->wpAny (model X.prog X.w) X.A (f v u) Q X.xe s2) :
  wpAny (model X.prog X.w) X.A (eval a X.env) (λv s₁=>wpAny (model X.prog X.w) X.A (eval b X.env) (λu s₂=>wpAny (model X.prog X.w) X.A (f v u) Q X.xe s₂) X.xe s₁) X.xe s:=by
 refine zp (ha pins s σ H _ I h) λv s1 ⟨x,H1,I1,r1,q1⟩=>?_
 refine zp (hb pins s1 σ H1 _ I1 q1) λu s2 ⟨y,H2,I2,r2,q2⟩=>?_
 exact hf v u s2 x y H2 I2 r1 r2 q2
theorem ZN {op:Operator} {r:R2} (ho:y9 X (binaryOp op) r) (ha:PE X a ta) (hb:PE X b tb):PE X (.BinOp a op b pos) (ZM r ta tb):=by
 intro pins s σ H Q I h
 exact wpAny_BinOp (qI ha hb I h λv u s2 x y H2 I2 rx ry q=>ho pins s2 σ H2 x y v u Q I2 rx ry q)
theorem ZO {op:UnaryOp} {r:V->Hp->VK->Prop} (ho:U1 X (unaryOp op) r) (ha:PE X a ta):PE X (.UnaryOp op a pos) (tUn r ta):=by
 intro pins s σ H Q I h
 exact UnaryOp_ (zp (ha pins s σ H _ I h) λv s1 ⟨x,H1,I1,r1,q1⟩=>ho pins s1 σ H1 x v Q I1 r1 q1)
theorem WH {f:Value->Value->Sem Value} {C:Int->Int->Prop} {g:Int->Int->Int}
  (rule:∀ (i j:Int) (t u:Tok) (s:Shared) (Q:Value->Shared->Prop) (E:Value->Shared->Prop),C i j->Q (.int (g i j) s.toks) { s with toks:=s.toks + 1 }->wpAny (model X.prog X.w) X.A (f (.int i t) (.int j u)) Q E s) :
  y9 X f (rI C λi j=>.int (g i j)):=by
 intro pins s σ H x y v u Q I rx ry h
 obtain ⟨i,j,rfl,rfl,hc,q⟩:=h
 obtain ⟨t,rfl⟩:=rx
 obtain ⟨t',rfl⟩:=ry
 exact rule i j t t' s _ _ hc ⟨.int (g i j),H,I.tok _,⟨_,rfl⟩,q⟩
theorem ZP {f:Value->Value->Sem Value} {g:Int->Int->Int}
  (rule:∀ (i j:Int) (t u:Tok) (s:Shared) (Q:Value->Shared->Prop) (E:Value->Shared->Prop),Q (.int (g i j) s.toks) { s with toks:=s.toks + 1 }->wpAny (model X.prog X.w) X.A (f (.int i t) (.int j u)) Q E s) :
  y9 X f (uZ λi j=>.int (g i j)):=by
 intro pins s σ H x y v u Q I rx ry h
 obtain ⟨i,j,rfl,rfl,q⟩:=h
 obtain ⟨t,rfl⟩:=rx
 obtain ⟨t',rfl⟩:=ry
 exact rule i j t t' s _ _ ⟨.int (g i j),H,I.tok _,⟨_,rfl⟩,q⟩
theorem jV {f:Value->Value->Sem Value} {g:Int->Int->Bool}
  (rule:∀ (i j:Int) (t u:Tok) (s:Shared) (Q:Value->Shared->Prop) (E:Value->Shared->Prop),Q (.bool (g i j)) s->wpAny (model X.prog X.w) X.A (f (.int i t) (.int j u)) Q E s) :
  y9 X f (uZ λi j=>.bl (g i j)):=by
 intro pins s σ H x y v u Q I rx ry h
 obtain ⟨i,j,rfl,rfl,q⟩:=h
 obtain ⟨t,rfl⟩:=rx
 obtain ⟨t',rfl⟩:=ry
 exact rule i j t t' s _ _ ⟨.bl (g i j),H,I,rfl,q⟩
noncomputable def qJ (i j:Int):Prop:=0<=j/\j<=1000000/\i.natAbs < 2 ^ 64
theorem zRa:y9 X (binaryOp .Add) (uZ λi j=>.int (i + j)):=ZP λ_ _ _ _ _ _ _ q=>add_int q
theorem zRT:y9 X (binaryOp .Sub) (uZ λi j=>.int (i - j)):=ZP λ_ _ _ _ _ _ _ q=>sub_int q
theorem zPe:y9 X (binaryOp .Mod) (rI (λ_ j=>j≠0) λi j=>.int (i.fmod j)):=WH λ_ _ _ _ _ _ _ hc q=>mod_int' hc q
theorem zRV:y9 X (binaryOp .Pow) (rI qJ λi j=>.int (i ^ j.toNat)):=WH λ_ _ _ _ _ _ _ hc q=>pow_int_small hc.1 hc.2.1 hc.2.2 q
theorem unI {f:Value->Sem Value} {g:Int->Int}
  (rule:∀ (i:Int) (t:Tok) (s:Shared) (Q:Value->Shared->Prop) (E:Value->Shared->Prop),Q (.int (g i) s.toks) { s with toks:=s.toks + 1 }->wpAny (model X.prog X.w) X.A (f (.int i t)) Q E s) :
  U1 X f (rU λi=>.int (g i)):=by
 intro pins s σ H x v Q I rx h
 obtain ⟨i,rfl,q⟩:=h
 obtain ⟨t,rfl⟩:=rx
 exact rule i t s _ _ ⟨.int (g i),H,I.tok _,⟨_,rfl⟩,q⟩
theorem zQf:U1 X (unaryOp .USub) (rU λi=>.int (-i)):=unI λ_ _ _ _ _ q=>neg_int q
end
noncomputable def ZQ:V->V->Bool
 | .non,.non=>true | .non,.int _=>true | .int _,.non=>true | .non,.bl _=>true | .bl _,.non=>true | .non,.str _=>true | .str _,.non=>true
 | .int _,.int _=>true | .bl _,.bl _=>true | .str _,.str _=>true | .byt _,.byt _=>true
 | .int _,.str _=>true | .str _,.int _=>true | .bl _,.str _=>true | .str _,.bl _=>true
 | _,_=>false
noncomputable def rEq:R2:=λx y H Q=>ZQ x y=true/\Q (.bl (decide (x=y))) H
noncomputable def rNe:R2:=λx y H Q=>ZQ x y=true/\Q (.bl (!decide (x=y))) H
theorem WI {i j:Int}:decide (V.int i=V.int j)=(i == j):=by
 rw [eI]
 simp
theorem WJ {i j:Bool}:decide (V.bl i=V.bl j)=(i == j):=by
 rw [eI]
 simp
theorem WK {i j:Str}:decide (V.str i=V.str j)=(i == j):=by
 rw [eI]
 simp
theorem zMJ {i j:Array UInt8}:decide (V.byt i=V.byt j)=(i.toList == j.toList):=by
 rw [eI]
 cases i
 cases j
 simp
section
variable {X:Cx} {a b c:Expr} {ta tb tc:TE} {pos:Pos}
theorem xK {pins:List (Addr × Obj)} {σ:St} {H:Hp} {s:Shared} {Q:VK} {k k':Bool} (I:zF X pins σ H s) (q:Q (.bl k) H) (e:k=k'):EP X pins σ Q (.bool k') s:=by
 subst e
 exact ⟨.bl k,H,I,rfl,q⟩
theorem zRZ:y9 X (compareOp .Eq) rEq:=by
 intro pins s σ H x y v u Q I rx ry h
 obtain ⟨hs,q⟩:=h
 cases x with
 | non=>
  cases rx
  cases y with
  | non=>cases ry; exact PySem.EqNone.eq_none_none (xK I q (by simp))
  | bl j=>cases ry; exact PySem.EqNone.eq_none_bool (xK I q (by simp))
  | int j=>obtain ⟨t',rfl⟩:=ry; exact PySem.EqNone.eq_none_int (xK I q (by simp))
  | str j=>obtain ⟨t',rfl⟩:=ry; exact PySem.EqNone.eq_none_str (xK I q (by simp))
  | _=>exact absurd (show false=true from hs) cV
 | bl i=>
  cases rx
  cases y with
  | non=>cases ry; exact PySem.EqNone.eq_bool_none (xK I q (by simp))
  | bl j=>cases ry; exact eq_bool (xK I q WJ)
  | str j=>obtain ⟨t',rfl⟩:=ry; exact PySem.EqMixed.eq_bool_str (xK I q (by simp))
  | _=>exact absurd (show false=true from hs) cV
 | int i=>
  obtain ⟨t,rfl⟩:=rx
  cases y with
  | non=>cases ry; exact PySem.EqNone.eq_int_none (xK I q (by simp))
  | int j=>obtain ⟨t',rfl⟩:=ry; exact eq_int (xK I q WI)
  | str j=>obtain ⟨t',rfl⟩:=ry; exact PySem.EqMixed.eq_int_str (xK I q (by simp))
  | _=>exact absurd (show false=true from hs) cV
 | str i=>
  obtain ⟨t,rfl⟩:=rx
  cases y with
  | non=>cases ry; exact PySem.EqNone.eq_str_none (xK I q (by simp))
  | bl j=>cases ry; exact PySem.EqMixed.eq_str_bool (xK I q (by simp))
  | int j=>obtain ⟨t',rfl⟩:=ry; exact PySem.EqMixed.eq_str_int (xK I q (by simp))
  | str j=>obtain ⟨t',rfl⟩:=ry; exact eq_str (xK I q WK)
  | _=>exact absurd (show false=true from hs) cV
 | byt i=>
  obtain ⟨t,rfl⟩:=rx
  cases y with
  | byt j=>obtain ⟨t',rfl⟩:=ry; exact PySem.W.eq_bytes (xK I q zMJ)
  | _=>exact absurd (show false=true from hs) cV
 | _=>cases y <;> exact absurd (show false=true from hs) cV
theorem ZR:y9 X (compareOp .NotEq) rNe:=by
 intro pins s σ H x y v u Q I rx ry h
 obtain ⟨hs,q⟩:=h
 cases x with
 | non=>
  cases rx
  cases y with
  | non=>cases ry; exact PySem.EqNone.ne_none_none (xK I q (by simp))
  | bl j=>cases ry; exact PySem.EqNone.ne_none_bool (xK I q (by simp))
  | int j=>obtain ⟨t',rfl⟩:=ry; exact PySem.EqNone.ne_none_int (xK I q (by simp))
  | str j=>obtain ⟨t',rfl⟩:=ry; exact PySem.EqNone.ne_none_str (xK I q (by simp))
  | _=>exact absurd (show false=true from hs) cV
 | bl i=>
  cases rx
  cases y with
  | non=>cases ry; exact PySem.EqNone.ne_bool_none (xK I q (by simp))
  | bl j=>cases ry; exact ne_bool (xK I q (congrArg not WJ))
  | str j=>obtain ⟨t',rfl⟩:=ry; exact PySem.EqMixed.ne_bool_str (xK I q (by simp))
  | _=>exact absurd (show false=true from hs) cV
 | int i=>
  obtain ⟨t,rfl⟩:=rx
  cases y with
  | non=>cases ry; exact PySem.EqNone.ne_int_none (xK I q (by simp))
  | int j=>obtain ⟨t',rfl⟩:=ry; exact ne_int (xK I q (congrArg not WI))
  | str j=>obtain ⟨t',rfl⟩:=ry; exact PySem.EqMixed.ne_int_str (xK I q (by simp))
  | _=>exact absurd (show false=true from hs) cV
 | str i=>
  obtain ⟨t,rfl⟩:=rx
  cases y with
  | non=>cases ry; exact PySem.EqNone.ne_str_none (xK I q (by simp))
  | bl j=>cases ry; exact PySem.EqMixed.ne_str_bool (xK I q (by simp))
  | int j=>obtain ⟨t',rfl⟩:=ry; exact PySem.EqMixed.ne_str_int (xK I q (by simp))
  | str j=>obtain ⟨t',rfl⟩:=ry; exact ne_str (xK I q (congrArg not WK))
  | _=>exact absurd (show false=true from hs) cV
 | byt i=>
  obtain ⟨t,rfl⟩:=rx
  cases y with
  | byt j=>obtain ⟨t',rfl⟩:=ry; exact PySem.W.ne_bytes (xK I q (congrArg not zMJ))
  | _=>exact absurd (show false=true from hs) cV
 | _=>cases y <;> exact absurd (show false=true from hs) cV
theorem zRW:y9 X (compareOp .Lt) (uZ λi j=>.bl (decide (i < j))):=jV λ_ _ _ _ _ _ _ q=>lt_int q
theorem ZS:y9 X (compareOp .LtE) (uZ λi j=>.bl (decide (i<=j))):=jV λ_ _ _ _ _ _ _ q=>le_int q
theorem ZT:y9 X (compareOp .Gt) (uZ λi j=>.bl (decide (j < i))):=jV λ_ _ _ _ _ _ _ q=>gt_int q
theorem zRY:y9 X (compareOp .GtE) (uZ λi j=>.bl (decide (j<=i))):=jV λ_ _ _ _ _ _ _ q=>ge_int q
theorem zRX:y9 X (compareOp .Is) (λx y H Q=>y=.non/\Q (.bl (decide (x=.non))) H):=by
 intro pins s σ H x y v u Q I rx ry h
 obtain ⟨rfl,q⟩:=h
 cases ry
 refine is_none_gen (xK I q ?_)
 cases x <;> first
  | (cases rx; rfl)
  | (obtain ⟨t,rfl⟩:=rx; rfl)
noncomputable def isObj:HO->Bool
 | .lst _=>true
 | .ins _ _ _=>true
 | _=>false
theorem y9.or {f:Value->Value->Sem Value} {r r':R2} (h:y9 X f r) (h':y9 X f r'):y9 X f (λx y H Q=>r x y H Q\/r' x y H Q):=by
 intro pins s σ H x y v u Q I rx ry q
 rcases q with q | q
 ·exact h pins s σ H x y v u Q I rx ry q
 ·exact h' pins s σ H x y v u Q I rx ry q
theorem ui (b:Expr) {op:CmpOp} (h:op≠.In:=by decide) (h2:op≠.NotIn:=by decide):behindInMarks op b=false:=by
 have e1:(op == CmpOp.In)=false:=by cases op <;> first | rfl | exact absurd rfl h
 have e2:(op == CmpOp.NotIn)=false:=by cases op <;> first | rfl | exact absurd rfl h2
 cases b <;> simp [behindInMarks,e1,e2]
theorem zPY {op:CmpOp} {r:R2} (ho:y9 X (compareOp op) r) (ha:PE X a ta) (hb:PE X b tb) (hm:behindInMarks op b=false):PE X (.Compare a [op] [b] pos) (ZM r ta tb):=by
 intro pins s σ H Q I h
 exact wpAny_Compare1 (qI ha hb I h λv u s2 x y H2 I2 rx ry q=>ho pins s2 σ H2 x y v u Q I2 rx ry q) hm
noncomputable def zQk (t:TE):TT:=λσ H Q=>t σ H λx H'=>∃ k,x=.bl k/\Q k H'
theorem zPO {op:CmpOp} {r:R2} (ho:y9 X (compareOp op) r) (ha:PE X a ta) (hb:PE X b tb) (hm:behindInMarks op b=false):PT X (.Compare a [op] [b] pos) (zQk (ZM r ta tb)):=by
 intro pins s σ H Q I h
 refine wpAny_isTrue_Compare1 (zp (ha pins s σ H _ I h) λv s1 ⟨x,H1,I1,r1,q1⟩=>zp (hb pins s1 σ H1 _ I1 q1) λu s2 ⟨y,H2,I2,r2,q2⟩=>
  zp (ho pins s2 σ H2 x y v u _ I2 r1 r2 q2) λc s3 ⟨z,H3,I3,r3,k,e,q3⟩=>?_) hm
 subst e
 cases r3
 exact wpAny_truthy_bool ⟨H3,I3,q3⟩
theorem U2:(sizeLine:Nat) < 2 ^ 63:=by rw [sizeLine_eq]; decide
theorem jW {x:V} {us:List Value} (r:zL [x] us):∃ u,us=[u]/\zS x u:=by
 cases r with
 | cons r1 r2=>cases r2; exact ⟨_,rfl,r1⟩
theorem gf {x y:V} {us:List Value} (r:zL [x,y] us):∃ u w',us=[u,w']/\zS x u/\zS y w':=by
 cases r with
 | cons r1 r2=>
  cases r2 with
  | cons r3 r4=>cases r4; exact ⟨_,_,rfl,r1,r3⟩
theorem ZU (hc:X.calm=true):vD X (.builtin "max") (λxs H Q=>∃ i j,xs=[.int i,.int j]/\Q (.int (if j > i then j else i)) H):=by
 intro pins s σ H xs us Q I r h
 obtain ⟨i,j,rfl,q⟩:=h
 obtain ⟨u,w',rfl,⟨t,rfl⟩,⟨t',rfl⟩⟩:=gf r
 refine max_two_ints (I.ok.hd hc) λh' tk k=>⟨_,H,I.kept k,?_,q⟩
 by_cases hj:j > i
 ·rw [if_pos hj,if_pos hj]; exact ⟨_,rfl⟩
 ·rw [if_neg hj,if_neg hj]; exact ⟨_,rfl⟩
theorem zH0 (hc:X.calm=true):vD X (.builtin "min") (λxs H Q=>∃ i j,xs=[.int i,.int j]/\Q (.int (if j < i then j else i)) H):=by
 intro pins s σ H xs us Q I r h
 obtain ⟨i,j,rfl,q⟩:=h
 obtain ⟨u,w',rfl,⟨t,rfl⟩,⟨t',rfl⟩⟩:=gf r
 refine min_two_ints (I.ok.hd hc) λh' tk k=>⟨_,H,I.kept k,?_,q⟩
 by_cases hj:j < i
 ·rw [if_pos hj,if_pos hj]; exact ⟨_,rfl⟩
 ·rw [if_neg hj,if_neg hj]; exact ⟨_,rfl⟩
theorem zH2:vD X (.type "int") (λxs H Q=>(∃ i,xs=[.int i]/\Q (.int i) H)\/∃ k,xs=[.bl k]/\Q (.int (if k then 1 else 0)) H):=by
 intro pins s σ H xs us Q I r h
 rcases h with ⟨i,rfl,q⟩ | ⟨k,rfl,q⟩
 ·obtain ⟨u,rfl,t,rfl⟩:=jW r
  exact call_int_int ⟨.int i,H,I,⟨_,rfl⟩,q⟩
 ·obtain ⟨u,rfl,r1⟩:=jW r
  cases r1
  exact call_int_bool ⟨.int (if k then 1 else 0),H,I.tok _,⟨_,rfl⟩,q⟩
end
end L2
namespace L2
open PySem PySem.Spec PyProof.Rows
structure vW (h:Heap) (x dx C:Addr) (mA:Str->Option Value):Prop where
 obj:h.get? x=some (eh C dx)
 ns:h.Ns1 dx mA
 ne:dx≠x
theorem zLo {h:Heap} {dx:Addr} {mA:Str->Option Value} (n:h.Ns1 dx mA):∃ od,h.get? dx=some od/\∀ name,il name od=some (mA name):=by
 obtain ⟨o,es,ep,ho,hd,hk,_,hm⟩:=n
 refine ⟨o,ho,λname=>?_⟩
 have e:=hm name
 unfold nsFind findBy at e
 rw [<- Array.find?_toList] at e
 unfold il
 rw [hd]
 dsimp only
 split
 ·rename_i y q
  rw [q] at e
  exact congrArg some e
 ·rename_i q
  rw [q] at e
  have a:es.toList.any (·.refKey)=false:=by
   rw [List.any_eq_false]
   intro y hy
   obtain ⟨z,t,hkey⟩:=hk y (Array.mem_toList_iff.mp hy)
   simp [DictEntry.refKey,hkey]
  have a':¬ es.toList.any (·.refKey)=true:=by rw [a]; exact cV
  rw [if_neg a']
  exact congrArg some e
theorem vW.look {h:Heap} {x dx C:Addr} {mA:Str->Option Value} (I:vW h x dx C mA):∃ od,PySem.W.InstAt h x (eh C dx) C (some od)/\∀ name,il name od=some (mA name):=
 let ⟨od,ho,hl⟩:=zLo I.ns
 ⟨od,⟨I.obj,rfl,rfl,ho⟩,hl⟩
section
variable {prog:Program} {w:World} {A:Around} {E:Value->Shared->Prop} {s:Shared} {K:b_} {x dx C f:Addr} {mA:Str->Option Value} {name:Str} {v:Value}
theorem zP8 {expr:Bool} {Q:Value->Shared->Prop} (X:K.In s.heap) (I:vW s.heap x dx C mA) (hg:hG K C name=true) (hh:iq K C=true)
  (ha:dJ K (.ref C) name=some none) (hv:mA name=some v) (hv':lL v=true) (h:Q v { s with toks:=s.toks + 1 }) :
  wpAny (model prog w) A (getAttr (.ref x) name expr) Q E s:=by
 obtain ⟨od,J,hl⟩:=I.look
 exact PySem.W.get_value X J (h7 hg).1 (PySem.W.findObj_own hh ha rfl (by rw [hl,hv])) hv' h
theorem zNl {pl:Sem Bool} {Q:Value × List Value->Shared->Prop} (X:K.In s.heap) (I:vW s.heap x dx C mA) (hg:hG K C name=true)
  (hf:dJ K (.ref C) name=some (some (.ref f))) (ht:lH K (.ref f)=true) (hv:mA name=none) (h:Q (.ref f,[.ref x]) s) :
  wpAny (model prog w) A (getMethod (.ref x) name pl) Q E s:=by
 obtain ⟨od,J,hl⟩:=I.look
 exact PySem.W.method_fn X J (h7 hg).1 (h7 hg).2 hf (beq_iff_eq.mp ht) (by show (il name od).map (·.isSome)=some false; rw [hl,hv]; rfl) h
theorem zPI {ns:List Str} {Q:Unit->Shared->Prop} (X:K.In s.heap) (I:vW s.heap x dx C mA)
  (hs:dJ K (.ref C) "__setattr__" = some (some (.builtin "object.__setattr__"))) (hp:lh K C=true) (ht:iI K C name=some none) (hh:iq K C=true)
  (hw:PySem.Within mA ns) (hsz:ns.length<=sizeLine)
  (h:∀ h',vW h' x dx C (λy=>if y=name then some v else mA y)->Heap.SameBut dx s.heap h'->Q () { s with heap:=h',toks:=s.toks + 2 }) :
  wpAny (model prog w) A (setAttr (.ref x) name v) Q E s:=by
 obtain ⟨od,J,hl⟩:=I.look
 refine PySem.W.set_plain X J hs (PySem.W.osa_open (s:={ s with toks:=s.toks + 1 }) (r:=none) X J hp ht λb=>?_)
 obtain ⟨cd,hc,hd'⟩:=PySem.W.any_some hh
 have hx:s.heap.get? x=some ⟨.ref C,some dx,.plain,#[]⟩:=I.obj
 refine wpAny_bind (wpAny_pure (wpAny_bind (wpAny_bind (wpAny_loadPart hx (wpAny_bind (PySem.W.Looks.here (s:={ s with toks:=s.toks + 1 }) (PySem.W.looks_clsIn X hc) ?_))))))
 rw [hd']
 refine wpAny_pure (a:=some dx) (wpAny_bind (wpAny_pure (wpAny_bind ?_)))
 refine wpAny_nsSet1 (s:={ s with toks:=s.toks + 1 }) I.ns λh' hn2 hs2=>?_
 obtain ⟨oD,esD,epD,hoD,hdD,hcD⟩:=hn2.count (PySem.Within.cons name v hw)
 refine wpAny_bind (wpAny_lookBehind hoD (by rw [hdD]; exact pastItsLine_dict (dH hcD (by rw [cJ]; omega))) ?_)
 exact wpAny_pure (h _ ⟨(hs2.2 _ (Ne.symm I.ne)).trans I.obj,hn2,I.ne⟩ hs2)
theorem zNd {R:Result->Shared->Prop} {vs:List Value} {kw:List (Str × Value)} (X:K.In s.heap) (hm:l6 K C=true)
  (hi:dJ K (.ref C) "__init__" = some (some (.ref f))) (hf:PySem.W.typeIn K (.ref f)=some (.type "function"))
  (h:codeAny (model prog w) (A.under (.builtin "type.__call__" ⟨.ref C :: vs,kw⟩)) (.call (.ref f) ⟨.ref (s.heap.objs.size + 1) :: vs,kw⟩) (PySem.W.InitBack (s.heap.objs.size + 1) R)
   { s with heap:=(s.heap.push dI).push (eh C s.heap.objs.size) }) :
  codeAny (model prog w) A (.call (.ref C) ⟨vs,kw⟩) R s:=by
 obtain ⟨hh,g,d,t,os⟩:=s
 exact PySem.W.make_core (PySem.W.makes_of X hm) (PySem.W.looks_findIn X hi) (λself=>PySem.W.bind_fn X self hf) (.inl rfl) h
end
noncomputable def yr (f:Str) (v:V):List (Str × V)->List (Str × V)
 | []=>[(f,v)]
 | (g,x) :: r=>if g=f then (g,v) :: r else (g,x) :: yr f v r
theorem zFZ (f g:Str) (v:V):∀ fs:List (Str × V),(yr f v fs).lookup g=if g=f then some v else fs.lookup g
 | []=>by
  show fW g [(f,v)]=_
  by_cases h:g=f
  ·have hb:(g == f)=true:=beq_iff_eq.mpr h
   simp only [fW,hb,if_pos h]
  ·have hb:(g == f)=false:=beq_eq_false_iff_ne.mpr h
   simp only [fW,hb,if_neg h]
 | (k,x) :: r=>by
  have ih:=zFZ f g v r
  rw [show yr f v ((k,x) :: r)=(if k=f then (k,v) :: r else (k,x) :: yr f v r) from rfl]
  by_cases hk:k=f
  ·rw [if_pos hk]
   by_cases h:g=k
   ·have hb:(g == k)=true:=beq_iff_eq.mpr h
    simp only [fW,hb,if_pos (h.trans hk)]
   ·have hb:(g == k)=false:=beq_eq_false_iff_ne.mpr h
    simp only [fW,hb,if_neg (λe:g=f=>h (e.trans hk.symm))]
  ·rw [if_neg hk]
   by_cases h:g=k
   ·have hb:(g == k)=true:=beq_iff_eq.mpr h
    simp only [fW,hb,if_neg (λe:g=f=>hk (h.symm.trans e))]
   ·have hb:(g == k)=false:=beq_eq_false_iff_ne.mpr h
    simp only [fW,hb]
    exact ih
theorem U3 (f:Str) (v:V):∀ fs:List (Str × V),f∈(yr f v fs).map (·.1)/\∀ g,g∈fs.map (·.1)->g∈(yr f v fs).map (·.1)
 | []=>⟨by simp [yr],λg h=>by simp at h⟩
 | (k,x) :: r=>by
  obtain ⟨i1,i2⟩:=U3 f v r
  rw [show yr f v ((k,x) :: r)=(if k=f then (k,v) :: r else (k,x) :: yr f v r) from rfl]
  by_cases hk:k=f
  ·rw [if_pos hk]
   subst hk
   exact ⟨by simp,λg h=>by simpa using h⟩
  ·rw [if_neg hk]
   refine ⟨?_,λg h=>?_⟩
   ·rw [cT]
    exact cn _ i1
   ·rw [cT] at h |-
    rcases cu.mp h with e | e
    ·exact cu.mpr (.inl e)
    ·exact cn _ (i2 g e)
theorem zFb (f:Str) (v:V):∀ fs:List (Str × V),(yr f v fs).length<=fs.length + 1
 | []=>by simp [yr]
 | (k,x) :: r=>by
  have ih:=zFb f v r
  rw [show yr f v ((k,x) :: r)=(if k=f then (k,v) :: r else (k,x) :: yr f v r) from rfl]
  by_cases hk:k=f
  ·rw [if_pos hk,cJ,cJ]; omega
  ·rw [if_neg hk,cJ,cJ]; omega
theorem wV.some_of {v:V} {o:Option Value} (r:wV (some v) o):∃ u,o=some u/\zS v u:=by
 cases o with
 | none=>exact (show False from r).elim
 | some u=>exact ⟨u,rfl,r⟩
theorem wV.none_of {o:Option Value} (r:wV none o):o=none:=by
 cases o with
 | none=>rfl
 | some u=>exact (show False from r).elim
theorem zLx {v:V} {u:Value} (r:zS v u):lL u=true:=by
 cases v with
 | non=>cases (show u=Value.none from r); rfl
 | bl b=>cases (show u=Value.bool b from r); rfl
 | int i=>obtain ⟨t,e⟩:=(show ∃ t,u=Value.int i t from r); cases e; rfl
 | str x=>obtain ⟨t,e⟩:=(show ∃ t,u=Value.str x t from r); cases e; rfl
 | byt b=>obtain ⟨t,e⟩:=(show ∃ t,u=Value.bytes b t from r); cases e; rfl
 | flt b=>obtain ⟨t,e⟩:=(show ∃ t,u=Value.float b t from r); cases e; rfl
 | ref a=>cases (show u=Value.ref a from r); rfl
 | ty n=>cases (show u=Value.type n from r); rfl
section
variable {P:Program} {w:World} {H H':Hp} {h h':Heap} {a C dx:Addr} {fs fs':List (Str × V)}
theorem WL (hok:yy P w H h) (e:H a=some (.ins C dx fs)):∃ mA,vW h a dx C mA/\(∀ f,wV (fs.lookup f) (mA f))/\PySem.Within mA (fs.map (·.1))/\fs.length<=1000/\H dx=some (.own a):=by
 obtain ⟨d,z,ne,ob,mA,n,r,q⟩:=(show xa P w H h a (.ins C dx fs) from hok a _ e)
 exact ⟨mA,⟨ob,n,ne⟩,r,q,z,d⟩
end
structure uj (K:b_) (C:Addr):Prop where
 pg:hG K C Str.empty=true
 hd:iq K C=true
 po:lh K C=true
 sa:dJ K (.ref C) "__setattr__" = some (some (.builtin "object.__setattr__"))
theorem uj.get {K:b_} {C:Addr} (c:uj K C) (f:Str):hG K C f=true:=c.pg
noncomputable def yw (K:b_) (C:Addr) (f:Str):Prop:=dJ K (.ref C) f=some none
theorem yw.taker {K:b_} {C:Addr} {f:Str} (n:yw K C f):iI K C f=some none:=by
 unfold iI
 rw [show dJ K (.ref C) f=some none from n]
 rfl
structure qK (K:b_) (C:Addr) (m:Str) (f:Addr):Prop where
 at_:dJ K (.ref C) m=some (some (.ref f))
 fn:lH K (.ref f)=true
 kp:dU K (.ref f)=true
section
variable {X:Cx} {pins:List (Addr × Obj)} {σ:St} {H:Hp} {s:Shared} {a C dx:Addr} {fs:List (Str × V)} {f:Str} {v:V} {A:Around} {E:Value->Shared->Prop}
theorem zKI {b:Bool} {Q:Value->Shared->Prop} (I:zF X pins σ H s) (e:H a=some (.ins C dx fs)) (c:uj X.K C) (n:yw X.K C f) (l:fs.lookup f=some v)
  (h:∀ u s',zF X pins σ H s'->zS v u->Q u s'):wpAny (model X.prog X.w) A (getAttr (.ref a) f b) Q E s:=by
 obtain ⟨mA,O,r,_,_,_⟩:=WL I.hok e
 obtain ⟨u,hu,ru⟩:=wV.some_of (v:=v) (o:=mA f) (by rw [<- l]; exact r f)
 exact zP8 I.kIn O (c.get f) c.hd n hu (zLx ru) (h u _ (I.tok _) ru)
theorem zKH {m:Str} {g:Addr} {pl:Sem Bool} {Q:Value × List Value->Shared->Prop} (I:zF X pins σ H s) (e:H a=some (.ins C dx fs)) (c:uj X.K C) (k:qK X.K C m g) (l:fs.lookup m=none)
  (h:Q (.ref g,[.ref a]) s):wpAny (model X.prog X.w) A (getMethod (.ref a) m pl) Q E s:=by
 obtain ⟨mA,O,r,_,_,_⟩:=WL I.hok e
 have hn:mA m=none:=wV.none_of (by rw [<- l]; exact r m)
 exact zNl I.kIn O (c.get m) k.at_ k.fn hn h
theorem zJw {y:V} {u:Value} {Q:Unit->Shared->Prop} (I:zF X pins σ H s) (e:H a=some (.ins C dx fs)) (c:uj X.K C) (n:yw X.K C f) (hl:fs.length < 1000) (ry:zS y u)
  (h:∀ s',zF X pins σ (zY H a (.ins C dx (yr f y fs))) s'->Q () s'):wpAny (model X.prog X.w) A (setAttr (.ref a) f u) Q E s:=by
 obtain ⟨mA,O,r,wi,_,ho⟩:=WL I.hok e
 have hz:(fs.map (·.1)).length<=sizeLine:=by rw [a_,sizeLine_eq]; omega
 refine zPI I.kIn O c.sa c.po n.taker c.hd wi hz λh' O' sb=>h _ ?_
 have hd:∃ o,h'.get? dx=some o:=let ⟨o,_,_,e',_⟩:=O'.ns; ⟨o,e'⟩
 refine I.write (x:=a) (e:=dx) (by rw [e]; exact True.intro) (.inr ho) (λb q hb z=>(sb.2 b hb).trans z) hd ?_
 refine ⟨by rw [zc O.ne]; exact ho,?_,O.ne,O'.obj,_,O'.ns,λg=>?_,λg hg=>?_⟩
 ·have:=zFb f y fs; omega
 ·show wV ((yr f y fs).lookup g) (if g=f then some u else mA g)
  rw [zFZ]
  by_cases q:g=f
  ·rw [if_pos q,if_pos q]; exact ry
  ·rw [if_neg q,if_neg q]; exact r g
 ·by_cases q:g=f
  ·rw [q]; exact (U3 f y fs).1
  ·refine (U3 f y fs).2 g (wi g λz=>hg ?_)
   show (if g=f then some u else mA g)=none
   rw [if_neg q]; exact z
theorem zF.made (I:zF X pins σ H s):zF X pins σ (zY (zY H s.heap.objs.size (.own (s.heap.objs.size + 1))) (s.heap.objs.size + 1) (.ins C s.heap.objs.size []))
  { s with heap:=(s.heap.push dI).push (eh C s.heap.objs.size) }:=by
 have e1:(s.heap.push dI).get? s.heap.objs.size=some dI:=cy s.heap rfl
 have e2:((s.heap.push dI).push (eh C s.heap.objs.size)).get? (s.heap.objs.size + 1)=some (eh C s.heap.objs.size):=by
  have:=cy (s.heap.push dI) (o:=eh C s.heap.objs.size) rfl
  rwa [dl] at this
 have e3:(s.heap.push dI).Ns s.heap.objs.size (λ_=>none):=⟨dI,#[],_,e1,rfl,(λe he=>absurd he (by simp)),λ_=>rfl⟩
 have I1:=I.laid (a:=s.heap.objs.size) (o:=.own (s.heap.objs.size + 1)) (h':=s.heap.push dI) (t':=s.toks) (λb u q=>ci _ q) (cD _) ⟨_,e1⟩
 refine I1.laid (a:=s.heap.objs.size + 1) (o:=.ins C s.heap.objs.size []) (t':=s.toks) (λb u q=>ci _ q) (Nat.le_of_eq (dl _ _)) ?_
 have ne:s.heap.objs.size≠s.heap.objs.size + 1:=de (iB _)
 refine ⟨by rw [zc ne,wS],eO _,ne,e2,λ_=>none,(Heap.Ns1.of_empty e3).at λo q=>ci _ q,λ_=>True.intro,λy hy=>absurd rfl hy⟩
theorem zQU {prog:Program} {w:World} {env:Env} {e:Expr} {f:Str} {pos:Pos} {s:Shared} {Q:Value->Shared->Prop} (hb:attributeBase e f env (eval e env)=eval e env)
  (h:wpAny (model prog w) A (eval e env) (λo s₁=>wpAny (model prog w) A (getAttr o f true) Q E s₁) E s):wpAny (model prog w) A (eval (.Attribute e f pos) env) Q E s:=
 Attribute_any_ h (by rw [arm_eval_Attribute,hb])
end
noncomputable def U4 (K:b_) (ta:TE) (f:Str):TE:=λσ H Q=>ta σ H λx H1=>∃ a C dx fs v,x=.ref a/\H1 a=some (.ins C dx fs)/\uj K C/\yw K C f/\fs.lookup f=some v/\Q v H1
noncomputable def ZV (K:b_) (ta tv:TE) (f:Str):TS:=λD σ H=>tv σ H λy H1=>ta σ H1 λx H2=>∃ a C dx fs,x=.ref a/\H2 a=some (.ins C dx fs)/\uj K C/\yw K C f/\fs.length < 1000∧
 D.nx σ (zY H2 a (.ins C dx (yr f y fs)))
section
variable {X:Cx} {o e value:Expr} {f:Str} {pos pos' tpos:Pos} {ta tv:TE}
theorem zRH (he:PE X e ta) (hb:attributeBase e f X.env (eval e X.env)=eval e X.env):PE X (.Attribute e f pos) (U4 X.K ta f):=by
 intro pins s σ H Q I h
 refine zQU hb (zp (he pins s σ H _ I h) λu s1 ⟨x,H1,I1,rx,a,C,dx,fs,v,ex,ea,c,n,l,q⟩=>?_)
 subst ex
 obtain rfl:u=Value.ref a:=rx
 exact zKI I1 ea c n l λu' s2 I2 ru=>⟨v,H1,I2,ru,q⟩
theorem vE (ha:PE X o ta) (hv:PE X value tv) (hs:swapsWith value (some (.Attribute o f pos')) pos.line X.env=pure false):PS X (.Assign [.Attribute o f pos'] value pos) (ZV X.K ta tv f):=by
 intro pins s σ H D I h
 refine plainObj_wpAny_Assign_Attribute (zp (hv pins s σ H _ I h) λu s1 ⟨y,H1,I1,ry,q⟩=>zp (ha pins s1 σ H1 _ I1 q) λov s2 ⟨x,H2,I2,rx,a,C,dx,fs,ex,ea,c,n,l,q2⟩=>?_) hs
 subst ex
 obtain rfl:ov=Value.ref a:=rx
 exact zJw I2 ea c n l ry λs3 I3=>⟨σ,_,I3,q2⟩
end
section
variable {X:Cx} {pins:List (Addr × Obj)} {σ:St} {H:Hp} {s:Shared} {A:Around} {E:Value->Shared->Prop} {Q:Value->Shared->Prop} {c:Value} {b:Bool}
inductive yT (K:b_) (H:Hp):V->Value->Prop where
 | non:yT K H .non (.type "NoneType")
 | bl (x:Bool):yT K H (.bl x) (.type "bool")
 | int (i:Int):yT K H (.int i) (.type "int")
 | str (x:Str):yT K H (.str x) (.type "str")
 | flt (x:UInt64):yT K H (.flt x) (.type "float")
 | lst {a:Addr} {xs:List V} (e:H a=some (.lst xs)):yT K H (.ref a) (.type "list")
 | frz {a:Addr} {o:Obj} {xs:List V} (e:H a=some (.frz o (.lst xs))):yT K H (.ref a) (.type "list")
 | tup {a:Addr} {xs:List V} (e:H a=some (.tup xs)):yT K H (.ref a) (.type "tuple")
 | dK {a:Addr} {kvs:List (wd × V)} (e:H a=some (.dK kvs)):yT K H (.ref a) (.type "dict")
 | dT {a:Addr} {kvs:List (List wd × V)} (e:H a=some (.dT kvs)):yT K H (.ref a) (.type "dict")
 | ins {a C dx:Addr} {fs:List (Str × V)} (e:H a=some (.ins C dx fs)) (cl:uj K C) (ha:dJ K (.ref C) "__class__" = some (some (.builtin "object.__class__")))
   (hn:lj K (.builtin "object.__class__") "__get__" = some (some (.builtin "getset_descriptor.__get__"))) (htk:l7 K (.builtin "object.__class__")=some true)
   (hm:mo K C (.type "object")=some true):yT K H (.ref a) (.ref C)
theorem zHr {x:V} {u t:Value} (I:zF X pins σ H s) (rx:zS x u) (ty:yT X.K H x t) (e:cO X.K t c=some b) (h:∀ tk,Q (.bool b) { s with toks:=tk }) :
  wpAny (model X.prog X.w) A (call (.builtin "isinstance") [u,c]) Q E s:=by
 cases ty with
 | non=>cases (show u=Value.none from rx); exact dE lC I.kIn True.intro e (λz=>nomatch z) h
 | bl y=>cases (show u=Value.bool y from rx); exact dE lD I.kIn True.intro e (λz=>nomatch z) h
 | int i=>obtain ⟨t,q⟩:=(show ∃ t,u=Value.int i t from rx); cases q; exact dE lO I.kIn True.intro e (λz=>nomatch z) h
 | str y=>obtain ⟨t,q⟩:=(show ∃ t,u=Value.str y t from rx); cases q; exact dE lQ I.kIn True.intro e (λz=>nomatch z) h
 | flt y=>obtain ⟨t,q⟩:=(show ∃ t,u=Value.float y t from rx); cases q; exact dE PySem.W.kitx_float I.kIn True.intro e (λz=>nomatch z) h
 | @lst a xs ea=>
  cases (show u=Value.ref a from rx)
  obtain ⟨_,_,n,_,h1⟩:=(show xa X.prog X.w H s.heap a (.lst xs) from I.hok a _ ea)
  exact dE fX I.kIn ⟨_,h1,rfl⟩ e (λz=>nomatch z) h
 | @frz a ob xs ea=>
  cases (show u=Value.ref a from rx)
  obtain ⟨_,_,_,n,_,h1⟩:=(show xa X.prog X.w H s.heap a (.frz ob (.lst xs)) from I.hok a _ ea)
  exact dE fX I.kIn ⟨_,h1,rfl⟩ e (λz=>nomatch z) h
 | @tup a xs ea=>
  cases (show u=Value.ref a from rx)
  obtain ⟨_,_,_,p⟩:=(show xa X.prog X.w H s.heap a (.tup xs) from I.hok a _ ea)
  obtain ⟨o,h1,h2,_⟩:=p
  exact dE i5 I.kIn ⟨o,h1,h2⟩ e (λz=>nomatch z) h
 | @dK a kvs ea=>
  cases (show u=Value.ref a from rx)
  obtain ⟨_,_,vs,_,p⟩:=(show xa X.prog X.w H s.heap a (.dK kvs) from I.hok a _ ea)
  obtain ⟨o,es,ep,h1,h2,_⟩:=p
  exact dE lE I.kIn ⟨o,h1,h2.1⟩ e (λz=>nomatch z) h
 | @dT a kvs ea=>
  cases (show u=Value.ref a from rx)
  obtain ⟨_,_,xs,_,o,es,ep,h1,h2,_⟩:=(show xa X.prog X.w H s.heap a (.dT kvs) from I.hok a _ ea)
  exact dE lE I.kIn ⟨o,h1,h2.1⟩ e (λz=>nomatch z) h
 | @ins a C dx fs ea cl ha hn htk hm=>
  cases (show u=Value.ref a from rx)
  obtain ⟨mA,O,_⟩:=WL I.hok ea
  obtain ⟨od,J,_⟩:=O.look
  exact dE (PySem.W.kitx_own (cl.get _) cl.hd ha hn htk hm) I.kIn J e (λz=>nomatch z) h
end
end L2
namespace L2
open PySem PySem.Spec PyProof.Rows
structure zX (k:Nat) (A:Around):Prop where
 hd:A.handled=none
 dp:A.depth + 3 * k + 5 < recursionLimit
 un:A.units + 16 * k + 200 < cLine
theorem zX.mono {j k:Nat} {A:Around} (r:zX k A) (h:j<=k):zX j A:=⟨r.hd,by have:=r.dp; omega,by have:=r.un; omega⟩
theorem zX.deeper {k:Nat} {A:Around} (r:zX (k + 1) A) (env:Env):zX k (A.deeper env):=
 ⟨r.hd,by have:=r.dp; show A.depth + 1 + 3 * k + 5 < _; omega,by have:=r.un; show A.units + 3 + 16 * k + 200 < _; omega⟩
theorem zKF {A:Around} {C:Addr} {us:List Value} {kw:List (Str × Value)}:(A.under (.builtin "type.__call__" ⟨.ref C :: us,kw⟩)).depth=A.depth + 1:=by
 first | rfl | simp [Around.under,Code.weight,Code.isCreation,Code.isGuard,Code.isCaller,Code.frames,Code.isFrame,guardIds]
theorem zKE {A:Around} {C:Addr} {us:List Value} {kw:List (Str × Value)}:(A.under (.builtin "type.__call__" ⟨.ref C :: us,kw⟩)).units=A.units + 1:=by
 first | rfl | simp [Around.under,Code.cUnits,Code.frames,Code.isFrame]
theorem zX.make {k:Nat} {A:Around} (r:zX (k + 1) A) (C:Addr) (us:List Value) (kw:List (Str × Value)):zX k (A.under (.builtin "type.__call__" ⟨.ref C :: us,kw⟩)):=
 ⟨r.hd,by have:=r.dp; rw [zKF]; omega,by have:=r.un; rw [zKE]; omega⟩
theorem zX.depth {k:Nat} {A:Around} (r:zX k A):A.depth < recursionLimit:=by have:=r.dp; omega
theorem zX.units {k:Nat} {A:Around} (r:zX k A):A.units + 64 < cLine:=by have:=r.un; omega
noncomputable def wn:TA:=λ_ H Q=>Q [] H
noncomputable def jD (ta:TE) (tr:TA):TA:=λσ H Q=>ta σ H λx H1=>tr σ H1 λxs H2=>Q (x :: xs) H2
section
variable {X:Cx} {e:Expr} {es:List Expr} {te:TE} {t:TA} {pos:Pos}
theorem yK:PA X [] wn:=λ_ _ _ _ H Q I h=>Calls.spliced_nil ⟨[],H,I,.nil,h⟩
theorem zf (ha:PE X e te) (hr:PA X es t) (hs:starEach (e :: es) X.env=(false,eval e X.env) :: starEach es X.env:=by rfl):PA X (e :: es) (jD te t):=by
 intro pos pins s σ H Q I h
 rw [hs]
 show wpAny _ _ (spliced ((false,eval e X.env) :: backTo pos (starEach es X.env))) _ _ s
 refine Calls.spliced_cons (zp (ha pins s σ H _ I h) λu s1 ⟨x,H1,I1,r1,q1⟩=>?_)
 exact zp (hr pos pins s1 σ H1 _ I1 q1) λus s2 ⟨xs,H2,I2,r2,q2⟩=>⟨x :: xs,H2,I2,.cons r1 r2,q2⟩
noncomputable def U5 (t:TA):TE:=λσ H Q=>t σ H λxs H1=>xs.length<=sizeLine/\∀ p,H1 p=none->Q (.ref p) (zY H1 p (.tup xs))
noncomputable def U6 (t:TA):TE:=λσ H Q=>t σ H λxs H1=>xs.length<=sizeLine/\∀ p,H1 p=none->Q (.ref p) (zY H1 p (.lst xs))
theorem zOY {x1} (h:PA X es t):PE X (.Tuple es x1 pos) (U5 t):=by
 intro pins s σ H Q I hq
 refine wpAny_Tuple_spliced (zp (h pos pins s σ H _ I hq) λus s1 ⟨xs,H1,I1,r,z,q⟩=>⟨by rw [<- r.length]; exact z,?_⟩)
 have hf:H1 s1.heap.objs.size=none:=I1.hok.fresh (cD _)
 refine ⟨.ref s1.heap.objs.size,zY H1 s1.heap.objs.size (.tup xs),I1.laid (t':=s1.toks) (λb u e=>ci _ e) (cD _) ?_,rfl,q _ hf⟩
 exact ⟨z,us,r,⟨_,cy _ rfl,rfl,_,rfl⟩⟩
theorem zOZ (h:PA X es t):PE X (.List es pos) (U6 t):=by
 intro pins s σ H Q I hq
 refine wpAny_List_spliced (zp (h pos pins s σ H _ I hq) λus s1 ⟨xs,H1,I1,r,z,q⟩=>⟨by rw [<- r.length]; exact z,?_⟩)
 have hf:H1 s1.heap.objs.size=none:=I1.hok.fresh (cD _)
 refine ⟨.ref s1.heap.objs.size,zY H1 s1.heap.objs.size (.lst xs),I1.laid (t':=s1.toks) (λb u e=>ci _ e) (cD _) ?_,rfl,q _ hf⟩
 exact ⟨z,us,0,r,cy _ rfl⟩
end
noncomputable abbrev Sp:=List V->Hp->VK->XK->Prop
noncomputable abbrev vX:=List Env->Hp->Shared->XK->Value->Shared->Prop
structure vY (P:Program) (w:World) (K:b_) (mg:Str->Option Value) (base:Heap) (A:Around) (outer:List Env) (s:Shared) (H:Hp):Prop where
 frames:A.frames=some outer
 mod:Mod K mg base
 bs:∀ b o,base.get? b=some o->s.heap.get? b=some o/\H b=none
 bsz:base.objs.size<=s.heap.objs.size
 funs:s.heap.FunFrames base outer
 frf:∀ b∈xJ outer,H b=none
 hok:yy P w H s.heap
 bare:AllBare s.gens
noncomputable def CE (outer:List Env) (P:Program) (w:World) (H:Hp) (s:Shared) (Q:VK) (u:Value) (s':Shared):Prop:=
 ∃ v H',s'.os=s.os/\AllBare s'.gens/\Un (xJ outer) [] H H' s.heap s'.heap/\yy P w H' s'.heap/\zS v u/\Q v H'
noncomputable def CR (CX:vX) (outer:List Env) (P:Program) (w:World) (H:Hp) (s:Shared) (Q:VK) (E:XK) (r:Result) (s':Shared):Prop:=
 match r with
 | .ok (.ret u)=>CE outer P w H s Q u s'
 | .ok _=>False
 | .error e=>CX outer H s E e s'
structure zE (P:Program) (w:World) (K:b_) (mg:Str->Option Value) (base:Heap) (CX:vX) (k:Nat) (f:Addr) (fd:FuncData) (ps:List Str) (sp:Sp):Prop where
 len:∀ vs H Q E,sp vs H Q E->vs.length=ps.length
 run:∀ (A:Around) (outer:List Env) (s:Shared) (H:Hp) (args:Args) (us:List Value) (vs:List V) (Q:VK) (E:XK),zX k A->vY P w K mg base A outer s H->BindsTo s fd args (ps.zip us)->zL vs us->sp vs H Q E->
  codeAny (model P w) A (.call (.ref f) args) (CR CX outer P w H s Q E) s
theorem zE.mono {P:Program} {w:World} {K:b_} {mg:Str->Option Value} {base:Heap} {CX:vX} {j k:Nat} {f:Addr} {fd:FuncData} {ps:List Str} {sp:Sp} (F:zE P w K mg base CX j f fd ps sp) (h:j<=k) :
  zE P w K mg base CX k f fd ps sp:=⟨F.len,λA outer s H args us vs Q E hr=>F.run A outer s H args us vs Q E (hr.mono h)⟩
theorem vY.make {P:Program} {w:World} {K:b_} {mg:Str->Option Value} {base:Heap} {A:Around} {outer:List Env} {s:Shared} {H:Hp} (e:vY P w K mg base A outer s H) (C:Addr) (us:List Value) (kw:List (Str × Value)) :
  vY P w K mg base (A.under (.builtin "type.__call__" ⟨.ref C :: us,kw⟩)) outer s H:=⟨by first | exact e.frames | (simpa [Around.under,Code.envs,Code.isFrame,pushEnvs] using e.frames),e.mod,e.bs,e.bsz,e.funs,e.frf,e.hok,e.bare⟩
section
variable {X:Cx} {pins:List (Addr × Obj)} {σ:St} {H:Hp} {s s':Shared}
theorem zF.env0 (I:zF X pins σ H s):vY X.prog X.w X.K X.mg X.base X.A X.stack s H:=
 ⟨I.ok.frames,I.ok.mod,I.bs,dH I.ok.bsz I.sz,I.stack,I.stkFree,I.hok,I.bare⟩
theorem zF.after {Q:VK} {u:Value} (I:zF X pins σ H s) (h:CE X.stack X.prog X.w H s Q u s'):EP X pins σ Q u s':=by
 obtain ⟨v,H',os,bare,un,hok,r,q⟩:=h
 obtain ⟨hh,g,d,t,os'⟩:=s'
 obtain rfl:os'=s.os:=os
 exact ⟨v,H',I.call (h':=hh) (g':=g) (d':=d) (t':=t) (ch:=[]) un hok bare (λb z=>absurd z (by simp)),r,q⟩
end
noncomputable def jX (sp:Sp) (dvs:List V) (E:XK) (t:TA):TE:=λσ H Q=>t σ H λvs H1=>sp (vs++dvs) H1 Q E
noncomputable def zQm (C:Addr) (m:Str) (sp:Sp) (dvs:List V) (E:XK) (ta:TE) (t:TA):TE:=λσ H Q=>ta σ H λx H1=>∃ a dx fs,x=.ref a/\H1 a=some (.ins C dx fs)/\fs.lookup m=none∧
 t σ H1 λvs H2=>sp (x :: (vs++dvs)) H2 Q E
noncomputable def ZW (C:Addr) (sp:Sp) (dvs:List V) (E:XK) (t:TA):TE:=λσ H Q=>t σ H λvs H1=>∀ x dx,H1 x=none->H1 dx=none->dx≠x->
 sp (.ref x :: (vs++dvs)) (zY (zY H1 dx (.own x)) x (.ins C dx [])) (λv H2=>v=.non/\Q (.ref x) H2) E
noncomputable def wx (K:b_) (fd:FuncData) (ps:List Str) (ds:List Value):Prop:=
 ∀ (s:Shared) (us:List Value),K.In s.heap->(us++ds).length=ps.length->BindsTo s fd ⟨us,[]⟩ (ps.zip (us++ds))
theorem wx.all {K:b_} {fd:FuncData} {ps:List Str} (h:∀ us:List Value,us.length=ps.length->bindArgs fd ⟨us,[]⟩=pure (ps.zip us)):wx K fd ps []:=λs us _ hl=>by
 rw [dF] at hl |-
 exact .of_eq (h us hl)
noncomputable def qL (CX:vX) (X:Cx) (E:XK):Prop:=∀ (pins:List (Addr × Obj)) (σ:St) (H:Hp) (s:Shared) (e:Value) (s':Shared),zF X pins σ H s->CX X.stack H s E e s'->X.xe e s'
section
variable {X:Cx} {CX:vX} {k:Nat} {f C:Addr} {fd:FuncData} {ps:List Str} {sp:Sp} {dvs:List V} {ds:List Value} {E:XK} {x m:Str} {p pos apos:Pos} {e o:Expr} {es:List Expr} {ta:TE} {t:TA}
theorem zON {pins:List (Addr × Obj)} {σ:St} {H:Hp} {s:Shared} {Q:VK} {us:List Value} {vs:List V} (F:zE X.prog X.w X.K X.mg X.base CX k f fd ps sp) (hr:zX k X.A) (hb:wx X.K fd ps ds) (hd:zL dvs ds) (hx:qL CX X E)
  (I:zF X pins σ H s) (r:zL vs us) (h:sp (vs++dvs) H Q E):wpAny (model X.prog X.w) X.A (call (.ref f) us) (EP X pins σ Q) X.xe s:=by
 have r2:zL (vs++dvs) (us++ds):=r.append hd
 have hl:(us++ds).length=ps.length:=by rw [<- r2.length]; exact F.len _ _ _ _ h
 refine wpAny_call (codeAny_mono (F.run X.A X.stack s H ⟨us,[]⟩ (us++ds) (vs++dvs) Q E hr I.env0 (hb s us I.kIn hl) r2 h) λr s' hq=>?_)
 cases r with
 | error e=>exact hx pins σ H s e s' I hq
 | ok fl=>
  cases fl with
  | ret u=>exact I.after hq
  | next=>exact False.elim hq
  | brk=>exact False.elim hq
  | cont=>exact False.elim hq
theorem U7 (F:zE X.prog X.w X.K X.mg X.base CX k f fd ps sp) (hr:zX k X.A) (hg:Gl X x) (hm:X.mg x=some (.ref f)) (hk:dU X.K (.ref f)=true) (hb:wx X.K fd ps ds) (hd:zL dvs ds) (hx:qL CX X E)
  (ha:PA X (e :: es) t) (hdb:(x == ("__debug__" : Str))=false:=by decide) (he:starEach (e :: es) X.env=(false,eval e X.env) :: starEach es X.env:=by rfl) (hpl:(backTo pos (starEach es X.env)).any (·.1)=false:=by rfl) :
  PE X (.Call (.Name x p) (e :: es) [] pos) (jX sp dvs E t):=by
 intro pins s σ H Q I h
 refine wpAny_Call_Name_kw (gW I hg hm ?_ hdb)
 refine ii (h₀:=X.base) I.ok.mod.kin hk (zp (ha pos pins s σ H _ I h) λus s1 ⟨vs,H1,I1,r,q⟩=>⟨I1.kIn,?_⟩) he hpl
 exact zON F hr hb hd hx I1 r q
theorem zNJ {pl:Sem Bool} (he:PE X o ta) (c:uj X.K C) (hm:qK X.K C m f) (F:zE X.prog X.w X.K X.mg X.base CX k f fd ps sp) (hr:zX k X.A) (hb:wx X.K fd ps ds) (hd:zL dvs ds) (hx:qL CX X E)
  (ht:eval (.Call (.Attribute o m apos) [] [] pos) X.env=(do
   let ov <- eval o X.env
   standAt apos.atName
   let (f,first) <- holding [ov] (getMethod ov m pl)
   callWith pos f first (backTo pos (starEach [] X.env)) (backToKw pos (keywordEach [] X.env))):=by rfl) :
  PE X (.Call (.Attribute o m apos) [] [] pos) (zQm C m sp dvs E ta wn):=by
 intro pins s σ H Q I h
 refine PySem.W.methodCall_KW (pl:=pl) (zp (he pins s σ H _ I h) λu s1 ⟨x,H1,I1,rx,a,dx,fs,ex,ea,l,q⟩=>?_) ht
 subst ex
 obtain rfl:u=Value.ref a:=rx
 refine zKH I1 ea c hm l ?_
 exact PySem.W.callWith_K0 (first:=[.ref a]) I1.kIn hm.kp (zON (us:=[.ref a]) (vs:=[.ref a]) F hr hb hd hx I1 (.cons rfl .nil) q)
structure Mk (K:b_) (C f:Addr):Prop where
 makes:l6 K C=true
 init:dJ K (.ref C) "__init__" = some (some (.ref f))
 fn:lH K (.ref f)=true
 kp:dU K (.ref C)=true
theorem zM0 {pins:List (Addr × Obj)} {σ:St} {H:Hp} {s:Shared} {Q:VK} {us:List Value} {vs:List V} (M:Mk X.K C f) (F:zE X.prog X.w X.K X.mg X.base CX k f fd ps sp) (hr:zX (k + 1) X.A) (hb:wx X.K fd ps ds) (hd:zL dvs ds)
  (hx:qL CX X E) (I:zF X pins σ H s) (r:zL vs us)
  (h:∀ x dx,H x=none->H dx=none->dx≠x->sp (.ref x :: (vs++dvs)) (zY (zY H dx (.own x)) x (.ins C dx [])) (λv H2=>v=.non/\Q (.ref x) H2) E) :
  wpAny (model X.prog X.w) X.A (call (.ref C) us) (EP X pins σ Q) X.xe s:=by
 have hq:=h (s.heap.objs.size + 1) s.heap.objs.size (I.hok.fresh (Nat.le_succ _)) (I.hok.fresh (cD _)) (de (iB _))
 have I2:=zF.made (C:=C) I
 have r2:zL (V.ref (s.heap.objs.size + 1) :: (vs++dvs)) (Value.ref (s.heap.objs.size + 1) :: (us++ds)):=.cons rfl (r.append hd)
 have hl:(Value.ref (s.heap.objs.size + 1) :: us++ds).length=ps.length:=by
  have e:=r2.length
  rw [F.len _ _ _ _ hq] at e
  exact e.symm
 refine wpAny_call (zNd (f:=f) I.kIn M.makes M.init (beq_iff_eq.mp M.fn) (codeAny_mono (F.run _ X.stack _ _ ⟨Value.ref (s.heap.objs.size + 1) :: us,[]⟩ (Value.ref (s.heap.objs.size + 1) :: (us++ds)) _ _ E (hr.make C us [])
  (I2.env0.make C us []) (hb _ (Value.ref (s.heap.objs.size + 1) :: us) I2.kIn hl) r2 hq) λr s' hq'=>?_))
 cases r with
 | error e=>exact hx pins σ _ _ e s' I2 hq'
 | ok fl=>
  cases fl with
  | ret u=>
   obtain ⟨v,H',I3,rv,ev,q3⟩:=I2.after hq'
   subst ev
   exact ⟨rv,⟨V.ref (s.heap.objs.size + 1),H',I3,rfl,q3⟩⟩
  | next=>exact False.elim hq'
  | brk=>exact False.elim hq'
  | cont=>exact False.elim hq'
theorem zLG (M:Mk X.K C f) (F:zE X.prog X.w X.K X.mg X.base CX k f fd ps sp) (hr:zX (k + 1) X.A) (hg:Gl X x) (hm:X.mg x=some (.ref C)) (hb:wx X.K fd ps ds) (hd:zL dvs ds) (hx:qL CX X E)
  (ha:PA X (e :: es) t) (hdb:(x == ("__debug__" : Str))=false:=by decide) (he:starEach (e :: es) X.env=(false,eval e X.env) :: starEach es X.env:=by rfl) (hpl:(backTo pos (starEach es X.env)).any (·.1)=false:=by rfl) :
  PE X (.Call (.Name x p) (e :: es) [] pos) (ZW C sp dvs E t):=by
 intro pins s σ H Q I h
 refine wpAny_Call_Name_kw (gW I hg hm ?_ hdb)
 refine ii (h₀:=X.base) I.ok.mod.kin M.kp (zp (ha pos pins s σ H _ I h) λus s1 ⟨vs,H1,I1,r,q⟩=>⟨I1.kIn,?_⟩) he hpl
 exact zM0 M F hr hb hd hx I1 r q
end
structure zb (N P:List Str) (sc:Scope):Prop where
 kind:sc.kind=.function
 co:sc.isCoroutine=false
 gen:sc.isGenerator=false
 nd:N.Nodup
 pre:N.take P.length=P
 par:∀ x∈P,sc.names.lookup x=some .local\/sc.names.lookup x=some .cell
 nofree:∀ y∈sc.names,y.2≠.free
theorem zb.a {N P:List Str} {s:Scope} (a:s.kind=.function:=by rfl) (b:s.isCoroutine=false:=by rfl) (c:s.isGenerator=false:=by rfl) (d:N.Nodup:=by decide +kernel) (e:N.take P.length=P:=by rfl) (f:∀ x∈P,s.names.lookup x=some .local\/s.names.lookup x=some .cell:=by decide +kernel) (g:∀ y∈s.names,y.2≠.free:=by decide +kernel):zb N P s:=⟨a,b,c,d,e,f,g⟩
theorem zH5 {kindOf:Str->Option NameKind} {x:Str}:∀ {binds:List (Str × Value)} {m:Str->Option Value},(∀ v,(x,v)∉binds)->bindL kindOf binds m x=m x
 | [],_,_=>rfl
 | (n,v) :: r,m,h=>by
  unfold bindL
  rw [zH5 λw hw=>h w (cn _ hw)]
  split
  ·have:x≠n:=by rintro rfl; exact h v cq
   simp [this]
  ·rfl
theorem zH7 {kindOf:Str->Option NameKind} {x:Str}:∀ {binds:List (Str × Value)} {m:Str->Option Value},(∀ v,(x,v)∉binds)->bindC kindOf binds m x=m x
 | [],_,_=>rfl
 | (n,v) :: r,m,h=>by
  unfold bindC
  rw [zH7 λw hw=>h w (cn _ hw)]
  split
  ·rfl
  ·have:x≠n:=by rintro rfl; exact h v cq
   simp [this]
theorem zH6 {kindOf:Str->Option NameKind} {x:Str} {v:Value}:∀ {P:List Str} {vs:List Value} {i:Nat} {m:Str->Option Value},P.Nodup->P[i]? = some x->vs[i]? = some v->kindOf x=some .local->
  bindL kindOf (P.zip vs) m x=some v
 | [],_,_,_,_,h,_,_=>by simp at h
 | _ :: _,[],_,_,_,_,h,_=>by simp at h
 | p :: P,w :: vs,0,m,nd,h1,h2,hk=>by
  simp at h1 h2; subst h1; subst h2
  show bindL kindOf ((p,w) :: P.zip vs) m p=_
  unfold bindL
  rw [zH5 λv hv=>(fJ.mp nd).1 (c_ hv).1,if_pos hk]
  simp
 | p :: P,w :: vs,i + 1,m,nd,h1,h2,hk=>by
  show bindL kindOf ((p,w) :: P.zip vs) m x=_
  unfold bindL
  exact zH6 (i:=i) (fJ.mp nd).2 (by simpa using h1) (by simpa using h2) hk
theorem zH8 {kindOf:Str->Option NameKind} {x:Str} {v:Value}:∀ {P:List Str} {vs:List Value} {i:Nat} {m:Str->Option Value},P.Nodup->P[i]? = some x->vs[i]? = some v->kindOf x≠some .local->
  bindC kindOf (P.zip vs) m x=some v
 | [],_,_,_,_,h,_,_=>by simp at h
 | _ :: _,[],_,_,_,_,h,_=>by simp at h
 | p :: P,w :: vs,0,m,nd,h1,h2,hk=>by
  simp at h1 h2; subst h1; subst h2
  show bindC kindOf ((p,w) :: P.zip vs) m p=_
  unfold bindC
  rw [zH7 λv hv=>(fJ.mp nd).1 (c_ hv).1,if_neg hk]
  simp
 | p :: P,w :: vs,i + 1,m,nd,h1,h2,hk=>by
  show bindC kindOf ((p,w) :: P.zip vs) m x=_
  unfold bindC
  exact zH8 (i:=i) (fJ.mp nd).2 (by simpa using h1) (by simpa using h2) hk
noncomputable def we (N:List Str) (vs:List V):St:=vs.map some++cv (N.length - vs.length) none
noncomputable def zW (CX:vX) (P:Program) (w:World) (K:b_) (mg:Str->Option Value) (base:Heap) (N:List Str) (qual:Str) (scope:Scope) (f:Addr) (cd:Value) (A:Around) (outer:List Env) (s:Shared) (H:Hp) (E:XK):Cx where
 prog:=P
 w:=w
 K:=K
 mg:=mg
 base:=base
 A:=A.deeper (envOfC qual scope s.heap.objs.size f cd)
 N:=N
 s₀:=s
 H₀:=H
 env:=envOfC qual scope s.heap.objs.size f cd
 outer:=outer
 stack:=envOfC qual scope s.heap.objs.size f cd :: outer
 ex:=[]
 calm:=true
 fn:=λ_=>true
 pn:=[]
 xe:=λe s'=>wpAny (model P w) (A.deeper (envOfC qual scope s.heap.objs.size f cd)) (leaving (envOfC qual scope s.heap.objs.size f cd) e) (λ_ s''=>CX outer H s E e s'') (λe' s''=>CX outer H s E e' s'') s'
theorem zJd {sc:Scope} {n:Nat} {x:Str} (h:sc.names.lookup x=some .cell):∃ c,(cellsFrom n sc.names []).lookup x=some c:=by
 have q:=dR sc.names n [] (.inl h)
 exact dW.mp q
theorem zLt {CX:vX} {P:Program} {w:World} {K:b_} {mg:Str->Option Value} {base:Heap} {N ps:List Str} {qual:Str} {scope:Scope} {f:Addr} {cd:Value} {A:Around} {outer:List Env} {s s1:Shared} {H:Hp} {E:XK} {us:List Value} {vs:List V}
  (S:zb N ps scope) (hd:A.handled=none) (e0:vY P w K mg base A outer s H) (hl:vs.length=ps.length) (r:zL vs us)
  (x:InCallC s s.heap.objs.size (bindL (envOfC qual scope s.heap.objs.size f cd).kindOf (ps.zip us) λ_=>none) (cellsFrom (s.heap.objs.size + 1) scope.names []) (bindC (envOfC qual scope s.heap.objs.size f cd).kindOf (ps.zip us) λ_=>none) s1) :
  zF (zW CX P w K mg base N qual scope f cd A outer s H E) [] (we N vs) H s1:=by
 have hpl:ps.length<=N.length:=by have:=congrArg dS S.pre; rw [cE] at this; omega
 obtain ⟨h1,tk,rfl,hk⟩:=x.done
 have noA:∀ b:Addr,b∉(zW CX P w K mg base N qual scope f cd A outer s H E).ex:=λb z=>absurd (show b∈([]:List Addr) from z) (by simp)
 refine ⟨⟨e0.mod,S.kind,rfl,rfl,cD _,λy z c h1 h2=>?_,λy hy=>?_,λy c _ h=>?_,λ_=>hd,Around.frames_deeper e0.frames,.inr ⟨rfl,rfl⟩,λb z=>absurd z (noA b),e0.bs,e0.bsz,λb _ _=>noA b,λb z=>absurd z (noA b),e0.funs,e0.frf⟩,
  rfl,e0.bare,Un.kept hk,⟨_,x.toInCall.ns,λi y v h1 h2 h3=>?_⟩,λy c h=>⟨_,x.cell y c h⟩,e0.hok.fresh (cD _),λy c h=>?_,λp hp=>absurd (show p∈([]:List (Addr × Obj)) from hp) (by simp),e0.hok.kept hk,?_⟩
 ·exact name_of_addr x.apart (PySem.mem_of_lookup h1) (PySem.mem_of_lookup h2)
 ·have hy:scope.names.lookup y=some .cell\/scope.names.lookup y=some .free:=hy
  rcases hy with hy | hy
  ·exact zJd hy
  ·exact absurd rfl (S.nofree _ (PySem.mem_of_lookup hy))
 ·exact ie (x.above y c (PySem.mem_of_lookup h))
 ·have hi:i < vs.length:=by
   unfold we at h2
   by_cases hi:i < vs.length
   ·exact hi
   ·rw [dg (by simpa using hi)] at h2
    rw [iw] at h2
    split at h2 <;> cases h2
  have ha:vs[i]? = some v:=by
   unfold we at h2
   rw [dm (by simpa using hi),cS] at h2
   cases e:vs[i]? with
   | none=>rw [e] at h2; cases h2
   | some a=>rw [e] at h2; cases h2; rfl
  obtain ⟨u,hu,rv⟩:=r.get ha
  have hp:ps[i]? = some y:=by
   rw [<- S.pre,List.getElem?_take_of_lt (by omega)]; exact h1
  have ndP:ps.Nodup:=by rw [<- S.pre]; exact S.nd.sublist (List.take_sublist _ _)
  refine ⟨u,rv,?_⟩
  rcases S.par y (cY hp) with k | k
  ·exact .inl ⟨k,zH6 ndP hp hu k⟩
  ·obtain ⟨c,e⟩:=zJd (n:=s.heap.objs.size + 1) k
   refine .inr ⟨.inl k,c,e,?_⟩
   have q:=x.cell y c e
   rw [zH8 ndP hp hu (by show scope.names.lookup y≠_; rw [k]; decide)] at q
   exact q
 ·exact e0.hok.fresh (ie (x.above y c (PySem.mem_of_lookup h)))
 ·unfold we
  show _=N.length
  rw [cj,a_,di]
  omega
theorem U8 {CX:vX} {P:Program} {w:World} {K:b_} {mg:Str->Option Value} {base:Heap} {k:Nat} {f:Addr} {name qual:Str} {params:Arguments} {body:List Stmt} {scope:Scope} {dV kV doc pm cdv ct oc:Value} {an od:Option Addr}
  {osl:Array (Option Value)} {N ps:List Str} {sp:Sp} (lk:K.lookup f=some ⟨oc,od,.func (d7 name qual params body scope dV kV doc pm an cdv ct),osl⟩) (hcd:f7 K cdv qual=true) (S:zb N ps scope)
  (len:∀ vs H Q E,sp vs H Q E->vs.length=ps.length)
  (hbody:∀ (A:Around) (outer:List Env) (s:Shared) (H:Hp) (vs:List V) (Q:VK) (E:XK),zX k (A.deeper (envOfC qual scope s.heap.objs.size f cdv))->sp vs H Q E->
   ∃ t,yS (zW CX P w K mg base N qual scope f cdv A outer s H E) body t/\t { nx:=λ_ H'=>Q .non H',rt:=Q } (we N vs) H) :
  zE P w K mg base CX (k + 1) f (d7 name qual params body scope dV kV doc pm an cdv ct) ps sp:=by
 refine ⟨len,λA outer s H args us vs Q E hr e0 hb r hsp=>?_⟩
 have hl:=len _ _ _ _ hsp
 have KX:K.In s.heap:=e0.mod.kin.keeps λb o e=>(e0.bs b o e).1
 have lim:s.heap.NoLimit:=e0.mod.nolimit.keeps λb o e=>(e0.bs b o e).1
 have hkind:∀ y∈ps.zip us,scope.names.lookup y.1=some .local\/(scope.names.lookup y.1=some .cell/\((cellsFrom (s.heap.objs.size + 1) scope.names []).lookup y.1).isSome=true):=λ⟨n,v⟩ hy=>by
  rcases S.par n (c_ hy).1 with q | q
  ·exact .inl q
  ·exact .inr ⟨q,dR _ _ _ (.inl q)⟩
 refine codeAny_call_function hr.depth (KX _ _ lk) rfl S.co S.gen rfl (PySem.W.codeRec_of KX hcd) (hb _ _ _ _ ?_)
 refine wpAny_newFunctionEnv_cells S.kind hkind λenv he s1 x=>?_
 subst he
 refine ⟨lim.keeps x.toInCall.keep,codeAny_func ?_⟩
 obtain ⟨t,ht,hq⟩:=hbody A outer s H vs Q E (hr.deeper _) hsp
 have I:zF (zW CX P w K mg base N qual scope f cdv A outer s H E) [] (we N vs) H s1:=zLt S hr.hd e0 hl r x
 refine wpAny_mono (ht [] s1 (we N vs) H _ I hq) (λfl s' hs=>?_) λe s' hs=>hs
 have fin:∀ {σ':St} {H':Hp} {v:V} {u:Value},zF (zW CX P w K mg base N qual scope f cdv A outer s H E) [] σ' H' s'->zS v u->Q v H'->CE outer P w H s Q u s':=
  λ{σ' H' v u} J rv q=>⟨v,H',J.os,J.bare,J.base,J.hok,rv,q⟩
 cases fl with
 | ret u=>
  obtain ⟨v,σ',H',J,rv,q⟩:=hs
  exact fin J rv q
 | next=>
  obtain ⟨σ',H',J,q⟩:=hs
  exact fin (v:=V.non) (u:=Value.none) J rfl q
 | brk=>
  obtain ⟨_,_,_,q⟩:=hs
  exact False.elim q
 | cont=>
  obtain ⟨_,_,_,q⟩:=hs
  exact False.elim q
end L2
namespace L2
open PySem PySem.Spec PyProof.Rows
section
variable {X:Cx} {x:Str} {p pos:Pos} {e:Expr} {es:List Expr} {t:TA} {id T:String} {r:List V->Hp->VK->Prop}
noncomputable def gg (r:List V->Hp->VK->Prop) (t:TA):TE:=λσ H Q=>t σ H λvs H1=>r vs H1 Q
theorem xh (hc:vD X (.builtin id) r) (hg:Gl X x) (hm:X.mg x=none) (hv:bootBuiltins x=some (.builtin id)) (ha:PA X (e :: es) t) (hn:x≠"__name__":=by decide) (hdb:(x == ("__debug__" : Str))=false:=by decide)
  (he:starEach (e :: es) X.env=(false,eval e X.env) :: starEach es X.env:=by rfl) (hpl:(backTo pos (starEach es X.env)).any (·.1)=false:=by rfl):PE X (.Call (.Name x p) (e :: es) [] pos) (gg r t):=by
 intro pins s σ H Q I h
 refine wpAny_Call_Name_kw (qG I hg hm hv ?_ hn hdb)
 exact PyProof.Rows.callWith_builtin1 (zp (ha pos pins s σ H _ I h) λus s1 ⟨vs,H1,I1,r1,q1⟩=>hc pins s1 σ H1 vs us Q I1 r1 q1) he hpl
theorem zLJ (hc:vD X (.type T) r) (hg:Gl X x) (hm:X.mg x=none) (hv:bootBuiltins x=some (.type T)) (ha:PA X (e :: es) t) (hn:x≠"__name__":=by decide) (hdb:(x == ("__debug__" : Str))=false:=by decide)
  (he:starEach (e :: es) X.env=(false,eval e X.env) :: starEach es X.env:=by rfl) (hpl:(backTo pos (starEach es X.env)).any (·.1)=false:=by rfl):PE X (.Call (.Name x p) (e :: es) [] pos) (gg r t):=by
 intro pins s σ H Q I h
 refine wpAny_Call_Name_kw (qG I hg hm hv ?_ hn hdb)
 exact PyProof.Rows.callWith_type1 (zp (ha pos pins s σ H _ I h) λus s1 ⟨vs,H1,I1,r1,q1⟩=>hc pins s1 σ H1 vs us Q I1 r1 q1) he hpl
end
end L2
namespace HT
open PySem PyProof.Rows
section
variable {prog:Program} {w:World} {A:Around} {E:Value->Shared->Prop} {s:Shared}
theorem cat_tup {t b:Addr} {vs ws:List Value} {Q:Value->Shared->Prop} (ht:IsTup s.heap t vs.toArray) (hb:IsTup s.heap b ws.toArray) (hv:vs≠[])
  (h1:ws=[]->Q (.ref t) s) (h2:ws≠[]->Q (.ref s.heap.objs.size) { s with heap:=s.heap.push { cls:=.type "tuple",data:=.seq (vs++ws).toArray } })
  (hsz:vs.length + ws.length<=sizeLine):wpAny (model prog w) A (binaryOp .Add (.ref t) (.ref b)) Q E s:=by
 obtain ⟨⟨cls,dd,data,sl⟩,ho,hc,n,hd⟩:=id ht
 obtain ⟨⟨cls2,dd2,data2,sl2⟩,ho2,hc2,n2,hd2⟩:=id hb
 simp only at hc hd hc2 hd2
 subst hc hd hc2 hd2
 have e:vs.toArray++ws.toArray=(vs++ws).toArray:=by simp
 by_cases hw:ws=[]
 ·exact concat_meets ⟨_,ho,rfl⟩ ⟨_,ho2,rfl⟩ noFill_tuple_add seq_tuple_add fU fK (fF _ _)
   (tuple_addW1 t b vs.toArray ws.toArray n n2 dd dd2 sl sl2 (by simpa using hv) (by simp [hw])) ⟨ho,ho2,h1 hw⟩
 ·refine concat_meets ⟨_,ho,rfl⟩ ⟨_,ho2,rfl⟩ noFill_tuple_add seq_tuple_add fU fK (fF _ _)
   (tuple_addW2 t b vs.toArray ws.toArray n n2 dd dd2 sl sl2 (by simpa using hv) (by simpa using hw) (by rw [cz,cz]; exact hsz)) ⟨ho,ho2,?_⟩
  rw [e]
  exact h2 hw
noncomputable def sIx (n d:Nat):Option Int->Nat
 | none=>d
 | some v=>if v < 0 then (v + (n:Int)).toNat else min v.toNat n
theorem sIx_none (n d:Nat):sIx n d none=d:=rfl
theorem sIx_nat (n d k:Nat):sIx n d (some (k:Int))=min k n:=by
 show (if (k:Int) < 0 then ((k:Int) + (n:Int)).toNat else min (k:Int).toNat n)=min k n
 rw [if_neg (by omega),d8]
theorem zQs (n d:Nat) (hd:d<=n) (o:Option Int):sIx n d o<=n:=by
 cases o with
 | none=>exact hd
 | some v=>
  show (if v < 0 then (v + (n:Int)).toNat else min v.toNat n)<=n
  by_cases hv:v < 0
  ·rw [if_pos hv]; omega
  ·rw [if_neg hv]; exact Nat.min_le_right _ _
theorem zMM (v:Int) (n d:Nat):(if v < 0 then max (v + (n:Int)) 0 else min v (n:Int))=((sIx n d (some v):Nat):Int):=by
 show (if v < 0 then max (v + (n:Int)) 0 else min v (n:Int))=(((if v < 0 then (v + (n:Int)).toNat else min v.toNat n):Nat):Int)
 by_cases hv:v < 0
 ·simp only [if_pos hv]; omega
 ·simp only [if_neg hv]; omega
theorem zKQ (lo hi:Option Int) (n:Nat):Builtin.Slice.sliceAdjust lo hi 1 (n:Int)=(((sIx n 0 lo:Nat):Int),((sIx n n hi:Nat):Int)):=by
 have h1:¬ ((1:Int) < 0):=by omega
 unfold Builtin.Slice.sliceAdjust
 simp only [h1,if_false]
 refine Prod.ext ?_ ?_
 ·cases lo with
  | none=>rfl
  | some v=>exact zMM v n 0
 ·cases hi with
  | none=>rfl
  | some v=>exact zMM v n n
theorem zJ3 (i j:Nat):Builtin.Slice.slicePlaces (i:Int) (j:Int) 1=j - i:=by
 unfold Builtin.Slice.slicePlaces
 have h1:(1:Int) > 0:=by omega
 simp only [h1,if_true,Int.ediv_one]
 split <;> omega
theorem zGA {v:Value} {o:Option Int} {Q:Option Int->Shared->Prop} (p:IsPart v o) (h:Q o s):wpAny (model prog w) A (Builtin.Slice.slicePartIndex v) Q E s:=by
 cases p with
 | none=>exact slicePart_none h
 | int i t=>exact slicePart_int h
theorem zDB {sl:Addr} {vl vu:Value} {lo hi:Option Int} {n:Nat} {Q:Int × Int × Nat->Shared->Prop} (hs:s.heap.IsSliceOf sl vl vu .none) (pl:IsPart vl lo) (pu:IsPart vu hi)
  (h:Q (((sIx n 0 lo:Nat):Int),1,sIx n n hi - sIx n 0 lo) s):wpAny (model prog w) A (Builtin.Slice.sliceApplied (.ref sl) (pure (n:Int))) Q E s:=by
 obtain ⟨os,hos,hcs,hds⟩:=id hs
 unfold Builtin.Slice.sliceApplied Builtin.Slice.sliceFields
 refine wpAny_bind (wpAny_bind (wpAny_field hos hds (x:=vl) rfl (wpAny_bind (wpAny_field hos hds (x:=vu) rfl (wpAny_bind (wpAny_field hos hds (x:=.none) rfl (wpAny_pure ?_)))))))
 refine wpAny_bind (slicePart_none ?_)
 show wpAny _ _ (if ((1:Int) == 0)=true then _ else _) _ _ s
 rw [if_neg (by decide)]
 refine wpAny_bind (zGA pl (wpAny_bind (zGA pu (wpAny_bind (wpAny_pure ?_)))))
 show wpAny _ _ (match Builtin.Slice.sliceAdjust lo hi 1 (n:Int) with | (lo,hi)=>pure (lo,(1:Int),Builtin.Slice.slicePlaces lo hi 1)) _ _ s
 rw [zKQ lo hi n]
 show wpAny _ _ (pure (((sIx n 0 lo:Nat):Int),(1:Int),Builtin.Slice.slicePlaces ((sIx n 0 lo:Nat):Int) ((sIx n n hi:Nat):Int) 1)) _ _ s
 rw [zJ3]
 exact wpAny_pure h
theorem zNG (xs:Array Value) (i k:Nat):((cR k).filterMap λ(m:Nat)=>xs[((i:Int) + (m:Int) * 1).toNat]?).toArray=((xs.toList.drop i).take k).toArray:=by
 have e:(λ(m:Nat)=>xs[((i:Int) + (m:Int) * 1).toNat]?)=λm=>xs[i + m]?:=by
  funext m
  have:((i:Int) + (m:Int) * 1).toNat=i + m:=by omega
  rw [this]
 rw [e]
 have:=pick_run xs i k
 rw [List.filterMap_map] at this
 have e2:((λx=>xs[x]?) ∘ λx=>i + x)=λm=>xs[i + m]?:=rfl
 rw [e2] at this
 rw [this]
theorem getItem_tuple_cut {t sl:Addr} {items:Array Value} {vl vu:Value} {lo hi:Option Int} {Q:Value->Shared->Prop} (ht:IsTup s.heap t items) (hs:s.heap.IsSliceOf sl vl vu .none) (pl:IsPart vl lo) (pu:IsPart vu hi)
  (hw:¬ (sIx items.size 0 lo=0/\sIx items.size items.size hi=items.size))
  (h:Q (.ref s.heap.objs.size) { s with heap:=s.heap.push { cls:=.type "tuple",data:=.seq ((items.toList.drop (sIx items.size 0 lo)).take (sIx items.size items.size hi - sIx items.size 0 lo)).toArray } })
  (hsz:items.size<=sizeLine):wpAny (model prog w) A (getItem (.ref t) (.ref sl)) Q E s:=by
 have htake:sizeOk (.seq ((items.toList.drop (sIx items.size 0 lo)).take (sIx items.size items.size hi - sIx items.size 0 lo)).toArray):=by
  show ((items.toList.drop (sIx items.size 0 lo)).take (sIx items.size items.size hi - sIx items.size 0 lo)).toArray.size<=sizeLine
  rw [cz,cE,db,ez]
  omega
 have hj:sIx items.size items.size hi<=items.size:=zQs _ _ (cD _) hi
 obtain ⟨os,hos,hcs,hds⟩:=id hs
 have hTs:s.TypeIs (.ref sl) "slice":=⟨os,hos,hcs⟩
 unfold getItem
 try with_reducible refine wpAny_holding ?_
 first | refine wpAny_bind (wpAny_pure ?_) | skip
 refine wpAny_bind (wpAny_sequenceKey ht.typeIs (by decide) ?_)
 refine wpAny_bind (wpAny_callSpecial?_slot (name:=dM "__getitem__") ht.typeIs PyProof.Rows.slot_tuple_getitem
  (wpAny_call_entry PyProof.Rows.slot_tuple_getitem ht.typeIs entry_tuple_getitem ?_ (args_tuple_getitem _ _)))
 show wpAny _ _ (Builtin.Tuple.tupleItemsOf (.ref t) >>= _) _ _ s
 refine wpAny_bind (tupleItemsOf_ ht ?_)
 refine wpAny_bind (wpAny_typeOf hTs ?_)
 rw [if_pos (by decide)]
 refine wpAny_bind (zDB hs pl pu ?_)
 have hno:¬ ((((sIx items.size 0 lo:Nat):Int) == 0 && (1:Int) == 1 && (sIx items.size items.size hi - sIx items.size 0 lo) == items.size)=true):=by
  intro q
  rw [dk,dk] at q
  have q1:((sIx items.size 0 lo:Nat):Int)=0:=eq_of_beq q.1.1
  have q2:sIx items.size items.size hi - sIx items.size 0 lo=items.size:=eq_of_beq q.2
  exact hw ⟨by omega,by omega⟩
 show wpAny _ _ (if (((sIx items.size 0 lo:Nat):Int) == 0 && (1:Int) == 1 && (sIx items.size items.size hi - sIx items.size 0 lo) == items.size)=true then _ else _) _ _ s
 rw [if_neg hno,zNG]
 first
  | exact wpAny_bind (m:=Builtin.Tuple.tupleExact _) (wpAny_newObj_type (wpAny_pure ⟨_,rfl,wpAny_pure h⟩) htake)
  | exact wpAny_bind (m:=Builtin.Tuple.tupleExact _) (wpAny_newObj_type (wpAny_bind (wpAny_pure (wpAny_pure ⟨_,rfl,wpAny_pure h⟩))) htake)
  | exact wpAny_bind (wpAny_bind (m:=Builtin.Tuple.tupleExact _) (wpAny_newObj_type (wpAny_pure (wpAny_pure ⟨_,rfl,wpAny_pure h⟩)) htake))
  | exact wpAny_bind (wpAny_bind (m:=Builtin.Tuple.tupleExact _) (wpAny_newObj_type (wpAny_pure ⟨_,rfl,wpAny_pure h⟩) htake))
end
end HT
namespace L2
open PySem PySem.Spec PyProof.Rows
noncomputable abbrev TO:=St->Hp->(Option Int->Hp->Prop)->Prop
noncomputable def PO (X:Cx) (e:Option Expr) (t:TO):Prop:=
 ∀ (pins:List (Addr × Obj)) (s:Shared) (σ:St) (H:Hp) (Q:Option Int->Hp->Prop),zF X pins σ H s->t σ H Q->
  wpAny (model X.prog X.w) X.A (evalPart e X.env) (λu s'=>∃ o H',zF X pins σ H' s'/\IsPart u o/\Q o H') X.xe s
noncomputable def zPD:TO:=λ_ H Q=>Q none H
noncomputable def ZX (t:TE):TO:=λσ H Q=>t σ H λx H1=>∃ i,x=.int i/\Q (some i) H1
section
variable {X:Cx} {e:Expr} {te:TE} {lo hi:Option Expr} {tl th:TO} {pos p2:Pos}
theorem zPT:PO X none zPD:=by
 intro pins s σ H Q I h
 rw [evalPart_none]
 exact wpAny_pure ⟨none,H,I,.none,h⟩
theorem zPS (h:PE X e te):PO X (some e) (ZX te):=by
 intro pins s σ H Q I hw
 rw [evalPart_some]
 refine zp (h pins s σ H _ I hw) λu s1 ⟨x,H1,I1,r1,q1⟩=>?_
 obtain ⟨i,rfl,q⟩:=q1
 obtain ⟨t,rfl⟩:=r1
 exact ⟨some i,H1,I1,.int i t,q⟩
noncomputable def qM (X:Cx) (r:V->Option Int->Option Int->Hp->VK->Prop):Prop:=
 ∀ (pins:List (Addr × Obj)) (s:Shared) (σ:St) (H:Hp) (x:V) (v vl vu:Value) (lo hi:Option Int) (sl:Addr) (Q:VK),zF X pins σ H s->zS x v->s.heap.IsSliceOf sl vl vu .none->IsPart vl lo->IsPart vu hi->r x lo hi H Q->
  ∃ T id,typeLookup (.type T) "__getitem__" = pure (some (.builtin id))/\s.TypeIs v T/\wpAny (model X.prog X.w) X.A (getItem v (.ref sl)) (EP X pins σ Q) X.xe s
noncomputable def tSl (r:V->Option Int->Option Int->Hp->VK->Prop) (te:TE) (tl th:TO):TE:=λσ H Q=>te σ H λx H1=>tl σ H1 λl H2=>th σ H2 λu H3=>r x l u H3 Q
theorem zJG {r:V->Option Int->Option Int->Hp->VK->Prop} (hr:qM X r) (he:PE X e te) (hl:PO X lo tl) (hu:PO X hi th):PE X (.Subscript e (.Slice lo hi none p2) pos) (tSl r te tl th):=by
 intro pins s σ H Q I h
 refine Subscript_ (zp (he pins s σ H _ I h) λv s1 ⟨x,H1,I1,r1,q1⟩=>?_)
 refine wpAny_Slice (zp (hl pins s1 σ H1 _ I1 q1) λvl s2 ⟨l,H2,I2,pl,q2⟩=>zp (hu pins s2 σ H2 _ I2 q2) λvu s3 ⟨u,H3,I3,pu,q3⟩=>?_)
 rw [evalPart_none]
 refine wpAny_pure ?_
 have I4:zF X pins σ H3 { s3 with heap:=s3.heap.push { cls:=.type "slice",data:=.fields #[vl,vu,.none] } }:=I3.kept (t':=s3.toks) λb ob q=>ci _ q
 obtain ⟨T,id,hT,ht,hg⟩:=hr pins { s3 with heap:=s3.heap.push { cls:=.type "slice",data:=.fields #[vl,vu,.none] } } σ H3 x v vl vu l u s3.heap.objs.size Q I4 r1 (Heap.IsSliceOf.new ..) pl pu q3
 show wpAny (model X.prog X.w) X.A (subscriptTail e (.Slice lo hi none p2) v (.ref s3.heap.objs.size)) (EP X pins σ Q) X.xe { s3 with heap:=s3.heap.push { cls:=.type "slice",data:=.fields #[vl,vu,.none] } }
 exact tail_any (ops:=[.ref s3.heap.objs.size,v]) ht hT hg (by with_unfolding_all rfl)
noncomputable def vF (xs:List V) (lo hi:Option Int):List V:=(xs.drop (HT.sIx xs.length 0 lo)).take (HT.sIx xs.length xs.length hi - HT.sIx xs.length 0 lo)
theorem zFo (xs:List V) (lo hi:Option Int):(vF xs lo hi).length<=xs.length:=by
 unfold vF
 rw [cE,db]
 omega
noncomputable def U9 (K:b_):V->Option Int->Option Int->Hp->VK->Prop:=λx lo hi H Q=>∃ a xs,x=.ref a/\yQ K H a xs∧
 ¬ (HT.sIx xs.length 0 lo=0/\HT.sIx xs.length xs.length hi=xs.length)/\∀ p,H p=none->Q (.ref p) (zY H p (.tup (vF xs lo hi)))
theorem zQp:qM X (U9 X.K):=by
 intro pins s σ H x v vl vu lo hi sl Q I rx hs pl pu h
 obtain ⟨a,xs,rfl,hx,hw,q⟩:=h
 cases rx
 obtain ⟨its,r,ht,hz⟩:=I.tuple hx
 have hlen:its.toArray.size=xs.length:=by rw [cz]; exact r.length.symm
 refine ⟨"tuple",_,PyProof.Rows.slot_tuple_getitem.lookup,ht.typeIs,?_⟩
 refine HT.getItem_tuple_cut ht hs pl pu (by rw [hlen]; exact hw) ?_ (by rw [hlen]; exact hz)
 rw [hlen]
 refine ⟨.ref s.heap.objs.size,_,I.laid (t':=s.toks) (o:=.tup (vF xs lo hi)) (λb ob q=>ci _ q) (cD _) ?_,rfl,q _ (I.hok.fresh (cD _))⟩
 exact ⟨dH (zFo xs lo hi) hz,_,(r.drop (HT.sIx xs.length 0 lo)).take (HT.sIx xs.length xs.length hi - HT.sIx xs.length 0 lo),IsTup.new _ _⟩
noncomputable def ZY (K:b_):R2:=λx y H Q=>∃ a b xs ys,x=.ref a/\y=.ref b/\yQ K H a xs/\yQ K H b ys/\xs≠[]/\xs.length + ys.length<=sizeLine∧
 (ys=[]->Q (.ref a) H)/\(ys≠[]->∀ p,H p=none->Q (.ref p) (zY H p (.tup (xs++ys))))
theorem zL.nil_iff {xs:List V} {us:List Value} (r:zL xs us):us=[] ↔ xs=[]:=by
 cases r with
 | nil=>simp
 | cons _ _=>simp
theorem zPg:y9 X (binaryOp .Add) (ZY X.K):=by
 intro pins s σ H x y v u Q I rx ry h
 obtain ⟨a,b,xs,ys,rfl,rfl,ha,hb,hx,hz,q1,q2⟩:=h
 cases rx
 cases ry
 obtain ⟨its,r1,p1,_⟩:=I.tuple ha
 obtain ⟨its2,r2,p2,_⟩:=I.tuple hb
 refine HT.cat_tup p1 p2 (λz=>hx (r1.nil_iff.mp z)) (λz=>⟨.ref a,H,I,rfl,q1 (r2.nil_iff.mp z)⟩) (λz=>?_) (by rw [<- r1.length,<- r2.length]; exact hz)
 refine ⟨.ref s.heap.objs.size,_,I.laid (t':=s.toks) (o:=.tup (xs++ys)) (λb ob q=>ci _ q) (cD _) ?_,rfl,q2 (λw=>z (r2.nil_iff.mpr w)) _ (I.hok.fresh (cD _))⟩
 exact ⟨by rw [cj]; exact hz,_,r1.append r2,IsTup.new _ _⟩
end
end L2
namespace L2
open PySem PySem.Spec PyProof.Rows
noncomputable def vp (n:Nat) (i:Int):Option Nat:=if 0<=i then (if i < n then some i.toNat else none) else if -(n:Int)<=i then some (i + n).toNat else none
noncomputable def yx {α:Type} (xs:List α) (i:Int):Option α:=(vp xs.length i).bind λj=>xs[j]?
theorem zP2 {n:Nat} {i:Int} {j:Nat} (h:vp n i=some j):seqIndex? i n=some j/\j < n/\-(n:Int)<=i/\i < n:=by
 unfold vp at h
 by_cases h0:0<=i
 ·rw [if_pos h0] at h
  by_cases h1:i < n
  ·rw [if_pos h1] at h
   have e:i.toNat=j:=Option.some.inj h
   exact ⟨by rw [seqIndex_of h0 h1,e],by omega,by omega,h1⟩
  ·rw [if_neg h1] at h; cases h
 ·rw [if_neg h0] at h
  by_cases h1 : -(n:Int)<=i
  ·rw [if_pos h1] at h
   have e:(i + n).toNat=j:=Option.some.inj h
   exact ⟨by rw [seqIndex_neg (by omega) h1,e],by omega,h1,by omega⟩
  ·rw [if_neg h1] at h; cases h
theorem zMX {α:Type} {xs:List α} {i:Int} {v:α} (h:yx xs i=some v):∃ j,seqIndex? i xs.length=some j/\xs[j]? = some v/\j < xs.length/\-(xs.length:Int)<=i/\i < xs.length:=by
 unfold yx at h
 cases e:vp xs.length i with
 | none=>rw [e] at h; cases h
 | some j=>
  rw [e] at h
  obtain ⟨h1,h2,h3,h4⟩:=zP2 e
  exact ⟨j,h1,h,h2,h3,h4⟩
noncomputable def WM (b:Expr):Prop:=∀ o i,subscripted b false o i=operate [o,i] (getItem o i)
noncomputable def ZZ (X:Cx) (r:R2):Prop:=
 ∀ (value slice:Expr) (pins:List (Addr × Obj)) (s:Shared) (σ:St) (H:Hp) (x y:V) (v u:Value) (Q:VK),zF X pins σ H s->zS x v->zS y u->r x y H Q->
  subscripted slice false v u=operate [v,u] (getItem v u)->wpAny (model X.prog X.w) X.A (subscriptTail value slice v u) (EP X pins σ Q) X.xe s
noncomputable def JA (X:Cx) (id:String) (r:V->List V->Hp->VK->Prop):Prop:=
 ∀ (pins:List (Addr × Obj)) (s:Shared) (σ:St) (H:Hp) (x:V) (xs:List V) (v:Value) (us:List Value) (Q:VK),zF X pins σ H s->zS x v->zL xs us->r x xs H Q->
  wpAny (model X.prog X.w) X.A (call (.builtin id) (v :: us)) (EP X pins σ Q) X.xe s
section
variable {X:Cx} {a b:Expr} {ta tb:TE} {pos:Pos}
theorem WN {r:R2} (hr:ZZ X r) (ha:PE X a ta) (hb:PE X b tb) (hs:WM b):PE X (.Subscript a b pos) (ZM r ta tb):=by
 intro pins s σ H Q I h
 exact Subscript_ (qI ha hb I h λv u s2 x y H2 I2 rx ry q=>hr a b pins s2 σ H2 x y v u Q I2 rx ry q (hs _ _))
noncomputable def JB (K:b_):R2:=λx y H Q=>∃ p xs i v,x=.ref p/\y=.int i/\zZ K H p xs/\yx xs i=some v/\Q v H
noncomputable def JD (K:b_):R2:=λx y H Q=>∃ p xs i v,x=.ref p/\y=.int i/\yQ K H p xs/\yx xs i=some v/\Q v H
theorem zLs:ZZ X (JB X.K):=by
 intro value slice pins s σ H x y v u Q I rx ry h hs
 obtain ⟨p,xs,i,z,rfl,rfl,hq,he,q⟩:=h
 cases rx
 obtain ⟨t,rfl⟩:=ry
 obtain ⟨its,r,pl,hz⟩:=I.list hq
 obtain ⟨j,h1,h2,h3,h4,h5⟩:=zMX he
 obtain ⟨w,ew,rw'⟩:=r.get h2
 have hl:=r.length
 have hn:=U2
 have fin:EP X pins σ Q w s:=⟨z,H,I,rw',q⟩
 by_cases h0:0<=i
 ·have hj:i.toNat=j:=by
   rw [seqIndex_of h0 h5] at h1
   exact Option.some.inj h1
  exact item_listR pl.isList h0 (by omega) (by rw [hj]; simpa using ew) fin hs
 ·have hj:(i + (its.toArray.size:Int)).toNat=j:=by
   rw [seqIndex_neg (by omega) h4] at h1
   rw [cz,<- hl]
   exact Option.some.inj h1
  exact subscriptTail_builtinR (x:=w) pl.isList.typeIs slot_list_getitem.lookup
   (wpAny_getItem_list_neg (Q:=λr s'=>r=w/\EP X pins σ Q r s') pl.isList (by omega) (by rw [cz] <;> omega) (by omega) (by rw [hj]; simpa using ew) ⟨rfl,fin⟩) hs
theorem zOf:ZZ X (JD X.K):=by
 intro value slice pins s σ H x y v u Q I rx ry h hs
 obtain ⟨p,xs,i,z,rfl,rfl,hq,he,q⟩:=h
 cases rx
 obtain ⟨t,rfl⟩:=ry
 obtain ⟨its,r,pl,hz⟩:=I.tuple hq
 obtain ⟨j,h1,h2,h3,h4,h5⟩:=zMX he
 obtain ⟨w,ew,rw'⟩:=r.get h2
 have hl:=r.length
 have hn:=U2
 have fin:EP X pins σ Q w s:=⟨z,H,I,rw',q⟩
 exact subscriptTail_builtinR (x:=w) pl.typeIs slot_tuple_getitem.lookup
  (getItem_tuple (j:=j) (Q:=λr s'=>r=w/\EP X pins σ Q r s') pl (by omega) (by omega) (by rw [cz,<- hl]; exact h1) (by simpa using ew) ⟨rfl,fin⟩) hs
theorem zHY (lo hi:Option Int) (n:Nat):(sliceBounds lo hi none n).1=((HT.sIx n 0 lo:Nat):Int)/\(sliceBounds lo hi none n).2.1=((HT.sIx n n hi:Nat):Int)/\(sliceBounds lo hi none n).2.2=1:=by
 refine ⟨?_,?_,rfl⟩
 ·cases lo with
  | none=>simp [sliceBounds,HT.sIx]
  | some i=>
   simp only [sliceBounds,HT.sIx,lS,show (1:Int) > 0 by decide,if_true]
   by_cases h:i < 0
   ·simp only [h,if_true] <;> omega
   ·simp only [h,if_false] <;> omega
 ·cases hi with
  | none=>simp [sliceBounds,HT.sIx]
  | some i=>
   simp only [sliceBounds,HT.sIx,lS,show (1:Int) > 0 by decide,if_true]
   by_cases h:i < 0
   ·simp only [h,if_true] <;> omega
   ·simp only [h,if_false] <;> omega
theorem zGb (its:List Value) (lo hi:Option Int):slicePick its.toArray lo hi none=((its.drop (HT.sIx its.length 0 lo)).take (HT.sIx its.length its.length hi - HT.sIx its.length 0 lo)).toArray:=by
 obtain ⟨h1,h2,h3⟩:=zHY lo hi its.toArray.size
 unfold slicePick
 rw [h1,h2,h3]
 simp only [sliceRange_one,pick_run,cz] <;> rfl
noncomputable def JE (K:b_):V->Option Int->Option Int->Hp->VK->Prop:=λx lo hi H Q=>∃ a xs,x=.ref a/\zZ K H a xs/\∀ p,H p=none->Q (.ref p) (zY H p (.lst (vF xs lo hi)))
theorem zKq:qM X (JE X.K):=by
 intro pins s σ H x v vl vu lo hi sl Q I rx hs pl pu h
 obtain ⟨a,xs,rfl,hx,q⟩:=h
 cases rx
 obtain ⟨its,r,ht,hz⟩:=I.list hx
 have hlen:=r.length
 refine ⟨"list",_,slot_list_getitem.lookup,ht.isList.typeIs,?_⟩
 refine wpAny_getItem_list_slice ht.isList hs pl pu .none (by simp) ?_ (by rw [cz] <;> omega)
 rw [zGb,<- hlen]
 refine ⟨.ref s.heap.objs.size,_,I.laid (t':=s.toks) (o:=.lst (vF xs lo hi)) (λb ob q=>ci _ q) (cD _) ?_,rfl,q _ (I.hok.fresh (cD _))⟩
 exact ⟨dH (zFo xs lo hi) hz,_,0,(r.drop (HT.sIx xs.length 0 lo)).take (HT.sIx xs.length xs.length hi - HT.sIx xs.length 0 lo),cy _ rfl⟩
theorem xL:vD X (.builtin "len") (λxs H Q=>∃ p ys,xs=[.ref p]/\(zZ X.K H p ys\/yQ X.K H p ys)/\Q (.int ys.length) H):=by
 intro pins s σ H xs us Q I r h
 obtain ⟨p,ys,rfl,hq,q⟩:=h
 obtain ⟨u,rfl,rx⟩:=jW r
 cases rx
 have hn:=U2
 rcases hq with hq | hq
 ·obtain ⟨its,r',pl,hz⟩:=I.list hq
  have hlen:=r'.length
  exact Calls.call_len_list pl.isList (by simp only [cz] <;> omega) ⟨.int ys.length,H,I.tok _,⟨s.toks + 1,by rw [cz,hlen]⟩,q⟩
 ·obtain ⟨its,r',pl,hz⟩:=I.tuple hq
  have hlen:=r'.length
  exact len_tuple pl (by simp only [cz] <;> omega) ⟨.int ys.length,H,I.tok _,⟨s.toks + 1,by rw [cz,hlen]⟩,q⟩
theorem vq:vD X (.type "list") (λxs H Q=>∃ p ys,xs=[.ref p]/\(zZ X.K H p ys\/yQ X.K H p ys)/\∀ l,H l=none->Q (.ref l) (zY H l (.lst ys))):=by
 intro pins s σ H xs us Q I r h
 obtain ⟨p,ys,rfl,hq,q⟩:=h
 obtain ⟨u,rfl,rx⟩:=jW r
 cases rx
 have fin:∀ (its:List Value),zL ys its->ys.length<=sizeLine->∀ (h':Heap) (c':Nat),(∀ b o',s.heap.get? b=some o'->h'.get? b=some o')->
   h'.get? s.heap.objs.size=some { cls:=.type "list",dict:=none,data:=.seq its.toArray c',slots:=#[] }->EP X pins σ Q (.ref s.heap.objs.size) { s with heap:=h' }:=λits r' hz h' c' kp e=>
  ⟨.ref s.heap.objs.size,_,I.laid (t':=s.toks) kp (cD _) (show xa X.prog X.w _ h' _ (.lst ys) from ⟨hz,its,c',r',e⟩),rfl,q _ (I.hok.fresh (cD _))⟩
 rcases hq with hq | hq
 ·obtain ⟨its,r',pl,hz⟩:=I.list hq
  have hlen:=r'.length
  obtain ⟨o,ho,hc,n,hd⟩:=pl.isList
  exact call_list_seq p (.inl rfl) ho hc hd (λh' c' kp e=>fin its r' hz h' c' kp e) (by simp only [cz] <;> omega)
 ·obtain ⟨its,r',pl,hz⟩:=I.tuple hq
  have hlen:=r'.length
  obtain ⟨o,ho,hc,n,hd⟩:=pl
  exact call_list_seq p (.inr rfl) ho hc hd (λh' c' kp e=>fin its r' hz h' c' kp e) (by simp only [cz] <;> omega)
theorem jE:vD X (.type "tuple") (λxs H Q=>∃ p ys,xs=[.ref p]/\((zZ X.K H p ys/\∀ l,H l=none->Q (.ref l) (zY H l (.tup ys)))\/(yQ X.K H p ys/\Q (.ref p) H))):=by
 intro pins s σ H xs us Q I r h
 obtain ⟨p,ys,rfl,h⟩:=h
 obtain ⟨u,rfl,rx⟩:=jW r
 cases rx
 rcases h with ⟨hq,q⟩ | ⟨hq,q⟩
 ·obtain ⟨its,r',pl,hz⟩:=I.list hq
  have hlen:=r'.length
  refine call_tuple_list pl.isList (λh' kp=>?_) (by simp only [cz] <;> omega)
  have I1:zF X pins σ H { s with heap:=h' }:=I.kept (t':=s.toks) kp
  have I2:zF X pins σ (zY H h'.objs.size (.tup ys)) { s with heap:=h'.push { cls:=.type "tuple",data:=.seq its.toArray } }:=
   I1.laid (t':=s.toks) (λb o e=>ci _ e) (cD _) (show xa X.prog X.w _ _ _ (.tup ys) from ⟨hz,its,r',IsTup.new _ _⟩)
  exact ⟨.ref h'.objs.size,_,I2,rfl,q _ (I1.hok.fresh (cD _))⟩
 ·obtain ⟨its,r',pl,hz⟩:=I.tuple hq
  exact call_tuple_same pl ⟨.ref p,H,I,rfl,q⟩
noncomputable def JF (K:b_) (T:String) (x:V) (H:Hp):Prop:=match x with
 | .str _=>T = "str"
 | .int _=>T = "int"
 | .ref p=>(T = "list"/\∃ xs,zZ K H p xs)\/(T = "tuple"/\∃ o,K.lookup p=some o/\o.cls=.type "tuple"/\o.dict=none)∨
   (T = "dict"/\((∃ kvs,H p=some (.dK kvs))\/∃ kvs,H p=some (.dT kvs)))\/(T = "set"/\∃ S n,H p=some (.set S n))
 | _=>False
theorem zOA {pins:List (Addr × Obj)} {σ:St} {H:Hp} {s:Shared} {T:String} {x:V} {v:Value} (I:zF X pins σ H s) (r:zS x v) (ty:JF X.K T x H) :
  s.TypeIs v T/\∀ a,v=.ref a->∃ ob,s.heap.get? a=some ob/\ob.dict=none:=by
 cases x with
 | str z=>
  obtain ⟨t,rfl⟩:=r
  cases (show T = "str" from ty)
  exact ⟨typeIs_str s z t,λ_ e=>nomatch e⟩
 | int i=>
  obtain ⟨t,rfl⟩:=r
  cases (show T = "int" from ty)
  exact ⟨typeIs_int s i t,λ_ e=>nomatch e⟩
 | ref p=>
  cases r
  rcases ty with ⟨rfl,xs,hq⟩ | ⟨rfl,o,hk,hc,hd⟩ | ⟨rfl,hk⟩ | ⟨rfl,S,n,hk⟩
  ·obtain ⟨its,_,pl,_⟩:=I.list hq
   refine ⟨pl.isList.typeIs,λa e=>?_⟩
   cases e
   obtain ⟨o,n,e,c,hd,_⟩:=pl
   exact ⟨o,e,hd⟩
  ·refine ⟨⟨o,I.kIn p o hk,hc⟩,λa e=>?_⟩
   cases e
   exact ⟨o,I.kIn _ o hk,hd⟩
  ·have z:∃ o,s.heap.get? p=some o/\o.ExactDict:=by
    rcases hk with ⟨kvs,hk⟩ | ⟨kvs,hk⟩
    ·obtain ⟨_,_,_,_,o,_,_,e,ex,_⟩:=I.hok p _ hk
     exact ⟨o,e,ex⟩
    ·obtain ⟨_,_,_,_,o,_,_,e,ex,_⟩:=I.hok p _ hk
     exact ⟨o,e,ex⟩
   obtain ⟨o,e,ex⟩:=z
   refine ⟨⟨o,e,ex.1⟩,λa e2=>?_⟩
   cases e2
   exact ⟨o,e,ex.2.1⟩
  ·obtain ⟨o,_,_,_,e,ex,_⟩:=I.hok p _ hk
   refine ⟨⟨o,e,ex.1⟩,λa e2=>?_⟩
   cases e2
   exact ⟨o,e,ex.2.1⟩
 | _=>exact False.elim ty
noncomputable def Za (K:b_) (T:String) (r:V->List V->Hp->VK->Prop) (to:TE):TE:=λσ H Q=>to σ H λx H1=>JF K T x H1/\r x [] H1 Q
noncomputable def tBM (K:b_) (T:String) (r:V->List V->Hp->VK->Prop) (to:TE) (t:TA):TE:=λσ H Q=>to σ H λx H1=>JF K T x H1/\t σ H1 λxs H2=>r x xs H2 Q
variable {o e:Expr} {es:List Expr} {to:TE} {t:TA} {name:Str} {apos cpos:Pos} {T id:String} {r:V->List V->Hp->VK->Prop}
theorem JG (pa:PlainAttrs T) (slot:Slot T name id) (hty:typeOf (.builtin id)=pure (.type "method_descriptor")) (hm:JA X id r) (ho:PE X o to)
  (hbase:attributeBase o name X.env (eval o X.env)=eval o X.env:=by rfl) (hline:(apos.endLine == cpos.line)=true:=by rfl):PE X (.Call (.Attribute o name apos) [] [] cpos) (Za X.K T r to):=by
 intro pins s σ H Q I h
 refine wpAny_Call_method0_late hbase hline (zp (ho pins s σ H _ I h) λv s1 ⟨x,H1,I1,r1,ty,q1⟩=>?_)
 obtain ⟨h1,h2⟩:=zOA I1 r1 ty
 exact ⟨T,id,pa,slot,hty,h1,h2,Calls.callWith_builtin rfl (PySem.evalArgs_none (hm pins s1 σ H1 x [] v [] Q I1 r1 .nil q1))⟩
theorem wW (pa:PlainAttrs T) (slot:Slot T name id) (hty:typeOf (.builtin id)=pure (.type "method_descriptor")) (hm:JA X id r) (ho:PE X o to) (ha:PA X (e :: es) t)
  (hbase:attributeBase o name X.env (eval o X.env)=eval o X.env:=by rfl)
  (hfew:((backTo cpos (starEach (e :: es) X.env)).all (λx=>!x.1) && (backToKw cpos (keywordEach [] X.env)).all (λx=>x.1.isSome)
   && decide ((e :: es).length + ([]:List Keyword).length + (if ([]:List Keyword).isEmpty then 0 else 1) < 30))=true:=by rfl)
  (hline:(apos.endLine == cpos.line)=true:=by rfl) (hs:starEach (e :: es) X.env=(false,eval e X.env) :: starEach es X.env:=by rfl) (hplain:(backTo cpos (starEach es X.env)).any (·.1)=false:=by rfl) :
  PE X (.Call (.Attribute o name apos) (e :: es) [] cpos) (tBM X.K T r to t):=by
 intro pins s σ H Q I h
 refine wpAny_Call_method_late hbase hfew hline rfl (zp (ho pins s σ H _ I h) λv s1 ⟨x,H1,I1,r1,ty,q1⟩=>?_)
 obtain ⟨h1,h2⟩:=zOA I1 r1 ty
 refine ⟨T,id,pa,slot,hty,h1,h2,?_⟩
 have hA:=ha cpos pins s1 σ H1 _ I1 q1
 rw [hs] at hA |-
 refine Calls.callWith_builtin (by show (false || (backTo cpos (starEach es X.env)).any (·.1))=false; rw [hplain] <;> rfl) (Calls.evalArgs_plain ?_)
 exact zp hA λus s2 ⟨vs,H2,I2,r2,q2⟩=>hm pins s2 σ H2 x vs v us Q I2 r1 r2 q2
/- xs.append(e),list.index on a module's tuple .. are JA facts of 06m -/
end
end L2
namespace L2
open PySem PySem.Spec PyProof.Rows
noncomputable def JH (X:Cx) (id:String) (r:V->List V->Hp->VK->Prop):Prop:=
 ∀ (pins:List (Addr × Obj)) (s:Shared) (σ:St) (H:Hp) (x:V) (xs:List V) (v:Value) (us:List Value) (Q:VK),zF X pins σ H s->zS x v->zL xs us->r x xs H Q->
  wpAny (model X.prog X.w) X.A (call (.builtin id) (v :: us)) (EP X pins σ Q) X.xe s
theorem zL.one:∀ {x:V} {us:List Value},zL [x] us->∃ u,us=[u]/\zS x u
 | _,_,.cons r .nil=>⟨_,rfl,r⟩
theorem zL.zero:∀ {us:List Value},zL [] us->us=[]
 | _,.nil=>rfl
theorem zL.rep {xs:List V} {us:List Value} (h:zL xs us):∀ k:Nat,zL (cv k xs).flatten (cv k us).flatten
 | 0=>.nil
 | k + 1=>by
  rw [dr,dr,d9,d9]
  exact zL.append h (zL.rep h k)
theorem zHt (its:List Value):∀ (k:Nat) (acc:List Value),
  mn (λx1 x2=>x1++x2) acc.toArray (cv k its.toArray)=(acc++(cv k its).flatten).toArray
 | 0,acc=>by simp
 | k + 1,acc=>by
  have e:acc.toArray++its.toArray=(acc++its).toArray:=by simp
  have e2:(acc++its)++(cv k its).flatten=acc++(cv (k + 1) its).flatten:=by
   rw [dr,d9,d_]
  rw [<- e2,<- zHt its k (acc++its),<- e,dr,fL]
section
variable {X:Cx} {pins:List (Addr × Obj)} {σ:St} {H:Hp} {s:Shared} {l b:Addr} {xs ys zs:List V}
theorem zF.lset {its its':List Value} {n:Nat} {f:Array Value->Array Value} {t':Nat} (I:zF X pins σ H s) (hH:H l=some (.lst xs))
  (e:s.heap.get? l=some { cls:=.type "list",data:=.seq its.toArray n }) (hf:f its.toArray=its'.toArray) (hv:zL ys its') (hz:ys.length<=sizeLine) :
  zF X pins σ (zY H l (.lst ys)) { s with heap:=s.heap.update l (Obj.mapSeq f),toks:=t' }:=by
 have q:=PySem.IsL.update e f
 rw [hf] at q
 refine I.write (x:=l) (e:=l) (by rw [hH]; exact trivial) (.inl rfl) (λb' u hb hu=>(dn s.heap (Obj.mapSeq f) (Ne.symm hb)).trans hu) ⟨_,q⟩ ?_
 exact ⟨hz,its',_,hv,q⟩
theorem zF.lnew {its:List Value} {t':Nat} (I:zF X pins σ H s) (hv:zL ys its) (hz:ys.length<=sizeLine) :
  zF X pins σ (zY H s.heap.objs.size (.lst ys)) { s with heap:=s.heap.push { cls:=.type "list",data:=.seq its.toArray },toks:=t' }:=
 I.laid (λ_ _ q=>ci _ q) (cD _) ⟨hz,its,0,hv,cy _ rfl⟩
theorem zF.fresh (I:zF X pins σ H s):H s.heap.objs.size=none:=I.hok.fresh (cD _)
theorem zF.lstM (I:zF X pins σ H s) (hH:H l=some (.lst xs)):xs.length<=sizeLine/\∃ (its:List Value) (n:Nat),zL xs its/\xs.length=its.length/\s.heap.get? l=some { cls:=.type "list",data:=.seq its.toArray n }:=by
 obtain ⟨z,its,n,r,e⟩:=I.hok l _ hH
 exact ⟨z,its,n,r,r.length,e⟩
theorem zNb {n:Nat} (h:n<=sizeLine):Builtin.List.listTooLong n=false:=by
 unfold Builtin.List.listTooLong
 exact decide_eq_false (by omega)
end
section
variable {X:Cx}
noncomputable def zPK:V->List V->Hp->VK->Prop:=λx vs H Q=>∃ l xs y,x=.ref l/\vs=[y]/\H l=some (.lst xs)/\xs.length < sizeLine/\Q .non (zY H l (.lst (xs++[y])))
theorem zLl:JH X "list.append" zPK:=by
 intro pins s σ H x vs v us Q I rx rv h
 obtain ⟨l,xs,y,rfl,rfl,hH,hz,q⟩:=h
 cases rx
 obtain ⟨u,rfl,ru⟩:=rv.one
 obtain ⟨z,its,n,r,hl,e⟩:=I.lstM hH
 refine call_meets F.slot_list_append ⟨_,e,rfl⟩ F.entry_list_append (F.args_list_append_2 _ _) (PySem.list_append l its.toArray n u (by rw [cz]; omega)) ⟨e,?_⟩
 refine ⟨.non,_,I.lset (its':=its++[u]) hH e (by simp) (r.append (.cons ru .nil)) ?_,rfl,q⟩
 rw [cj,eX]
 omega
noncomputable def zOQ:V->List V->Hp->VK->Prop:=λx vs H Q=>∃ l xs,x=.ref l/\vs=[]/\H l=some (.lst xs)/\Q .non (zY H l (.lst []))
theorem JI:JH X "list.clear" zOQ:=by
 intro pins s σ H x vs v us Q I rx rv h
 obtain ⟨l,xs,rfl,rfl,hH,q⟩:=h
 cases rx
 have hus:=rv.zero
 subst hus
 obtain ⟨z,its,n,r,hl,e⟩:=I.lstM hH
 refine call_meets F.slot_list_clear ⟨_,e,rfl⟩ F.entry_list_clear (F.args_list_clear_1 _) (AutoSeq1.list_clear_list_0 l its.toArray n (by rw [cz]; omega)) ⟨e,?_⟩
 exact ⟨.non,_,I.lset (its':=[]) (ys:=[]) hH e rfl .nil (eO _),rfl,q⟩
noncomputable def Zb:R2:=λx y H Q=>∃ l k xs,x=.ref l/\y=.int k/\H l=some (.lst xs)/\-(2 ^ 63)<=k/\k < 2 ^ 63/\xs.length * k.toNat<=sizeLine∧
 ∀ p,H p=none->Q (.ref p) (zY H p (.lst (cv k.toNat xs).flatten))
theorem zPy {α:Type} (xs:List α) (k:Nat):(cv k xs).flatten.length=k * xs.length:=by
 induction k with
 | zero=>simp
 | succ k ih=>rw [dr,d9,cj,ih,Nat.succ_mul,Nat.add_comm]
theorem zRU:y9 X (binaryOp .Mult) Zb:=by
 intro pins s σ H x y v u Q I rx ry h
 obtain ⟨l,k,xs,rfl,rfl,hH,h1,h2,hz,q⟩:=h
 cases rx
 obtain ⟨t,rfl⟩:=ry
 obtain ⟨z,its,n,r,hl,e⟩:=I.lstM hH
 have hlen:its.toArray.size * k.toNat<=sizeLine:=by rw [cz,<- hl]; exact hz
 have hcap:¬ its.toArray.size * k.toNat > (2 ^ 63 - 1) / 8:=by
  have:(sizeLine:Nat)<=(2 ^ 63 - 1) / 8:=by decide
  omega
 have hfit:¬ (!Builtin.List.listFitsIndex k)=true:=by
  rw [fitsIndex_both h1 h2]
  exact cV
 have hlong:¬ Builtin.List.listTooLong (its.toArray.size * k.toNat)=true:=by
  rw [zNb hlen]
  exact cV
 have hnew:mn (λx1 x2=>x1++x2) #[] (cv (if its.toArray.isEmpty=true then 0 else k.toNat) its.toArray)=(cv k.toNat its).flatten.toArray:=by
  have f0:∀ m:Nat,mn (λx1 x2=>x1++x2) #[] (cv m its.toArray)=(cv m its).flatten.toArray:=λm=>by
   have:=zHt its m []
   rw [List.nil_append] at this
   exact this
  rw [f0]
  cases its with
  | nil=>simp
  | cons a r'=>rw [if_neg (by simp)]
 refine wpAny_binaryOp_repeat_ref (T:="list") (U:="int") (by decide) ⟨_,e,rfl⟩ (λs'=>typeIs_int s' k t) noFill_list_mul F.fills_int_mul F.slot_int_rmul repeat_list F.slot_int_index.lookup
  (call_meets F.slot_int_rmul (typeIs_int s k t) F.entry_int_rmul (F.args_int_rmul_2 _ _) (int___rmul___int_list k t l its.toArray n)
   ⟨e,rfl,⟨_,e,rfl⟩,call_meets F.slot_list_mul ⟨_,e,rfl⟩ F.entry_list_mul (F.args_list_mul_2 _ _) (AutoListH.list___mul___list_int_3 l its.toArray n k t hfit hcap hlong) ⟨e,?_⟩⟩)
 rw [hnew]
 exact ⟨.ref _,_,I.lnew (t':=s.toks) (r.rep k.toNat) (by rw [zPy,Nat.mul_comm]; exact hz),rfl,q _ I.fresh⟩
end
end L2
namespace Att
open PySem PySem.W PySem.Calls PyProof.Rows
theorem zFf {P:Params} {h:Heap}:∀ (ns:List Int) (vs:List Value),WellAll P h vs (ns.map WData.int)->IntsAre vs ns:=by
 intro ns
 induction ns with
 | nil=>
  intro vs w
  rw [f_] at w
  cases w
  exact .nil
 | cons n ns ih=>
  intro vs w
  rw [cT] at w
  cases w with
  | cons a b=>
   cases a
   exact .cons _ _ (ih _ b)
theorem zKt {l:OpenLaw} {n:Nat} (hn:l.most=some n) {P:Params} {h:Heap} {args:List WData} {vals:List Value}
  (hpre:l.row.toRowW.claim.pre args=true) (hwl:WellAll P h vals args) :
  ∃ a vs ns,vals=[Value.ref a]/\args=[WData.list (ns.map WData.int)]/\h.get? a=some { cls:=.type "list",data:=.seq vs.toArray }/\IntsAre vs ns/\ns.length<=n:=by
 have hsh:WShape.hasAll [] args [.list .int]=true:=(pre_splitW hpre).1
 have hc:l.pre.holds [] { args:=args }=true:=(pre_splitW hpre).2
 obtain ⟨d,r,rfl,h1,h2⟩:=hasAllW_cons hsh
 obtain rfl:=hasAllW_nil h2
 obtain ⟨xs,rfl,h3⟩:=hasW_list h1
 obtain ⟨ns,rfl⟩:=items_int h3
 have hlen:ns.length<=n:=by
  unfold OpenLaw.pre at hc
  have h4:(WTm.not (.lt (.lit (.int (n:Int))) (.len (.arg 0)))).holds [] { args:=[.list (ns.map .int)] }=true:=by
   have h4:=(holds_andW hc).1
   rw [hn] at h4
   exact h4
  have h5:=condW_of h4 (w_not (w_lt w_lit (w_len_list (w_arg rfl))))
  rw [a_] at h5
  refine Nat.le_of_not_lt λq=>?_
  have q':(n:Int) < ((ns.length:Nat):Int):=by omega
  first
   | (rw [decide_eq_true q'] at h5; exact absurd h5 (by decide))
   | (simp at h5; omega)
 cases hwl with
 | cons w1 w2=>
  cases w2
  cases w1 with
  | list ho hall=>exact ⟨_,_,ns,rfl,rfl,ho,zFf ns _ hall,hlen⟩
theorem zLA (l:OpenLaw) (args:List WData):l.row.toRowW.claim.post args (.bool true) args=true:=
 postW_of (r:=l.row.toRowW) (X:=(true == true))
  (show WShape.has [] (.bool true) .bool=true by first | rfl | decide | simp [WShape.has,WShape.arms,WShape.armsAll])
  (show (WTm.eq .res (.lit (.bool true))).value [] { args:=args,res:=some (.bool true),after:=args }=some (.bool (true == true)) from w_eq_bool (w_res rfl) w_lit) rfl
theorem attach_call {l:OpenLaw} {n:Nat} {q:Program} {loose:List Str} {XP:(Str->Option Value)->Heap->Prop} {YP:World->Heap->Prop} {d:DefRec}
  (hn:l.most=some n) (hdf:d.params.defaults=[])
  (call:∀ (w:World) (s₀ s₁:Shared) (mg mb:Str->Option Value) (fa:Addr) (o:Obj) (pm cd doc:Value) (a:Addr) (vs:List Value) (ns:List Int),
   Ground q loose [] XP w s₀ mg mb s₁.heap->YP w s₁.heap->
   s₁.heap.get? fa=some o->o.data=.func (docDef d.name d.params d.body d.scope pm cd doc)->s₁.heap.CodeRec cd d.name->mg d.name=some (.ref fa)->
   s₁.heap.get? a=some { cls:=.type "list",data:=.seq vs.toArray }->IntsAre vs ns->ns.length<=n->s₁.gens=#[]->
   codeAny (model l.prog w) callerA (.call (.ref fa) ⟨[.ref a],[]⟩) (λr s'=>r=.ok (.ret (.bool true))/\OldK s₁.heap s'.heap/\s'.os=s₁.os/\AllBare s'.gens) s₁) :
  WalkO q loose XP YP l.row.toRowW d [] (λf vs=>PySem.call f vs):=by
 intro w s₀ s₁ mg mb G Y fa o pm cd doc dV kV ho hd hcd hD hmg hg args vals as hpre hlay hrd hwl hlo
 obtain rfl:dV=.none:=Dflts.none hD hdf
 obtain rfl:kV=.none:=Dflts.noKw hD
 obtain ⟨a,vs,ns,rfl,rfl,hobj,hints,hlen⟩:=zKt hn hpre hwl
 refine enter_call (codeAny_mono (call w s₀ s₁ mg mb fa o pm cd doc a vs ns G Y ho (fd_plain hd) hcd hmg hobj hints hlen hg) λr s' hq=>?_)
 obtain ⟨rfl,h2,h3,h4⟩:=hq
 exact ⟨.inl ⟨.bool true,.bool true,[],rfl,λ_=>rfl,.bool true,zLA l _,λ_=>⟨List.Pairwise.nil,λ_ hm=>(nomatch hm)⟩⟩,h2,h3,h4⟩
end Att
namespace L2
open PySem PySem.Spec PyProof.Rows
theorem zHV:∀ {vs:List Value} {ns:List Int},IntsAre vs ns->zL (ns.map V.int) vs
 | _,_,.nil=>.nil
 | _,_,.cons n t h=>.cons ⟨t,rfl⟩ (zHV h)
noncomputable def qN (H:Hp):Prop:=∀ b,H b=none\/∃ o xs,H b=some (.frz o (.lst xs))
theorem law_call {P:Program} {w:World} {K:b_} {mg mb:Str->Option Value} {CX:vX} {k:Nat} {fa a:Addr} {fd:FuncData} {x:Str} {sp:Sp} {s₁:Shared} {vs:List Value} {ns:List Int}
  (KX:K.In s₁.heap) (hns:s₁.heap.Ns mainGlobals mg) (hb:s₁.heap.Ns builtinsNs mb) (hbb:∀ x:Str,x≠"__name__"->mb x=bootBuiltins x) (hlim:s₁.heap.NoLimit) (hg:s₁.gens=#[])
  (ha:s₁.heap.get? a=some { cls:=.type "list",data:=.seq vs.toArray }) (hi:IntsAre vs ns) (hl:ns.length<=sizeLine) (hr:zX k callerA)
  (F:∀ base:Heap,K.In base->base.Ns mainGlobals mg->zE P w K mg base CX k fa fd [x] sp) (hbind:∀ (s:Shared) (u:Value),BindsTo s fd ⟨[u],[]⟩ [(x,u)])
  (hsp:∀ H:Hp,qN H->zZ K H a (ns.map V.int)->sp [.ref a] H (λv _=>v=.bl true) λ_ _ _=>False)
  (hCX:∀ H e s',CX [] H s₁ (λ_ _ _=>False) e s'->False) :
  codeAny (model P w) callerA (.call (.ref fa) ⟨[.ref a],[]⟩) (λr s'=>r=.ok (.ret (.bool true))/\OldK s₁.heap s'.heap/\s'.os=s₁.os/\AllBare s'.gens) s₁:=by
 have rv:=zHV hi
 have lenV:=hi.length
 have core:∀ H:Hp,qN H->zZ K H a (ns.map V.int)->yy P w H s₁.heap->(∀ b,H b≠none->b=a)->(H a≠none->K.lookup a=none)->
   codeAny (model P w) callerA (.call (.ref fa) ⟨[.ref a],[]⟩) (λr s'=>r=.ok (.ret (.bool true))/\OldK s₁.heap s'.heap/\s'.os=s₁.os/\AllBare s'.gens) s₁:=by
  intro H hO hS hok hA hK
  have base_of:∀ {b:Addr} {o:Obj},s₁.heap.get? b=some o->H b=none->(wl s₁.heap H).get? b=some o:=λe n=>zNk e n
  have noA:∀ {b:Addr} {o:Obj} {es:Array DictEntry} {ep:Nat},s₁.heap.get? b=some o->o.data=.dict es ep->H b=none:=λ{b o es ep} e d=>by
   cases q:H b with
   | none=>rfl
   | some u=>
    have e':b=a:=hA b (by rw [q]; simp)
    subst e'
    rw [ha] at e; cases e
    have d':Data.seq vs.toArray _=Data.dict es ep:=d
    cases d'
  have nsK:∀ {b:Addr} {m:Str->Option Value},s₁.heap.Ns b m->(wl s₁.heap H).Ns b m:=λ{b m} ⟨o,es,ep,e,d,r⟩=>⟨o,es,ep,base_of e (noA e d),d,r⟩
  have hKb:K.In (wl s₁.heap H):=λb o e=>base_of (KX b o e) (by
   cases q:H b with
   | none=>rfl
   | some u=>
    have e':b=a:=hA b (by rw [q]; simp)
    subst e'
    rw [hK (by rw [q]; simp)] at e; cases e)
  have hM:Mod K mg (wl s₁.heap H):=⟨hKb,nsK hns,⟨mb,nsK hb,hbb⟩,let ⟨mc,h1,h2⟩:=hlim; ⟨mc,nsK h1,h2⟩⟩
  have e0:vY P w K mg (wl s₁.heap H) callerA [] s₁ H:=⟨rfl,hM,λb o e=>zPs e,Nat.le_of_eq (zLw _ _),trivial,λb hb=>absurd (show b∈([]:List Addr) from hb) (by simp),hok,.of_eq hg⟩
  refine codeAny_mono ((F _ hKb (nsK hns)).run callerA [] s₁ H ⟨[.ref a],[]⟩ [.ref a] [.ref a] _ _ hr e0 (hbind s₁ (.ref a)) (.cons rfl .nil) (hsp H hO hS)) λr s' h=>?_
  cases r with
  | error e=>exact (hCX H e s' h).elim
  | ok fl=>
   cases fl with
   | next=>exact False.elim h
   | brk=>exact False.elim h
   | cont=>exact False.elim h
   | ret u=>
    obtain ⟨v,H',os,bare,un,hok',r',q⟩:=h
    have q':v=.bl true:=q
    subst q'
    obtain rfl:u=Value.bool true:=r'
    refine ⟨rfl,OldK.of_keep λb o e=>?_,os,bare⟩
    cases q:H b with
    | none=>exact un.keep b o e q (by intro z; exact absurd (show b∈([]:List Addr) from z) (by simp)) (by simp)
    | some u=>
     rcases hO b with z | ⟨ob,xs,z⟩
     ·rw [q] at z; cases z
     ·have z2:=un.frzs b ob _ z
      obtain ⟨e1,_⟩:=hok b _ z
      obtain ⟨e2,_⟩:=hok' b _ z2
      rw [e] at e1; cases e1
      exact e2
 cases hk:K.lookup a with
 | some o=>
  have e:=KX a o hk
  rw [ha] at e
  cases e
  refine core (λ_=>none) (λ_=>.inl rfl) (.inr ⟨_,vs.toArray,_,hk,rfl,rfl,rfl,by rw [cz,lenV]; exact hl,by simpa using rv⟩) (λb u z=>by have z':(none:Option HO)=some u:=z; cases z') (λb z=>absurd rfl z) λz=>absurd rfl z
 | none=>
  refine core (λb=>if b=a then some (.frz { cls:=.type "list",data:=.seq vs.toArray } (.lst (ns.map V.int))) else none) (λb=>?_) (.inl (.inr ⟨{ cls:=.type "list",data:=.seq vs.toArray },if_pos rfl⟩)) (λb u z=>?_) (λb z=>?_) λ_=>hk
  ·by_cases hb:b=a
   ·exact .inr ⟨_,_,if_pos hb⟩
   ·exact .inl (if_neg hb)
  ·by_cases hb:b=a
   ·have z':=(if_pos hb).symm.trans z
    cases z'
    subst hb
    exact ⟨ha,by rw [a_]; exact hl,vs,_,rv,ha⟩
   ·have z':=(if_neg hb).symm.trans z
    cases z'
  ·by_cases hb:b=a
   ·exact hb
   ·exact absurd (if_neg hb) z
end L2
namespace L2
open PySem PySem.Spec PyProof.Rows
theorem zO7 {l:l8} {n k:Nat} {q:Program} {loose:List Str} {XP:(Str->Option Value)->Heap->Prop} {YP:World->Heap->Prop} {d:DefRec} {K:Params->b_} {CX:World->vX} {sp:World->Sp} {x:Str}
  (hn:l.most=some n) (hn2:n<=sizeLine) (hdf:d.params.defaults=[]) (hr:zX k callerA)
  (hY:∀ (w:World) (h:Heap),YP w h->(K w.params).In h)
  (F:∀ (w:World) (mg:Str->Option Value) (fa:Addr) (h:Heap),(K w.params).In h->h.Ns mainGlobals mg->mg d.name=some (.ref fa)->
   ∃ fd:FuncData,(∀ (s:Shared) (u:Value),BindsTo s fd ⟨[u],[]⟩ [(x,u)])∧
    ∀ base:Heap,(K w.params).In base->base.Ns mainGlobals mg->zE l.prog w (K w.params) mg base (CX w) k fa fd [x] (sp w))
  (hsp:∀ (w:World) (H:Hp) (a:Addr) (ns:List Int),ns.length<=n->qN H->zZ (K w.params) H a (ns.map V.int)->sp w [.ref a] H (λv _=>v=.bl true) λ_ _ _=>False)
  (hCX:∀ (w:World) (H:Hp) (s:Shared) (e:Value) (s':Shared),CX w [] H s (λ_ _ _=>False) e s'->False) :
  mq q loose XP YP l.row.toRowW d [] (λf vs=>PySem.call f vs):=by
 refine Att.attach_call hn hdf λw s₀ s₁ mg mb fa o pm cd doc a vs ns G Y ho hd hcd hmg hobj hints hlen hg=>?_
 have KX:=hY w _ Y
 obtain ⟨fd,hb,hF⟩:=F w mg fa _ KX G.T.g hmg
 exact law_call KX G.T.g G.T.b G.T.builtins G.T.nolimit hg hobj hints (dH hlen hn2) hr hF hb (λH hO hS=>hsp w H a ns hlen hO hS) λH e s'=>hCX w H s₁ e s'
end L2
namespace L2
open PySem PySem.Spec PyProof.Rows
noncomputable def qO (s:Stmt) (j:Nat):Stmt:=match s with
 | .ClassDef _ _ _ body _ _ _ _ _ _ _=>body.getD j (.Pass ⟨0,0,0,0⟩)
 | _=>.Pass ⟨0,0,0,0⟩
noncomputable def wo (s:Stmt):Arguments:=match s with
 | .FunctionDef _ a _ _ _ _ _ _ _ _=>a
 | _=>{ posonlyargs:=[],args:=[],vararg:=none,kwonlyargs:=[],kw_defaults:=[],kwarg:=none,defaults:=[] }
noncomputable def xU (s:Stmt):List Stmt:=match s with
 | .FunctionDef _ _ b _ _ _ _ _ _ _=>b
 | _=>[]
noncomputable def zR (s:Stmt):Scope:=match s with
 | .FunctionDef _ _ _ _ _ _ sc _ _ _=>sc
 | _=>{ kind:=.function,names:=[],isGenerator:=false,isCoroutine:=false }
noncomputable abbrev zU:vX:=λ_ _ _ _ _ _=>False
noncomputable abbrev E0:XK:=λ_ _ _=>False
theorem Zc {X:Cx}:qL zU X E0:=λ_ _ _ _ _ _ _ h=>h.elim
structure zg (K:b_) (x qual:Str) (st:Stmt) (f:Addr) (fd:FuncData):Prop where
 ex:∃ (oc:Value) (od:Option Addr) (kV doc pm:Value) (an:Option Addr) (cdv ct:Value) (osl:Array (Option Value)),
  fd=d7 x qual (wo st) (xU st) (zR st) .none kV doc pm an cdv ct/\K.lookup f=some ⟨oc,od,.func fd,osl⟩/\f7 K cdv qual=true
 kp:dU K (.ref f)=true
section
variable {P:Program} {w:World} {K:b_} {mg:Str->Option Value} {base:Heap}
theorem zg.ok {x qual:Str} {st:Stmt} {f:Addr} {fd:FuncData} {N ps:List Str} {k:Nat} {sp:Sp} (F:zg K x qual st f fd) (S:zb N ps (zR st)) (len:∀ vs H Q E,sp vs H Q E->vs.length=ps.length)
  (hbody:∀ (cdv:Value) (A:Around) (outer:List Env) (s:Shared) (H:Hp) (vs:List V) (Q:VK) (E:XK),zX k (A.deeper (envOfC qual (zR st) s.heap.objs.size f cdv))->sp vs H Q E->
   ∃ t,yS (zW zU P w K mg base N qual (zR st) f cdv A outer s H E).nox (xU st) t/\t { nx:=λ_ H'=>Q .non H',rt:=Q } (we N vs) H):zE P w K mg base zU (k + 1) f fd ps sp:=by
 obtain ⟨oc,od,kV,doc,pm,an,cdv,ct,osl,rfl,lk,hcd⟩:=F.ex
 refine U8 lk hcd S len λA outer s H vs Q E hr hsp=>?_
 obtain ⟨t,h,q⟩:=hbody cdv A outer s H vs Q E hr hsp
 exact ⟨t,h.nox,q⟩
theorem zg.binds {x qual:Str} {st:Stmt} {f:Addr} {fd:FuncData} {ps:List Str} (F:zg K x qual st f fd)
  (h:∀ (kV doc pm:Value) (an:Option Addr) (cdv ct:Value) (us:List Value),us.length=ps.length->bindArgs (d7 x qual (wo st) (xU st) (zR st) .none kV doc pm an cdv ct) ⟨us,[]⟩=pure (ps.zip us)):wx K fd ps []:=by
 obtain ⟨oc,od,kV,doc,pm,an,cdv,ct,osl,rfl,lk,hcd⟩:=F.ex
 exact .all (h kV doc pm an cdv ct)
theorem zOi {x qual:Str} {st:Stmt} {f:Addr} {oc:Value} {od an:Option Addr} {osl:Array (Option Value)} {kV doc pm cdv ct:Value} (l:K.lookup f=some ⟨oc,od,.func (d7 x qual (wo st) (xU st) (zR st) .none kV doc pm an cdv ct),osl⟩)
  (c:f7 K cdv qual=true) (k:dU K (.ref f)=true):zg K x qual st f (d7 x qual (wo st) (xU st) (zR st) .none kV doc pm an cdv ct):=⟨⟨oc,od,kV,doc,pm,an,cdv,ct,osl,rfl,l,c⟩,k⟩
end
theorem JJ {n:Nat} (h:n<=1000):n < sizeLine:=i6 h (by decide)
noncomputable def zM (H H':Hp):Prop:=∀ b o,H b=some o->H' b=some o
theorem zM.refl (H:Hp):zM H H:=λ_ _ h=>h
theorem zM.trans {H H1 H2:Hp} (a:zM H H1) (b:zM H1 H2):zM H H2:=λc o h=>b c o (a c o h)
end L2
set_option maxHeartbeats 4000000
namespace Sh
noncomputable def vv (ns:List Int):Int:=ns.foldl (λc n=>(mB c n:Int)) 0
theorem zIo (ns:List Int) (n:Int):vv (ns++[n])=(mB (vv ns) n:Int):=by
 unfold vv
 rw [ir]
 rfl
theorem zHJ (ns:List Int):0<=vv ns:=by
 rcases List.eq_nil_or_concat ns with rfl | ⟨l,a,rfl⟩
 ·exact eF 0
 ·rw [List.concat_eq_append,zIo]
  exact Int.natCast_nonneg _
noncomputable def cm (t b:Int):Int:=if b < 0 then -(mB t b:Int) else (mB t b:Int)
noncomputable def JK (t b:Int):Int:=t.fdiv (cm t b)
noncomputable def JL (t b:Int):Int:=b.fdiv (cm t b)
end Sh
namespace Sh
noncomputable def zSb (st:Int × Int) (p:Int × Int × Int):Int × Int:=(st.1 * p.2.2 + p.1 * p.2.1 * st.2,st.2 * p.2.2)
noncomputable def jw (ws:List Int) (pts:List (Int × Int)):Int × Int:=(ws.zip pts).foldl zSb (0,1)
end Sh
namespace Sh
noncomputable def Zd (ws:List Int):List Int:=ws.map (·.fdiv (vv ws))
section
variable {β γ:Type}
noncomputable def look (m:List (List Int × β)) (k:List Int):Option β:=(m.find? λkv=>decide (kv.1=k)).map (·.2)
noncomputable def put (m:List (List Int × β)) (k:List Int) (v:β):List (List Int × β):=
 if (m.any λkv=>decide (kv.1=k))=true then m.map (λkv=>if kv.1=k then (kv.1,v) else kv) else m++[(k,v)]
theorem zJM (m:List (List Int × β)) (k:List Int):(m.any λkv=>decide (kv.1=k))=(look m k).isSome:=by
 induction m with
 | nil=>rfl
 | cons p r ih=>
  unfold look at ih |-
  rw [mr,List.find?_cons,ih]
  by_cases e:p.1=k
  ·rw [decide_eq_true e]; rfl
  ·rw [decide_eq_false e]; rfl
theorem WO {m:List (List Int × β)} {k:List Int} (h:look m k=none):∀ p∈m,p.1≠k:=by
 intro p hp e
 have a:(m.any λkv=>decide (kv.1=k))=true:=fo.mpr ⟨p,hp,decide_eq_true e⟩
 rw [zJM,h] at a
 cases a
theorem zLn {m:List (List Int × β)} {k:List Int} {v:β} {p:List Int × β} (h:p∈put m k v):p=(k,v)\/p∈m:=by
 unfold put at h
 split at h
 ·obtain ⟨q,hq,e⟩:=cr.mp h
  by_cases c:q.1=k
  ·rw [if_pos c] at e
   exact .inl (by rw [<- e,c])
  ·rw [if_neg c] at e
   exact .inr (e ▸ hq)
 ·rcases cZ.mp h with h | h
  ·exact .inr h
  ·exact .inl (cQ.mp h)
theorem zNg (m:List (List Int × β)) (k:List Int) (v:β):(put m k v).map (·.1)=if (look m k).isSome=true then m.map (·.1) else m.map (·.1)++[k]:=by
 unfold put
 rw [zJM]
 split
 ·rw [cw]
  refine cN λp _=>?_
  show (if p.1=k then (p.1,v) else p).1=p.1
  split <;> rfl
 ·rw [cx]
  rfl
theorem zLk {m:List (List Int × β)} (k:List Int) (v:β) (h:(m.map (·.1)).Nodup):((put m k v).map (·.1)).Nodup:=by
 rw [zNg]
 split
 ·exact h
 ·rename_i c
  have n:look m k=none:=by
   cases e:look m k with
   | none=>rfl
   | some u=>rw [e] at c; exact absurd rfl c
  refine List.nodup_append.mpr ⟨h,by simp,λa ha b hb e=>?_⟩
  obtain ⟨p,hp,e1⟩:=cr.mp ha
  rw [cQ.mp hb] at e
  exact WO n p hp (e1.trans e)
end
noncomputable abbrev Ze:=List (List Int × (List Int × Int)) × Option (List Int)
noncomputable def zST (st:Ze) (r:List Int × Int):Ze:=
 if vv r.1≠0 then
  match look st.1 (Zd r.1) with
  | none=>(put st.1 (Zd r.1) r,st.2)
  | some o=>if r.2 * vv o.1 < o.2 * vv r.1 then (put st.1 (Zd r.1) r,st.2) else st
 else if r.2 < 0 then (st.1,some r.1) else st
structure gh (st:Ze):Prop where
 g0:∀ p∈st.1,0 < vv p.2.1
 way:∀ p∈st.1,p.1=Zd p.2.1
 nd:(st.1.map (·.1)).Nodup
 z:∀ ws,st.2=some ws->vv ws=0
theorem JM {ws:List Int} (h:vv ws≠0):0 < vv ws:=by
 have:=zHJ ws
 omega
theorem gh.put {st:Ze} (h:gh st) {r:List Int × Int} (g:vv r.1≠0):gh (Sh.put st.1 (Zd r.1) r,st.2):=by
 refine ⟨λp hp=>?_,λp hp=>?_,zLk _ _ h.nd,h.z⟩
 ·rcases zLn hp with e | hp
  ·rw [e]; exact JM g
  ·exact h.g0 p hp
 ·rcases zLn hp with e | hp
  ·rw [e]
  ·exact h.way p hp
theorem gh.step {st:Ze} (h:gh st) (r:List Int × Int):gh (zST st r):=by
 unfold zST
 split
 ·rename_i g
  split
  ·exact h.put g
  ·split
   ·exact h.put g
   ·exact h
 ·rename_i g
  have g0:vv r.1=0:=Decidable.of_not_not g
  split
  ·refine ⟨h.g0,h.way,h.nd,λws e=>?_⟩
   cases e
   exact g0
  ·exact h
section
variable (num:List Int->Int) (den:Int)
noncomputable def hl (r:List Int × Int):Bool:=decide (num r.1<=r.2 * den)
variable (hden:0 < den) (jx:∀ (ws:List Int) (c:Int),num (ws.map (· * c))=num ws * c)
include hden jx
end
end Sh
namespace L2
open PySem
noncomputable def uk (env:Env) (cs:List (Str × Addr)) (p:Str × NameKind):List (Str × Addr):=if (p.2 == .free)=true then (p.1,(env.cells.lookup p.1).getD 0) :: cs else cs
noncomputable def vZ (scope:Scope) (env:Env):List (Str × Addr):=scope.names.foldl (uk env) []
theorem zKN {env:Env}:∀ (names:List (Str × NameKind)) (cs:List (Str × Addr)),(∀ p∈names,p.2=.free->(env.cells.lookup p.1).isSome=true)->
  (forIn names cs (λ(p:Str × NameKind) (r:List (Str × Addr))=>(if (p.2 == .free)=true then do let a <- cellOf env p.1; pure (ForInStep.yield ((p.1,a) :: r)) else pure (ForInStep.yield r):Sem (ForInStep (List (Str × Addr))))))=pure (names.foldl (uk env) cs):=by
 intro names
 induction names with
 | nil=>intro cs _; rfl
 | cons p r ih=>
  intro cs h
  obtain ⟨n,k⟩:=p
  rw [fM]
  by_cases hk:k=.free
  ·subst hk
   obtain ⟨c,hc⟩:=dW.mp (h (n,.free) cq rfl)
   have e:cellOf env n=pure c:=by unfold cellOf; dsimp only at hc; rw [hc]
   have z:uk env cs (n,.free)=(n,c) :: cs:=by unfold uk; dsimp only at hc |-; rw [hc]; rfl
   simp only [e,beq_self_eq_true,if_true,pure_bind,fL,z]
   exact ih _ λq hq=>h q (cn _ hq)
  ·have b:(k == NameKind.free)=false:=by simpa using hk
   have z:uk env cs (n,k)=cs:=by unfold uk; dsimp only; rw [b]; rfl
   simp only [b,dL,if_false,pure_bind,fL,z]
   exact ih _ λq hq=>h q (cn _ hq)
theorem zGR {scope:Scope} {env:Env} (h:∀ p∈scope.names,p.2=.free->(env.cells.lookup p.1).isSome=true):closureFor scope env=pure (vZ scope env):=by
 unfold closureFor vZ
 have:=zKN scope.names [] h
 exact (congrArg (λm=>m >>= λr=>pure r) this).trans rfl
theorem zMK {env:Env}:∀ (names:List (Str × NameKind)) (cs:List (Str × Addr)) (x:Str) (c:Addr),(x,c)∈names.foldl (uk env) cs->(x,c)∈cs\/((x,NameKind.free)∈names/\c=(env.cells.lookup x).getD 0):=by
 intro names
 induction names with
 | nil=>intro cs x c h; exact .inl h
 | cons p r ih=>
  intro cs x c h
  obtain ⟨n,k⟩:=p
  rw [fL] at h
  rcases ih _ x c h with h1 | ⟨h1,h2⟩
  ·unfold uk at h1
   dsimp only at h1
   by_cases hk:k=.free
   ·subst hk
    simp only [beq_self_eq_true,if_true] at h1
    rcases cu.mp h1 with e | h1
    ·injection e with e1 e2
     subst e1; subst e2
     exact .inr ⟨cq,rfl⟩
    ·exact .inl h1
   ·have b:(k == NameKind.free)=false:=by simpa using hk
    simp only [b,dL,if_false] at h1
    exact .inl h1
  ·exact .inr ⟨cn _ h1,h2⟩
theorem gj {α β:Type} [BEq α] [LawfulBEq α]:∀ {l:List (α × β)} {a:α} {b:β},l.lookup a=some b->(a,b)∈l
 | [],_,_,h=>by simp at h
 | (x,y) :: r,a,b,h=>by
  rw [dy] at h
  by_cases e:a=x
  ·subst e
   simp only [beq_self_eq_true,if_true] at h
   cases h
   exact cq
  ·have:(a == x)=false:=by simpa using e
   simp only [this] at h
   exact cn _ (gj h)
theorem zFa {α β:Type} [BEq α] [LawfulBEq α]:∀ {l:List (α × β)} {a:α} {b:β},(a,b)∈l->∃ c,l.lookup a=some c
 | [],_,_,h=>by cases h
 | (x,y) :: r,a,b,h=>by
  rw [dy]
  by_cases e:a=x
  ·subst e
   exact ⟨y,by simp⟩
  ·have z:(a == x)=false:=by simpa using e
   rcases cu.mp h with q | q
   ·injection q with q1 _; exact absurd q1 e
   ·obtain ⟨c,hc⟩:=zFa q
    exact ⟨c,by simp only [z]; exact hc⟩
theorem zML {env:Env}:∀ (names:List (Str × NameKind)) (cs:List (Str × Addr)) (x:Str),((x,NameKind.free)∈names\/∃ c,(x,c)∈cs)->∃ c,(x,c)∈names.foldl (uk env) cs:=by
 intro names
 induction names with
 | nil=>
  intro cs x h
  rcases h with h | h
  ·cases h
  ·exact h
 | cons p r ih=>
  intro cs x h
  rw [fL]
  refine ih _ x ?_
  rcases h with h | ⟨c,h⟩
  ·rcases cu.mp h with e | h
   ·subst e
    exact .inr ⟨_,by unfold uk; simp only [beq_self_eq_true,if_true]; exact cq⟩
   ·exact .inl h
  ·refine .inr ⟨c,?_⟩
   unfold uk
   split
   ·exact cn _ h
   ·exact h
theorem qP {scope:Scope} {env:Env} (h:∀ p∈scope.names,p.2=.free->(env.cells.lookup p.1).isSome=true) {x:Str} {c:Addr} (e:(vZ scope env).lookup x=some c) :
  env.cells.lookup x=some c/\(x,NameKind.free)∈scope.names:=by
 rcases zMK scope.names [] x c (gj e) with z | ⟨z,q⟩
 ·cases z
 ·obtain ⟨d,hd⟩:=dW.mp (h _ z rfl)
  dsimp only at hd
  rw [hd] at q
  exact ⟨by rw [hd,q]; rfl,z⟩
theorem JN {scope:Scope} {env:Env} {x:Str} (h:(x,NameKind.free)∈scope.names):∃ c,(vZ scope env).lookup x=some c:=by
 obtain ⟨c,hc⟩:=zML (env:=env) scope.names [] x (.inl h)
 exact zFa hc
theorem zEl {scope:Scope} {env:Env} {x:Str} {k:NameKind} (h:(relabel scope env).names.lookup x=some k):(k=.cell/\((x,NameKind.free)∈scope.names\/(x,NameKind.cell)∈scope.names))\/(x,k)∈scope.names:=by
 have m:=gj h
 unfold relabel at m
 obtain ⟨⟨n,j⟩,hm,e⟩:=cr.mp m
 dsimp only at e
 split at e
 ·rename_i q
  injection e with e1 e2
  subst e1; subst e2
  have q1:j=NameKind.free:=by
   have:=(fi.mp (fi.mp q).1).1
   exact eq_of_beq this
  subst q1
  exact .inl ⟨rfl,.inl hm⟩
 ·injection e with e1 e2
  subst e1; subst e2
  exact .inr hm
end L2
namespace L2
open PySem PySem.Spec PyProof.Rows
noncomputable def Bd (n:Nat) (i:Int):Prop:=i.natAbs < 2 ^ n
theorem Bd.mono {n m:Nat} {i:Int} (h:Bd n i) (k:n<=m:=by decide):Bd m i:=cP h (Nat.pow_le_pow_right (by decide) k)
theorem Bd.of_le {n:Nat} {i j:Int} (h:Bd n j) (k:i.natAbs<=j.natAbs):Bd n i:=i6 k h
theorem Bd.mul {n m:Nat} {i j:Int} (h:Bd n i) (k:Bd m j):Bd (n + m) (i * j):=by
 unfold Bd
 rw [Int.natAbs_mul,Nat.pow_add]
 rcases Nat.eq_zero_or_pos j.natAbs with z | z
 ·rw [z,Nat.mul_zero]
  exact Nat.mul_pos (h_ _) (h_ _)
 ·exact cP (Nat.mul_lt_mul_of_pos_right h z) (Nat.mul_le_mul_left _ (ie k))
theorem Bd.add {n:Nat} {i j:Int} (h:Bd n i) (k:Bd n j):Bd (n + 1) (i + j):=by
 have h':i.natAbs < 2 ^ n:=h
 have k':j.natAbs < 2 ^ n:=k
 unfold Bd
 rw [Nat.pow_succ]
 have:=Int.natAbs_add_le i j
 omega
theorem Bd.neg {n:Nat} {i:Int} (h:Bd n i):Bd n (-i):=by
 unfold Bd
 rw [Int.natAbs_neg]
 exact h
theorem Bd.sub {n:Nat} {i j:Int} (h:Bd n i) (k:Bd n j):Bd (n + 1) (i - j):=by
 rw [Int.sub_eq_add_neg]
 exact h.add k.neg
theorem Bd.lit {n:Nat} {i:Int} (h:i.natAbs < 2 ^ n:=by decide):Bd n i:=h
theorem Bd.bits {n:Nat} {i:Int} (h:Bd n i):Builtin.Int.intBits i<=n:=by
 have h':i.natAbs < 2 ^ n:=h
 unfold Builtin.Int.intBits
 split
 ·exact eO _
 ·rename_i z
  have nz:i.natAbs≠0:=by
   intro q
   apply z
   rw [i7.mp q]
   rfl
  exact (Nat.log2_lt nz).mpr h'
theorem Bd.fdiv {n:Nat} {i:Int} (h:Bd n i) (j:Int):Bd n (i.fdiv j):=
 h.of_le (Int.natAbs_fdiv_le_natAbs i j)
noncomputable def WP (i j:Int):Prop:=Bd 60000 i/\Bd 60000 j
noncomputable def zSg (_ j:Int):Prop:=j≠0/\Bd 8000 j
section
variable {X:Cx}
theorem WP.ok {i j:Int} (h:WP i j):IntMulOk i j:=by
 have h1:=h.1.bits
 have h2:=h.2.bits
 have hc:Builtin.Int.intTooBig (Builtin.Int.intBits i + Builtin.Int.intBits j)=false:=by
  unfold Builtin.Int.intTooBig
  rw [bitsLine_eq]
  exact decide_eq_false (by omega)
 unfold IntMulOk
 rw [hc]
 simp
theorem zPd:y9 X (binaryOp .Mult) (rI WP λi j=>.int (i * j)):=WH λ_ _ _ _ _ _ _ hc q=>mul_int q hc.ok
theorem zNP:y9 X (binaryOp .FloorDiv) (rI zSg λi j=>.int (i.fdiv j)):=WH λ_ _ _ _ _ _ _ hc q=>by
 refine floordiv_int hc.1 q (.inl (PyProof.noPylong_of_log2 ?_))
 have h':_ < 2 ^ 8000:=hc.2
 have nz:_≠0:=λz=>hc.1 (i7.mp z)
 exact Nat.lt_trans ((Nat.log2_lt nz).mpr h') (by decide)
end
section
variable {X:Cx}
noncomputable def zQw (K:b_):List V->Hp->VK->Prop:=λxs H Q=>∃ x c t b,xs=[x,.ty c]/\yT K H x t/\cO K t (.type c)=some b/\Q (.bl b) H
theorem vG:vD X (.builtin "isinstance") (zQw X.K):=by
 intro pins s σ H xs us Q I r h
 obtain ⟨x,c,t,b,rfl,ty,e,q⟩:=h
 obtain ⟨u,v,rfl,ru,rv⟩:=gf r
 cases (show v=Value.type c from rv)
 exact zHr I ru ty e λtk=>⟨.bl b,H,I.tok tk,rfl,q⟩
end
mutual
inductive Dp (K:b_) (H:Hp):V->PyData->Prop where
 | non:Dp K H .non .none
 | bl (b:Bool):Dp K H (.bl b) (.bool b)
 | int (i:Int):Dp K H (.int i) (.int i)
 | str (x:Str):Dp K H (.str x) (.str x)
 | lst {a:Addr} {xs:List V} {ds:List PyData} (e:zZ K H a xs) (h:ul K H xs ds):Dp K H (.ref a) (.list ds)
 | tup {a:Addr} {xs:List V} {ds:List PyData} (e:yQ K H a xs) (h:ul K H xs ds):Dp K H (.ref a) (.tuple ds)
inductive ul (K:b_) (H:Hp):List V->List PyData->Prop where
 | nil:ul K H [] []
 | cons {x:V} {xs:List V} {d:PyData} {ds:List PyData} (h:Dp K H x d) (t:ul K H xs ds):ul K H (x :: xs) (d :: ds)
end
section
variable {X:Cx} {pins:List (Addr × Obj)} {σ:St} {H:Hp} {s:Shared}
mutual
theorem Dp.reads (I:zF X pins σ H s):∀ {x:V} {d:PyData} {u:Value},Dp X.K H x d->zS x u->∃ as,Reads s.heap u d as
 | _,_,_,.non,r=>by cases r; exact ⟨_,.none⟩
 | _,_,_,.bl b,r=>by cases r; exact ⟨_,.bool b⟩
 | _,_,_,.int i,r=>by obtain ⟨t,rfl⟩:=r; exact ⟨_,.int i t⟩
 | _,_,_,.str x,r=>by obtain ⟨t,rfl⟩:=r; exact ⟨_,.str x t⟩
 | _,_,_,.lst e h,r=>by
  cases r
  obtain ⟨its,rv,⟨o,n,e1,e2,_,e3⟩,_⟩:=I.list e
  obtain ⟨as,q⟩:=ul.reads I h rv
  exact ⟨_,.list e1 e2 e3 (by simpa using q)⟩
 | _,_,_,.tup e h,r=>by
  cases r
  obtain ⟨its,rv,⟨o,e1,e2,n,e3⟩,_⟩:=I.tuple e
  obtain ⟨as,q⟩:=ul.reads I h rv
  exact ⟨_,.tuple e1 e2 e3 (by simpa using q)⟩
theorem ul.reads (I:zF X pins σ H s):∀ {xs:List V} {ds:List PyData} {us:List Value},ul X.K H xs ds->zL xs us->∃ as,ReadsAll s.heap us ds as
 | _,_,_,.nil,r=>by cases r; exact ⟨_,.nil⟩
 | _,_,_,.cons h t,r=>by
  cases r with
  | cons r1 r2=>
   obtain ⟨_,q1⟩:=Dp.reads I h r1
   obtain ⟨_,q2⟩:=ul.reads I t r2
   exact ⟨_,.cons q1 q2⟩
end
end
section
variable {X:Cx}
theorem va (hc:X.calm=true):vD X (.builtin "all") (λxs H Q=>∃ (p:Addr) (bs:List Bool),xs=[.ref p]/\zZ X.K H p (bs.map V.bl)/\Q (.bl (bs.all id)) H):=by
 intro pins s σ H xs us Q I r h
 obtain ⟨p,bs,rfl,hq,q⟩:=h
 obtain ⟨u,rfl,ru⟩:=jW r
 cases ru
 obtain ⟨its,rv,pl,hz⟩:=I.list hq
 have hh:X.A.in1.handled=none:=I.ok.hd hc
 have hlt:p < s.heap.objs.size:=by obtain ⟨o,n,e,_⟩:=pl; exact cA e
 refine call_all_walk (wpAny_pyIter_list pl.isList ?_)
 have hlen:its.length=bs.length:=by rw [<- rv.length,a_]
 refine ⟨s.heap.objs.size,_,_,_,_,_,λi=>bs.getD i true,rfl,Walks.list hh s.heap.objs.size p (de hlt) its.toArray,⟨⟨_,cy _ rfl,rfl,rfl⟩,pl.isList.push _⟩,?_,λh' tk kk=>?_⟩
 ·intro i v s' Q' E' hP hQ'
  have e1:its[i]? = some v:=by simpa using hP
  have hi:i < its.length:=(cH.mp e1).1
  have hb:(bs.map V.bl)[i]? = some (.bl (bs.getD i true)):=by
   rw [cS,ck (by omega),cg,ck (by omega)]
   rfl
  obtain ⟨u',e2,r2⟩:=rv.get hb
  rw [e1] at e2
  cases e2
  cases r2
  exact wpAny_truthy_bool hQ'
 ·have e:(cR its.toArray.size).all (λi=>bs.getD i true)=bs.all id:=by
   rw [cz,hlen]
   rw [eI,cK,cK]
   constructor
   ·intro z b hb
    obtain ⟨i,hi,rfl⟩:=hZ.mp hb
    have:=z i (du.mpr hi)
    rw [cg,ck hi] at this
    exact this
   ·intro z i hi
    have hi':=du.mp hi
    rw [cg,ck hi']
    exact z _ (dN hi')
  refine ⟨.bl (bs.all id),H,I.kept (h':=h') (t':=tk) λb o eb=>kk b o ?_ (ci _ eb),?_,q⟩
  ·intro hb
   have:b=s.heap.objs.size:=by simpa using hb
   rw [this] at eb
   exact absurd (cA eb) (df _)
  ·rw [e]
   rfl
end
end L2
namespace L2
open PySem PySem.Spec PyProof.Rows
noncomputable def uK (own:List Str) (caps:List (Nat × Str)) (σ:St):St:=own.map (λ_=>none)++caps.map λp=>(σ[p.1]?).getD none
noncomputable abbrev zk (own:List Str) (caps:List (Nat × Str)):List Str:=own++caps.map (·.2)
theorem zEk {scope:Scope} {env:Env} {x:Str}:(relabel scope env).names.lookup x=(scope.names.lookup x).map λk=>if (k == .free && env.scope.kind == .function && env.kindOf x == some .cell)=true then .cell else k:=by
 unfold relabel
 generalize scope.names=l
 induction l with
 | nil=>rfl
 | cons p r ih=>
  obtain ⟨n,k⟩:=p
  rw [cT]
  by_cases e:x=n
  ·subst e
   by_cases c:(k == NameKind.free && env.scope.kind == .function && env.kindOf x == some .cell)=true
   ·simp only [c,if_true,dy,beq_self_eq_true,fN]
   ·simp only [c,if_false,dy,beq_self_eq_true,fN,dL]
  ·have z:(x == n)=false:=by simpa using e
   dsimp only
   split <;> simp only [dy,z] <;> exact ih
section
variable {X:Cx} {scope:Scope} {own:List Str} {caps:List (Nat × Str)} {pins:List (Addr × Obj)} {σ:St} {H:Hp} {s s4:Shared} {C D:Addr} {fp:List Addr}
theorem zNw {i:Nat} {x:Str} {v:V} (h1:(zk own caps)[i]? = some x) (h2:(uK own caps σ)[i]? = some (some v)):∃ j,(j,x)∈caps/\σ[j]? = some (some v):=by
 unfold uK at h2
 by_cases hi:i < own.length
 ·rw [dm (by simpa using hi),cS] at h2
  cases e:own[i]? with
  | none=>rw [e] at h2; cases h2
  | some a=>rw [e] at h2; cases h2
 ·rw [dg (by simpa using hi),a_,cS] at h2
  unfold zk at h1
  rw [dg (by omega),cS] at h1
  cases e:caps[i - own.length]? with
  | none=>rw [e] at h1; cases h1
  | some p=>
   obtain ⟨j,n⟩:=p
   rw [e] at h1 h2
   cases h1
   refine ⟨j,cY e,?_⟩
   simp only [fN,Option.some.injEq] at h2
   cases q:σ[j]? with
   | none=>rw [q] at h2; cases h2
   | some o=>rw [q] at h2; exact congrArg some h2
noncomputable abbrev xo (its:List Value) (k:Nat):Obj:={ cls:=.type "list",data:=.seq its.toArray k }
theorem zNx {Y:Cx} {its:List Value} {k:Nat} {y:Value} {pl:List (Addr × Obj)} {Q:Value->Shared->Prop} {E:Value->Shared->Prop} (I:zF Y ((D,xo its k) :: pl) σ H s) (hn:yz Y [] H D) (hp:Y.pn=[]) (hz:its.length<=sizeLine)
  (q:∀ h' k' tk,(∀ b o,b≠D->s.heap.get? b=some o->h'.get? b=some o)->zF Y [(D,xo (its++[y]) k')] σ H { s with heap:=h',toks:=tk }->Q .none { s with heap:=h',toks:=tk }) :
  wpAny (model Y.prog Y.w) Y.A (call (.builtin "list.append") [.ref D,y]) Q E s:=by
 have pD:=I.pin (D,xo its k) (cU _ cq)
 have e:s.heap.get? D=some (xo its k):=pD.1
 refine call_meets F.slot_list_append ⟨_,e,rfl⟩ F.entry_list_append (F.args_list_append_2 _ _) (PySem.list_append D its.toArray k y (by rw [cz]; exact hz)) ⟨e,?_⟩
 have e2:=PySem.IsL.update e (·.push y)
 have ea:its.toArray.push y=(its++[y]).toArray:=by simp
 have keep:∀ b o,b≠D->s.heap.get? b=some o->(s.heap.update D (Obj.mapSeq (·.push y))).get? b=some o:=λb o hb eb=>(dn s.heap _ (Ne.symm hb)).trans eb
 have I0:zF Y [] σ H s:=I.pins_of λp hp'=>by cases hp'
 have I1:zF Y [] σ H { s with heap:=s.heap.update D (Obj.mapSeq (·.push y)),toks:=s.toks }:=I0.turned keep hn.1 hn.2.1 hn.2.2.2.1 hn.2.2.2.2.1 hn.2.2.2.2.2
 have e3:(s.heap.update D (Obj.mapSeq (·.push y))).get? D=some (xo (its++[y]) _):=e2.trans (by rw [ea])
 have I2:zF Y [(D,xo (its++[y]) (if ((its++[y]).toArray.size == its.toArray.size)=true then k else k + 1))] σ H { s with heap:=s.heap.update D (Obj.mapSeq (·.push y)),toks:=s.toks }:=I1.pins_of λp hp'=>by
  rw [cQ.mp hp']
  exact ⟨e3,hn.1,hn.2.1,hn.2.2.1,λv z=>by cases z⟩
 exact q _ _ s.toks keep I2
end
end L2
namespace L2
open PySem PySem.Spec PyProof.Rows
structure Fn (P:Program) (w:World) (K:b_) (mg:Str->Option Value) (base:Heap) (x:Str) (ps:List Str) (k:Nat) (sp:Sp):Prop where
 ex:∃ f fd,zE P w K mg base zU k f fd ps sp/\mg x=some (.ref f)/\dU K (.ref f)=true/\wx K fd ps []
theorem Fn.mono {P:Program} {w:World} {K:b_} {mg:Str->Option Value} {base:Heap} {x:Str} {ps:List Str} {j k:Nat} {sp:Sp} (F:Fn P w K mg base x ps j sp) (h:j<=k:=by decide):Fn P w K mg base x ps k sp:=by
 obtain ⟨f,fd,a,b,c,d⟩:=F.ex
 exact ⟨f,fd,a.mono h,b,c,d⟩
theorem JO {X:Cx} {x:Str} {ps:List Str} {k:Nat} {sp:Sp} {e:Expr} {es:List Expr} {t:TA} {p pos:Pos} (F:Fn X.prog X.w X.K X.mg X.base x ps k sp) (hr:zX k X.A) (hg:Gl X x) (ha:PA X (e :: es) t)
  (hdb:(x == ("__debug__" : Str))=false:=by decide) (he:starEach (e :: es) X.env=(false,eval e X.env) :: starEach es X.env:=by rfl) (hpl:(backTo pos (starEach es X.env)).any (·.1)=false:=by rfl) :
  PE X (.Call (.Name x p) (e :: es) [] pos) (jX sp [] E0 t):=by
 obtain ⟨f,fd,a,b,c,d⟩:=F.ex
 exact U7 a hr hg b c d .nil Zc ha hdb he hpl
end L2
namespace L2
open PySem PySem.Spec PyProof.Rows
theorem xq:bootBuiltins "isinstance" = some (.builtin "isinstance"):=by decide +kernel
theorem xM:bootBuiltins "len" = some (.builtin "len"):=by decide +kernel
theorem vb:bootBuiltins "all" = some (.builtin "all"):=by decide +kernel
theorem JP:bootBuiltins "int" = some (.type "int"):=by decide +kernel
theorem zGT:bootBuiltins "bool" = some (.type "bool"):=by decide +kernel
theorem vc:bootBuiltins "tuple" = some (.type "tuple"):=by decide +kernel
theorem xr:bootBuiltins "list" = some (.type "list"):=by decide +kernel
structure xN (K:b_) (x qual:Str) (st:Stmt) (f:Addr) (fd:FuncData) (d:Value):Prop where
 ex:∃ (oc:Value) (od:Option Addr) (kV doc pm:Value) (an:Option Addr) (cdv ct:Value) (osl:Array (Option Value)) (T:Addr) (oT:Obj) (n:Nat),
  fd=d7 x qual (wo st) (xU st) (zR st) (.ref T) kV doc pm an cdv ct/\K.lookup f=some ⟨oc,od,.func fd,osl⟩/\f7 K cdv qual=true/\K.lookup T=some oT/\oT.data=.seq #[d] n
 kp:dU K (.ref f)=true
theorem xN.ok {P:Program} {w:World} {K:b_} {mg:Str->Option Value} {base:Heap} {x qual:Str} {st:Stmt} {f:Addr} {fd:FuncData} {d:Value} {N ps:List Str} {k:Nat} {sp:Sp} (F:xN K x qual st f fd d) (S:zb N ps (zR st))
  (len:∀ vs H Q E,sp vs H Q E->vs.length=ps.length)
  (hbody:∀ (cdv:Value) (A:Around) (outer:List Env) (s:Shared) (H:Hp) (vs:List V) (Q:VK) (E:XK),zX k (A.deeper (envOfC qual (zR st) s.heap.objs.size f cdv))->sp vs H Q E->
   ∃ t,yS (zW zU P w K mg base N qual (zR st) f cdv A outer s H E).nox (xU st) t/\t { nx:=λ_ H'=>Q .non H',rt:=Q } (we N vs) H):zE P w K mg base zU (k + 1) f fd ps sp:=by
 obtain ⟨oc,od,kV,doc,pm,an,cdv,ct,osl,T,oT,n,rfl,lk,hcd,_⟩:=F.ex
 refine U8 lk hcd S len λA outer s H vs Q E hr hsp=>?_
 obtain ⟨t,h,q⟩:=hbody cdv A outer s H vs Q E hr hsp
 exact ⟨t,h.nox,q⟩
end L2
namespace L2
open PySem PySem.Spec PyProof.Rows
theorem zLz {K:b_} {x qual:Str} {st:Stmt} {f T:Addr} {oc kV doc pm cdv ct d:Value} {od an:Option Addr} {osl:Array (Option Value)} {oT:Obj} {n:Nat} (l:K.lookup f=some ⟨oc,od,.func (d7 x qual (wo st) (xU st) (zR st) (.ref T) kV doc pm an cdv ct),osl⟩)
  (c:f7 K cdv qual=true) (k:dU K (.ref f)=true) (t:K.lookup T=some oT) (e:oT.data=.seq #[d] n):xN K x qual st f (d7 x qual (wo st) (xU st) (zR st) (.ref T) kV doc pm an cdv ct) d:=
 ⟨⟨oc,od,kV,doc,pm,an,cdv,ct,osl,T,oT,n,rfl,l,c,t,e⟩,k⟩
theorem xN.binds {K:b_} {x qual:Str} {st:Stmt} {f:Addr} {fd:FuncData} {d:Value} {ps:List Str} (F:xN K x qual st f fd d)
  (h:∀ (T:Addr) (kV doc pm:Value) (an:Option Addr) (cdv ct:Value) (us:List Value),us.length=ps.length->∃ k:Option (Array Value)->Sem (List (Str × Value)),
   bindArgs (d7 x qual (wo st) (xU st) (zR st) (.ref T) kV doc pm an cdv ct) ⟨us,[]⟩=seqItems? (.ref T) >>= k/\k (some #[d])=pure (ps.zip us)):wx K fd ps []:=by
 obtain ⟨oc,od,kV,doc,pm,an,cdv,ct,osl,T,oT,n,rfl,lk,hcd,t,e⟩:=F.ex
 intro s us X hl
 rw [dF] at hl |-
 obtain ⟨k,h1,h2⟩:=h T kV doc pm an cdv ct us hl
 exact .of_defaults (T:=T) rfl (X T oT t) e h1 h2
end L2
namespace L2
open PySem PySem.Spec PyProof.Rows
structure uL (P:Program) (w:World) (K:b_) (mg:Str->Option Value) (base:Heap) (x:Str) (ps:List Str) (k:Nat) (sp:Sp) (dv:V):Prop where
 ex:∃ f fd d,zE P w K mg base zU k f fd ps sp/\mg x=some (.ref f)/\dU K (.ref f)=true/\wx K fd ps []/\wx K fd ps [d]/\zS dv d
theorem uL.mono {P:Program} {w:World} {K:b_} {mg:Str->Option Value} {base:Heap} {x:Str} {ps:List Str} {j k:Nat} {sp:Sp} {dv:V} (F:uL P w K mg base x ps j sp dv) (h:j<=k:=by decide):uL P w K mg base x ps k sp dv:=by
 obtain ⟨f,fd,d,a,b,c,e⟩:=F.ex
 exact ⟨f,fd,d,a.mono h,b,c,e⟩
theorem uL.fn {P:Program} {w:World} {K:b_} {mg:Str->Option Value} {base:Heap} {x:Str} {ps:List Str} {k:Nat} {sp:Sp} {dv:V} (F:uL P w K mg base x ps k sp dv):Fn P w K mg base x ps k sp:=by
 obtain ⟨f,fd,d,a,b,c,e,_⟩:=F.ex
 exact ⟨f,fd,a,b,c,e⟩
theorem zLK {X:Cx} {x:Str} {ps:List Str} {k:Nat} {sp:Sp} {e:Expr} {es:List Expr} {t:TA} {p pos:Pos} {dv:V} (F:uL X.prog X.w X.K X.mg X.base x ps k sp dv) (hr:zX k X.A) (hg:Gl X x) (ha:PA X (e :: es) t)
  (hdb:(x == ("__debug__" : Str))=false:=by decide) (he:starEach (e :: es) X.env=(false,eval e X.env) :: starEach es X.env:=by rfl) (hpl:(backTo pos (starEach es X.env)).any (·.1)=false:=by rfl) :
  PE X (.Call (.Name x p) (e :: es) [] pos) (jX sp [dv] E0 t):=by
 obtain ⟨f,fd,d,a,b,c,_,h2,r⟩:=F.ex
 exact U7 a hr hg b c h2 (.cons r .nil) Zc ha hdb he hpl
theorem xN.binds1 {K:b_} {x qual:Str} {st:Stmt} {f:Addr} {fd:FuncData} {d:Value} {ps:List Str} (F:xN K x qual st f fd d)
  (h:∀ (T:Addr) (kV doc pm:Value) (an:Option Addr) (cdv ct:Value) (us:List Value),us.length + 1=ps.length->∃ k:Option (Array Value)->Sem (List (Str × Value)),
   bindArgs (d7 x qual (wo st) (xU st) (zR st) (.ref T) kV doc pm an cdv ct) ⟨us,[]⟩=seqItems? (.ref T) >>= k/\k (some #[d])=pure (ps.zip (us++[d]))):wx K fd ps [d]:=by
 obtain ⟨oc,od,kV,doc,pm,an,cdv,ct,osl,T,oT,n,rfl,lk,hcd,t,e⟩:=F.ex
 intro s us X hl
 rw [cj,eX] at hl
 obtain ⟨k,h1,h2⟩:=h T kV doc pm an cdv ct us hl
 exact .of_defaults (T:=T) rfl (X T oT t) e h1 h2
end L2
namespace L2
theorem JQ {b:Bool} {A B:Prop} (e:b=true) (h:A):if b=true then A else B:=by
 rw [if_pos e]
 exact h
theorem zRu {b:Bool} {A B:Prop} (e:b=false) (h:B):if b=true then A else B:=by
 rw [if_neg (by rw [e]; exact cV)]
 exact h
end L2
set_option maxRecDepth 100000
namespace L2
open PySem
section
variable {prog:Program} {w:World} {A:Around} {E:Value->Shared->Prop} {s:Shared}
theorem zMI (hh:A.handled=none) (it t:Addr) (hne:t≠it) (items:Array Value) :
  Draws prog w A it [it,t] items.size (λi v=>items[i]? = some v) (λi h=>h.IsTupleIter it t i/\h.IsTuple t items) where
 live:=λ_ _ st=>let ⟨o,ho,_⟩:=st.1; ⟨o,ho⟩
 frame:=λ_ _ _ st hk=>⟨let ⟨o,e,r⟩:=st.1; ⟨o,hk it (by simp) o e,r⟩,let ⟨o,e,r⟩:=st.2; ⟨o,hk t (by simp) o e,r⟩⟩
 item:=λi s Q E hi st hQ=>by
  obtain ⟨hit,ht⟩:=st
  obtain ⟨o,ho,hc,hd⟩:=id hit
  obtain ⟨ol,hol,_,nl,hdl⟩:=id ht
  have hx:items[i]? = some items[i]:=by simp [hi]
  unfold Builtin.SmallTypes.nextOf
  refine wpAny_bind (wpAny_callSpecial?_slot (name:=dM "__next__") hit.typeIs F.slot_tuple_iterator_next (wpAny_call_entry F.slot_tuple_iterator_next hit.typeIs F.entry_tuple_iterator_next ?_ (F.args_tuple_iterator_next_1 _)))
  change wpAny _ _ (field (.ref it) 0 >>= _) _ _ s
  refine wpAny_bind (wpAny_field ho hd (x:=.ref t) rfl ?_)
  change wpAny _ _ (if (Value.ref t == Value.none)=true then _ else _) _ _ s
  rw [if_neg (show (Value.ref t == Value.none)≠true from cV)]
  change wpAny _ _ (field (.ref it) 1 >>= _) _ _ s
  refine wpAny_bind (wpAny_field ho hd (x:=.int i 0) rfl ?_)
  change wpAny _ _ (seqItems? (.ref t) >>= _) _ _ s
  refine wpAny_bind (wpAny_seqItems hol hdl ?_)
  simp only [d8,hx]
  refine wpAny_bind (wpAny_setField ho hd (by simp) (wpAny_pure ⟨items[i],rfl,wpAny_pure (hQ _ _ s.toks hx ⟨?_,?_⟩ (Heap.SameBut.update ..))⟩))
  ·exact ⟨_,eY _ ho (Obj.isFreed_of_fields (Obj.data_mapFields hd _)),(Obj.cls_mapFields ..).trans hc,by rw [Obj.data_mapFields hd]; simp [rawInt]⟩
  ·exact ht.extBut (Heap.SameBut.update ..).extBut hne
 done:=λs Q E st hE=>by
  obtain ⟨hit,ht⟩:=st
  obtain ⟨o,ho,hc,hd⟩:=id hit
  obtain ⟨ol,hol,_,nl,hdl⟩:=id ht
  have hx:items[items.size]? = none:=by simp
  unfold Builtin.SmallTypes.nextOf
  refine wpAny_bind (wpAny_callSpecial?_slot (name:=dM "__next__") hit.typeIs F.slot_tuple_iterator_next (wpAny_call_entry F.slot_tuple_iterator_next hit.typeIs F.entry_tuple_iterator_next ?_ (F.args_tuple_iterator_next_1 _)))
  change wpAny _ _ (field (.ref it) 0 >>= _) _ _ s
  refine wpAny_bind (wpAny_field ho hd (x:=.ref t) rfl ?_)
  change wpAny _ _ (if (Value.ref t == Value.none)=true then _ else _) _ _ s
  rw [if_neg (show (Value.ref t == Value.none)≠true from cV)]
  change wpAny _ _ (field (.ref it) 1 >>= _) _ _ s
  refine wpAny_bind (wpAny_field ho hd (x:=.int items.size 0) rfl ?_)
  change wpAny _ _ (seqItems? (.ref t) >>= _) _ _ s
  refine wpAny_bind (wpAny_seqItems hol hdl ?_)
  simp only [d8,hx]
  refine wpAny_bind (wpAny_rule (wpAny_bind (wpAny_setField ho hd (by simp) ?_)))
  change wpAny _ _ (newExc (.type "StopIteration") [] >>= _) _ _ _
  refine wpAny_bind ?_
  simp only [newExc,newTuple]
  refine wpAny_bind (wpAny_newObj_type ?_ (by size_fits))
  refine wpAny_bind (m:=firstArgMember _ _) (wpAny_of_eq (a:=Value.none) (by first | rfl | (simp only [firstArgMember]; rfl)) ?_)
  refine wpAny_newObj_type ?_ (by size_fits)
  simp only [raiseNew]
  refine wpAny_bind (wpAny_handled ?_)
  first | rw [show A.in1.handled=none from hh] | rw [hh]
  refine wpAny_bind (wpAny_pure (wpAny_throw ?_))
  exact hE _ _ (((Heap.SameBut.update ..).extBut.push _).push _) ⟨_,cy _ rfl,rfl⟩
structure Zp (z TI TO i1 i2:Addr) (f1 f2:List Addr):Prop where
 a1:TI≠z
 a2:TO≠z
 a3:i1≠z
 a4:i2≠z
 a5:TI≠TO
 a6:TI≠i1
 a7:TI≠i2
 a8:TO≠i1
 a9:TO≠i2
 b1:z∉f1
 b2:z∉f2
 b3:TO∉f1
 b4:TO∉f2
 b5:i1∉f2
 b6:i2∉f1
theorem zMi {z TI TO i1 i2:Addr} {f1 f2:List Addr} {n1 n2 k:Nat} {P1 P2:Nat->Value->Prop} {S1 S2:Nat->Heap->Prop} {a b:Value} {Q:Value->Shared->Prop}
  (D1:Draws prog w A i1 f1 n1 P1 S1) (D2:Draws prog w A i2 f2 n2 P2 S2) (Z:Zp z TI TO i1 i2 f1 f2) (hz:IsZip s.heap z TI TO .none) (hI:IsPair s.heap TI (.ref i1) (.ref i2)) (hO:IsPair s.heap TO a b)
  (s1:S1 k s.heap) (s2:S2 k s.heap) (k1:k < n1) (k2:k < n2)
  (hQ:∀ x y h' tk,P1 k x->P2 k y->IsZip h' z TI TO (rawInt s.heap.objs.size)->IsPair h' TI (.ref i1) (.ref i2)->IsPair h' TO x y->S1 (k + 1) h'->S2 (k + 1) h'->IsPair h' s.heap.objs.size x y->
   (∀ c o,c≠z->c≠TO->c≠i1->c≠i2->s.heap.get? c=some o->h'.get? c=some o)->Q (.ref s.heap.objs.size) { s with heap:=h',toks:=tk }) :
  wpAny (model prog w) A (Builtin.«zip.__next__» ⟨[.ref z],[]⟩) (λfin s'=>∃ v,fin=.done (.ret v)/\Q v s') E s:=by
 change wpAny _ _ (field (.ref z) 2 >>= _) _ _ _
 refine wpAny_bind (wpAny_field hz rfl (x:=.bool false) rfl ?_)
 change wpAny _ _ (field (.ref z) 3 >>= _) _ _ _
 refine wpAny_bind (wpAny_field hz rfl (x:=.ref TI) rfl ?_)
 refine wpAny_bind (wpAny_seqItems hI rfl ?_)
 change wpAny _ _ (Builtin.SmallTypes.ownedTupleIsFree (.ref z) >>= _) _ _ _
 refine wpAny_bind ?_
 unfold Builtin.SmallTypes.ownedTupleIsFree
 refine wpAny_bind (wpAny_field hz rfl (x:=.none) rfl (wpAny_pure ?_))
 simp only [if_true]
 refine wpAny_bind (wpAny_rule ?_)
 refine wpAny_bind (wpAny_field hz rfl (x:=.ref TO) rfl ?_)
 refine wpAny_bind (wpAny_setField_rec hz (by simp) λg1 z1 m1=>?_)
 replace z1:IsZip g1 z TI TO .ellipsis:=z1
 refine wpAny_bind ?_
 simp only [hV,ia,fM,f8]
 refine wpAny_bind (wpAny_bind (wpAny_onRaise ?_))
 change wpAny _ _ (Builtin.SmallTypes.nextOf (.ref i1) >>= _) _ _ _
 refine wpAny_bind (D1.item k _ _ _ k1 (D1.frame _ _ _ s1 λc hc o e=>m1.extBut c o (λq=>Z.b1 (q ▸ hc)) e) λx g2 t2 px s12 m2=>wpAny_pure ?_)
 have o2:IsPair g2 TO a b:=m2.extBut _ _ Z.a8 (m1.extBut _ _ Z.a2 hO)
 refine wpAny_bind (wpAny_seqItems o2 rfl ?_)
 refine wpAny_bind (wpAny_updateSeq_pair o2 λg3 o3 m3=>?_)
 replace o3:IsPair g3 TO x b:=o3
 refine wpAny_bind (wpAny_letGo (wpAny_pure ?_))
 refine wpAny_bind (wpAny_bind (wpAny_onRaise ?_))
 change wpAny _ _ (Builtin.SmallTypes.nextOf (.ref i2) >>= _) _ _ _
 refine wpAny_bind (D2.item k _ _ _ k2 (D2.frame _ _ _ s2 λc hc o e=>m3.extBut c o (λq=>Z.b4 (q ▸ hc)) (m2.extBut c o (λq=>Z.b5 (q ▸ hc)) (m1.extBut c o (λq=>Z.b2 (q ▸ hc)) e))) λy g4 t4 py s24 m4=>wpAny_pure ?_)
 have o4:IsPair g4 TO x b:=m4.extBut _ _ Z.a9 o3
 refine wpAny_bind (wpAny_seqItems o4 rfl ?_)
 refine wpAny_bind (wpAny_updateSeq_pair o4 λg5 o5 m5=>?_)
 replace o5:IsPair g5 TO x y:=o5
 refine wpAny_bind (wpAny_letGo (wpAny_pure (wpAny_pure ?_)))
 refine wpAny_bind (wpAny_seqItems o5 rfl ?_)
 refine wpAny_bind (wpAny_newTuple ?_)
 have sz:g5.objs.size=s.heap.objs.size:=by
  have q5:g5.objs.size=g4.objs.size:=m5.1
  have q4:g4.objs.size=g3.objs.size:=m4.1
  have q3:g3.objs.size=g2.objs.size:=m3.1
  have q2:g2.objs.size=g1.objs.size:=m2.1
  have q1:g1.objs.size=s.heap.objs.size:=m1.1
  omega
 have all5:∀ c o,c≠z->c≠TO->c≠i1->c≠i2->s.heap.get? c=some o->g5.get? c=some o:=λc o c1 c2 c3 c4 e=>m5.extBut _ _ c2 (m4.extBut _ _ c4 (m3.extBut _ _ c2 (m2.extBut _ _ c3 (m1.extBut _ _ c1 e))))
 have z5:IsZip g5 z TI TO .ellipsis:=m5.extBut _ _ Z.a2.symm (m4.extBut _ _ Z.a4.symm (m3.extBut _ _ Z.a2.symm (m2.extBut _ _ Z.a3.symm z1)))
 have I5:IsPair g5 TI (.ref i1) (.ref i2):=all5 _ _ Z.a1 Z.a5 Z.a6 Z.a7 hI
 have u1:S1 (k + 1) g5:=D1.frame _ _ _ s12 λc hc o e=>m5.extBut c o (λq=>Z.b3 (q ▸ hc)) (m4.extBut c o (λq=>Z.b6 (q ▸ hc)) (m3.extBut c o (λq=>Z.b3 (q ▸ hc)) e))
 have u2:S2 (k + 1) g5:=D2.frame _ _ _ s24 λc hc o e=>m5.extBut c o (λq=>Z.b4 (q ▸ hc)) e
 have lt:z < g5.objs.size:=cA z5
 change wpAny _ _ (Builtin.SmallTypes.ownedTupleHandOut (.ref z) (.ref g5.objs.size) >>= _) _ _ _
 refine wpAny_bind ?_
 unfold Builtin.SmallTypes.ownedTupleHandOut
 have z6:IsZip (g5.push { cls:=.type "tuple",data:=.seq #[x,y] }) z TI TO .ellipsis:=ci _ z5
 refine wpAny_bind (wpAny_setField_rec z6 (by simp) λg7 z7 m7=>?_)
 replace z7:IsZip g7 z TI TO (rawInt g5.objs.size):=z7
 refine wpAny_setField_rec z7 (by simp) λg8 z8 m8=>?_
 replace z8:IsZip g8 z TI TO (rawInt g5.objs.size):=z8
 have up:∀ c o,c≠z->g5.get? c=some o->g8.get? c=some o:=λc o c1 e=>m8.extBut _ _ c1 (m7.extBut _ _ c1 (ci _ e))
 have T8:IsPair g8 g5.objs.size x y:=m8.extBut _ _ (eM lt) (m7.extBut _ _ (eM lt) (cy _ rfl))
 rw [sz] at z8 T8
 refine wpAny_pure ⟨_,rfl,?_⟩
 change Q (.ref g5.objs.size) _
 rw [sz]
 exact hQ x y g8 _ px py z8 (up _ _ Z.a1 I5) (up _ _ Z.a2 o5) (D1.frame _ _ _ u1 λc hc o e=>up c o (λq=>Z.b1 (q ▸ hc)) e) (D2.frame _ _ _ u2 λc hc o e=>up c o (λq=>Z.b2 (q ▸ hc)) e) T8
  λc o c1 c2 c3 c4 e=>up c o c1 (all5 c o c1 c2 c3 c4 e)
theorem zMe {z TI TO i1 i2:Addr} {f1 f2:List Addr} {n1 n2 k:Nat} {P1 P2:Nat->Value->Prop} {S1 S2:Nat->Heap->Prop} {a b:Value} {Q:Fin->Shared->Prop}
  (D1:Draws prog w A i1 f1 n1 P1 S1) (D2:Draws prog w A i2 f2 n2 P2 S2) (Z:Zp z TI TO i1 i2 f1 f2) (hz:IsZip s.heap z TI TO .none) (hI:IsPair s.heap TI (.ref i1) (.ref i2)) (hO:IsPair s.heap TO a b)
  (s1:S1 k s.heap) (s2:S2 k s.heap) (k1:k<=n1) (k2:k<=n2) (ke:k=n1\/k=n2)
  (hE:∀ h' e tk,(∀ c o,c≠z->c≠TO->c≠i1->c≠i2->s.heap.get? c=some o->h'.get? c=some o)->(∃ o,h'.get? e=some o/\o.cls=.type "StopIteration")->E (.ref e) { s with heap:=h',toks:=tk }) :
  wpAny (model prog w) A (Builtin.«zip.__next__» ⟨[.ref z],[]⟩) Q E s:=by
 change wpAny _ _ (field (.ref z) 2 >>= _) _ _ _
 refine wpAny_bind (wpAny_field hz rfl (x:=.bool false) rfl ?_)
 change wpAny _ _ (field (.ref z) 3 >>= _) _ _ _
 refine wpAny_bind (wpAny_field hz rfl (x:=.ref TI) rfl ?_)
 refine wpAny_bind (wpAny_seqItems hI rfl ?_)
 change wpAny _ _ (Builtin.SmallTypes.ownedTupleIsFree (.ref z) >>= _) _ _ _
 refine wpAny_bind ?_
 unfold Builtin.SmallTypes.ownedTupleIsFree
 refine wpAny_bind (wpAny_field hz rfl (x:=.none) rfl (wpAny_pure ?_))
 simp only [if_true]
 refine wpAny_bind (wpAny_rule ?_)
 refine wpAny_bind (wpAny_field hz rfl (x:=.ref TO) rfl ?_)
 refine wpAny_bind (wpAny_setField_rec hz (by simp) λg1 z1 m1=>?_)
 replace z1:IsZip g1 z TI TO .ellipsis:=z1
 refine wpAny_bind ?_
 simp only [hV,ia,fM,f8]
 refine wpAny_bind (wpAny_bind (wpAny_onRaise ?_))
 change wpAny _ _ (Builtin.SmallTypes.nextOf (.ref i1) >>= _) _ _ _
 have s1':S1 k g1:=D1.frame _ _ _ s1 λc hc o e=>m1.extBut c o (λq=>Z.b1 (q ▸ hc)) e
 by_cases c1:k=n1
 ·subst c1
  refine wpAny_bind (D1.done _ _ _ s1' λg2 e m2 he=>?_)
  obtain ⟨oe,he1,he2⟩:=he
  have z2:IsZip g2 z TI TO .ellipsis:=m2 _ _ Z.a3.symm z1
  have nez:e≠z:=λq=>by subst q; rw [z2] at he1; cases he1; simp at he2
  exact wpAny_setField_rec z2 (by simp) λg3 _ m3=>hE g3 e _ (λc o c1 c2 c3 c4 q=>m3.extBut _ _ c1 (m2 _ _ c3 (m1.extBut _ _ c1 q))) ⟨oe,m3.extBut _ _ nez he1,he2⟩
 ·have c2:k=n2:=ke.resolve_left c1
  subst c2
  refine wpAny_bind (D1.item k _ _ _ (by omega) s1' λx g2 t2 px s12 m2=>wpAny_pure ?_)
  have o2:IsPair g2 TO a b:=m2.extBut _ _ Z.a8 (m1.extBut _ _ Z.a2 hO)
  refine wpAny_bind (wpAny_seqItems o2 rfl ?_)
  refine wpAny_bind (wpAny_updateSeq_pair o2 λg3 o3 m3=>?_)
  refine wpAny_bind (wpAny_letGo (wpAny_pure ?_))
  refine wpAny_bind (wpAny_bind (wpAny_onRaise ?_))
  change wpAny _ _ (Builtin.SmallTypes.nextOf (.ref i2) >>= _) _ _ _
  refine wpAny_bind (D2.done _ _ _ (D2.frame _ _ _ s2 λc hc o e=>m3.extBut c o (λq=>Z.b4 (q ▸ hc)) (m2.extBut c o (λq=>Z.b5 (q ▸ hc)) (m1.extBut c o (λq=>Z.b2 (q ▸ hc)) e))) λg4 e m4 he=>?_)
  obtain ⟨oe,he1,he2⟩:=he
  have z4:IsZip g4 z TI TO .ellipsis:=m4 _ _ Z.a4.symm (m3.extBut _ _ Z.a2.symm (m2.extBut _ _ Z.a3.symm z1))
  have nez:e≠z:=λq=>by subst q; rw [z4] at he1; cases he1; simp at he2
  exact wpAny_setField_rec z4 (by simp) λg5 _ m5=>hE g5 e _ (λc o c1 c2 c3 c4 q=>m5.extBut _ _ c1 (m4 _ _ c4 (m3.extBut _ _ c2 (m2.extBut _ _ c3 (m1.extBut _ _ c1 q))))) ⟨oe,m5.extBut _ _ nez he1,he2⟩
end
section
variable {prog:Program} {w:World} {A:Around} {E:Value->Shared->Prop} {s:Shared}
theorem zMf {z TI TO i1 i2:Addr} {f1 f2:List Addr} {n1 n2 k:Nat} {P1 P2:Nat->Value->Prop} {S1 S2:Nat->Heap->Prop} {a b:Value} {Q:Option Value->Shared->Prop}
  (D1:Draws prog w A.in1 i1 f1 n1 P1 S1) (D2:Draws prog w A.in1 i2 f2 n2 P2 S2) (Z:Zp z TI TO i1 i2 f1 f2) (hz:IsZip s.heap z TI TO .none) (hI:IsPair s.heap TI (.ref i1) (.ref i2)) (hO:IsPair s.heap TO a b)
  (s1:S1 k s.heap) (s2:S2 k s.heap) (k1:k < n1) (k2:k < n2)
  (hQ:∀ x y h' tk,P1 k x->P2 k y->IsZip h' z TI TO (rawInt s.heap.objs.size)->IsPair h' TI (.ref i1) (.ref i2)->IsPair h' TO x y->S1 (k + 1) h'->S2 (k + 1) h'->IsPair h' s.heap.objs.size x y->
   (∀ c o,c≠z->c≠TO->c≠i1->c≠i2->s.heap.get? c=some o->h'.get? c=some o)->Q (some (.ref s.heap.objs.size)) { s with heap:=h',toks:=tk }) :
  wpAny (model prog w) A (pyNext (.ref z)) Q E s:=by
 have ty:s.TypeIs (.ref z) "zip":=⟨_,hz,rfl⟩
 unfold pyNext
 refine wpAny_bind (wpAny_attempt (wpAny_callSpecial?_slot (name:=dM "__next__") ty F.slot_zip_next (wpAny_call_entry F.slot_zip_next ty F.entry_zip_next ?_ (F.args_zip_next_1 _))))
 exact zMi D1 D2 Z hz hI hO s1 s2 k1 k2 λx y h' tk c1 c2 c3 c4 c5 c6 c7 c8 c9=>wpAny_pure (hQ x y h' tk c1 c2 c3 c4 c5 c6 c7 c8 c9)
theorem zO5 {z TI TO i1 i2:Addr} {f1 f2:List Addr} {n1 n2 k:Nat} {P1 P2:Nat->Value->Prop} {S1 S2:Nat->Heap->Prop} {a b:Value} {Q:Option Value->Shared->Prop}
  (D1:Draws prog w A.in1 i1 f1 n1 P1 S1) (D2:Draws prog w A.in1 i2 f2 n2 P2 S2) (Z:Zp z TI TO i1 i2 f1 f2) (hz:IsZip s.heap z TI TO .none) (hI:IsPair s.heap TI (.ref i1) (.ref i2)) (hO:IsPair s.heap TO a b)
  (s1:S1 k s.heap) (s2:S2 k s.heap) (k1:k<=n1) (k2:k<=n2) (ke:k=n1\/k=n2)
  (hQ:∀ h' tk,(∀ c o,c≠z->c≠TO->c≠i1->c≠i2->s.heap.get? c=some o->h'.get? c=some o)->Q none { s with heap:=h',toks:=tk }) :
  wpAny (model prog w) A (pyNext (.ref z)) Q E s:=by
 have ty:s.TypeIs (.ref z) "zip":=⟨_,hz,rfl⟩
 unfold pyNext
 refine wpAny_bind (wpAny_attempt (wpAny_callSpecial?_slot (name:=dM "__next__") ty F.slot_zip_next (wpAny_call_entry F.slot_zip_next ty F.entry_zip_next
  (zMe D1 D2 Z hz hI hO s1 s2 k1 k2 ke λh' e tk keep he=>?_) (F.args_zip_next_1 _))))
 obtain ⟨o,ho,hc⟩:=he
 refine wpAny_bind (wpAny_isInstance (T:="StopIteration") (b:=true) ⟨o,ho,hc⟩ isSubtype_stop ?_)
 exact wpAny_pure (hQ _ _ keep)
end
end L2
namespace L2
open PySem PySem.Spec PyProof.Rows
theorem jY {vs:Array Value} (v:Option Value):Data.fields vs≠Data.cell v:=λz=>by cases z
theorem WQ {vs:Array Value} {n:Nat} (v:Option Value):Data.seq vs n≠Data.cell v:=λz=>by cases z
theorem zF.turnT {X:Cx} {pins:List (Addr × Obj)} {σ:St} {H:Hp} {s:Shared} {h':Heap} {tk:Nat} {ch:List Addr} {T:Addr} {x y:V} {u v:Value} (I:zF X pins σ H s) (hf:∀ b∈ch,yz X pins H b) (keep:∀ b o,b∉ch->s.heap.get? b=some o->h'.get? b=some o)
  (hT:s.heap.objs.size<=T) (p:IsPair h' T u v) (rx:zS x u) (ry:zS y v):zF X pins σ (zY H T (.tup [x,y])) { s with heap:=h',toks:=tk }:=by
 have fr:H T=none:=I.hok.fresh hT
 have nT:∀ b o,s.heap.get? b=some o->b≠T:=λb o e z=>by rw [z] at e; exact absurd (cP (cA e) hT) (df _)
 have uJ:∀ b o,H b=some o->b∉ch:=λb o e z=>by rw [(hf b z).1] at e; cases e
 refine I.step (ch:=ch) (λb hb=>⟨(hf b hb).2.2.2.1,(hf b hb).2.1,(hf b hb).2.2.2.2.1,(hf b hb).2.2.2.2.2⟩) (λb o _ _ hc e _=>keep b o hc e) (λb o _ _ hc e _=>⟨o.slots,keep b o hc e⟩)
  (λb o _ e n=>by rw [zc (nT b o e)]; exact n) (λb o hc e=>⟨o,keep b o hc e⟩) (λb xs e=>by rw [zc (xZ e fr)]; exact e) (λb o w e=>by rw [zc (xZ e fr)]; exact e)
  (λb ps e=>⟨#[],by rw [zc (xZ e fr),e]; simp⟩) (λm hm=>?_) (λb w e=>?_) I.bare
 ·obtain ⟨o,es,ep,ho,r⟩:=hm
  exact ⟨o,es,ep,keep _ o (λz=>(hf _ z).2.1 rfl) ho,r⟩
 ·by_cases hb:b=T
  ·subst hb
   rw [wS] at e
   cases e
   exact ⟨by show 2<=sizeLine; decide,[u,v],.cons rx (.cons ry .nil),⟨_,p,rfl,_,rfl⟩⟩
  ·rw [zc hb] at e
   refine (I.hok b w e).stay (λc q hc ec=>keep c q ?_ ec) (λc ec=>by rw [zc (xZ ec fr)]; exact ec) λc xs ec=>by rw [zc (xZ ec fr)]; exact ec
   rcases hc with z | z
   ·rw [z]
    exact uJ b w e
   ·exact uJ c _ z
theorem zF.turnN {X:Cx} {pins:List (Addr × Obj)} {σ:St} {H:Hp} {s:Shared} {h':Heap} {tk:Nat} {ch:List Addr} (I:zF X pins σ H s) (hf:∀ b∈ch,yz X pins H b) (keep:∀ b o,b∉ch->s.heap.get? b=some o->h'.get? b=some o) :
  zF X pins σ H { s with heap:=h',toks:=tk }:=by
 have uJ:∀ b o,H b=some o->b∉ch:=λb o e z=>by rw [(hf b z).1] at e; cases e
 refine I.step (ch:=ch) (λb hb=>⟨(hf b hb).2.2.2.1,(hf b hb).2.1,(hf b hb).2.2.2.2.1,(hf b hb).2.2.2.2.2⟩) (λb o _ _ hc e _=>keep b o hc e) (λb o _ _ hc e _=>⟨o.slots,keep b o hc e⟩)
  (λb o _ e n=>n) (λb o hc e=>⟨o,keep b o hc e⟩) (λb xs e=>e) (λb o w e=>e) (λb ps e=>⟨#[],by rw [e]; simp⟩) (λm hm=>?_) (λb w e=>?_) I.bare
 ·obtain ⟨o,es,ep,ho,r⟩:=hm
  exact ⟨o,es,ep,keep _ o (λz=>(hf _ z).2.1 rfl) ho,r⟩
 ·refine (I.hok b w e).stay (λc q hc ec=>keep c q ?_ ec) (λc ec=>ec) λc xs ec=>ec
  rcases hc with z | z
  ·rw [z]
   exact uJ b w e
  ·exact uJ c _ z
theorem vd {x y z:Nat} (h1:x≠y) (h2:x≠z):x∉[y,z]:=by simp [h1,h2]
theorem Zf (n a b:Nat) (la:a < n) (lb:b < n):Zp (n + 4) (n + 2) (n + 3) n (n + 1) [n,a] [n + 1,b]:=by
 have e:∀ x y:Nat,x≠y->(x:Addr)≠y:=λ_ _ h=>h
 exact ⟨e _ _ (by omega),e _ _ (by omega),e _ _ (by omega),e _ _ (by omega),e _ _ (by omega),e _ _ (by omega),e _ _ (by omega),e _ _ (by omega),e _ _ (by omega),
  vd (by omega) (by omega),vd (by omega) (by omega),vd (by omega) (by omega),vd (by omega) (by omega),vd (by omega) (by omega),vd (by omega) (by omega)⟩
end L2
namespace L2
open PySem PySem.Spec PyProof.Rows
noncomputable def JR (J:It) (g:TG) (tc:TT) (te:TE) (Q:VK) (σ0:St) (H0:Hp):Prop:=∃ W:Nat->Nat->List V->St->Hp->Prop,(∃ m,W 0 m [] σ0 H0)/\∀ i m ys σ1 H,W i m ys σ1 H->
 (J.stop i H/\∀ p,H p=none->Q (.ref p) (zY H p (.lst ys)))\/(J.go i H/\ys.length < sizeLine/\∃ (N:V->St->Hp->Prop) (N0:St->Hp->Prop),(∀ y σ' H',N y σ' H'->∃ m',m' < m/\W (i + 1) m' (ys++[y]) σ' H')/\(∀ σ' H',N0 σ' H'->∃ m',m' < m/\W (i + 1) m' ys σ' H')∧
    ∀ x H',J.yld i H x H'->g x σ1 H' λσ2 H2=>tc σ2 H2 λb H3=>if b=true then te σ2 H3 λy H4=>N y σ2 H4 else N0 σ2 H3)
noncomputable def zOE (own:List Str) (caps:List (Nat × Str)) (wi:TI) (g:TG) (tc:TT) (te:TE):TE:=λσ H Q=>wi σ H λJ H1=>JR J g tc te Q (uK own caps σ) H1
end L2
namespace L2
open PySem PySem.Spec PyProof.Rows
section
variable {X:Cx}
theorem zOa (hu:X.A.units + 64 < cLine):y9 X (compareOp .NotEq) (λx y H Q=>∃ d e:PyData,Dp X.K H x d/\Dp X.K H y e/\d.canLay0=true/\e.canLay0=true/\d.depth<=60/\e.depth<=60/\Q (.bl (!PyData.eqv d e)) H):=by
 intro pins s σ H x y v u Q I rx ry h
 obtain ⟨d,e,hx,hy,hc,hc',hd,hd',q⟩:=h
 obtain ⟨_,r1⟩:=hx.reads I rx
 obtain ⟨_,r2⟩:=hy.reads I ry
 exact SeqAt.compareNe_reads r1 r2 hc hc' (by omega) ⟨.bl _,H,I,rfl,q⟩
end
end L2
namespace L2
open PySem
theorem qQ:bootBuiltins "max" = some (.builtin "max"):=by decide +kernel
end L2
namespace L2
open PySem PySem.Spec PyProof.Rows
theorem WR:bootBuiltins "sum" = some (.builtin "sum"):=by decide +kernel
theorem zHs:∀ {ns:List Int} {its:List Value},zL (ns.map V.int) its->∃ zs:List (Int × Tok),its=zs.map (λp=>Value.int p.1 p.2)/\zs.map (·.1)=ns
 | [],_,.nil=>⟨[],rfl,rfl⟩
 | n :: r,_,.cons h t=>by
  obtain ⟨zs,e1,e2⟩:=zHs t
  obtain ⟨tk,rfl⟩:=h
  exact ⟨(n,tk) :: zs,by rw [e1]; rfl,by rw [cT,e2]⟩
section
variable {X:Cx}
theorem WS (hc:X.calm=true):vD X (.builtin "sum") (λxs H Q=>∃ (p:Addr) (ns:List Int),xs=[.ref p]/\zZ X.K H p (ns.map V.int)/\Q (.int ns.sum) H):=by
 intro pins s σ H xs us Q I r h
 obtain ⟨p,ns,rfl,hq,q⟩:=h
 obtain ⟨u,rfl,ru⟩:=jW r
 cases ru
 obtain ⟨its,rv,pl,hz⟩:=I.list hq
 obtain ⟨zs,e1,e2⟩:=zHs rv
 have e3:its.toArray=intItems zs.toArray:=by
  rw [e1]
  unfold intItems
  simp
 have hl:=pl.isList
 rw [e3] at hl
 refine sum_intListG (I.ok.hd hc) hl λh' tk t' kk=>⟨.int ns.sum,H,I.kept (h':=h') (t':=tk) kk,⟨t',?_⟩,q⟩
 rw [preSum_eq,cL (by simp),e2]
end
end L2
namespace L2
open PySem PySem.Spec PyProof.Rows
theorem Zg {a b c d:Nat} (h1:a < b) (h2:b<=c) (h3:c + 1<=d):d≠a:=by omega
theorem JS {a b c:Nat} (h1:c=a + 1) (h2:c + 1<=b):b≠a:=by omega
theorem WT {x:Str} {c:Addr}:∀ (names:List (Str × NameKind)) (n:Nat) (acc:List (Str × Addr)),(cellsFrom n names acc).lookup x=some c->((x,NameKind.cell)∈names/\n<=c)\/acc.lookup x=some c
 | [],_,_,h=>.inr h
 | (y,k) :: r,n,acc,h=>by
  unfold cellsFrom at h
  split at h
  ·rename_i hk
   rcases WT r (n + 1) ((y,n) :: acc) h with ⟨a,b⟩ | z
   ·exact .inl ⟨cn _ a,by omega⟩
   ·rw [dy] at z
    by_cases e:(x == y)=true
    ·simp only [e] at z
     have e1:x=y:=eq_of_beq e
     have e2:k=.cell:=eq_of_beq hk
     subst e1
     subst e2
     cases z
     exact .inl ⟨cq,cD _⟩
    ·have e':(x == y)=false:=by simpa using e
     simp only [e'] at z
     exact .inr z
  ·rcases WT r n acc h with ⟨a,b⟩ | z
   ·exact .inl ⟨cn _ a,b⟩
   ·exact .inr z
theorem JT {x:Str}:∀ (names:List (Str × NameKind)) (n:Nat) (acc:List (Str × Addr)),(x,NameKind.cell)∉names->(cellsFrom n names acc).lookup x=acc.lookup x
 | [],_,_,_=>rfl
 | (y,k) :: r,n,acc,h=>by
  have hr:(x,NameKind.cell)∉r:=λz=>h (cn _ z)
  unfold cellsFrom
  split
  ·rename_i hk
   have e2:k=.cell:=eq_of_beq hk
   rw [JT r _ _ hr,dy]
   have e':(x == y)=false:=by
    cases q:x == y with
    | false=>rfl
    | true=>exact absurd (by rw [eq_of_beq q,e2]; exact cq) h
   simp only [e']
  ·exact JT r _ _ hr
theorem JU:∀ (names:List (Str × NameKind)) (n:Nat) (acc:List (Str × Addr)),(∀ x c,acc.lookup x=some c->c < n)->(∀ x y c,acc.lookup x=some c->acc.lookup y=some c->x=y)->
  ∀ x y c,(cellsFrom n names acc).lookup x=some c->(cellsFrom n names acc).lookup y=some c->x=y
 | [],_,_,_,h2=>h2
 | (z,k) :: r,n,acc,h1,h2=>by
  unfold cellsFrom
  split
  ·have look:∀ x c,((z,n) :: acc).lookup x=some c->(x=z/\c=n)\/acc.lookup x=some c:=λx c e=>by
    rw [dy] at e
    cases q:x == z with
    | true=>
     simp only [q] at e
     exact .inl ⟨eq_of_beq q,(Option.some.inj e).symm⟩
    | false=>
     simp only [q] at e
     exact .inr e
   refine JU r (n + 1) ((z,n) :: acc) (λx c e=>?_) λx y c e1 e2=>?_
   ·rcases look x c e with ⟨_,e⟩ | e
    ·rw [e]
     exact iB n
    ·exact fe (h1 x c e)
   ·rcases look x c e1 with ⟨a1,b1⟩ | a1 <;> rcases look y c e2 with ⟨a2,b2⟩ | a2
    ·rw [a1,a2]
    ·have:=h1 y c a2
     rw [b1] at this
     exact absurd this (df n)
    ·have:=h1 x c a1
     rw [b2] at this
     exact absurd this (df n)
    ·exact h2 x y c a1 a2
  ·exact JU r n acc h1 h2
theorem JV {x:Str} {c:Addr}:∀ (names:List (Str × NameKind)) (h:Heap) (acc:List (Str × Addr)),(cellsFrom h.objs.size names acc).lookup x=some c->acc.lookup x=some c\/(pushCells h names).IsCell c none
 | [],_,_,e=>.inl e
 | (y,k) :: r,h,acc,e=>by
  unfold cellsFrom at e
  unfold pushCells
  split at e
  ·rename_i hk
   rw [if_pos hk]
   have q:=JV (x:=x) (c:=c) r (h.push { cls:=.type "cell",data:=.cell none }) ((y,h.objs.size) :: acc) (by rw [dl]; exact e)
   rcases q with q | q
   ·rw [dy] at q
    cases z:x == y with
    | true=>
     simp only [z] at q
     cases q
     exact .inr ⟨_,pushCells_keeps r _ _ _ (cy _ rfl),rfl⟩
    | false=>
     simp only [z] at q
     exact .inl q
   ·exact .inr q
  ·rename_i hk
   rw [if_neg hk]
   exact JV r h acc e
theorem gk:∀ {l:List (Str × NameKind)} {x:Str} {k:NameKind},(l.map (·.1)).Nodup->(x,k)∈l->l.lookup x=some k
 | [],_,_,_,h=>by cases h
 | (y,j) :: r,x,k,nd,h=>by
  rw [cT,fJ] at nd
  rw [dy]
  rcases cu.mp h with e | h
  ·cases e
   rw [beq_self_eq_true]
  ·have ne:(x == y)=false:=by
    cases q:x == y with
    | false=>rfl
    | true=>exact absurd (by rw [<- eq_of_beq q]; exact cr.mpr ⟨(x,k),h,rfl⟩) nd.1
   simp only [ne]
   exact gk nd.2 h
theorem zHC {M:Model} {A:Around} {E:Value->Shared->Prop} {s:Shared} {scope:Scope} {globals:Addr} {closure:List (Str × Addr)} {qual:Str} {func:Option Addr} {code:Value} {env:Env} {builtins:Addr} {Q:Env->Shared->Prop}
  (h:Q (newEnv scope s.heap.objs.size globals (cellsFrom (s.heap.objs.size + 1) scope.names closure) qual func code (some env) builtins) { s with heap:=pushCells (s.heap.push { cls:=.type "dict",data:=.dict #[] }) scope.names }) :
  wpAny M A (newFunctionEnv scope globals closure [] qual func code (some env) builtins) Q E s:=by
 simp only [newFunctionEnv,Option.isSome_some,if_true]
 refine wpAny_bind (wpAny_alloc ?_)
 refine wpAny_bind (wpAny_layCells _ (λname kind cells=>by cases hkc:kind == NameKind.cell <;> simp [hkc]) _ _ _ _ ?_)
 rw [show ({ s with heap:=s.heap.push { cls:=.type "dict",data:=.dict #[] } }:Shared).heap.objs.size=s.heap.objs.size + 1 from dl ..]
 simp only [f8]
 exact wpAny_bind (wpAny_pure (wpAny_pure h))
noncomputable abbrev xA (X:Cx) (scope:Scope) (N:List Str) (C:Addr) (s₀:Shared) (H₀:Hp) (ex:List Addr):Cx:=
 { X with N:=N,s₀:=s₀,H₀:=H₀,env:=compEnvC scope (cellsFrom (C + 1) scope.names (vZ scope X.env)) C X.env,outer:=X.stack,ex:=ex,fn:=λx=>scope.names.lookup x == some .cell,pn:=[],xe:=λ_ _=>False }
structure uM (X:Cx) (scope:Scope) (own:List Str) (caps:List (Nat × Str)):Prop where
 kind:scope.kind=.function
 nod:(scope.names.map (·.1)).Nodup
 locs:∀ y∈scope.names,y.2=.local->scope.names.lookup y.1=some .local
 free:∀ y∈scope.names,y.2=.free->(X.env.cells.lookup y.1).isSome=true
 caps:∀ p∈caps,X.N[p.1]? = some p.2/\scope.names.lookup p.2=some .free/\(X.env.kindOf p.2=some .cell\/X.env.kindOf p.2=some .free)
section
variable {X:Cx} {scope:Scope} {own:List Str} {caps:List (Nat × Str)} {pins:List (Addr × Obj)} {σ:St} {H:Hp} {s s4:Shared} {C D:Addr} {fp:List Addr}
theorem WU (B:uM X scope own caps) {x:Str} {c n:Nat} (e:(cellsFrom n scope.names (vZ scope X.env)).lookup x=some c):((x,NameKind.cell)∈scope.names/\n<=c)\/X.env.cells.lookup x=some c:=
 (WT _ _ _ e).imp id λz=>(qP B.free z).1
theorem zJe (I:zF X pins σ H s) {x:Str} {c:Addr} (e:X.env.cells.lookup x=some c):c < s.heap.objs.size:=by
 obtain ⟨v,o,ho,_⟩:=I.cell x c e
 exact cA ho
theorem zQS (B:uM X scope own caps) (I:zF X pins σ H s) (hf:∀ b∈fp,yz X pins H b) (hC:s.heap.objs.size<=C) (hlt:∀ b∈fp,b < s.heap.objs.size):(xA X scope (zk own caps) C s H fp).Ok where
 mod:=I.ok.mod
 kind:=B.kind
 glob:=I.ok.glob
 blt:=I.ok.blt
 above:=hC
 inj:=JU _ _ _ (λx c e=>cP (zJe I (qP B.free e).1) (Nat.le_succ_of_le hC)) λx y c h1 h2=>I.ok.inj x y c (qP B.free h1).1 (qP B.free h2).1
 has:=λx h=>by
  have fr:(x,NameKind.free)∈scope.names->∃ c,(cellsFrom (C + 1) scope.names (vZ scope X.env)).lookup x=some c:=λz=>by
   obtain ⟨c,e⟩:=JN (env:=X.env) z
   exact dW.mp (dR _ _ _ (.inr (by rw [e]; rfl)))
  have ce:(x,NameKind.cell)∈scope.names->∃ c,(cellsFrom (C + 1) scope.names (vZ scope X.env)).lookup x=some c:=λz=>
   dW.mp (dR _ _ _ (.inl (gk B.nod z)))
  rcases h with h | h
  ·rcases zEl (show (relabel scope X.env).names.lookup x=some .cell from h) with ⟨_,z | z⟩ | z
   ·exact fr z
   ·exact ce z
   ·exact ce z
  ·rcases zEl (show (relabel scope X.env).names.lookup x=some .free from h) with ⟨z,_⟩ | z
   ·cases z
   ·exact fr z
 cab:=λx c h e=>by
  have hx:scope.names.lookup x=some .cell:=eq_of_beq h
  rcases WT _ _ _ e with ⟨_,z⟩ | z
  ·exact dH hC (lF z)
  ·have:=gk B.nod (qP B.free z).2
   rw [hx] at this
   cases this
 hd:=I.ok.hd
 frames:=I.ok.frames
 stk:=.inl rfl
 exf:=λb hb=>⟨λe=>by have:=hlt b hb; rw [e] at this; exact absurd (cP this hC) (df _),λx c e=>by
  rcases WU B e with ⟨_,z⟩ | z
  ·exact Zg (hlt b hb) hC z
  ·exact (hf b hb).2.2.2.2.1 x c z⟩
 bs:=I.bs
 bsz:=dH I.ok.bsz I.sz
 noex:=λb o e hb=>by
  rcases (hf b hb).2.2.2.1 with z | z
  ·exact I.ok.noex b o e z
  ·exact absurd (cP (cA e) (dH I.ok.bsz z)) (df _)
 exfs:=λb hb z=>by
  rcases cu.mp (I.stkSub b z) with e | z
  ·exact (hf b hb).2.1 e
  ·exact (hf b hb).2.2.1 z
 funs:=I.stack
 frf:=I.stkFree
theorem zNy (B:uM X scope own caps) (I:zF X pins σ H s) (hf:∀ b∈fp,yz X pins H b) (hC:s.heap.objs.size<=C) (hlt:∀ b∈fp,b < s.heap.objs.size)
  {m:Str->Option Value} (hn:s4.heap.Ns C m) (hk:∀ b o,s.heap.get? b=some o->s4.heap.get? b=some o) (hcell:∀ x c,(cellsFrom (C + 1) scope.names (vZ scope X.env)).lookup x=some c->(vZ scope X.env).lookup x=some c\/s4.heap.IsCell c none) (ho:s4.os=s.os) (hb:AllBare s4.gens) :
  zF (xA X scope (zk own caps) C s H fp) [] (uK own caps σ) H s4 where
 ok:=zQS B I hf hC hlt
 os:=ho
 bare:=hb
 base:=Un.kept hk
 loc:=⟨m,hn,λi x v h1 h2 h3=>by
  obtain ⟨j,hm,hs⟩:=zNw h1 h2
  obtain ⟨c1,c2,c3⟩:=B.caps _ hm
  obtain ⟨m',_,hl⟩:=I.loc
  have vis:gU X.env.scope x:=c3.elim (λz=>.inr (.inl z)) λz=>.inr (.inr z)
  obtain ⟨u,r,l⟩:=hl j x v c1 hs vis
  refine ⟨u,r,.inr ?_⟩
  have hm2:(x,NameKind.free)∈scope.names:=gj c2
  obtain ⟨c',hc'⟩:=JN (env:=X.env) hm2
  have hc2:=(qP B.free hc').1
  have noc:(x,NameKind.cell)∉scope.names:=λz=>by
   have:=gk B.nod z
   rw [c2] at this
   cases this
  refine ⟨?_,c',(JT _ _ _ noc).trans hc',?_⟩
  ·show (relabel scope X.env).names.lookup x=some .cell\/(relabel scope X.env).names.lookup x=some .free
   rw [zEk,c2,fN]
   split
   ·exact .inl rfl
   ·exact .inr rfl
  ·rcases l with ⟨k,_⟩ | ⟨_,c,e,z⟩
   ·rcases c3 with c3 | c3 <;> rw [c3] at k <;> cases k
   ·rw [hc2] at e
    cases e
    obtain ⟨o,e1,e2⟩:=z
    exact ⟨o,hk _ o e1,e2⟩⟩
 cell:=λx c e=>by
  rcases hcell x c e with z | z
  ·obtain ⟨v,o,e1,e2⟩:=I.cell x c (qP B.free z).1
   exact ⟨v,o,hk _ o e1,e2⟩
  ·exact ⟨none,z⟩
 free:=I.hok.fresh hC
 freeC:=λx c e=>by
  rcases WU B e with ⟨_,z⟩ | z
  ·exact I.hok.fresh (dH hC (lF z))
  ·exact I.freeC x c z
 pin:=λp hp=>by simp at hp
 hok:=I.hok.kept hk
 len:=by
  show (uK own caps σ).length=(zk own caps).length
  unfold uK zk
  simp
end
theorem zNz {X:Cx} {scope S:Scope} {own N:List Str} {caps:List (Nat × Str)} (k:scope.kind=.function) (nd:(scope.names.map (·.1)).Nodup)
  (hS:X.env.scope=S) (hc:∃ n,X.env.cells=cellsFrom n S.names []) (hN:X.N=N) (fr:scope.names.all (λy=>y.2 != .free || S.names.lookup y.1 == some .cell)=true)
  (cp:caps.all (λp=>N[p.1]? == some p.2 && scope.names.lookup p.2 == some .free && S.names.lookup p.2 == some .cell)=true):uM X scope own caps:=by
 obtain ⟨nn,hc⟩:=hc
 refine ⟨k,nd,λy hy e=>?_,λy hy e=>?_,λp hp=>?_⟩
 ·exact gk nd (by rw [<- e]; exact hy)
 ·have q:=cK.mp fr y hy
  rw [e] at q
  have q2:S.names.lookup y.1=some .cell:=by simpa using q
  rw [hc]
  exact dR S.names nn [] (.inl q2)
 ·have q:=cK.mp cp p hp
  simp only [dk,beq_iff_eq] at q
  refine ⟨by rw [hN]; exact q.1.1,q.1.2,.inl ?_⟩
  show X.env.scope.names.lookup p.2=some .cell
  rw [hS]
  exact q.2
theorem zSW {Y:Cx} {scope S:Scope} {own own0:List Str} {caps caps0:List (Nat × Str)} {C:Addr} {s₀:Shared} {H₀:Hp} {ex:List Addr} (k:scope.kind=.function) (nd:(scope.names.map (·.1)).Nodup)
  (ndS:(S.names.map (·.1)).Nodup) (fr:scope.names.all (λy=>y.2 != .free || S.names.lookup y.1 == some .cell || S.names.lookup y.1 == some .free)=true)
  (cp:caps.all (λp=>(zk own0 caps0)[p.1]? == some p.2 && scope.names.lookup p.2 == some .free)=true):uM (xA Y S (zk own0 caps0) C s₀ H₀ ex) scope own caps:=by
 have fr':∀ y∈scope.names,y.2=.free->S.names.lookup y.1=some .cell\/S.names.lookup y.1=some .free:=λy hy e=>by
  have q:=cK.mp fr y hy
  rw [e] at q
  simpa using q
 refine ⟨k,nd,λy hy e=>?_,λy hy e=>?_,λp hp=>?_⟩
 ·exact gk nd (by rw [<- e]; exact hy)
 ·show ((cellsFrom (C + 1) S.names (vZ S Y.env)).lookup y.1).isSome=true
  refine dR _ _ _ ?_
  rcases fr' y hy e with z | z
  ·exact .inl z
  ·obtain ⟨c,e⟩:=JN (env:=Y.env) (gj z)
   exact .inr (by rw [e]; rfl)
 ·have q:=cK.mp cp p hp
  simp only [dk,beq_iff_eq] at q
  refine ⟨q.1,q.2,?_⟩
  show (relabel S Y.env).names.lookup p.2=some .cell\/(relabel S Y.env).names.lookup p.2=some .free
  rw [zEk]
  rcases fr' _ (gj q.2) rfl with z | z
  ·left
   show (S.names.lookup p.2).map _=_
   rw [z]
   rfl
  ·show (S.names.lookup p.2).map _=_\/(S.names.lookup p.2).map _=_
   rw [z,fN]
   split
   ·exact .inl rfl
   ·exact .inr rfl
end L2
namespace Sh
open PySem L2
theorem qR {H:Hp} {p:Addr} (h:H p=none) (o:HO):zM H (zY H p o):=λb u q=>by rw [zc (xZ q h)]; exact q
noncomputable def Tp (H:Hp) (v:V) (xs:List V):Prop:=∃ a,v=.ref a/\H a=some (.tup xs)
theorem JW {α β:Type} {R:α->β->Prop}:∀ {xs:List α} {ys:List β} {i:Nat} {x:α},Paired R xs ys->xs[i]? = some x->∃ y,ys[i]? = some y/\R x y
 | _,_,_,_,.nil,e=>by simp at e
 | _,_,0,_,.cons r _,e=>by simp at e; subst e; exact ⟨_,rfl,r⟩
 | _,_,i + 1,x,.cons _ t,e=>by
  obtain ⟨y,h1,h2⟩:=JW (i:=i) (x:=x) t (by simpa using e)
  exact ⟨y,by simpa using h1,h2⟩
theorem Zh {α β:Type} {R:α->β->Prop} {x:α} {y:β} (r:R x y):∀ {xs:List α} {ys:List β},Paired R xs ys->Paired R (xs++[x]) (ys++[y])
 | _,_,.nil=>.cons r .nil
 | _,_,.cons q t=>.cons q (Zh r t)
theorem gl {α β:Type} {R:α->β->Prop}:∀ {xs zs:List α} {ys us:List β},Paired R xs ys->Paired R zs us->Paired R (xs++zs) (ys++us)
 | _,_,_,_,.nil,h=>h
 | _,_,_,_,.cons q t,h=>.cons q (gl t h)
theorem uN {α:Type} {l:List α} {i:Nat} {x:α} (h:l[i]? = some x):l.take (i + 1)=l.take i++[x]:=by
 obtain ⟨hi,e⟩:=cH.mp h
 rw [eG hi,e]
noncomputable abbrev Zi (H:Hp) (vs:List V) (ks:List (List Int)):Prop:=Paired (λv (k:List Int)=>Tp H v (k.map V.int)) vs ks
end Sh
namespace L2
open PySem PySem.Spec PyProof.Rows
section
variable {X:Cx}
noncomputable def Zj (K:b_):R2:=λx y H Q=>∃ d e:PyData,Dp K H x d/\Dp K H y e/\d.canLay0=true/\e.canLay0=true/\d.depth<=60/\e.depth<=60/\Q (.bl (eU d e)) H
theorem zOb (hu:X.A.units + 64 < cLine):y9 X (compareOp .Eq) (Zj X.K):=by
 intro pins s σ H x y v u Q I rx ry h
 obtain ⟨d,e,hx,hy,hc,hc',hd,hd',q⟩:=h
 obtain ⟨_,r1⟩:=hx.reads I rx
 obtain ⟨_,r2⟩:=hy.reads I ry
 exact SeqAt.compareEq_reads r1 r2 hc hc' (by omega) ⟨.bl _,H,I,rfl,q⟩
end
end L2
namespace Sh
open PySem L2
theorem JX:∀ ns ms:List Int,dY (ns.map PyData.int) (ms.map PyData.int)=decide (ns=ms)
 | [],[]=>by simp [dY]
 | [],_ :: _=>by simp [dY]
 | _ :: _,[]=>by simp [dY]
 | a :: r,b :: t=>by
  have ih:=JX r t
  simp only [cT,dY,eU,ih,List.cons.injEq]
  by_cases h1:a=b <;> by_cases h2:r=t <;> simp [h1,h2]
structure ve (ws:List Int) (n:Nat):Prop where
 len:ws.length=n
 bd:∀ w∈ws,Bd 1000 w
noncomputable def yW (rows:List (List Int)) (nums:List Int) (j:Nat):Int:=((rows.zip nums).map λp=>p.1.getD j 0 * p.2).sum
noncomputable def um (rows:List (List Int)) (tw:List Int) (o:Int) (nums:List Int) (n:Nat):Bool:=
 if o=0 then ((cR n).map (yW rows nums)).all (λx=>decide (x=0)) && decide (yW rows nums n < 0)
 else decide ((cR n).map (yW rows nums)=(tw.take n).map (o * ·)) && decide (yW rows nums n<=o * tw.getD n 0)
noncomputable def jx (n:Nat) (c:Nat->Int) (r:List Int):Int:=((cR n).map λi=>r.getD i 0 * c i).sum
end Sh
namespace L2
open PySem PySem.Spec PyProof.Rows
theorem zRf {c x y:Addr} (h:c∉[x,y]):c≠x/\c≠y:=by
 simp only [cu,cW,or_false,not_or] at h
 exact h
end L2
namespace L2
open PySem PySem.Spec PyProof.Rows
section
variable {prog:Program} {w:World} {A:Around} {E:Value->Shared->Prop} {s:Shared}
theorem zJr {T nw ini:String} {B1 B2:Builtin} {xs:List Value} {kw:List (Str × Value)} {S:PySem.Spec} {Q R1:Value->Shared->Prop} (ft:TypeCalled T nw ini)
  (c1:checkTypeCall T ⟨xs,kw⟩=pure ()) (c2:checkBuiltinCall nw ⟨.type T :: xs,kw⟩=pure ())
  (e1:entryFor table nw=some B1) (e2:entryFor table ini=some B2) (m1:Meets (B1 ⟨.type T :: xs,kw⟩) S)
  (hS:S A.in1 (wants R1 E) s)
  (nxt:∀ o s1,R1 o s1->s1.TypeIs o T/\argsOk ini ⟨o :: xs,kw⟩/\∃ S2,Meets (B2 ⟨o :: xs,kw⟩) S2/\S2 A.in1 (wants (λr s2=>r=.none/\Q o s2) E) s1) :
  wpAny (model prog w) A (call (.type T) xs kw) Q E s:=by
 obtain ⟨c,tl,k1⟩:=ft.mro
 have k2:=ft.made
 have k3:=ft.sub
 have k4:=ft.notType
 have k5:=ft.canCreate
 refine wpAny_call (codeAny_of_tree ?_)
 show wpAny _ _ (callAny (.type T) _) _ _ _
 refine wpAny_pure ⟨Code.quiet_builtin _ (by decide +kernel),codeAny_builtin F.entry_type_call ?_⟩
 rw [Around.under_plain (weight_type_call_type T xs kw) (units_type_call_type T xs kw)]
 repeat (any_goals (first | assumption | wp_step))
 refine codeAny_mono (codeAny_call_builtin ft.plain e1 (wpAny_of_eq c2 (m1 prog w A.in1 _ s hS))) λr s1 z=>?_
 cases r with
 | error e=>exact z
 | ok fl=>
  cases fl with
  | ret o=>
   obtain ⟨hT,ok,S2,m2,z2⟩:=nxt _ _ z
   have l1:=ft.init.lookup
   have l2:=ft.init.bind o
   repeat (any_goals (first | assumption | wp_step))
   refine codeAny_mono (codeAny_call_builtin ft.init.plain e2 (ft.init.check _ _ _ _ _ _ _ _ hT ok (m2 prog w A.in1 _ s1 z2))) λr2 s2 y=>?_
   cases r2 with
   | error e=>exact y
   | ok fl2=>
    cases fl2 with
    | ret r=>
     obtain ⟨rfl,y⟩:=y
     repeat (any_goals (first | assumption | wp_step))
    | _=>exact y.elim
  | _=>exact z.elim
theorem zNY {T nw:String} {o a:Value} {kw:List (Str × Value)} (h1:typeLookup (.type T) "__init__" = pure (some (.builtin "object.__init__")))
  (h2:Bind.madeBy (.type T)=pure (some nw)) (h3:(some nw != some "object.__new__")=true) :
  Meets (Builtin.«object.__init__» ⟨[o,a],kw⟩) (λ_ R s=>s.TypeIs o T/\R (.ok (.ret .none)) s):=by
 refine Meets.of_wp λprog w A R s z=>?_
 obtain ⟨hT,q⟩:=z
 repeat (any_goals (first | assumption | wp_step))
 exact ⟨_,rfl,q⟩
theorem zNZ (o a v:Value):argsOk "object.__init__" ⟨[o,a],[("start",v)]⟩:=by
 unfold argsOk
 rw [signature?_of (id:="object.__init__") (n:=['_','_','t','i','n','i','_','_'])
  (o:=['t','c','e','j','b','o']) (by kernel_rfl) F.owner_object]
 kernel_rfl
theorem zSP (a v:Value):checkTypeCall "enumerate" ⟨[a],[("start",v)]⟩=pure ():=by kernel_rfl
theorem zSR (a v:Value):checkBuiltinCall "enumerate.__new__" ⟨[.type "enumerate",a],[("start",v)]⟩=pure ():=by kernel_rfl
end
open AutoSeq1 in
theorem zIk (l:Addr) (its:Array Value) (m:Nat) (dct:Option Addr) (sl:Array (Option Value)) (n:Int) (tn:Tok) (fit:Builtin.SmallTypes.fitsIndex n=true) :
  Meets (Builtin.«enumerate.__new__» ⟨[.type "enumerate",.ref l],[("start",.int n tn)]⟩) (λ_ R s=>s.heap.get? l=some { cls:=.type "list",dict:=dct,data:=.seq its m,slots:=sl }∧
   R (.ok (.ret (.ref (s.heap.push { cls:=.type "list_iterator",data:=.fields #[.ref l,.int 0 0] }).objs.size)))
    { s with heap:=(s.heap.push { cls:=.type "list_iterator",data:=.fields #[.ref l,.int 0 0] }).push { cls:=.type "enumerate",data:=.fields #[.none,.bool false,.ref s.heap.objs.size,rawInt n,.none,.none] } }):=
 .of_wp λprog w A R s z=>by
  obtain ⟨hp,g,d,tk,os⟩:=s
  obtain ⟨e1,z⟩:=z
  have k0:=sub_enumerate
  have k1:iY (Shared.heap ⟨hp,g,d,tk,os⟩) l its:=⟨_,e1,rfl,m,rfl⟩
  wp_walk using wpAny_loadPart' e1
  refine wpAny_stack_any λst=>wpAny_pure ?_
  split
  ·rename_i c _ _ _ _ _
   cases (c == Value.type "enumerate")
   ·wp_walk using wpAny_loadPart' e1,wpAny_pyIter_list k1
    simp only [fit,i8,dL,if_false]
    wp_walk using wpAny_loadPart' e1,wpAny_pyIter_list k1
    exact ⟨_,rfl,z⟩
   ·wp_walk using wpAny_loadPart' e1,wpAny_pyIter_list k1
    simp only [fit,i8,dL,if_false]
    wp_walk using wpAny_loadPart' e1,wpAny_pyIter_list k1
    exact ⟨_,rfl,z⟩
  ·wp_walk using wpAny_loadPart' e1,wpAny_pyIter_list k1
   simp only [fit,i8,dL,if_false]
   wp_walk using wpAny_loadPart' e1,wpAny_pyIter_list k1
   exact ⟨_,rfl,z⟩
section
variable {prog:Program} {w:World} {A:Around} {E:Value->Shared->Prop} {s:Shared}
theorem zKO {l:Addr} {its:Array Value} {n:Int} {tn:Tok} {Q:Value->Shared->Prop} (hL:s.heap.IsList l its) (fit:Builtin.SmallTypes.fitsIndex n=true)
  (k:∀ g,IsEnum g (s.heap.objs.size + 1) s.heap.objs.size n .none->g.IsListIter s.heap.objs.size l 0->
   (∀ b o,s.heap.get? b=some o->g.get? b=some o)->Q (.ref (s.heap.objs.size + 1)) { s with heap:=g }) :
  wpAny (model prog w) A (call (.type "enumerate") [.ref l] [("start",.int n tn)]) Q E s:=by
 obtain ⟨⟨c,dc,dt,sl⟩,el,ec,m,ed⟩:=hL
 replace ec:c=.type "list":=ec
 replace ed:dt=.seq its m:=ed
 subst ec ed
 refine zJr (R1:=λo s1=>s1.TypeIs o "enumerate"/\Q o s1) F.called_enumerate (zSP _ _) (zSR _ _) F.entry_enumerate_new F.entry_object_init
  (zIk l its m dc sl n tn fit) ⟨el,?_⟩ (λo s1 q=>⟨q.1,zNZ o _ _,_,zNY F.called_enumerate.init.lookup F.called_enumerate.made (by decide),q.1,rfl,q.2⟩)
 have sz:(s.heap.push { cls:=.type "list_iterator",data:=.fields #[.ref l,.int 0 0] }).objs.size=s.heap.objs.size + 1:=
  dl ..
 show _/\_
 rw [sz]
 have ee:IsEnum ((s.heap.push { cls:=.type "list_iterator",data:=.fields #[.ref l,.int 0 0] }).push
   { cls:=.type "enumerate",data:=.fields #[.none,.bool false,.ref s.heap.objs.size,rawInt n,.none,.none] }) (s.heap.objs.size + 1) s.heap.objs.size n .none:=by
  have y:=cy (s.heap.push { cls:=.type "list_iterator",data:=.fields #[.ref l,.int 0 0] })
   (o:={ cls:=.type "enumerate",data:=.fields #[.none,.bool false,.ref s.heap.objs.size,rawInt n,.none,.none] }) rfl
  rw [sz] at y
  exact y
 exact ⟨⟨_,ee,rfl⟩,k _ ee ⟨_,ci _ (cy _ rfl),rfl,rfl⟩ λb o x=>ci _ (ci _ x)⟩
theorem zOs {it l:Addr} {its:Array Value} (k:Nat) (hh:A.handled=none) (ne:l≠it) :
  Draws prog w A it [it,l] (k + its.size) (λj x=>its[j - k]? = some x) (λj h=>k<=j/\h.IsListIter it l (j - k)/\h.IsList l its) where
 live:=λj h ⟨_,⟨o,e,_⟩,_⟩=>⟨o,e⟩
 frame:=λj h h' ⟨a,⟨o,e,r⟩,⟨o2,e2,r2⟩⟩ kp=>⟨a,⟨o,kp it (by simp) o e,r⟩,⟨o2,kp l (by simp) o2 e2,r2⟩⟩
 item:=λj s Q E lt ⟨le,hi,hl⟩ kQ=>by
  have jl:j - k < its.size:=by omega
  refine wpAny_nextOf_list_item hi hl (x:=its[j - k]) (by simp [jl]) λg gi same=>?_
  refine kQ _ g s.toks (by simp [jl]) ⟨by omega,?_,hl.extBut same.extBut ne⟩ same
  rw [show j + 1 - k=j - k + 1 by omega]
  exact gi
 done:=λs Q E ⟨le,hi,hl⟩ kE=>wpAny_nextOf_list_end hh hi hl (by simp) kE
end
section
variable {M:Model} {A:Around} {E:Value->Shared->Prop} {s:Shared}
theorem zQP {pos:Pos} {T:String} {x:Sem Value} {more:List (Bool × Sem Value)} {kws:List (Option Str × Sem Value)} {Q:Value->Shared->Prop}
  (p1:more.any (·.1)=false) (p2:kws.any (·.1.isNone)=false) (p3:kws.all (·.1.isSome)=true)
  (h:wpAny M A (spliced ((false,x) :: more)) (λvs s1=>wpAny M A (evalAll (kws.map (·.2))) (λks s2=>wpAny M A (call (.type T) vs ((kws.filterMap (·.1)).zip ks)) Q E s2) E s1) E s) :
  wpAny M A (callWith pos (.type T) [] ((false,x) :: more) kws) Q E s:=by
 unfold callWith
 refine wpAny_bind (wpAny_holding (wpAny_mono (evalArgs_kwB (f:=.type T) (Q:=λa s1=>wpAny M A (call (.type T) a.pos a.kw) Q E s1) p3 h) (λa s1 q=>wpAny_bind (wpAny_standAt ?_)) λ_ _ z=>z))
 have e:(((false,x) :: more).any (·.1))=false:=by
  show (false || more.any (·.1))=false
  rw [p1]
  rfl
 simp only [e,p2,Bool.or_false]
 refine wpAny_bind (wpAny_pure ?_)
 exact wpAny_bind (wpAny_mono q (λr s2 y=>wpAny_bind (wpAny_holding (wpAny_point (wpAny_pure y)))) λ_ _ z=>z)
end
noncomputable def qS (K:b_) (a:Addr) (k:Nat):It:=
 ⟨λi H=>∃ xs x,zZ K H a xs/\xs[i]? = some x,
  λi H v H'=>∃ T x,v=.ref T/\H T=none/\H'=zY H T (.tup [.int ((k + i:Nat):Int),x])/\∀ xs,zZ K H a xs->xs[i]? = some x,
  λi H=>∃ xs,zZ K H a xs/\i=xs.length⟩
theorem zJu {P:Program} {w:World} {K:b_} {es:List Expr} {kk:Nat} {tp:Pos} {a e it:Addr} {k:Nat} (ne:e≠it) (nl:a≠it) :
  vC P w K (.Tuple es kk tp) (qS K a k) [e,it] e (λi h=>(∃ old,IsEnum h e it ((k + i:Nat):Int) old)/\h.IsListIter it a i) where
 mem:=by simp
 obj:=λi h ⟨⟨old,t1⟩,t2⟩ c hc=>by
  simp only [cu,cW,or_false] at hc
  rcases hc with rfl | rfl
  ·exact ⟨_,t1,jY⟩
  ·obtain ⟨o,e,_,d⟩:=t2
   exact ⟨o,e,by rw [d]; exact jY⟩
 keep:=λi h h' ⟨⟨old,t1⟩,t2⟩ z=>⟨⟨old,z e (by simp) _ t1⟩,(by obtain ⟨o,q,r⟩:=t2; exact ⟨o,z it (by simp) o q,r⟩)⟩
 item:=by
  intro X hP hw hK hc i pins s σ H E I hf ⟨⟨old,t1⟩,t2⟩ hg
  subst hP hw hK
  obtain ⟨xs,x,hq,hx⟩:=hg
  obtain ⟨its,rv,p,_⟩:=I.list hq
  obtain ⟨u,hu,ru⟩:=rv.get hx
  have li:i < its.length:=(cH.mp hu).1
  have nea:e≠a:=λz=>by
   obtain ⟨o,eo,cl,_⟩:=p.isList
   rw [z] at t1
   rw [t1] at eo
   cases eo
   have cl2:Value.type "enumerate" = Value.type "list":=cl
   exact absurd (Value.type.inj cl2) (by decide)
  have D:=zOs (prog:=X.prog) (w:=X.w) (A:=X.A.in1) (it:=it) (l:=a) (its:=its.toArray) k (I.ok.hd hc) nl
  refine wpAny_pyNext_enum_itemD D (i:=k + i) t1 ⟨by omega,by rw [iy]; exact t2,p.isList⟩ (by simp; omega) ne (by simp [ne,nea]) ?_
  intro v h1 tk hv z1 z2 z3 z4 keep
  rw [iy] at hv
  have ev:v=u:=by
   have:its[i]? = some v:=by simpa using hv
   rw [hu] at this
   exact (Option.some.inj this).symm
  subst ev
  refine ⟨_,rfl,wpAny_letOwnedTupleGo_enum (s:={ s with heap:=h1,toks:=tk + 1 }) z1 λh2 z5 sb=>?_⟩
  have elt:e < s.heap.objs.size:=cA t1
  have keep2:∀ c o,c∉[e,it]->s.heap.get? c=some o->h2.get? c=some o:=λc o hc q=>by
   obtain ⟨c1,c2⟩:=zRf hc
   exact sb.extBut c o c1 (keep c o c1 c2 q)
  have pT:IsPair h2 s.heap.objs.size (.int ((k + i:Nat):Int) tk) v:=sb.extBut _ _ (eM elt) z3
  have I':=I.turnT (h':=h2) (tk:=tk + 1) (ch:=[e,it]) (x:=.int ((k + i:Nat):Int)) (y:=x) hf keep2 (cD _) pT ⟨_,rfl⟩ ru
  have z2':h1.IsListIter it a (i + 1):=by
   have:=z2.2.1
   rw [show k + i + 1 - k=i + 1 by omega] at this
   exact this
  refine ⟨.ref s.heap.objs.size,_,I',rfl,⟨s.heap.objs.size,x,rfl,I.hok.fresh (cD _),rfl,λxs' q=>by rw [I.list_inj q hq]; exact hx⟩,
   ⟨⟨v,by rw [show ((k + (i + 1):Nat):Int)=((k + i:Nat):Int) + 1 by omega]; exact z5⟩,z2'.extBut sb.extBut (Ne.symm ne)⟩,λc hc=>?_⟩
  have:=(hf c hc).1
  rw [zc]
  ·exact this
  ·intro q
   obtain ⟨o,e1⟩:∃ o,s.heap.get? c=some o:=by
    simp only [cu,cW,or_false] at hc
    rcases hc with rfl | rfl
    ·exact ⟨_,t1⟩
    ·obtain ⟨o,e1,_⟩:=t2; exact ⟨o,e1⟩
   rw [q] at e1
   exact absurd (cA e1) (df _)
 done:=by
  intro X hP hw hK hc i pins s σ H E I hf ⟨⟨old,t1⟩,t2⟩ hg
  subst hP hw hK
  obtain ⟨xs,hq,e1⟩:=hg
  obtain ⟨its,rv,p,_⟩:=I.list hq
  have n1:its.length=xs.length:=rv.length.symm
  have D:=zOs (prog:=X.prog) (w:=X.w) (A:=X.A.in1) (it:=it) (l:=a) (its:=its.toArray) k (I.ok.hd hc) nl
  refine wpAny_pyNext_enum_endD D t1 ⟨by simp,by simp; rw [n1,<- e1]; exact t2,p.isList⟩ ?_
  intro h1 ext
  refine ⟨rfl,I.turnN (h':=h1) (tk:=s.toks) (ch:=[e,it]) hf λc o hc q=>?_⟩
  exact ext c o (zRf hc).2 q
 self:=λ_ _ _ _ _ ⟨⟨_,st⟩,_⟩ h=>wpAny_pyIter_enum st h
section
variable {X:Cx} {es:List Expr} {kk:Nat} {tp:Pos}
noncomputable def zR4 (K:b_) (ta:TA) (te:TE):TI:=λσ H R=>ta σ H λvs H1=>∃ a,vs=[.ref a]/\te σ H1 λv H2=>∃ k:Nat,v=.int (k:Int)/\Builtin.SmallTypes.fitsIndex (k:Int)=true/\(∃ xs,zZ K H2 a xs)/\R (qS K a k) H2
theorem zNH {e1 e2:Expr} {ta:TA} {te:TE} {p pos kp:Pos} (hg:Gl X "enumerate") (hm:X.mg "enumerate" = none) (ha:PA X [e1] ta) (he:PE X e2 te) (hs:starEach [e1] X.env=[(false,eval e1 X.env)]:=by rfl) (hs2:starEach [] X.env=[]:=by rfl) :
  PI X (.Tuple es kk tp) (.Call (.Name "enumerate" p) [e1] [⟨some "start",e2,kp⟩] pos) (zR4 X.K ta te):=by
 intro pins s σ H R I h
 refine wpAny_Call_Name_kw (qG I hg hm (show bootBuiltins "enumerate" = some (.type "enumerate") by decide +kernel) ?_)
 have h1:=ha pos pins s σ H _ I h
 rw [hs] at h1 |-
 refine zQP (T:="enumerate") rfl rfl rfl (zp h1 λus s1 ⟨vs,H1,I1,r1,q1⟩=>?_)
 obtain ⟨a,e,q2⟩:=q1
 subst e
 obtain ⟨u,rfl,ru⟩:=jW r1
 cases ru
 refine kws_cons (zp (he pins s1 σ H1 _ I1 q2) λu2 s2 ⟨v,H2,I2,r2,q3⟩=>kws_nil ?_)
 obtain ⟨k,rfl,fit,⟨xs,hx⟩,q⟩:=q3
 obtain ⟨tk,rfl⟩:=r2
 obtain ⟨its,rv,p1,_⟩:=I2.list hx
 have la:a < s2.heap.objs.size:=by obtain ⟨o,n,e,_⟩:=p1; exact cA e
 refine zKO p1.isList fit λh' z1 z2 keep=>wpAny_pyIter_enum z1 ?_
 have I3:zF X pins σ H2 { s2 with heap:=h' }:=I2.kept (t':=s2.toks) keep
 refine ⟨s2.heap.objs.size + 1,[s2.heap.objs.size + 1,s2.heap.objs.size],_,_,H2,rfl,I3,zJu (a:=a) (k:=k) (Nat.succ_ne_self _) (de la),⟨⟨_,z1⟩,z2⟩,λc hc=>?_,q⟩
 have ge:s2.heap.objs.size<=c:=by
  simp only [cu,cW,or_false] at hc
  rcases hc with rfl | rfl
  ·exact dA _ 1
  ·exact cD _
 exact I2.fpOk ge (I2.hok.fresh ge)
end
end L2
namespace Sh
open PySem L2
inductive Kd where
 | int | bool | non | str | lst | tup | dic
 deriving DecidableEq
noncomputable def Kd.nm:Kd->String
 | .int=>"int" | .bool=>"bool" | .non=>"NoneType" | .str=>"str" | .lst=>"list" | .tup=>"tuple" | .dic=>"dict"
noncomputable def Kd.whole:Kd->Bool
 | .int=>true
 | _=>false
noncomputable def Kd.isInt:Kd->Bool
 | .int=>true
 | .bool=>true
 | _=>false
noncomputable def Kd.isBool:Kd->Bool
 | .bool=>true
 | _=>false
noncomputable def Kd.isTup:Kd->Bool
 | .tup=>true
 | _=>false
noncomputable def Kd.isLst:Kd->Bool
 | .lst=>true
 | _=>false
section
variable (K:b_)
theorem qU (k:Kd):cO K (.type k.nm) (.type "int")=some k.isInt:=by
 cases k <;> first | rfl | decide +kernel | (unfold cO; rw [if_pos (by decide +kernel)]; rfl) | (unfold cO; rw [if_neg (by decide +kernel)]; rfl)
theorem qV (k:Kd):cO K (.type k.nm) (.type "bool")=some k.isBool:=by
 cases k <;> first | rfl | decide +kernel | (unfold cO; rw [if_pos (by decide +kernel)]; rfl) | (unfold cO; rw [if_neg (by decide +kernel)]; rfl)
theorem jF (k:Kd):cO K (.type k.nm) (.type "tuple")=some k.isTup:=by
 cases k <;> first | rfl | decide +kernel | (unfold cO; rw [if_pos (by decide +kernel)]; rfl) | (unfold cO; rw [if_neg (by decide +kernel)]; rfl)
theorem jG (k:Kd):cO K (.type k.nm) (.type "list")=some k.isLst:=by
 cases k <;> first | rfl | decide +kernel | (unfold cO; rw [if_pos (by decide +kernel)]; rfl) | (unfold cO; rw [if_neg (by decide +kernel)]; rfl)
end
end Sh
namespace L2
open PySem PySem.Spec PyProof.Rows
structure yi (K:b_) (mg:Str->Option Value) (x:Str) (C:Addr):Prop where
 cl:uj K C
 mgC:mg x=some (.ref C)
 ha:dJ K (.ref C) "__class__" = some (some (.builtin "object.__class__"))
 hn:lj K (.builtin "object.__class__") "__get__" = some (some (.builtin "getset_descriptor.__get__"))
 htk:l7 K (.builtin "object.__class__")=some true
 hm:mo K C (.type "object")=some true
theorem yi.ty {K:b_} {mg:Str->Option Value} {x:Str} {C a dx:Addr} {H:Hp} {fs:List (Str × V)} (T:yi K mg x C) (e:H a=some (.ins C dx fs)):yT K H (.ref a) (.ref C):=.ins e T.cl T.ha T.hn T.htk T.hm
structure uo (P:Program) (w:World) (K:b_) (mg:Str->Option Value) (base:Heap) (C:Addr) (m:Str) (ps:List Str) (k:Nat) (sp:Sp):Prop where
 ex:∃ f fd,zE P w K mg base zU k f fd ps sp/\qK K C m f/\wx K fd ps []
structure jH (P:Program) (w:World) (K:b_) (mg:Str->Option Value) (base:Heap) (C:Addr) (ps:List Str) (k:Nat) (sp:Sp):Prop where
 ex:∃ f fd,zE P w K mg base zU k f fd ps sp/\Mk K C f/\wx K fd ps []
structure wp (P:Program) (w:World) (K:b_) (mg:Str->Option Value) (base:Heap) (C:Addr) (ps:List Str) (k:Nat) (sp:Sp) (dv:V):Prop where
 ex:∃ f fd d,zE P w K mg base zU k f fd ps sp/\Mk K C f/\wx K fd ps []/\wx K fd ps [d]/\zS dv d
theorem uo.mono {P:Program} {w:World} {K:b_} {mg:Str->Option Value} {base:Heap} {C:Addr} {m:Str} {ps:List Str} {j k:Nat} {sp:Sp} (F:uo P w K mg base C m ps j sp) (h:j<=k:=by decide):uo P w K mg base C m ps k sp:=by
 obtain ⟨f,fd,a,b,c⟩:=F.ex
 exact ⟨f,fd,a.mono h,b,c⟩
theorem jH.mono {P:Program} {w:World} {K:b_} {mg:Str->Option Value} {base:Heap} {C:Addr} {ps:List Str} {j k:Nat} {sp:Sp} (F:jH P w K mg base C ps j sp) (h:j<=k:=by decide):jH P w K mg base C ps k sp:=by
 obtain ⟨f,fd,a,b,c⟩:=F.ex
 exact ⟨f,fd,a.mono h,b,c⟩
theorem wp.mono {P:Program} {w:World} {K:b_} {mg:Str->Option Value} {base:Heap} {C:Addr} {ps:List Str} {j k:Nat} {sp:Sp} {dv:V} (F:wp P w K mg base C ps j sp dv) (h:j<=k:=by decide):wp P w K mg base C ps k sp dv:=by
 obtain ⟨f,fd,d,a,b,c⟩:=F.ex
 exact ⟨f,fd,d,a.mono h,b,c⟩
theorem wp.fn {P:Program} {w:World} {K:b_} {mg:Str->Option Value} {base:Heap} {C:Addr} {ps:List Str} {k:Nat} {sp:Sp} {dv:V} (F:wp P w K mg base C ps k sp dv):jH P w K mg base C ps k sp:=by
 obtain ⟨f,fd,d,a,b,c,_⟩:=F.ex
 exact ⟨f,fd,a,b,c⟩
section
variable {X:Cx} {C:Addr} {m x:Str} {ps:List Str} {k:Nat} {sp:Sp} {o e:Expr} {es:List Expr} {ta:TE} {t:TA} {p pos apos:Pos} {dv:V}
theorem zLE {pl:Sem Bool} (F:uo X.prog X.w X.K X.mg X.base C m ps k sp) (T:yi X.K X.mg x C) (hr:zX k X.A) (he:PE X o ta)
  (ht:eval (.Call (.Attribute o m apos) [] [] pos) X.env=(do
   let ov <- eval o X.env
   standAt apos.atName
   let (f,first) <- holding [ov] (getMethod ov m pl)
   callWith pos f first (backTo pos (starEach [] X.env)) (backToKw pos (keywordEach [] X.env))):=by rfl) :
  PE X (.Call (.Attribute o m apos) [] [] pos) (zQm C m sp [] E0 ta wn):=by
 obtain ⟨f,fd,a,b,c⟩:=F.ex
 exact zNJ he T.cl b a hr c .nil Zc ht
theorem zNK (F:jH X.prog X.w X.K X.mg X.base C ps k sp) (T:yi X.K X.mg x C) (hr:zX (k + 1) X.A) (hg:Gl X x) (ha:PA X (e :: es) t)
  (hdb:(x == ("__debug__" : Str))=false:=by decide) (he:starEach (e :: es) X.env=(false,eval e X.env) :: starEach es X.env:=by rfl) (hpl:(backTo pos (starEach es X.env)).any (·.1)=false:=by rfl) :
  PE X (.Call (.Name x p) (e :: es) [] pos) (ZW C sp [] E0 t):=by
 obtain ⟨f,fd,a,b,c⟩:=F.ex
 exact zLG b a hr hg T.mgC c .nil Zc ha hdb he hpl
theorem zLF (F:wp X.prog X.w X.K X.mg X.base C ps k sp dv) (T:yi X.K X.mg x C) (hr:zX (k + 1) X.A) (hg:Gl X x) (ha:PA X (e :: es) t)
  (hdb:(x == ("__debug__" : Str))=false:=by decide) (he:starEach (e :: es) X.env=(false,eval e X.env) :: starEach es X.env:=by rfl) (hpl:(backTo pos (starEach es X.env)).any (·.1)=false:=by rfl) :
  PE X (.Call (.Name x p) (e :: es) [] pos) (ZW C sp [dv] E0 t):=by
 obtain ⟨f,fd,d,a,b,_,c,r⟩:=F.ex
 exact zLG b a hr hg T.mgC c (.cons r .nil) Zc ha hdb he hpl
theorem qW (T:yi X.K X.mg x C) (hg:Gl X x) (hd:(x == ("__debug__" : Str))=false:=by decide):PE X (.Name x pos) (tC (.ref C)):=zLI hg T.mgC rfl hd
noncomputable def zOP (K:b_):List V->Hp->VK->Prop:=λxs H Q=>∃ x C t b,xs=[x,.ref C]/\yT K H x t/\cO K t (.ref C)=some b/\Q (.bl b) H
theorem qX:vD X (.builtin "isinstance") (zOP X.K):=by
 intro pins s σ H xs us Q I r h
 obtain ⟨x,C,t,b,rfl,ty,e,q⟩:=h
 obtain ⟨u,v,rfl,ru,rv⟩:=gf r
 cases (show v=Value.ref C from rv)
 exact zHr I ru ty e λtk=>⟨.bl b,H,I.tok tk,rfl,q⟩
end
end L2
namespace L2
open PySem PySem.Spec PyProof.Rows
open PySem
noncomputable def SqE (K:b_) (H:Hp) (a:Addr) (xs:List V):Prop:=yQ K H a xs\/zZ K H a xs
section
variable {X:Cx} {es:List Expr} {kk:Nat} {tp:Pos}
theorem JY {pins:List (Addr × Obj)} {σ:St} {H:Hp} {s:Shared} (I:zF X pins σ H s) {c:Addr} (hc:c∈[s.heap.objs.size + 4,s.heap.objs.size + 2,s.heap.objs.size + 3,s.heap.objs.size,s.heap.objs.size + 1]):yz X pins H c:=by
 have ge:s.heap.objs.size<=c:=by
  simp only [cu,cW,or_false] at hc
  rcases hc with rfl | rfl | rfl | rfl | rfl
  ·exact dA _ 4
  ·exact dA _ 2
  ·exact dA _ 3
  ·exact cD _
  ·exact dA _ 1
 exact I.fpOk ge (I.hok.fresh ge)
noncomputable def Zk (K:b_):R2:=λx y H Q=>∃ p xs i v,x=.ref p/\y=.int i/\SqE K H p xs/\yx xs i=some v/\Q v H
theorem zP1:ZZ X (Zk X.K):=by
 intro value slice pins s σ H x y v u Q I rx ry h hs
 obtain ⟨p,xs,i,z,e1,e2,hq,he,q⟩:=h
 rcases hq with hq | hq
 ·exact zOf value slice pins s σ H x y v u Q I rx ry ⟨p,xs,i,z,e1,e2,hq,he,q⟩ hs
 ·exact zLs value slice pins s σ H x y v u Q I rx ry ⟨p,xs,i,z,e1,e2,hq,he,q⟩ hs
end
section
variable {prog:Program} {w:World} {A:Around} {E:Value->Shared->Prop}
theorem zSS {it l:Addr} {xs:Array Value} (ne:l≠it):∀ (m j:Nat) (s:Shared) (R:List Value->Shared->Prop),s.heap.IsListIter it l j->s.heap.IsList l xs->j + m<=xs.size->
  (∀ g,g.IsListIter it l (j + m)->Heap.SameBut it s.heap g->R ((xs.toList.drop j).take m) { s with heap:=g })->wpAny (model prog w) A (draw (.ref it) m) R E s
 | 0,j,s,R,hi,_,_,k=>wpAny_pure (by simpa using k s.heap hi (Heap.SameBut.refl ..))
 | m + 1,j,s,R,hi,hl,le,k=>by
  have lt:j < xs.size:=by omega
  have step:=λg (z:Heap.SameBut it s.heap g)=>(hl.extBut z.extBut ne:g.IsList l xs)
  show wpAny _ _ (pyNext (.ref it) >>= _) R E s
  refine wpAny_bind (wpAny_pyNext_list_item hi hl (x:=xs[j]) (by simp [lt]) λg1 i1 b1=>?_)
  refine wpAny_bind (wpAny_holding (zSS ne m (j + 1) _ _ i1 (step g1 b1) (by omega) λg2 i2 b2=>wpAny_pure ?_))
  have z:=k g2 (by rw [show j + (m + 1)=j + 1 + m by omega]; exact i2) (b1.trans b2)
  rw [show xs.toList.drop j=xs[j] :: xs.toList.drop (j + 1) by simp [List.drop_eq_getElem_cons,lt],ib] at z
  exact z
theorem zRt {s:Shared} {l:Addr} {xs:Array Value} {R:List Value->Shared->Prop} (hd:A.handled=none) (hl:s.heap.IsList l xs)
  (k:∀ g,Heap.ExtBut s.heap.objs.size s.heap g->R xs.toList { s with heap:=g }):wpAny (model prog w) A (unpackItems (.ref l) xs.size none) R E s:=by
 have ne:l≠s.heap.objs.size:=by
  obtain ⟨o,eo,_⟩:=hl
  exact de (cA eo)
 unfold unpackItems
 refine wpAny_bind ?_
 unfold notIterableAtAll
 refine wpAny_bind (wpAny_specialOf hl.typeIs slot_list_iter.lookup ?_)
 refine wpAny_pure ?_
 simp only [dL,if_false]
 refine wpAny_bind (wpAny_holding (wpAny_pyIter_list hl ?_))
 refine wpAny_bind (wpAny_holding (zSS ne xs.size 0 _ _ ⟨_,cy _ rfl,rfl,rfl⟩ (hl.push _) (by omega) λg1 i1 b1=>?_))
 rw [show List.take xs.size (List.drop 0 xs.toList)=xs.toList by rw [iU]; exact cL (by simp),if_neg (by simp)]
 refine wpAny_bind (wpAny_holding (wpAny_pyNext_list_end hd i1 ((hl.push _).extBut b1.extBut ne) (by simp) λg2 x2=>?_))
 simp only [Option.isSome_none,dL,if_false]
 exact wpAny_pure (k g2 λc o n e=>x2 c o n (b1.extBut c o n (ci _ e)))
end
section
variable {X:Cx} {pos:Pos}
noncomputable def JZ (K:b_) (n:Nat) (t:jT):TG:=λv σ H Q=>∃ a xs,v=.ref a/\zZ K H a xs/\xs.length=n/\t xs σ H Q
theorem zRC {es:List Expr} {k:Nat} {t:jT} {n:Nat} (hc:X.calm=true) (h:gZ X es t)
  (hn:(assignEach es X.env).length=n:=by rfl) (hst:(assignEach es X.env).findIdx? (·.1)=none:=by rfl):PG X (.Tuple es k pos) (JZ X.K n t):=by
 intro pins s σ H v u Q I r hw
 obtain ⟨a,xs,e1,hq,hl,hw⟩:=hw
 subst e1
 cases r
 obtain ⟨its,rv,ht,hz⟩:=I.list hq
 rw [assign_Tuple]
 refine wpAny_bind (wpAny_standAt ?_)
 unfold unpack
 rw [show (assignEach es X.env).length=its.toArray.size by simp [hn,<- hl,rv.length],hst]
 refine wpAny_bind (wpAny_holding (zRt (I.ok.hd hc) ht.isList λg hx=>?_))
 have I1:zF X pins σ H { s with heap:=g }:=I.kept (t':=s.toks) λb o e=>hx b o (de (cA e)) e
 exact h pins _ σ H xs _ Q I1 (by simpa using rv) hw
end
end L2
namespace L2
open PySem PySem.Spec PyProof.Rows
inductive vH (i:Nat) (σ:St) (H:Hp) (Q:VK):Prop
 | mk (v:V) (_:σ[i]? = some (some v)) (_:Q v H):vH i σ H Q
inductive JIx (S:Hp->Addr->List V->Prop) (x y:V) (H:Hp) (Q:VK):Prop
 | mk (p:Addr) (xs:List V) (i:Int) (v:V) (_:x=.ref p) (_:y=.int i) (_:S H p xs) (_:yx xs i=some v) (_:Q v H):JIx S x y H Q
inductive qY (x:V) (vs:List V) (H:Hp) (Q:VK):Prop
 | mk (l:Addr) (xs:List V) (y:V) (_:x=.ref l) (_:vs=[y]) (_:H l=some (.lst xs)) (_:xs.length < sizeLine) (_:Q .non (zY H l (.lst (xs++[y])))):qY x vs H Q
inductive Ja (K:b_) (xs:List V) (H:Hp) (Q:VK):Prop
 | mk (x:V) (c:String) (t:Value) (b:Bool) (_:xs=[x,.ty c]) (_:yT K H x t) (_:cO K t (.type c)=some b) (_:Q (.bl b) H):Ja K xs H Q
section
variable {X:Cx}
theorem yZ:JH X "list.append" qY:=λpins s σ H x xs v us Q I rx rv ⟨l,ys,y,h1,h2,h3,h4,q⟩=>zLl pins s σ H x xs v us Q I rx rv ⟨l,ys,y,h1,h2,h3,h4,q⟩
theorem Zl:vD X (.builtin "isinstance") (Ja X.K):=λpins s σ H xs us Q I r ⟨x,c,t,b,h1,h2,h3,q⟩=>vG pins s σ H xs us Q I r ⟨x,c,t,b,h1,h2,h3,q⟩
theorem yO (i:Nat) {x:Str} {pos:Pos} (hN:X.N[i]? = some x:=by rfl) (hv:gU X.env.scope x:=by first | exact Or.inl rfl | exact Or.inr (Or.inl rfl) | exact Or.inr (Or.inr rfl)) (hd:(x == ("__debug__" : Str))=false:=by decide)
  (hcd:(x == ("__classdict__" : Str))=false:=by decide):PE X (.Name x pos) (vH i):=λpins s σ H Q I ⟨v,e,h⟩=>zOX hN hv hd hcd pins s σ H Q I ⟨v,e,h⟩
theorem zLr:ZZ X (JIx (yQ X.K)):=λa b pins s σ H x y v u Q I rx ry ⟨p,xs,i,w,hx,hy,hs,ha,q⟩=>zOf a b pins s σ H x y v u Q I rx ry ⟨p,xs,i,w,hx,hy,hs,ha,q⟩
end
end L2
namespace Sh
open PySem L2
noncomputable def Jb (H:Hp) (v:V) (r:List Int):Prop:=∃ a,v=.ref a/\H a=some (.lst (r.map V.int))
noncomputable abbrev Zm (H:Hp) (vs:List V) (tab:List (List Int)):Prop:=Paired (Jb H) vs tab
structure MD where
 rows:List (List Int)
 nexts:List (List Int)
 steer:List Int
 push:List (List Int)
 add:List Int
 div:Int
structure wq (m:MD) (n p:Nat):Prop where
 rows:∀ r∈m.rows,r.length=n + 1
 few:m.rows.length<=900
 nexts:m.nexts.length=n/\∀ r∈m.nexts,r.length=n
 steer:m.steer.length=n
 push:m.push.length=n/\∀ r∈m.push,r.length=p
 add:m.add.length=n
 div:1<=m.div
 n3:n<=3
 p6:p<=12
noncomputable def Zn (r n s p a:V) (d:Int):List (Str × V):=[("rows",r),("nexts",n),("steer",s),("push",p),("add",a),("divisor",.int d)]
structure zO3 (C:Addr) (H:Hp) (o:Addr) (m:MD) where
 dx:Addr
 r:Addr
 rv:List V
 n:Addr
 nv:List V
 s:Addr
 p:Addr
 pv:List V
 a:Addr
structure zO3.Ok {C:Addr} {H:Hp} {o:Addr} {m:MD} (M:zO3 C H o m):Prop where
 ins:H o=some (.ins C M.dx (Zn (.ref M.r) (.ref M.n) (.ref M.s) (.ref M.p) (.ref M.a) m.div))
 hr:H M.r=some (.lst M.rv)
 hrv:Zi H M.rv m.rows
 hn:H M.n=some (.lst M.nv)
 hnv:Zm H M.nv m.nexts
 hs:H M.s=some (.lst (m.steer.map V.int))
 hp:H M.p=some (.lst M.pv)
 hpv:Zm H M.pv m.push
 ha:H M.a=some (.lst (m.add.map V.int))
structure wL (n:Nat) (bs:List (Int × Int)) (ms:List MD):Prop where
 n1:1<=n
 n3:n<=3
 bok:∀ b∈bs,b.1<=b.2
 b6:bs.length<=6
 m1:1<=ms.length
 m40:ms.length<=40
 mok:∀ m∈ms,wq m n bs.length
theorem Jc {K:b_} {C:Addr}:cO K (.ref C) (.ref C)=some true:=by
 unfold cO
 rw [if_pos (by simp)]
end Sh
namespace Sh
open PySem L2
noncomputable def hide (B:List Addr) (H:Hp):Hp:=λb=>if b∈B then none else H b
theorem zKw {H:Hp} {x dx:Addr} (hx:H x=none) (hdx:H dx=none) (ne:dx≠x) (u o:HO):zM H (zY (zY H dx u) x o):=
 (qR hdx _).trans (qR ((zc (Ne.symm ne)).trans hx) _)
end Sh
namespace L2
open PySem PySem.Spec PyProof.Rows
theorem zE.no {P:Program} {w:World} {K:b_} {mg:Str->Option Value} {base:Heap} {CX:vX} {k:Nat} {f:Addr} {fd:FuncData} {ps:List Str} {sp:Sp} (hn:∀ vs H Q E,¬ sp vs H Q E):zE P w K mg base CX k f fd ps sp:=
 ⟨λ_ _ _ _ h=>(hn _ _ _ _ h).elim,λ_ _ _ _ _ _ _ _ _ _ _ _ _ h=>(hn _ _ _ _ h).elim⟩
end L2
namespace Sh
inductive RT where
 | str (ns:List Int) (a d:Int)
 | stp (t:RT) (lo hi:Int)
 | prt (row:List Int) (x y:RT)
noncomputable def RT.dep:RT->Nat
 | .str _ _ _=>1
 | .stp t _ _=>t.dep + 1
 | .prt _ x y=>max x.dep y.dep + 1
noncomputable def RT.rows:RT->List (List Int)
 | .str _ _ _=>[]
 | .stp t _ _=>t.rows
 | .prt r x y=>[r]++x.rows++y.rows
noncomputable def xu (pts:List (Int × Int)):RT->Int × Int
 | .str ns a d=>(JK ((jw ns pts).1 + a * (jw ns pts).2) ((jw ns pts).2 * d),JL ((jw ns pts).1 + a * (jw ns pts).2) ((jw ns pts).2 * d))
 | .stp t lo hi=>if (xu pts t).1 < lo * (xu pts t).2 then (lo,1) else if hi * (xu pts t).2 < (xu pts t).1 then (hi,1) else xu pts t
 | .prt row x y=>if (jw (row.take pts.length) pts).1<=row.getD pts.length 0 * (jw (row.take pts.length) pts).2 then xu pts x else xu pts y
end Sh
namespace L2
open PySem PySem.Spec PyProof.Rows Sh
section
variable {X:Cx}
inductive zQx (K:b_) (x y:V) (H:Hp) (Q:VK):Prop
 | mk (a b:Addr) (xs ys:List V) (_:x=.ref a) (_:y=.ref b) (_:H a=some (.tup xs)) (_:H b=some (.tup ys)) (_:xs≠[]) (_:xs.length + ys.length<=sizeLine) (_:∀ p H',zM H H'->H' p=some (.tup (xs++ys))->Q (.ref p) H'):zQx K x y H Q
theorem zPf:y9 X (binaryOp .Add) (zQx X.K):=by
 intro pins s σ H x y v u Q I rx ry h
 obtain ⟨a,b,xs,ys,rfl,rfl,ha,hb,hne,hz,q⟩:=h
 exact zPg pins s σ H _ _ v u Q I rx ry ⟨a,b,xs,ys,rfl,rfl,yQ.of ha,yQ.of hb,hne,hz,λz=>q a H (zM.refl _) (ha.trans (by rw [z,dF])),λ_ p hp=>q p _ (qR hp _) wS⟩
end
end L2
namespace Sh
section
variable {pts:List (Int × Int)} (hp:∀ p∈pts,0 < p.2)
include hp
end
end Sh
namespace Sh
open PySem L2
structure qZ (K:b_) (C1 C2 C3:Addr):Prop where
 k21:cO K (.ref C2) (.ref C1)=some false
 k31:cO K (.ref C3) (.ref C1)=some false
 k12:cO K (.ref C1) (.ref C2)=some false
 k32:cO K (.ref C3) (.ref C2)=some false
 k13:cO K (.ref C1) (.ref C3)=some false
end Sh
namespace L2
open PySem PySem.Spec PyProof.Rows
noncomputable abbrev WV:=Array Value->Option Addr->Prop
noncomputable def yc (base:Heap) (l:List Env) (e:Addr) (cls:Value) (P:WV) (fl:Value) (h:Heap):Prop:=
 base.StaysIn h/\base.get? e=none/\h.FunFrames base l/\∃ (oe:Obj) (vs:Array Value) (T:Addr) (oT:Obj) (ts:Array Value),h.get? e=some oe/\oe.cls=cls/\oe.data=.fields vs/\P vs oe.dict/\vs[1]? = some (.ref T)/\base.get? T=none/\T≠e/\h.get? T=some oT/\oT.data=.fields ts/\ts[3]? = some fl
noncomputable def gm (P:WV):Prop:=∀ (vs:Array Value) (d:Option Addr) (v:Value),P vs d->P (vs.setIfInBounds 1 v) d
section
variable {M:Model} {A:Around} {E:Value->Shared->Prop} {s:Shared} {base:Heap} {env:Env} {outer:List Env} {L e:Addr} {cls:Value} {P:WV} {Q:Unit->Shared->Prop} {oe:Obj} {vs:Array Value}
theorem gn {h:Heap} {T:Addr} {oT:Obj} {ts:Array Value} (hT:h.get? T=some oT) (hd:oT.data=.fields ts) {b:Addr} {o:Obj} (hb:h.get? b=some o) (n:∀ ws,o.data≠.fields ws):b≠T:=by
 rintro rfl
 rw [hT] at hb
 cases hb
 exact n ts hd
theorem zOr {head:Value} {hn:Bool} (st:gm P) (hfr:A.frames=some (env :: outer)) (hl:s.heap.FunFrames base (env :: outer)) (hf:env.frame=some L) (he:s.heap.get? e=some oe) (hkb:base.StaysIn s.heap) (hen:base.get? e=none) (hd:oe.data=.fields vs) (hsz:1 < vs.size) (hP:P vs oe.dict)
  (h:∀ h',yc base (env :: outer) e oe.cls P (rawInt L) h'->s.heap.UpToSlots h'->Q () { s with heap:=h' }) :
  wpAny M A (do let a <- frameOf env; let pl <- entryPlaceOf L hn; let b <- EntryCells.newEntry head a .none (rawInt L) .none pl; setField (.ref e) 1 b) Q E s:=by
 have nf:e∉(env :: outer).filterMap (·.frame):=λz=>by
  obtain ⟨_,o,ho,n⟩:=hl.mem z
  rw [he] at ho
  cases ho
  exact n vs hd
 refine wpAny_bind (wpAny_frameOf_fun hfr hl hf λg sg=>wpAny_bind (wpAny_entryPlaceOf λpl hpl=>?_))
 unfold EntryCells.newEntry newFields
 refine wpAny_bind (wpAny_newObj_type ?_ (hpl.sizeOk5 _ _ _ _ _))
 have e1:g.get? e=some oe:=(sg.2.1 e nf).trans he
 have k1:base.StaysIn g:=λb o q=>(sg.2.1 b λz=>by rw [(hl.mem z).1] at q; cases q).trans (hkb b o q)
 generalize hO:({ cls:=.type "traceback",dict:=none,data:=.fields ([head,.ref L,.none,rawInt L,.none]++(if pl.isEmpty then cv 6 Value.none else pl)).toArray }:Obj)=O
 have dO:∃ ws,O.data=.fields ws/\ws[3]? = some (rawInt L):=by
  rw [<- hO]
  refine ⟨_,rfl,?_⟩
  first | (simp; done) | (rcases hpl with rfl | ⟨_,_,_,_,_,_,_,rfl⟩ <;> simp)
 have fO:O.isFreed=false:=by rw [<- hO]; rfl
 obtain ⟨ws,dw,w3⟩:=dO
 have e2:=ci (h:=g) O e1
 refine wpAny_setField e2 hd hsz (h _ ?_ ?_)
 ·have ne:g.objs.size≠e:=eM (cA e1)
  have d3:=Obj.data_mapFields hd (·.setIfInBounds 1 (Value.ref g.objs.size))
  refine ⟨λb o q=>?_,hen,hl.of_keeps λb o q n=>?_,_,_,g.objs.size,O,ws,eY (Obj.mapFields (·.setIfInBounds 1 (Value.ref g.objs.size))) e2 (Obj.isFreed_of_fields d3),Obj.cls_mapFields _ _,d3,?_,by simp [hsz],k1.fresh,ne,?_,dw,w3⟩
  ·have nb:b≠e:=λz=>by rw [z,hen] at q; cases q
   rw [dn _ _ (Ne.symm nb)]
   exact ci _ (k1 b o q)
  ·obtain ⟨sl,q1⟩:=sg.2.2 b o q
   refine ⟨{ o with slots:=sl },?_,rfl⟩
   rw [dn _ _ (Ne.symm (gn he hd q n))]
   exact ci _ q1
  ·have z:=st vs oe.dict (Value.ref g.objs.size) hP
   first | exact z | (rw [show (oe.mapFields (·.setIfInBounds 1 (Value.ref g.objs.size))).dict=oe.dict by unfold Obj.mapFields; split <;> rfl]; exact z)
  ·rw [dn _ _ (Ne.symm ne)]
   exact cy g fO
 ·intro b o q n
  obtain ⟨sl,q1⟩:=sg.2.2 b o q
  refine ⟨sl,?_⟩
  rw [dn _ _ (Ne.symm (gn he hd q n))]
  exact ci _ q1
theorem zRe (st:gm P) (hfr:A.frames=some (env :: outer)) (hf:env.frame=some L) (x:yc base (env :: outer) e cls P .none s.heap)
  (h:∀ h',yc base (env :: outer) e cls P (rawInt L) h'->s.heap.UpToSlots h'->Q () { s with heap:=h' }):wpAny M A (noteFrame (.ref e) env) Q E s:=by
 obtain ⟨k,en,fr,oe,vs,T,oT,ts,he,rfl,hd,hP,h1,nT,ne,hT,dT,h3⟩:=x
 unfold noteFrame
 simp only [hf]
 refine wpAny_bind (wpAny_field he hd h1 ?_)
 rw [if_pos (show (Value.ref T != Value.none)=true by simp)]
 refine wpAny_bind (wpAny_field hT dT h3 ?_)
 rw [if_neg (show ¬ ((Value.none == rawInt L)=true) by simp [rawInt])]
 refine wpAny_bind (wpAny_setField hT dT (eB.mp h3).1 ?_)
 have oth:∀ b,b≠T->(s.heap.update T (Obj.mapFields (·.setIfInBounds 3 Value.none))).get? b=s.heap.get? b:=λb nb=>dn _ _ (Ne.symm nb)
 refine zOr st hfr (fr.of_keeps λb o q n=>⟨o,(oth b (gn hT dT q n)).trans q,rfl⟩) hf ((oth e (Ne.symm ne)).trans he) (λb o q=>(oth b λz=>by rw [z,nT] at q; cases q).trans (k b o q)) en hd (eB.mp h1).1 hP λh' f u=>h h' f λb o q n=>u b o ((oth b (gn hT dT q n)).trans q) n
theorem zLi (st:gm P) (hfr:A.frames=some (env :: outer)) (hf:env.frame=some L) (hl:s.heap.FunFrames base (env :: outer)) (he:s.heap.get? e=some oe) (hkb:base.StaysIn s.heap) (hen:base.get? e=none) (hd:oe.data=.fields vs) (h1:vs[1]? = some .none) (hP:P vs oe.dict)
  (h:∀ h',yc base (env :: outer) e oe.cls P (rawInt L) h'->s.heap.UpToSlots h'->Q () { s with heap:=h' }):wpAny M A (noteFrame (.ref e) env) Q E s:=by
 unfold noteFrame
 simp only [hf]
 refine wpAny_bind (wpAny_field he hd h1 ?_)
 rw [if_neg (by decide)]
 exact zOr st hfr hl hf he hkb hen hd (eB.mp h1).1 hP h
theorem WW {l:List Env} {fl:Value} (x:yc base l e cls P fl s.heap) (h:∀ h',yc base l e cls P .none h'->s.heap.UpToSlots h'->Q () { s with heap:=h' }):wpAny M A (setFlight (.ref e) none) Q E s:=by
 obtain ⟨k,en,fr,oe,vs,T,oT,ts,he,hc,hd,hP,h1,nT,ne,hT,dT,h3⟩:=x
 have sz:3 < ts.size:=(eB.mp h3).1
 have oth:∀ b,b≠T->(s.heap.update T (Obj.mapFields (·.setIfInBounds 3 ((none:Option Addr).elim Value.none λf=>rawInt f)))).get? b=s.heap.get? b:=λb nb=>dn _ _ (Ne.symm nb)
 unfold setFlight
 refine wpAny_bind (wpAny_field he hd h1 ?_)
 rw [if_pos (show (Value.ref T != Value.none)=true by simp)]
 refine wpAny_setField hT dT sz (h _ ⟨λb o q=>(oth b λz=>by rw [z,nT] at q; cases q).trans (k b o q),en,fr.of_keeps λb o q n=>⟨o,(oth b (gn hT dT q n)).trans q,rfl⟩,oe,vs,T,_,_,(oth e (Ne.symm ne)).trans he,hc,hd,hP,h1,nT,ne,eY _ hT (Obj.isFreed_of_fields (Obj.data_mapFields dT _)),Obj.data_mapFields dT _,by simp [sz]⟩ λb o q n=>⟨o.slots,(oth b (gn hT dT q n)).trans q⟩)
theorem yc.out {fl:Value} {h:Heap} (x:yc base (env :: outer) e cls P fl h):yc base outer e cls P fl h:=by
 obtain ⟨k,en,⟨_,_,fr⟩,r⟩:=x
 exact ⟨k,en,fr,r⟩
theorem zPz (st:gm P) (hfr:A.frames=some (env :: outer)) (hf:env.frame=some L) (x:yc base (env :: outer) e cls P .none s.heap)
  (h:∀ h',yc base outer e cls P .none h'->s.heap.UpToSlots h'->Q () { s with heap:=h' }):wpAny M A (leaving env (.ref e)) Q E s:=by
 unfold leaving
 exact wpAny_bind (zRe st hfr hf x λh1 f1 u1=>WW f1 λh2 f2 u2=>h h2 f2.out (u1.trans u2))
theorem zIm (st:gm P) (hfr:A.frames=some (env :: outer)) (hf:env.frame=some L) (hl:s.heap.FunFrames base (env :: outer)) (he:s.heap.get? e=some oe) (hkb:base.StaysIn s.heap) (hen:base.get? e=none) (hd:oe.data=.fields vs) (h1:vs[1]? = some .none) (hP:P vs oe.dict)
  (h:∀ h',yc base outer e oe.cls P .none h'->s.heap.UpToSlots h'->Q () { s with heap:=h' }):wpAny M A (leaving env (.ref e)) Q E s:=by
 unfold leaving
 exact wpAny_bind (zLi st hfr hf hl he hkb hen hd h1 hP λh1 f1 u1=>WW f1 λh2 f2 u2=>h h2 f2.out (u1.trans u2))
end
noncomputable def P0:WV:=λvs _=>vs[2]? = some .none
theorem Jd:gm P0:=λvs _ _ h=>by
 unfold P0 at h |-
 rw [Array.getElem?_setIfInBounds_ne (by decide)]
 exact h
theorem yc.first {base h:Heap} {l:List Env} {e:Addr} {cls fl:Value} (x:yc base l e cls P0 fl h):∃ oe vs,h.get? e=some oe/\oe.cls=cls/\oe.data=.fields vs/\vs[2]? = some .none:=by
 obtain ⟨_,_,_,oe,vs,_,_,_,he,hc,hd,hP,_⟩:=x
 exact ⟨oe,vs,he,hc,hd,hP⟩
end L2
namespace L2
open PySem PySem.Spec PyProof.Rows
section
variable {P:Program} {w:World} {H:Hp} {h:Heap} {a:Addr}
theorem xa.there {o:HO} (x:xa P w H h a o):∃ ob,h.get? a=some ob:=by
 cases o with
 | lst xs=>obtain ⟨_,_,_,_,e⟩:=x; exact ⟨_,e⟩
 | tup xs=>obtain ⟨_,_,_,p⟩:=x; obtain ⟨ob,e,_⟩:=p; exact ⟨ob,e⟩
 | dK kvs=>obtain ⟨_,_,_,_,ob,_,_,e,_⟩:=x; exact ⟨ob,e⟩
 | dT kvs=>obtain ⟨_,_,_,_,ob,_,_,e,_⟩:=x; exact ⟨ob,e⟩
 | set S n=>obtain ⟨ob,_,_,_,e,_⟩:=x; exact ⟨ob,e⟩
 | ins C dx fs=>obtain ⟨_,_,_,e,_⟩:=x; exact ⟨_,e⟩
 | own y=>exact x
 | xd fs=>obtain ⟨_,⟨ob,_,_,e,_⟩,_⟩:=x; exact ⟨ob,e⟩
 | rng lo hi=>obtain ⟨_,_,_,e⟩:=x; exact ⟨_,e⟩
 | frz ob u=>obtain ⟨e,_⟩:=x; exact ⟨_,e⟩
 | tbl ps=>exact ⟨_,show h.get? a=some _ from x⟩
 | met f y=>exact ⟨_,show h.get? a=some _ from x⟩
 | ext φ=>obtain ⟨_,e,_⟩:=x; exact e
theorem yy.none_of (x:yy P w H h) (e:h.get? a=none):H a=none:=by
 cases q:H a with
 | none=>rfl
 | some o=>
  obtain ⟨ob,z⟩:=(x a o q).there
  rw [e] at z
  cases z
theorem yy.hide {as:List Addr} (x:yy P w H h) (f:∀ b∈as,H b=none):yy P w H (fI h as):=λa o e=>
 (x a o e).stay (λb u hb q=>fC _ q λz=>by
  have n:=f b z
  rcases hb with rfl | hb
  ·rw [n] at e; cases e
  ·rw [n] at hb; cases hb) (λ_ q=>q) λ_ _ q=>q
end
structure XL (P:Program) (w:World) (outer:List Env) (H H':Hp) (s s':Shared) (B:Heap) (e:Addr) (cls a0:Value):Prop where
 os:s'.os=s.os
 bare:AllBare s'.gens
 keep:∀ b o,s.heap.get? b=some o->H b=none->b∉xJ outer->B.get? b=some o
 slot:∀ b o,s.heap.get? b=some o->H b=none->b∈xJ outer->∃ sl,s'.heap.get? b=some { o with slots:=sl }
 free:∀ b o,s.heap.get? b=some o->H b=none->H' b=none
 there:∀ b o,s.heap.get? b=some o->b∉xJ outer->∃ o',B.get? b=some o'
 tups:∀ b xs,H b=some (.tup xs)->H' b=some (.tup xs)
 frzs:∀ b o u,H b=some (.frz o u)->H' b=some (.frz o u)
 tbls:∀ b ps,H b=some (.tbl ps)->∃ more,H' b=some (.tbl (ps++more))
 hok:yy P w H' B
 fly:yc B outer e cls P0 .none s'.heap
noncomputable def xi (P:Program) (w:World):vX:=λouter H s E ev s'=>∃ (e:Addr) (cls a0:Value) (B:Heap) (H':Hp),ev=.ref e/\XL P w outer H H' s s' B e cls a0/\E cls none H'
section
variable {P:Program} {w:World} {outer:List Env} {H H':Hp} {s s':Shared} {B:Heap} {e:Addr} {cls a0:Value}
theorem XL.un (x:XL P w outer H H' s s' B e cls a0):Un (xJ outer) [] H H' s.heap s'.heap where
 keep:=λb o q n hb _=>x.fly.1 b o (x.keep b o q n hb)
 slot:=λb o q n hb _=>x.slot b o q n hb
 free:=λb o q n _=>x.free b o q n
 there:=λb o q _=>by
  by_cases hb:b∈xJ outer
  ·obtain ⟨_,o',ho,_⟩:=x.fly.2.2.1.mem hb
   exact ⟨o',ho⟩
  ·obtain ⟨o',ho⟩:=x.there b o q hb
   exact ⟨o',x.fly.1 _ _ ho⟩
 tups:=x.tups
 frzs:=x.frzs
 tbls:=x.tbls
theorem XL.held (x:XL P w outer H H' s s' B e cls a0):yy P w H' s'.heap:=x.hok.kept x.fly.1
theorem XL.move {h':Heap} {tk:Nat} (x:XL P w outer H H' s s' B e cls a0) (f:yc B outer e cls P0 .none h') (u:s'.heap.UpToSlots h'):XL P w outer H H' s { s' with heap:=h',toks:=tk } B e cls a0 where
 os:=x.os
 bare:=x.bare
 keep:=x.keep
 slot:=λb o q n hb=>by
  obtain ⟨sl,e1⟩:=x.slot b o q n hb
  obtain ⟨_,o',ho,nf⟩:=x.fly.2.2.1.mem hb
  rw [e1] at ho
  cases ho
  obtain ⟨sl',e2⟩:=u b _ e1 nf
  exact ⟨sl',e2⟩
 free:=x.free
 there:=x.there
 tups:=x.tups
 frzs:=x.frzs
 tbls:=x.tbls
 hok:=x.hok
 fly:=f
theorem XL.new (x:XL P w outer H H' s s' B e cls a0):s.heap.get? e=none/\H' e=none/\e∉xJ outer:=by
 have nf:e∉xJ outer:=λz=>by
  obtain ⟨_,o,ho,nd⟩:=x.fly.2.2.1.mem z
  obtain ⟨oe,vs,he,_,hd,_⟩:=yc.first x.fly
  rw [he] at ho
  cases ho
  exact nd _ hd
 refine ⟨?_,x.hok.none_of x.fly.2.1,nf⟩
 cases q:s.heap.get? e with
 | none=>rfl
 | some o=>
  obtain ⟨o',z⟩:=x.there e o q nf
  rw [x.fly.2.1] at z
  cases z
end
section
variable {P:Program} {w:World} {K:b_} {mg:Str->Option Value} {base:Heap} {N:List Str} {qual:Str} {scope:Scope} {f:Addr} {cd:Value} {A:Around} {outer:List Env} {s:Shared} {H:Hp} {E:XK}
theorem WX {X:Cx} {pins:List (Addr × Obj)} {σ:St} {H1:Hp} {s1:Shared} {b:Addr} {o:Obj} (I:zF X pins σ H1 s1) (q:X.s₀.heap.get? b=some o) (hb:b∉X.fs):b∉xJ X.stack:=λz=>by
 rcases cu.mp (I.stkSub b z) with e | z
 ·exact absurd (cP (cA q) I.ok.above) (by rw [e]; exact df _)
 ·exact hb z
theorem zJ1 {pins:List (Addr × Obj)} {σ:St} {H1:Hp} {s1:Shared} {h2:Heap} {e:Addr} {cls:Value} {args:List Value}
  (I:zF (zW (xi P w) P w K mg base N qual scope f cd A outer s H E) pins σ H1 s1) (hx:ml s1.heap h2 e cls args) (q:E cls none H1) :
  (zW (xi P w) P w K mg base N qual scope f cd A outer s H E).xe (.ref e) { s1 with heap:=h2 }:=by
 have fr:=I.stack
 have fh:=PySem.W.funFrames_hide (as:=xJ (zW (xi P w) P w K mg base N qual scope f cd A outer s H E).stack) fr λenv he b hb=>ig.mpr ⟨env,he,hb⟩
 obtain ⟨t,he,htn,ht⟩:=hx.there
 have fr2:∀ b,s1.heap.get? b=none->(fI s1.heap (xJ (zW (xi P w) P w K mg base N qual scope f cd A outer s H E).stack)).get? b=none:=λb hb=>by
  cases q:(fI s1.heap (xJ (zW (xi P w) P w K mg base N qual scope f cd A outer s H E).stack)).get? b with
  | none=>rfl
  | some o=>
   have:=ic _ q
   rw [hb] at this
   cases this
 refine zIm (s:={ s1 with heap:=h2 }) (base:=fI s1.heap (xJ (zW (xi P w) P w K mg base N qual scope f cd A outer s H E).stack)) Jd I.ok.frames rfl (fh.of_keeps λb o q _=>⟨o,hx.keeps b o q,rfl⟩) he (λb o q=>hx.keeps b o (ic _ q)) (fr2 e hx.new) rfl rfl rfl λh' x1 x4=>?_
 refine ⟨e,cls,.ref t,_,H1,rfl,⟨I.os,I.bare,λb o eb n hb=>?_,λb o eb n hb=>?_,λb o eb n=>I.base.free b o eb n (by simp [zW]),λb o eb hb=>?_,I.base.tups,I.base.frzs,I.base.tbls,I.hok.hide λb hb=>I.stkFree b hb,x1⟩,q⟩
 ·exact fC _ (I.base.keep b o eb n hb (by simp [zW])) (WX I eb hb)
 ·obtain ⟨sl,e1⟩:=I.base.slot b o eb n hb (by simp [zW])
  obtain ⟨_,o',ho,nf⟩:=I.funs.mem hb
  rw [e1] at ho
  cases ho
  obtain ⟨sl',e2⟩:=x4 b _ (hx.keeps _ _ e1) nf
  exact ⟨sl',e2⟩
 ·obtain ⟨o',e1⟩:=I.base.there b o eb (by simp [zW])
  exact ⟨o',fC _ e1 (WX I eb hb)⟩
theorem zLO {E':XK} (hE:∀ c d H,E' c d H->E c d H):qL (xi P w) (zW (xi P w) P w K mg base N qual scope f cd A outer s H E) E':=by
 intro pins σ H1 s1 ev s2 I h
 obtain ⟨e,cls,a0,B,H2,rfl,x,q⟩:=h
 have un:=(I.base.mono (fs':=xJ (zW (xi P w) P w K mg base N qual scope f cd A outer s H E).stack) (ex':=[]) (λb hb=>by
  show b∈xJ (_ :: outer)
  unfold xJ
  rw [ek]
  split
  ·exact hb
  ·exact cn _ hb) λb hb=>hb).trans x.un
 have hx:yc B ((zW (xi P w) P w K mg base N qual scope f cd A outer s H E).env :: outer) e cls P0 .none s2.heap:=x.fly
 refine zPz Jd I.ok.frames rfl hx λh' fl up=>?_
 refine ⟨e,cls,a0,B,H2,rfl,⟨x.os.trans I.os,x.bare,λb o eb n hb=>?_,λb o eb n hb=>?_,λb o eb n=>un.free b o eb n (by simp),λb o eb hb=>?_,un.tups,un.frzs,un.tbls,x.hok,fl⟩,hE _ _ _ q⟩
 ·exact x.keep b o (I.base.keep b o eb n hb (by simp [zW])) (I.base.free b o eb n (by simp [zW])) (WX I eb hb)
 ·obtain ⟨sl,e1⟩:=I.base.slot b o eb n hb (by simp [zW])
  have hb2:b∈xJ (zW (xi P w) P w K mg base N qual scope f cd A outer s H E).stack:=by
   show b∈xJ (_ :: outer)
   unfold xJ
   rw [ek]
   split
   ·exact hb
   ·exact cn _ hb
  obtain ⟨sl1,e2⟩:=x.slot b _ e1 (I.base.free b o eb n (by simp [zW])) hb2
  obtain ⟨_,o',ho,nf⟩:=x.fly.2.2.1.mem hb2
  rw [e2] at ho
  cases ho
  obtain ⟨sl2,e3⟩:=up b _ e2 nf
  exact ⟨sl2,e3⟩
 ·obtain ⟨o',e1⟩:=I.base.there b o eb (by simp [zW])
  exact x.there b o' e1 (WX I eb hb)
end
theorem zQK {K:b_} {h:Heap} {C:Addr} {bmB:List Value} {newId:String} (X:K.In h) (q:iz K C bmB newId=true) :
  ∃ bm N nm qn bs hdct sn sub ab col dd k0 k1 k2 k3 k5 mN,h.get? C=some (excClassObj nm qn C N bs bm hdct sn sub ab col dd k0 k1 k2 k3 k5 newId)/\h.Ns N mN/\mN "__init__" = none/\OwnTail h bmB bm:=by
 unfold iz at q
 split at q
 case h_1 dd cd sl look=>
  split at q
  case h_1 C1 tl k0 k1 k2 k3 made k5 eqm eqs=>
   simp only [dk,beq_iff_eq,lG] at q
   obtain ⟨⟨⟨⟨⟨e1,e2⟩,e3⟩,e4⟩,e5⟩,e6⟩:=q
   subst e1 e2
   obtain ⟨nm,bs,mro,ns,qn,hd,sn,sub,ab,col,del⟩:=cd
   obtain ⟨sll⟩:=sl
   dsimp only at eqm e3 e5 e6 eqs
   subst eqm e3 eqs
   exact ⟨tl,ns,nm,qn,bs,hd,sn,sub,ab,col,dd,k0,k1,k2,k3,k5,h.nsMap ns,X _ _ look,.of_isNs (PySem.W.isNs_of_in X e5),PySem.W.nsMap_none_of_in X e5 e6,PySem.W.tail_of_in X e4⟩
  all_goals cases q
 all_goals cases q
noncomputable abbrev bmV:List Value:=[.type "ValueError",.type "Exception",.type "BaseException",.type "object"]
noncomputable def zOD (C:Addr) (E:XK) (ta:TA):TS:=λ_ σ H=>ta σ H λvs H1=>vs.length<=sizeLine/\E (.ref C) none H1
noncomputable def zSc (X:Cx) (E:XK):Prop:=∀ (pins:List (Addr × Obj)) (σ:St) (H:Hp) (s:Shared) (h':Heap) (e:Addr) (cls:Value) (args:List Value),zF X pins σ H s->ml s.heap h' e cls args->E cls none H->X.xe (.ref e) { s with heap:=h' }
theorem zNC {X:Cx} {C:Addr} {E:XK} {x:Str} {np cpos pos:Pos} {e0:Expr} {es:List Expr} {ta:TA} (R:zSc X E) (hC:iz X.K C bmV "ValueError.__new__" = true) (hg:Gl X x) (hm:X.mg x=some (.ref C)) (hc:X.calm=true) (ha:PA X (e0 :: es) ta)
  (hdb:(x == ("__debug__" : Str))=false:=by decide) (he:starEach (e0 :: es) X.env=(false,eval e0 X.env) :: starEach es X.env:=by rfl) (hpl:(backTo cpos (starEach es X.env)).any (·.1)=false:=by rfl) :
  PS X (.Raise (some (.Call (.Name x np) (e0 :: es) [] cpos)) none pos) (zOD C E ta):=by
 intro pins s σ H D I h
 obtain ⟨bm,N,nm,qn,bs,hdct,sn,sub,ab,col,dd,k0,k1,k2,k3,k5,mN,oC,oN,oi,oT⟩:=zQK I.ok.mod.kin hC
 have hp:(backTo cpos (starEach (e0 :: es) X.env)).any (·.1)=false:=by
  rw [he]
  show (false || (backTo cpos (starEach es X.env)).any (·.1))=false
  rw [hpl]
  rfl
 refine wpAny_Raise_call_subT (C:=C) (nm:=nm) (q:=qn) (N:=N) (bs:=bs) (bm:=bm) (hdct:=hdct) (sn:=sn) (sub:=sub) (ab:=ab) (col:=col) (dd:=dd) (k0:=k0) (k1:=k1) (k2:=k2) (k3:=k3) (k5:=k5) PySem.F.excBase_ValueError (mN:=mN)
  (oT.hasType PySem.F.excBase_ValueError.hasBase) (I.ok.hd hc) hp oi (gW I hg hm ⟨rfl,?_⟩ hdb)
 have ha':=ha cpos pins s σ H _ I h
 rw [he] at ha' |-
 refine Calls.evalArgs_plain (zp ha' λus s2 ⟨vs,H1,I2,r,hl,qE⟩=>?_)
 exact ⟨rfl,(by rw [<- r.length]; exact hl),I2.bk _ _ oC,oN.keeps I2.bk,oT.keeps I2.bk,λh' e hm'=>R pins σ H1 s2 h' e _ _ I2 hm' qE⟩
section
variable {P:Program} {w:World} {K:b_} {mg:Str->Option Value} {base:Heap}
theorem zg.okX {x qual:Str} {st:Stmt} {f:Addr} {fd:FuncData} {N ps:List Str} {k:Nat} {sp:Sp} (F:zg K x qual st f fd) (S:zb N ps (zR st)) (len:∀ vs H Q E,sp vs H Q E->vs.length=ps.length)
  (hbody:∀ (cdv:Value) (A:Around) (outer:List Env) (s:Shared) (H:Hp) (vs:List V) (Q:VK) (E:XK),zX k (A.deeper (envOfC qual (zR st) s.heap.objs.size f cdv))->sp vs H Q E->
   ∃ t,yS (zW (xi P w) P w K mg base N qual (zR st) f cdv A outer s H E) (xU st) t/\t { nx:=λ_ H'=>Q .non H',rt:=Q } (we N vs) H):zE P w K mg base (xi P w) (k + 1) f fd ps sp:=by
 obtain ⟨oc,od,kV,doc,pm,an,cdv,ct,osl,rfl,lk,hcd⟩:=F.ex
 exact U8 lk hcd S len λA outer s H vs Q E hr hsp=>hbody cdv A outer s H vs Q E hr hsp
structure jy (P:Program) (w:World) (K:b_) (mg:Str->Option Value) (base:Heap) (x:Str) (ps:List Str) (k:Nat) (sp:Sp):Prop where
 ex:∃ f fd,zE P w K mg base (xi P w) k f fd ps sp/\mg x=some (.ref f)/\dU K (.ref f)=true/\wx K fd ps []
theorem jy.mono {x:Str} {ps:List Str} {j k:Nat} {sp:Sp} (F:jy P w K mg base x ps j sp) (h:j<=k:=by decide):jy P w K mg base x ps k sp:=by
 obtain ⟨f,fd,a,b,c,d⟩:=F.ex
 exact ⟨f,fd,a.mono h,b,c,d⟩
end
noncomputable def qc (e C:Addr):HO:=.ext λh=>∃ oe vs,h.get? e=some oe/\oe.cls=.ref C/\oe.data=.fields vs/\vs[2]? = some .none
noncomputable abbrev Cx.mark (X:Cx) (e:Addr):Cx:={ X with A:=X.A.mark (some (.ref e)),calm:=false,xe:=λ_ _=>False }
section
variable {X:Cx} {pins:List (Addr × Obj)} {σ:St} {H:Hp} {s:Shared} {e:Addr}
theorem zF.mark (I:zF X pins σ H s) (e:Addr):zF (X.mark e) pins σ H s:=
 ⟨⟨I.ok.mod,I.ok.kind,I.ok.glob,I.ok.blt,I.ok.above,I.ok.inj,I.ok.has,I.ok.cab,λz=>(nomatch z),I.ok.frames,I.ok.stk,I.ok.exf,I.ok.bs,I.ok.bsz,I.ok.noex,I.ok.exfs,I.ok.funs,I.ok.frf⟩,I.os,I.bare,I.base,I.loc,I.cell,I.free,I.freeC,I.pin,I.hok,I.len⟩
theorem zF.unmark (hh:X.calm=true->X.A.handled=none) (I:zF (X.mark e) pins σ H s):zF X pins σ H s:=
 ⟨⟨I.ok.mod,I.ok.kind,I.ok.glob,I.ok.blt,I.ok.above,I.ok.inj,I.ok.has,I.ok.cab,hh,I.ok.frames,I.ok.stk,I.ok.exf,I.ok.bs,I.ok.bsz,I.ok.noex,I.ok.exfs,I.ok.funs,I.ok.frf⟩,I.os,I.bare,I.base,I.loc,I.cell,I.free,I.freeC,I.pin,I.hok,I.len⟩
theorem zF.track {o:HO} (I:zF X pins σ H s) (hn:H e=none) (h0:e∈X.ex\/X.s₀.heap.get? e=none) (hL:e≠X.env.locals) (hc:∀ x c,X.env.cells.lookup x=some c->c≠e) (hp:∀ p∈X.pn++pins,p.1≠e)
  (new:xa X.prog X.w (zY H e o) s.heap e o):zF X pins σ (zY H e o) s:=by
 have ne:∀ b u,H b=some u->b≠e:=λb u q=>xZ q hn
 refine ⟨I.ok,I.os,I.bare,⟨I.base.keep,I.base.slot,λb ob q n hx=>?_,I.base.there,λb xs q=>?_,λb ob u q=>?_,λb ps q=>?_⟩,I.loc,I.cell,?_,λx c q=>?_,λp hq=>?_,λb u q=>?_,I.len⟩
 ·rw [zc λz=>?_]
  ·exact I.base.free b ob q n hx
  ·subst z
   rcases h0 with z | z
   ·exact hx z
   ·rw [q] at z; cases z
 ·have z:=I.base.tups b xs q
  rw [zc (ne _ _ z)]
  exact z
 ·have z:=I.base.frzs b ob u q
  rw [zc (ne _ _ z)]
  exact z
 ·obtain ⟨m,z⟩:=I.base.tbls b ps q
  exact ⟨m,by rw [zc (ne _ _ z)]; exact z⟩
 ·rw [zc (Ne.symm hL)]
  exact I.free
 ·rw [zc (hc x c q)]
  exact I.freeC x c q
 ·obtain ⟨a1,a2,a3,a4,a5⟩:=I.pin p hq
  exact ⟨a1,by rw [zc (hp p hq)]; exact a2,a3,a4,a5⟩
 ·by_cases z:b=e
  ·subst z
   rw [wS] at q
   cases q
   exact new
  ·rw [zc z] at q
   exact (I.hok b u q).stay (λ_ _ _ r=>r) (λc r=>by rw [zc (ne _ _ r)]; exact r) λc xs r=>by rw [zc (ne _ _ r)]; exact r
end
noncomputable def PEX (X:Cx) (ex:Expr) (t:XK->TE):Prop:=
 ∀ (pins:List (Addr × Obj)) (s:Shared) (σ:St) (H:Hp) (Q:VK) (E:XK),zF X pins σ H s->t E σ H Q->
  wpAny (model X.prog X.w) X.A (eval ex X.env) (EP X pins σ Q) (λev s'=>∃ (s1:Shared) (H1 H2:Hp) (e:Addr) (cls a0:Value) (B:Heap),zF X pins σ H1 s1/\ev=.ref e/\XL X.prog X.w X.stack H1 H2 s1 s' B e cls a0/\E cls none H2) s
theorem zLD {X:Cx} {x:Str} {ps:List Str} {k:Nat} {sp:Sp} {e:Expr} {es:List Expr} {t:TA} {p pos:Pos} (F:jy X.prog X.w X.K X.mg X.base x ps k sp) (hr:zX k X.A) (hg:Gl X x) (ha:PA X.nox (e :: es) t)
  (hdb:(x == ("__debug__" : Str))=false:=by decide) (he:starEach (e :: es) X.env=(false,eval e X.env) :: starEach es X.env:=by rfl) (hpl:(backTo pos (starEach es X.env)).any (·.1)=false:=by rfl) :
  PEX X (.Call (.Name x p) (e :: es) [] pos) (λE=>jX sp [] E t):=by
 intro pins s σ H Q E I h
 obtain ⟨f,fd,Fk,hm,hk,hb⟩:=F.ex
 refine wpAny_Call_Name_kw (gW I hg hm ?_ hdb)
 refine ii (h₀:=X.base) I.ok.mod.kin hk (wpAny_mono (ha pos pins s σ H _ (I.wish _) h) (λus s1 ⟨vs,H1,I1,r,q⟩=>⟨I1.unwish.kIn,?_⟩) λ_ _ z=>False.elim z) he hpl
 have I1':=I1.unwish
 have r2:zL (vs++[]) (us++[]):=r.append .nil
 have hl:(us++[]).length=ps.length:=by rw [<- r2.length]; exact Fk.len _ _ _ _ q
 refine wpAny_call (codeAny_mono (Fk.run X.A X.stack s1 H1 ⟨us,[]⟩ (us++[]) (vs++[]) Q E hr I1'.env0 (hb s1 us I1'.kIn hl) r2 q) λr s' hq=>?_)
 cases r with
 | error ev=>
  obtain ⟨ee,cls,a0,B,H2,rfl,x,qE⟩:=hq
  exact ⟨s1,H1,H2,ee,cls,a0,B,I1',rfl,x,qE⟩
 | ok fl=>
  cases fl with
  | ret u=>exact I1'.after hq
  | next=>exact False.elim hq
  | brk=>exact False.elim hq
  | cont=>exact False.elim hq
end L2
namespace L2
open PySem PySem.Spec PyProof.Rows
noncomputable def XP (X:Cx) (pins:List (Addr × Obj)) (ES:St->XK) (ev:Value) (s':Shared):Prop:=
 ∃ (σ1:St) (s1:Shared) (H1 H2:Hp) (e:Addr) (cls a0:Value) (B:Heap),zF X pins σ1 H1 s1/\ev=.ref e/\XL X.prog X.w X.stack H1 H2 s1 s' B e cls a0/\ES σ1 cls none H2
noncomputable abbrev TX:=(St->XK)->TS
noncomputable def PSX (X:Cx) (st:Stmt) (t:TX):Prop:=∀ (pins:List (Addr × Obj)) (s:Shared) (σ:St) (H:Hp) (D:yq) (ES:St->XK),zF X pins σ H s->t ES D σ H->wpAny (model X.prog X.w) X.A (exec st X.env) (SP X pins D) (XP X pins ES) s
noncomputable def jZ (X:Cx) (ss:List Stmt) (t:TX):Prop:=∀ (pins:List (Addr × Obj)) (s:Shared) (σ:St) (H:Hp) (D:yq) (ES:St->XK),zF X pins σ H s->t ES D σ H->wpAny (model X.prog X.w) X.A (execs ss X.env) (SP X pins D) (XP X pins ES) s
section
variable {X:Cx} {call:Expr} {tb:XK->TE} {pos pos':Pos}
theorem zNA (hb:PEX X call tb) (hs:swapsWith call none pos.line X.env=pure false:=by rfl):PSX X (.Expr call pos) (λES D σ H=>tb (ES σ) σ H λ_ H1=>D.nx σ H1):=by
 intro pins s σ H D ES I h
 refine wpAny_Expr_any (wpAny_mono (hb pins s σ H _ _ I h) (λv s1 ⟨y,H1,I1,r1,q1⟩=>⟨σ,H1,I1,q1⟩) λev s1 ⟨s0,H1,H2,e,cls,a0,B,I0,e1,xl,q⟩=>⟨σ,s0,H1,H2,e,cls,a0,B,I0,e1,xl,q⟩) I.quiet hs
theorem zM9:jZ X [] (λ_ D σ H=>D.nx σ H):=λ_ _ σ H _ _ I h=>wpAny_execs_nil ⟨σ,H,I,h⟩
theorem zK8 {st:Stmt} {ss:List Stmt} {t u:TX} (h1:PSX X st t) (h2:jZ X ss u):jZ X (st :: ss) (λES D σ H=>t ES { D with nx:=u ES D } σ H):=by
 intro pins s σ H D ES I h
 refine wpAny_execs_cons (wpAny_mono (h1 pins s σ H _ ES I h) (λf s1 q=>?_) λ_ _ z=>z)
 cases f with
 | next=>obtain ⟨σ',H',I',q'⟩:=q; exact h2 pins s1 σ' H' D ES I' q'
 | brk=>exact q
 | cont=>exact q
 | ret u=>exact q
end
noncomputable def zQj (K:b_) (Cb:Addr) (tb:TX) (th:TS):TS:=λD σ H=>
 tb (λσ1 cls _ H2=>∃ C,cls=.ref C/\iV K (.ref C) (.ref Cb)=some true/\∀ e,H2 e=none->
  th D σ1 (zY H2 e (qc e C))) D σ H
theorem zPQ {X:Cx} {Cb:Addr} {x:Str} {body:List Stmt} {tb:TX} {th:TS} {b₀:Stmt} {suite:List Stmt} {np hpos pos:Pos} (hg:Gl X x) (hm:X.mg x=some (.ref Cb)) (hc:X.calm=true)
  (hf:X.env.frame=some X.env.locals) (hst:X.stack=X.env :: X.outer) (hb:jZ X body tb) (hh:∀ e,yS (X.mark e) (b₀ :: suite) th)
  (hdb:(x == ("__debug__" : Str))=false:=by decide) :
  PS X (.Try body [.ExceptHandler (some (.Name x np)) none (b₀ :: suite) hpos] [] [] pos) (zQj X.K Cb tb th):=by
 intro pins s σ H D I h
 refine wpAny_Try_except (wpAny_mono (hb pins s σ H D _ I h) (λfl s1 q1=>?_) λev s1 hx=>?_)
 ·cases fl with
  | next=>exact wpAny_execs_nil q1
  | brk=>exact q1
  | cont=>exact q1
  | ret u=>exact q1
 obtain ⟨σ1,s0,H1,H2,e,cls,a0,B,I0,rfl,xl,C,rfl,hx,q⟩:=hx
 have hfr:X.A.frames=some (X.env :: X.outer):=by rw [<- hst]; exact I.ok.frames
 have xl':XL X.prog X.w (X.env :: X.outer) H1 H2 s0 s1 B e (.ref C) a0:=by rw [<- hst]; exact xl
 have behind:∀ {h':Heap} {tk:Nat},XL X.prog X.w (X.env :: X.outer) H1 H2 s0 { s1 with heap:=h',toks:=tk } B e (.ref C) a0->zF X pins σ1 H2 { s1 with heap:=h',toks:=tk }:=λ{h' tk} z=>by
  have z':XL X.prog X.w X.stack H1 H2 s0 { s1 with heap:=h',toks:=tk } B e (.ref C) a0:=by rw [hst]; exact z
  exact I0.call' (ch:=[]) z'.os z'.un z'.held z'.bare λb hb=>absurd hb (by simp)
 have hE:∀ (Y:Around) (v:Value) (sx:Shared),False->notedBy (model X.prog X.w) Y X.env (cameBackBy (model X.prog X.w) X.A X.env X.xe) v sx:=λ_ _ _ z=>z.elim
 refine zRe Jd hfr hf xl'.fly λh4 held4 up4=>?_
 refine WW held4 λh5 fly5 up5=>?_
 have x5:=xl'.move (tk:=s1.toks) fly5 (up4.trans up5)
 have I5:=behind x5
 refine wpAny_handleBy_cons (codeAny_handlers_test (gW (I5.mark e) hg hm ?_ hdb)) (by intro q; cases q)
 obtain ⟨oe,ws,he,hcl,hd,_⟩:=yc.first fly5
 have LT:PySem.W.Looks (model X.prog X.w) h5 (typeOf (.ref e)) (.ref C):=hcl ▸ (PySem.W.Looks.ld he).andThen .now
 refine (PySem.W.exm_one (K:=X.K) I5.kIn LT hx).here (codeAny_handlers_suite ?_)
 refine WW (s:={ s1 with heap:=h5 }) fly5 λh6 fly6 up6=>?_
 have x6:=xl'.move (tk:=s1.toks) fly6 ((up4.trans up5).trans up6)
 have I6:=behind x6
 obtain ⟨oe6,ws6,he6,hcl6,hd6,h26⟩:=yc.first fly6
 obtain ⟨new,hH,nfr⟩:=xl.new
 have eL:e≠X.env.locals:=λz=>nfr (by
  rw [hst]
  unfold xJ
  rw [ek,hf,z]
  exact cq)
 have J6:zF X pins σ1 (zY H2 e (qc e C)) { s1 with heap:=h6,toks:=s1.toks }:=by
  refine I6.track hH ?_ eL (λy c q z=>?_) (λp hp z=>?_) ⟨⟨oe6,ws6,he6,hcl6,hd6,h26⟩,⟨oe6,he6⟩,λg1 g2 ⟨o,v,p1,p2,p3⟩ k=>⟨o,v,k _ p1,p2,p3⟩⟩
  ·by_cases hx:e∈X.ex
   ·exact .inl hx
   ·refine .inr ?_
    cases q:X.s₀.heap.get? e with
    | none=>rfl
    | some o=>
     obtain ⟨o',z⟩:=I0.base.there e o q hx
     rw [new] at z
     cases z
  ·obtain ⟨v,o,ho,_⟩:=I0.cell y c q
   rw [z,new] at ho
   cases ho
  ·have z1:=(I0.pin p hp).1
   rw [z,new] at z1
   cases z1
 refine wpAny_mono (hh e pins _ _ _ _ (J6.mark e) (q e hH)) (λfl s8 h8=>?_) λ_ _ z=>False.elim z
 cases fl with
 | ret u=>obtain ⟨v,σ8,H8,I8,r8,q8⟩:=h8; exact ⟨v,σ8,H8,I8.unmark λz=>I.ok.hd z,r8,q8⟩
 | brk=>obtain ⟨σ8,H8,I8,q8⟩:=h8; exact ⟨σ8,H8,I8.unmark λz=>I.ok.hd z,q8⟩
 | cont=>obtain ⟨σ8,H8,I8,q8⟩:=h8; exact ⟨σ8,H8,I8.unmark λz=>I.ok.hd z,q8⟩
 | next=>obtain ⟨σ8,H8,I8,q8⟩:=h8; exact ⟨σ8,H8,I8.unmark λz=>I.ok.hd z,q8⟩
end L2
namespace L2
open PySem PySem.Spec PyProof.Rows
section
variable {P:Program} {w:World} {K:b_} {mg:Str->Option Value} {base:Heap} {N:List Str} {qual:Str} {scope:Scope} {f:Addr} {cd:Value} {A:Around} {outer:List Env} {s:Shared} {H:Hp} {E:XK}
variable {C:Addr} {m x:Str} {ps:List Str} {k:Nat} {sp:Sp} {o e:Expr} {es:List Expr} {ta:TE} {t:TA} {p pos apos:Pos}
theorem zNO (F:jy P w K mg base x ps k sp) (hr:zX k (zW (xi P w) P w K mg base N qual scope f cd A outer s H E).A) (hg:Gl (zW (xi P w) P w K mg base N qual scope f cd A outer s H E) x) (ha:PA (zW (xi P w) P w K mg base N qual scope f cd A outer s H E) (e :: es) t)
  (hdb:(x == ("__debug__" : Str))=false:=by decide) (he:starEach (e :: es) (zW (xi P w) P w K mg base N qual scope f cd A outer s H E).env=(false,eval e (zW (xi P w) P w K mg base N qual scope f cd A outer s H E).env) :: starEach es (zW (xi P w) P w K mg base N qual scope f cd A outer s H E).env:=by rfl)
  (hpl:(backTo pos (starEach es (zW (xi P w) P w K mg base N qual scope f cd A outer s H E).env)).any (·.1)=false:=by rfl) :
  PE (zW (xi P w) P w K mg base N qual scope f cd A outer s H E) (.Call (.Name x p) (e :: es) [] pos) (jX sp [] E t):=by
 obtain ⟨f',fd,a,b,c,d⟩:=F.ex
 exact U7 (X:=zW (xi P w) P w K mg base N qual scope f cd A outer s H E) a hr hg b c d .nil (zLO λ_ _ _ z=>z) ha hdb he hpl
end
end L2
namespace Sh
open PySem L2
inductive AK where
 | int (i:Int)
 | bool (b:Bool)
 | non
 | str (x:Str)
 | dic
 | lst (as:List AK)
 | tup (as:List AK)
 | mode (r n s p a d:AK)
noncomputable def AK.isInt:AK->Bool
 | .int _=>true
 | .bool _=>true
 | _=>false
noncomputable def AK.isBool:AK->Bool
 | .bool _=>true
 | _=>false
noncomputable def AK.isLst:AK->Bool
 | .lst _=>true
 | _=>false
noncomputable def AK.isTup:AK->Bool
 | .tup _=>true
 | _=>false
inductive Zo where
 | made | bad | many
noncomputable def Zo.str:Zo->Str
 | .made=>"made"
 | .bad=>"bad"
 | .many=>"many"
end Sh
namespace HT
open PySem PySem.Spec PyProof.Rows
section
variable {prog:Program} {w:World} {A:Around} {E:Value->Shared->Prop} {s:Shared}
theorem cat_tup0 {t b:Addr} {vs ws:List Value} {Q:Value->Shared->Prop} (ht:IsTup s.heap t vs.toArray) (hb:IsTup s.heap b ws.toArray) (hv:vs=[]) (h0:Q (.ref b) s):wpAny (model prog w) A (binaryOp .Add (.ref t) (.ref b)) Q E s:=by
 obtain ⟨⟨cls,dd,data,sl⟩,ho,hc,n,hd⟩:=id ht
 obtain ⟨⟨cls2,dd2,data2,sl2⟩,ho2,hc2,n2,hd2⟩:=id hb
 simp only at hc hd hc2 hd2
 subst hc hd hc2 hd2
 exact concat_meets ⟨_,ho,rfl⟩ ⟨_,ho2,rfl⟩ noFill_tuple_add seq_tuple_add fU fK (fF _ _)
  (tuple_addW0 t b vs.toArray ws.toArray n n2 dd dd2 sl sl2 (by simp [hv])) ⟨ho,ho2,h0⟩
theorem getItem_tuple_all {t sl:Addr} {items:Array Value} {vl vu:Value} {lo hi:Option Int} {Q:Value->Shared->Prop} (ht:IsTup s.heap t items) (hs:s.heap.IsSliceOf sl vl vu .none) (pl:IsPart vl lo) (pu:IsPart vu hi)
  (hw:sIx items.size 0 lo=0/\sIx items.size items.size hi=items.size) (h:Q (.ref t) s):wpAny (model prog w) A (getItem (.ref t) (.ref sl)) Q E s:=by
 obtain ⟨os,hos,hcs,hds⟩:=id hs
 have hTs:s.TypeIs (.ref sl) "slice":=⟨os,hos,hcs⟩
 unfold getItem
 try with_reducible refine wpAny_holding ?_
 first | refine wpAny_bind (wpAny_pure ?_) | skip
 refine wpAny_bind (wpAny_sequenceKey ht.typeIs (by decide) ?_)
 refine wpAny_bind (wpAny_callSpecial?_slot (name:=dM "__getitem__") ht.typeIs PyProof.Rows.slot_tuple_getitem
  (wpAny_call_entry PyProof.Rows.slot_tuple_getitem ht.typeIs entry_tuple_getitem ?_ (args_tuple_getitem _ _)))
 show wpAny _ _ (Builtin.Tuple.tupleItemsOf (.ref t) >>= _) _ _ s
 refine wpAny_bind (tupleItemsOf_ ht ?_)
 refine wpAny_bind (wpAny_typeOf hTs ?_)
 rw [if_pos (by decide)]
 refine wpAny_bind (zDB hs pl pu ?_)
 have hyes:(((sIx items.size 0 lo:Nat):Int) == 0 && (1:Int) == 1 && (sIx items.size items.size hi - sIx items.size 0 lo) == items.size)=true:=by
  rw [hw.1,hw.2]
  simp
 show wpAny _ _ (if (((sIx items.size 0 lo:Nat):Int) == 0 && (1:Int) == 1 && (sIx items.size items.size hi - sIx items.size 0 lo) == items.size)=true then _ else _) _ _ s
 rw [if_pos hyes]
 unfold Builtin.Tuple.tupleIsExact
 refine wpAny_bind (wpAny_bind (wpAny_typeOf ht.typeIs (wpAny_pure ?_)))
 rw [if_pos (by decide)]
 refine wpAny_bind (wpAny_rule ?_)
 exact wpAny_pure ⟨_,rfl,wpAny_pure h⟩
end
end HT
namespace L2
open PySem PySem.Spec PyProof.Rows
section
variable {X:Cx}
inductive Je (x y:V) (H:Hp) (Q:VK):Prop
 | mk (a b:Addr) (xs ys:List V) (_:x=.ref a) (_:y=.ref b) (_:H a=some (.tup xs)) (_:H b=some (.tup ys)) (_:xs.length + ys.length<=sizeLine) (_:∀ p H',zM H H'->H' p=some (.tup (xs++ys))->Q (.ref p) H'):Je x y H Q
theorem Zq:y9 X (binaryOp .Add) Je:=by
 intro pins s σ H x y v u Q I rx ry h
 obtain ⟨a,b,xs,ys,rfl,rfl,ha,hb,hz,q⟩:=h
 by_cases hne:xs=[]
 ·subst hne
  cases rx
  cases ry
  obtain ⟨its,r1,p1,_⟩:=I.tuple (yQ.of ha)
  obtain ⟨its2,r2,p2,_⟩:=I.tuple (yQ.of hb)
  exact HT.cat_tup0 p1 p2 (r1.nil_iff.mpr rfl) ⟨.ref b,H,I,rfl,q b H (zM.refl _) hb⟩
 ·exact zPf pins s σ H _ _ v u Q I rx ry ⟨a,b,xs,ys,rfl,rfl,ha,hb,hne,hz,q⟩
inductive Zr (x:V) (lo hi:Option Int) (H:Hp) (Q:VK):Prop
 | mk (a:Addr) (xs:List V) (_:x=.ref a) (_:H a=some (.tup xs)) (_:∀ p H',zM H H'->H' p=some (.tup (vF xs lo hi))->Q (.ref p) H'):Zr x lo hi H Q
theorem zNh:qM X Zr:=by
 intro pins s σ H x v vl vu lo hi sl Q I rx hs pl pu h
 obtain ⟨a,xs,rfl,hx,q⟩:=h
 by_cases hw:HT.sIx xs.length 0 lo=0/\HT.sIx xs.length xs.length hi=xs.length
 ·cases rx
  obtain ⟨its,r,ht,hz⟩:=I.tuple (yQ.of hx)
  have hlen:its.toArray.size=xs.length:=by rw [cz]; exact r.length.symm
  refine ⟨"tuple",_,PyProof.Rows.slot_tuple_getitem.lookup,ht.typeIs,?_⟩
  refine HT.getItem_tuple_all ht hs pl pu (by rw [hlen]; exact hw) ⟨.ref a,H,I,rfl,q a H (zM.refl _) (hx.trans ?_)⟩
  unfold vF
  rw [hw.1,hw.2,iU,ij,eR]
 ·exact zQp pins s σ H _ v vl vu lo hi sl Q I rx hs pl pu ⟨a,xs,rfl,yQ.of hx,hw,λp hp=>q p _ (Sh.qR hp _) wS⟩
end
end L2
set_option linter.all false
namespace Sh
noncomputable def bt:List (Int × Int)->Int
 | []=>1
 | p :: ps=>p.2 * bt ps
noncomputable def tp:List Int->List (Int × Int)->Int
 | w :: ws,p :: ps=>w * p.1 * bt ps + p.2 * tp ws ps
 | _,_=>0
noncomputable def xB:List Int->List Int->Int
 | r :: rs,a :: as=>r * a + xB rs as
 | _,_=>0
noncomputable def zm (nums:List Int) (ls:List (List Int)) (j:Nat):Int:=((nums.zip ls).map λq=>q.1 * q.2.getD j 0).sum
theorem Jf (r:Int) (rs:List Int) (c:List Int) (cs:List (List Int)) (j:Nat):zm (r :: rs) (c :: cs) j=r * c.getD j 0 + zm rs cs j:=by
 simp only [zm,i9,cT,iA]
end Sh
set_option linter.all false
namespace Sh
noncomputable def ya (pl:Int) (n:Nat) (nu:Int):List Int:=(cR n).map λ(i:Nat)=>if (i:Int)=pl then nu else 0
theorem vx (pl:Int) (n:Nat) (nu:Int):(ya pl n nu).length=n:=by
 unfold ya
 rw [a_,cI]
noncomputable def xv (n p:Nat) (r:List Int):List Int:=(r.take n++cv p 0)++[r.getD n 0]
noncomputable def wD (n p:Nat) (i:Nat) (b:Int × Int):List (List Int):=[ya ((n + i:Nat):Int) (n + p) 1++[b.2],ya ((n + i:Nat):Int) (n + p) (-1)++[-b.1]]
noncomputable def vy (n:Nat) (bs:List (Int × Int)) (rows:List (List Int)):List (List Int):=rows.map (xv n bs.length)++(bs.mapIdx (wD n bs.length)).flatten
noncomputable def hB (pts:List (Int × Int)) (ws:List Int) (b:Int):Bool:=decide (tp ws pts<=b * bt pts)
noncomputable def hR (pts:List (Int × Int)) (r:List Int):Bool:=hB pts (r.take pts.length) (r.getD pts.length 0)
theorem zJS {α β:Type}:∀ (f:Nat->α->List β) (bs:List α),(∀ i b,(f i b).length=2)->(bs.mapIdx f).flatten.length=2 * bs.length
 | f,[],_=>by simp
 | f,c :: bs,hf=>by
  rw [lT,d9,cj,hf,zJS (λi=>f (i + 1)) bs λi b=>hf _ _,cJ]
  omega
theorem Jg (n:Nat) (bs:List (Int × Int)) (rows:List (List Int)):(vy n bs rows).length=rows.length + 2 * bs.length:=by
 unfold vy
 rw [cj,a_,zJS _ _ λ_ _=>rfl]
end Sh
set_option linter.all false
namespace Sh
theorem zHh:∀ (ns:List Int) (ls:List (List Int)) (j:Nat),zm ns ls j=xB ns (ls.map λr=>r.getD j 0)
 | [],_,_=>by simp [zm,xB]
 | _ :: _,[],_=>by simp [zm,xB]
 | n :: ns,l :: ls,j=>by rw [Jf,cT,zHh ns ls j]; rfl
end Sh
set_option linter.all false
namespace Sh
theorem zNF (B:List (List Int)) (j:Nat):zm [] B j=0:=by unfold zm; simp
theorem uO (r:List Int) (rows:List (List Int)) (x:Int) (nums:List Int) (j:Nat):yW (r :: rows) (x :: nums) j=r.getD j 0 * x + yW rows nums j:=by unfold yW; simp
theorem jz (nums:List Int) (j:Nat):yW [] nums j=0:=by unfold yW; simp
theorem Zs (rows:List (List Int)) (j:Nat):yW rows [] j=0:=by unfold yW; simp
theorem zMo {n:Nat} {r:List Int} (h:n<=r.length):(cR n).map (λi=>r.getD i 0)=r.take n:=by
 apply List.ext_getElem?
 intro i
 rw [cS,i_]
 by_cases hi:i < n
 ·rw [dj hi,if_pos hi,ck (show i < r.length by omega)]
  show some (r.getD i 0)=_
  rw [cg,ck (show i < r.length by omega)]
  rfl
 ·rw [if_neg hi,eC (by rw [cI]; omega)]
  rfl
end Sh
namespace L2
open PySem PySem.Spec PyProof.Rows
noncomputable def wr (t:Bool) (K:b_) (H:Hp) (a:Addr) (xs:List V):Prop:=match t with
 | true=>yQ K H a xs
 | false=>zZ K H a xs
noncomputable def ua (t:Bool) (h:Heap) (a:Addr) (its:Array Value):Prop:=match t with
 | true=>h.IsTuple a its
 | false=>h.IsList a its
noncomputable def ja (t:Bool) (h:Heap) (i a:Addr) (n:Nat):Prop:=match t with
 | true=>h.IsTupleIter i a n
 | false=>h.IsListIter i a n
noncomputable def j1 (t:Bool) (a:Addr):Obj:=match t with
 | true=>{ cls:=.type "tuple_iterator",data:=.fields #[.ref a,.int 0 0] }
 | false=>{ cls:=.type "list_iterator",data:=.fields #[.ref a,.int 0 0] }
section
variable {X:Cx} {pins:List (Addr × Obj)} {σ:St} {H:Hp} {s:Shared} {a i:Addr} {xs ys:List V} {h h':Heap} {n:Nat} {its:Array Value} {prog:Program} {w:World} {A:Around} {E:Value->Shared->Prop}
theorem WY:∀ {t:Bool},ja t h i a n->∃ o,h.get? i=some o/\∀ v,o.data≠.cell v
 | true,⟨o,e,_,d⟩=>⟨o,e,by rw [d]; exact jY⟩
 | false,⟨o,e,_,d⟩=>⟨o,e,by rw [d]; exact jY⟩
theorem WZ (k:∀ o,h.get? i=some o->h'.get? i=some o):∀ {t:Bool},ja t h i a n->ja t h' i a n
 | true,⟨o,e,r⟩=>⟨o,k o e,r⟩
 | false,⟨o,e,r⟩=>⟨o,k o e,r⟩
theorem zRy (k:∀ o,h.get? a=some o->h'.get? a=some o):∀ {t:Bool},ua t h a its->ua t h' a its
 | true,⟨o,e,r⟩=>⟨o,k o e,r⟩
 | false,⟨o,e,r⟩=>⟨o,k o e,r⟩
theorem zOg:∀ {t:Bool},ua t h a its->a < h.objs.size
 | true,⟨_,e,_⟩=>cA e
 | false,⟨_,e,_⟩=>cA e
theorem zRz (e:h.get? i=some (j1 t a)):ja t h i a 0:=by
 cases t
 ·exact ⟨_,e,rfl,rfl⟩
 ·exact ⟨_,e,rfl,rfl⟩
theorem zRw {t:Bool}:(j1 t a).isFreed=false:=by cases t <;> rfl
theorem gp (I:zF X pins σ H s):∀ {t:Bool},wr t X.K H a xs->∃ its:List Value,zL xs its/\ua t s.heap a its.toArray
 | true,q=>let ⟨its,r,p,_⟩:=I.tuple q; ⟨its,r,p⟩
 | false,q=>let ⟨its,r,p,_⟩:=I.list q; ⟨its,r,p.isList⟩
theorem zKl (I:zF X pins σ H s):∀ {t:Bool},wr t X.K H a xs->wr t X.K H a ys->xs=ys
 | true,q,r=>I.tuple_inj q r
 | false,q,r=>I.list_inj q r
theorem Wa (hh:A.handled=none) (hne:a≠i) (its:Array Value):∀ t:Bool,Draws prog w A i [i,a] its.size (λn v=>its[n]? = some v) (λn h=>ja t h i a n/\ua t h a its)
 | true=>zMI hh i a hne its
 | false=>Draws.list hh i a hne its
theorem zRs {Q:Value->Shared->Prop}:∀ {t:Bool},ua t s.heap a its->Q (.ref s.heap.objs.size) { s with heap:=s.heap.push (j1 t a) }->wpAny (model prog w) A (pyIter (.ref a)) Q E s
 | true,q,r=>wpAny_pyIter_tuple q r
 | false,q,r=>wpAny_pyIter_list q r
end
noncomputable def Wb (t u:Bool) (K:b_) (a b:Addr):It:=
 ⟨λi H=>∃ xs ys x y,wr t K H a xs/\wr u K H b ys/\xs[i]? = some x/\ys[i]? = some y,
  λi H v H'=>∃ T x y,v=.ref T/\H T=none/\H'=zY H T (.tup [x,y])/\(∀ xs,wr t K H a xs->xs[i]? = some x)/\∀ ys,wr u K H b ys->ys[i]? = some y,
  λi H=>∃ xs ys,wr t K H a xs/\wr u K H b ys/\i<=xs.length/\i<=ys.length/\(i=xs.length\/i=ys.length)⟩
theorem zKf {t u:Bool} {P:Program} {w:World} {K:b_} {es:List Expr} {kk:Nat} {tp:Pos} {a b z TI TO i1 i2:Addr} (Z:Zp z TI TO i1 i2 [i1,a] [i2,b]) (na:a≠i1) (nb:b≠i2) :
  vC P w K (.Tuple es kk tp) (Wb t u K a b) [z,TI,TO,i1,i2] z (λi h=>IsZip h z TI TO .none/\IsPair h TI (.ref i1) (.ref i2)/\(∃ x y,IsPair h TO x y)/\ja t h i1 a i/\ja u h i2 b i) where
 mem:=by simp
 obj:=λi h ⟨t1,t2,⟨x,y,t3⟩,t4,t5⟩ c hc=>by
  simp only [cu,cW,or_false] at hc
  rcases hc with rfl | rfl | rfl | rfl | rfl
  ·exact ⟨_,t1,jY⟩
  ·exact ⟨_,t2,WQ⟩
  ·exact ⟨_,t3,WQ⟩
  ·exact WY t4
  ·exact WY t5
 keep:=λi h h' ⟨t1,t2,⟨x,y,t3⟩,t4,t5⟩ k=>⟨k z (by simp) _ t1,k TI (by simp) _ t2,⟨x,y,k TO (by simp) _ t3⟩,WZ (k i1 (by simp)) t4,WZ (k i2 (by simp)) t5⟩
 item:=by
  intro X hP hw hK hc i pins s σ H E I hf ⟨t1,t2,⟨x0,y0,t3⟩,t4,t5⟩ hg
  subst hP hw hK
  obtain ⟨xs,ys,x,y,hq1,hq2,hx,hy⟩:=hg
  obtain ⟨its1,rv1,p1⟩:=gp I hq1
  obtain ⟨its2,rv2,p2⟩:=gp I hq2
  obtain ⟨u',hu,ru⟩:=rv1.get hx
  obtain ⟨v,hv,rv⟩:=rv2.get hy
  have hh:X.A.in1.handled=none:=I.ok.hd hc
  have l1:i < its1.toArray.size:=by rw [cz]; exact (cH.mp hu).1
  have l2:i < its2.toArray.size:=by rw [cz]; exact (cH.mp hv).1
  refine zMf (Wa hh na its1.toArray t) (Wa hh nb its2.toArray u) Z t1 t2 t3 ⟨t4,p1⟩ ⟨t5,p2⟩ l1 l2 ?_
  intro x' y' h1 tk px py z1 z2 z3 z4 z5 z6 keep
  simp only [eZ] at px py
  rw [hu] at px
  rw [hv] at py
  cases px
  cases py
  refine ⟨_,rfl,wpAny_letOwnedTupleGo_zip (s:={ s with heap:=h1,toks:=tk }) z1 λh2 z7 sb=>?_⟩
  have zlt:z < s.heap.objs.size:=cA t1
  have keep2:∀ c o,c∉[z,TI,TO,i1,i2]->s.heap.get? c=some o->h2.get? c=some o:=λc o hc e=>by
   simp only [cu,cW,or_false,not_or] at hc
   exact sb.extBut c o hc.1 (keep c o hc.1 hc.2.2.1 hc.2.2.2.1 hc.2.2.2.2 e)
  have I':=I.turnT (h':=h2) (tk:=tk) (ch:=[z,TI,TO,i1,i2]) (x:=x) (y:=y) hf keep2 (cD _) (sb.extBut _ _ (eM zlt) z6) ru rv
  refine ⟨.ref s.heap.objs.size,_,I',rfl,⟨s.heap.objs.size,x,y,rfl,I.hok.fresh (cD _),rfl,λxs' q=>by rw [zKl I q hq1]; exact hx,λys' q=>by rw [zKl I q hq2]; exact hy⟩,
   ⟨z7,sb.extBut _ _ Z.a1 z2,⟨_,_,sb.extBut _ _ Z.a2 z3⟩,WZ (λo=>sb.extBut _ o Z.a3) z4.1,WZ (λo=>sb.extBut _ o Z.a4) z5.1⟩,λc hc=>?_⟩
  have:=(hf c hc).1
  rw [zc]
  ·exact this
  ·intro q
   obtain ⟨o,e⟩:∃ o,s.heap.get? c=some o:=by
    simp only [cu,cW,or_false] at hc
    rcases hc with rfl | rfl | rfl | rfl | rfl
    ·exact ⟨_,t1⟩
    ·exact ⟨_,t2⟩
    ·exact ⟨_,t3⟩
    ·obtain ⟨o,e,_⟩:=WY t4; exact ⟨o,e⟩
    ·obtain ⟨o,e,_⟩:=WY t5; exact ⟨o,e⟩
   rw [q] at e
   exact absurd (cA e) (df _)
 done:=by
  intro X hP hw hK hc i pins s σ H E I hf ⟨t1,t2,⟨x0,y0,t3⟩,t4,t5⟩ hg
  subst hP hw hK
  obtain ⟨xs,ys,hq1,hq2,e1,e2,e3⟩:=hg
  obtain ⟨its1,rv1,p1⟩:=gp I hq1
  obtain ⟨its2,rv2,p2⟩:=gp I hq2
  have hh:X.A.in1.handled=none:=I.ok.hd hc
  have n1:its1.toArray.size=xs.length:=by rw [cz]; exact rv1.length.symm
  have n2:its2.toArray.size=ys.length:=by rw [cz]; exact rv2.length.symm
  refine zO5 (Wa hh na its1.toArray t) (Wa hh nb its2.toArray u) Z t1 t2 t3 ⟨t4,p1⟩ ⟨t5,p2⟩ (by omega) (by omega) (by omega) ?_
  intro h1 tk keep
  refine ⟨rfl,I.turnN (h':=h1) (tk:=tk) (ch:=[z,TI,TO,i1,i2]) hf λc o hc e=>?_⟩
  simp only [cu,cW,or_false,not_or] at hc
  exact keep c o hc.1 hc.2.2.1 hc.2.2.2.1 hc.2.2.2.2 e
 self:=λ_ _ _ _ _ st h=>wpAny_pyIter_zip st.1 h
noncomputable abbrev qd (t u:Bool) (h:Heap) (a b:Addr):Heap:=(h.push (j1 t a)).push (j1 u b)
noncomputable abbrev qe (t u:Bool) (h:Heap) (a b:Addr):Heap:=(qd t u h a b).push { cls:=.type "tuple",data:=.seq #[.ref h.objs.size,.ref (h.push (j1 t a)).objs.size] }
noncomputable abbrev jb (t u:Bool) (h:Heap) (a b:Addr):Heap:=(qe t u h a b).push { cls:=.type "tuple",data:=.seq #[.none,.none] }
noncomputable abbrev uP (t u:Bool) (h:Heap) (a b:Addr):Heap:=(jb t u h a b).push { cls:=.type "zip",data:=.fields #[.none,.bool false,.bool false,.ref (qd t u h a b).objs.size,.ref (qe t u h a b).objs.size] }
theorem zMg (t u:Bool) (a b:Addr) (xs ys:Array Value) :
  Meets (Builtin.«zip.__new__» ⟨[.type "zip",.ref a,.ref b],[]⟩) (λ_ R s=>ua t s.heap a xs/\ua u s.heap b ys/\R (.ok (.ret (.ref (jb t u s.heap a b).objs.size))) { s with heap:=uP t u s.heap a b }):=
 .of_wp λprog w A R s h=>by
  obtain ⟨hp,g,d,tk,os⟩:=s; obtain ⟨h1,h2,h⟩:=h
  have hsub:=sub_zip
  have e1:ua t (Shared.heap ⟨hp,g,d,tk,os⟩) a xs:=h1
  have e2:ua u (Shared.heap ⟨hp.push (j1 t a),g,d,tk,os⟩) b ys:=zRy (λ_ e=>ci _ e) h2
  wp_walk using zRs e1,zRs e2
  exact ⟨_,rfl,h⟩
theorem zMO {t u:Bool} {prog:Program} {w:World} {A:Around} {E:Value->Shared->Prop} {s:Shared} {a b:Addr} {xs ys:Array Value} {Q:Value->Shared->Prop} (h1:ua t s.heap a xs) (h2:ua u s.heap b ys)
  (h:∀ h',IsZip h' (s.heap.objs.size + 4) (s.heap.objs.size + 2) (s.heap.objs.size + 3) .none->IsPair h' (s.heap.objs.size + 2) (.ref s.heap.objs.size) (.ref (s.heap.objs.size + 1))->IsPair h' (s.heap.objs.size + 3) .none .none->
   ja t h' s.heap.objs.size a 0->ja u h' (s.heap.objs.size + 1) b 0->(∀ c o,s.heap.get? c=some o->h'.get? c=some o)->Q (.ref (s.heap.objs.size + 4)) { s with heap:=h' }) :
  wpAny (model prog w) A (call (.type "zip") [.ref a,.ref b]) Q E s:=by
 refine callType_new F.called_zip (by decide) (F.typeCall_zip_2 _ _) (F.newCall_zip_2 _ _) (λobj=>F.args_object_init_3 obj _ _) F.entry_zip_new (zMg t u a b xs ys) ⟨h1,h2,?_⟩
 have g:∀ {h:Heap} {c:Addr} {o o':Obj},h.get? c=some o->(h.push o').get? c=some o:=λe=>ci _ e
 have p5:(uP t u s.heap a b).get? (jb t u s.heap a b).objs.size=some _:=cy _ rfl
 have p4:(uP t u s.heap a b).get? (qe t u s.heap a b).objs.size=some _:=g (cy _ rfl)
 have p3:(uP t u s.heap a b).get? (qd t u s.heap a b).objs.size=some _:=g (g (cy _ rfl))
 have p2:(uP t u s.heap a b).get? (s.heap.push (j1 t a)).objs.size=some _:=g (g (g (cy _ zRw)))
 have p1:(uP t u s.heap a b).get? s.heap.objs.size=some _:=g (g (g (g (cy _ zRw))))
 change _/\_
 simp only [dl] at p5 p4 p3 p2
 have n4:(jb t u s.heap a b).objs.size=s.heap.objs.size + 4:=by simp only [dl]
 rw [n4]
 refine ⟨⟨_,by rw [<- n4]; exact cy _ rfl,rfl⟩,h _ ?_ ?_ ?_ (zRz p1) (zRz p2) λc o x=>g (g (g (g (g x))))⟩
 ·exact p5
 ·exact p3
 ·exact p4
noncomputable def Zu (K:b_) (ta:TA):TI:=λσ H R=>ta σ H λvs H1=>∃ a b t u,vs=[.ref a,.ref b]/\(∃ xs,wr t K H1 a xs)/\(∃ ys,wr u K H1 b ys)/\R (Wb t u K a b) H1
theorem zPW {X:Cx} {es:List Expr} {kk:Nat} {tp:Pos} {e1 e2:Expr} {ta:TA} {p pos:Pos} (hg:Gl X "zip") (hm:X.mg "zip" = none) (ha:PA X [e1,e2] ta) (hs:starEach [e1,e2] X.env=[(false,eval e1 X.env),(false,eval e2 X.env)]:=by rfl) (hs2:starEach [e2] X.env=[(false,eval e2 X.env)]:=by rfl) :
  PI X (.Tuple es kk tp) (.Call (.Name "zip" p) [e1,e2] [] pos) (Zu X.K ta):=by
 intro pins s σ H R I h
 refine Call_ (qG I hg hm (show bootBuiltins "zip" = some (.type "zip") by decide +kernel) (PyProof.Rows.callWith_type1 (zp (ha pos pins s σ H _ I h) λus s1 ⟨vs,H1,I1,r1,q1⟩=>?_) (by rw [hs,hs2]) (by rw [hs2]; rfl)))
 obtain ⟨a,b,t,u,e,⟨xs,hx⟩,⟨ys,hy⟩,q⟩:=q1
 subst e
 obtain ⟨u',v,rfl,ru,rv⟩:=gf r1
 cases ru
 cases rv
 obtain ⟨its1,rv1,p1⟩:=gp I1 hx
 obtain ⟨its2,rv2,p2⟩:=gp I1 hy
 have la:=zOg p1
 have lb:=zOg p2
 refine zMO p1 p2 λh' z1 z2 z3 z4 z5 keep=>wpAny_pyIter_zip z1 ?_
 have I2:zF X pins σ H1 { s1 with heap:=h' }:=I1.kept (t':=s1.toks) keep
 exact ⟨s1.heap.objs.size + 4,[s1.heap.objs.size + 4,s1.heap.objs.size + 2,s1.heap.objs.size + 3,s1.heap.objs.size,s1.heap.objs.size + 1],_,_,H1,rfl,I2,
  zKf (a:=a) (b:=b) (Zf _ _ _ la lb) (de la) (de (fe lb)),⟨z1,z2,⟨_,_,z3⟩,z4,z5⟩,λc hc=>JY I1 hc,q⟩
end L2
namespace L2
open PySem PySem.Spec PyProof.Rows
noncomputable def tsK (prog:Program) (w:World) (A:Around) (cs:List Expr) (env:Env) (Q:Bool->Shared->Prop) (s:Shared):Prop:=match cs with
 | []=>Q true s
 | c :: _=>wpAny (model prog w) A (isTrue c env (eval c env)) Q (λ_ _=>False) s
noncomputable def Zv (X:Cx) (cs:List Expr) (tc:TT):Prop:=match cs with
 | []=>∀ σ H Q,tc σ H Q->Q true H
 | c :: _=>PT X c tc
theorem zQg {X:Cx} {scope:Scope} {b0:_} {C:Addr} {s₀:Shared} {H₀:Hp} {ex:List Addr} {cs:List Expr} {tc:TT} {pins:List (Addr × Obj)} {σ:St} {H:Hp} {s:Shared} {Q:Bool->Hp->Prop} {G:Bool->Shared->Prop} (h:Zv (xA X scope b0 C s₀ H₀ ex) cs tc) (I:zF (xA X scope b0 C s₀ H₀ ex) pins σ H s) (q:tc σ H Q)
  (k:∀ ok s' H',zF (xA X scope b0 C s₀ H₀ ex) pins σ H' s'->Q ok H'->G ok s'):tsK X.prog X.w X.A cs (xA X scope b0 C s₀ H₀ ex).env G s:=by
 cases cs with
 | nil=>exact k true s H I (h _ _ _ q)
 | cons c cs=>exact zp (h pins s σ H _ I q) λok s' ⟨H',I',q'⟩=>k ok s' H' I' q'
section
variable {prog:Program} {w:World} {A:Around} {R:Result->Shared->Prop} {s:Shared}
theorem zIs {elt target iter:Expr} {cs:List Expr} {scope:Scope} {pos:Pos} {it acc:Value} {env:Env} (Wd:Nat->Shared->Prop)
  (turn:∀ n s,Wd n s->wpAny (model prog w) A (pyNext it) (λr s1=>match r with
   | none=>R (.ok .next) s1
   | some v=>wpAny (model prog w) A (letOwnedTupleGo target it v) (λ_ s2=>wpAny (model prog w) A (assign target env v) (λ_ s3=>tsK prog w A cs env (λok s4=>
     if ok=true then wpAny (model prog w) A (eval elt env) (λx s5=>wpAny (model prog w) A (call (.builtin "list.append") [acc,x]) (λ_ s6=>∃ m,m < n/\Wd m s6) (λ_ _=>False) s5) (λ_ _=>False) s4
     else ∃ m,m < n/\Wd m s4) s3) (λ_ _=>False) s2) (λ_ _=>False) s1) (λ_ _=>False) s)
  (hcs:cs=[]\/∃ c,cs=[c]) (n:Nat) (h:Wd n s):codeAny (model prog w) A (.compLoop (.ListComp elt [⟨target,iter,cs,0⟩] scope pos) 0 it acc env) R s:=by
 refine codeAny_loop rfl Wd (λn s hI=>?_) n h
 show wpAny _ _ (Sem.onRaise (compTurn (.ListComp elt [⟨target,iter,cs,0⟩] scope pos) 0 it acc env) _) _ _ s
 refine wpAny_noted ?_
 have go:wpAny (model prog w) A (pyNext it) _ _ s:=turn n s hI
 rcases hcs with rfl | ⟨c,rfl⟩
 ·rw [compTurn_list1]
  refine wpAny_bind (wpAny_standAt (wpAny_bind (wpAny_mono go (λr s1 h1=>?_) λ_ _ z=>False.elim z)))
  cases r with
  | none=>exact wpAny_pure h1
  | some v=>
   refine wpAny_bind (wpAny_mono h1 (λ_ s2 h2=>?_) λ_ _ z=>False.elim z)
   refine wpAny_bind (wpAny_mono h2 (λ_ s3 h3=>?_) λ_ _ z=>False.elim z)
   refine wpAny_bind (wpAny_bind (wpAny_mono h3 (λx s4 h4=>?_) λ_ _ z=>False.elim z))
   exact wpAny_bind (wpAny_mono h4 (λ_ s5 h5=>wpAny_pure (wpAny_pure ⟨rfl,h5⟩)) λ_ _ z=>False.elim z)
 ·rw [compTurn_list]
  refine wpAny_bind (wpAny_standAt (wpAny_bind (wpAny_mono go (λr s1 h1=>?_) λ_ _ z=>False.elim z)))
  cases r with
  | none=>exact wpAny_pure h1
  | some v=>
   refine wpAny_bind (wpAny_mono h1 (λ_ s2 h2=>?_) λ_ _ z=>False.elim z)
   refine wpAny_bind (wpAny_mono h2 (λ_ s3 h3=>?_) λ_ _ z=>False.elim z)
   refine wpAny_bind (wpAny_tests_one (wpAny_mono h3 (λok s4 h4=>?_) λ_ _ z=>False.elim z))
   cases ok with
   | false=>exact wpAny_pure ⟨rfl,h4⟩
   | true=>exact wpAny_bind (wpAny_bind (wpAny_mono h4 (λx s5 h5=>wpAny_bind (wpAny_mono h5 (λ_ s6 h6=>wpAny_pure (wpAny_pure ⟨rfl,h6⟩)) λ_ _ z=>False.elim z)) λ_ _ z=>False.elim z))
end
section
variable {X:Cx} {scope:Scope} {own:List Str} {caps:List (Nat × Str)} {elt tg iter:Expr} {cs:List Expr} {wi:TI} {g:TG} {tc:TT} {te:TE} {pos:Pos}
theorem zGQ {pins:List (Addr × Obj)} {σ:St} {H2:Hp} {s2:Shared} {it:Addr} {fp:List Addr} {tn:Nat->Heap->Prop} {J:It} {W:Nat->Nat->List V->St->Hp->Prop} {m0:Nat} {Q:VK} {E:Value->Shared->Prop} {RR:Value->Addr->Result->Shared->Prop}
  (B:uM X scope own caps) (hc:X.calm=true) (hg:∀ C s₀ H₀ ex,PG (xA X scope (zk own caps) C s₀ H₀ ex) tg g) (hcs:cs=[]\/∃ c,cs=[c]) (ht:∀ C s₀ H₀ ex,Zv (xA X scope (zk own caps) C s₀ H₀ ex) cs tc) (he:∀ C s₀ H₀ ex,PE (xA X scope (zk own caps) C s₀ H₀ ex) elt te)
  (I2:zF X pins σ H2 s2) (T:vC X.prog X.w X.K tg J fp it tn) (st2:tn 0 s2.heap) (f2:∀ b∈fp,yz X pins H2 b) (w0:W 0 m0 [] (uK own caps σ) H2)
  (turn:∀ i m ys σ1 H,W i m ys σ1 H->(J.stop i H/\∀ p,H p=none->Q (.ref p) (zY H p (.lst ys)))∨
   (J.go i H/\ys.length < sizeLine/\∃ (N:V->St->Hp->Prop) (N0:St->Hp->Prop),(∀ y σ' H',N y σ' H'->∃ m',m' < m/\W (i + 1) m' (ys++[y]) σ' H')/\(∀ σ' H',N0 σ' H'->∃ m',m' < m/\W (i + 1) m' ys σ' H')∧
    ∀ x H',J.yld i H x H'->g x σ1 H' λσ2 H2=>tc σ2 H2 λb H3=>if b=true then te σ2 H3 λy H4=>N y σ2 H4 else N0 σ2 H3))
  (hRR:∀ D C s6 H6 ys m,s6.heap.Ns C m->s2.heap.objs.size<=C->(∀ h',Heap.SameBut C s6.heap h'->zF X pins σ (zY H6 D (.lst ys)) { s6 with heap:=h' })->zY H6 D (.lst ys) C=none->Q (.ref D) (zY H6 D (.lst ys))->RR (.ref D) C (.ok .next) s6) :
  wpAny (model X.prog X.w) X.A (newList []) (λacc s3=>wpAny (model X.prog X.w) X.A (newFunctionEnv scope X.env.globals (vZ scope X.env) [] X.env.qual none .none (some X.env)) (λcenv s4=>
   codeAny (model X.prog X.w) X.A (.compStart (.ListComp elt [⟨tg,iter,cs,0⟩] scope pos) 0 (.ref it) acc { cenv with scope:=relabel scope X.env }) (RR acc cenv.locals) s4) E s3) E s2:=by
 have hlt:∀ b∈fp,b < s2.heap.objs.size:=λb hb=>by
  obtain ⟨o,ho,_⟩:=T.obj _ _ st2 b hb
  exact cA ho
 refine wpAny_newObj_type (zHC ?_)
 dsimp only
 generalize hP:s2.heap.push { cls:=.type "list",dict:=none,data:=.seq ([]:List Value).toArray }=HD
 have hns:(pushCells (HD.push { cls:=.type "dict",data:=.dict #[] }) scope.names).Ns HD.objs.size (λ_=>none):=(Heap.Ns.new HD (.type "dict")).keeps (pushCells_keeps _ _)
 have hkp:∀ b o,HD.get? b=some o->(pushCells (HD.push { cls:=.type "dict",data:=.dict #[] }) scope.names).get? b=some o:=λb o e=>pushCells_keeps _ _ b o (ci _ e)
 have hcell:∀ x c,(cellsFrom (HD.objs.size + 1) scope.names (vZ scope X.env)).lookup x=some c->(vZ scope X.env).lookup x=some c\/(pushCells (HD.push { cls:=.type "dict",data:=.dict #[] }) scope.names).IsCell c none:=λx c e=>
  JV _ _ _ (by rw [dl]; exact e)
 generalize hP4:pushCells (HD.push { cls:=.type "dict",data:=.dict #[] }) scope.names=h4 at hns hkp hcell |-
 have hCD:HD.objs.size=s2.heap.objs.size + 1:=by rw [<- hP,dl]
 have hDC:s2.heap.objs.size≠HD.objs.size:=by omega
 have hle:s2.heap.objs.size<=HD.objs.size:=by omega
 have old:∀ b o,s2.heap.get? b=some o->h4.get? b=some o:=λb o eb=>hkp b o (by rw [<- hP]; exact ci _ eb)
 have hD4:h4.get? s2.heap.objs.size=some { cls:=.type "list",data:=.seq ([]:List Value).toArray 0 }:=hkp _ _ (by rw [<- hP]; exact cy _ rfl)
 have IY:zF (xA X scope (zk own caps) HD.objs.size s2 H2 fp) [] (uK own caps σ) H2 { s2 with heap:=h4 }:=
  zNy B I2 f2 (by omega) hlt hns old hcell rfl I2.bare
 have stat:∀ {H':Hp},(∀ b∈fp,H' b=none)->∀ b∈fp,yz (xA X scope (zk own caps) HD.objs.size s2 H2 fp) [] H' b:=λ{H'} hn b hb=>by
  have hb2:=hlt b hb
  refine ⟨hn b hb,?_,λz=>?_,.inl hb,λx c ec=>(match WU B ec with | .inl z=>Zg hb2 hle z.2 | .inr z=>(f2 b hb).2.2.2.2.1 x c z),λp hp=>by simp at hp⟩
  ·exact de (cP hb2 hle)
  ·rcases cu.mp (I2.stkSub b z) with e | z
   ·exact (f2 b hb).2.1 e
   ·exact (f2 b hb).2.2.1 z
 have statD:∀ {H':Hp},H' s2.heap.objs.size=none->yz (xA X scope (zk own caps) HD.objs.size s2 H2 fp) [] H' s2.heap.objs.size:=λ{H'} hn=>by
  refine ⟨hn,hDC,λz=>?_,.inr (cD _),λx c ec z=>?_,λp hp=>by simp at hp⟩
  ·obtain ⟨_,o,ho,_⟩:=I2.stack.mem z
   exact absurd (cA ho) (df _)
  ·rcases WU B ec with ⟨_,y⟩ | y
   ·exact JS hCD y z
   ·have:=zJe I2 y
    rw [z] at this
    exact df _ this
 have gv:∀ b∈fp,b≠s2.heap.objs.size:=λb hb=>de (hlt b hb)
 have IY':zF (xA X scope (zk own caps) HD.objs.size s2 H2 fp) [(s2.heap.objs.size,xo [] 0)] (uK own caps σ) H2 { s2 with heap:=h4 }:=
  IY.pins_of λp hp=>by
   rw [cQ.mp hp]
   have z:=statD (I2.hok.fresh (cD _))
   exact ⟨hD4,z.1,z.2.1,z.2.2.1,λv z=>by cases z⟩
 have loop:∀ s3:Shared,s3={ s2 with heap:=h4 }->
   codeAny (model X.prog X.w) X.A (.compLoop (.ListComp elt [⟨tg,iter,cs,0⟩] scope pos) 0 (.ref it) (.ref s2.heap.objs.size) (compEnvC scope (cellsFrom (HD.objs.size + 1) scope.names (vZ scope X.env)) HD.objs.size X.env))
    (RR (.ref s2.heap.objs.size) HD.objs.size) s3:=by
  rintro s3 rfl
  refine zIs (λn s'=>∃ i ys σ' H' its k,zF (xA X scope (zk own caps) HD.objs.size s2 H2 fp) [(s2.heap.objs.size,xo its k)] σ' H' s'/\tn i s'.heap/\(∀ b∈fp,H' b=none)∧
   zL ys its/\ys.length<=sizeLine/\W i n ys σ' H') ?_ hcs m0 ⟨0,[],_,H2,[],0,IY',T.keep _ _ _ st2 λb hb o eb=>old b o eb,λb hb=>(f2 b hb).1,.nil,eO _,w0⟩
  rintro n s5 ⟨i,ys,σ5,H5,its,k,I5,st5,fr5,rv5,hz5,w5⟩
  have stat5:∀ {H':Hp},(∀ b∈fp,H' b=none)->∀ b∈fp,yz (xA X scope (zk own caps) HD.objs.size s2 H2 fp) [(s2.heap.objs.size,xo its k)] H' b:=λ{H'} hn b hb=>by
   obtain ⟨a1,a2,a3,a4,a5,_⟩:=stat hn b hb
   refine ⟨a1,a2,a3,a4,a5,λp hp=>?_⟩
   have hp':p∈[(s2.heap.objs.size,xo its k)]:=hp
   rw [cQ.mp hp']
   exact Ne.symm (gv b hb)
  rcases turn i n ys σ5 H5 w5 with ⟨stop,qn⟩ | ⟨go,hlen,N,N0,hN,hN0,step⟩
  ·refine zp (T.done (xA X scope (zk own caps) HD.objs.size s2 H2 fp) rfl rfl rfl hc i _ s5 σ5 H5 _ I5 (stat5 fr5) st5 stop) λr s6 ⟨hr,I6⟩=>?_
   subst hr
   obtain ⟨pD1,pD2,_⟩:=I6.pin (s2.heap.objs.size,xo its k) (cU _ cq)
   obtain ⟨m6,hn6,_⟩:=I6.loc
   refine hRR _ _ s6 H5 ys m6 hn6 (by omega) (λh' sb=>?_) (by rw [zc (Ne.symm hDC)]; exact I6.free) (qn _ pD2)
   have hC5:H5 HD.objs.size=none:=I6.free
   have nb:∀ b o,s2.heap.get? b=some o->b≠HD.objs.size/\b≠s2.heap.objs.size:=λb o eb=>by
    have hb:=cA eb
    exact ⟨de (cP hb hle),de hb⟩
   have nt:∀ b o,H5 b=some o->b≠s2.heap.objs.size:=λb o eb z=>by rw [z] at eb; rw [show H5 s2.heap.objs.size=none from pD2] at eb; cases eb
   have un:Un (xJ X.stack) fp H2 (zY H5 s2.heap.objs.size (.lst ys)) s2.heap h':=
    ⟨λb o eb n1 n2 n3=>sb.extBut b o (nb b o eb).1 (I6.base.keep b o eb n1 n2 n3),
     λb o eb n1 n2 n3=>by
      obtain ⟨sl,e1⟩:=I6.base.slot b o eb n1 n2 n3
      exact ⟨sl,sb.extBut b _ (nb b o eb).1 e1⟩,
     λb o eb n1 n3=>by
      rw [zc (nb b o eb).2]
      exact I6.base.free b o eb n1 n3,
     λb o eb n3=>by
      obtain ⟨o',e1⟩:=I6.base.there b o eb n3
      exact ⟨o',sb.extBut b _ (nb b o eb).1 e1⟩,
     λb xs eb=>by
      have e1:=I6.base.tups b xs eb
      rw [zc (nt b _ e1)]
      exact e1,
     λb o u eb=>by
      have e1:=I6.base.frzs b o u eb
      rw [zc (nt b _ e1)]
      exact e1,
     λb ps eb=>by
      obtain ⟨more,e1⟩:=I6.base.tbls b ps eb
      refine ⟨more,?_⟩
      rw [zc (nt b _ e1)]
      exact e1⟩
   have ok5:yy X.prog X.w (zY H5 s2.heap.objs.size (.lst ys)) h':=λb u eb=>by
    by_cases hb:b=s2.heap.objs.size
    ·subst hb
     rw [wS] at eb
     cases eb
     exact ⟨hz5,its,k,rv5,sb.extBut _ _ hDC pD1⟩
    ·rw [zc hb] at eb
     refine (I6.hok b u eb).stay (λc v hcv ev=>sb.extBut c v ?_ ev) (λc ec=>by rw [zc (nt c _ ec)]; exact ec) λc xs ec=>by rw [zc (nt c _ ec)]; exact ec
     rintro rfl
     rcases hcv with z | z
     ·rw [<- z,hC5] at eb
      cases eb
     ·rw [hC5] at z
      cases z
   exact I2.call' (s':={ s6 with heap:=h' }) (ch:=fp) I6.os un ok5 I6.bare λb hb=>⟨(f2 b hb).2.2.2.1,(f2 b hb).2.1,(f2 b hb).2.2.2.2.1,(f2 b hb).2.2.2.2.2⟩
  ·refine zp (T.item (xA X scope (zk own caps) HD.objs.size s2 H2 fp) rfl rfl rfl hc i _ s5 σ5 H5 _ I5 (stat5 fr5) st5 go) λr s6 ⟨u,hr,h6⟩=>?_
   subst hr
   refine zp h6 λ_ s7 ⟨x,H7,I7,r7,y7,st7,fr7⟩=>?_
   have I7':=I7.pinned (stat5 fr7) (T.obj _ _ st7)
   refine zp (hg HD.objs.size s2 H2 fp _ s7 σ5 H7 x u _ I7' r7 (step x H7 y7)) λ_ s8 ⟨σ8,H8,I8,q8⟩=>?_
   refine zQg (ht HD.objs.size s2 H2 fp) I8 q8 λok sT HT IT qT=>?_
   cases ok with
   | false=>
    obtain ⟨m',hm',w9⟩:=hN0 σ8 HT qT
    refine ⟨m',hm',i + 1,ys,σ8,HT,its,k,IT.unpinned,?_,λb hb=>?_,rv5,hz5,w9⟩
    ·refine T.keep _ _ _ st7 λb hb o eb=>?_
     exact (IT.pin (b,o) (cU _ (cU _ (gd hb eb)))).1
    ·obtain ⟨o,eb,_⟩:=T.obj _ _ st7 b hb
     exact (IT.pin (b,o) (cU _ (cU _ (gd hb eb)))).2.1
   | true=>
    refine zp (he HD.objs.size s2 H2 fp _ sT σ8 HT _ IT qT) λyv s9 ⟨y,H9,I9,r9,n9⟩=>?_
    obtain ⟨m',hm',w9⟩:=hN y σ8 H9 n9
    have pD9:=(I9.pin (s2.heap.objs.size,xo its k) (cU _ (hW _ cq))).2.1
    have hl:its.length=ys.length:=rv5.length.symm
    refine zNx (Y:=xA X scope (zk own caps) HD.objs.size s2 H2 fp) (its:=its) (k:=k) (pl:=ZK fp s7.heap) I9 (statD pD9) rfl (by omega) λh' k' tk keep I'=>?_
    refine ⟨m',hm',i + 1,ys++[y],σ8,H9,its++[yv],k',I',?_,λb hb=>?_,rv5.append (.cons r9 .nil),?_,w9⟩
    ·refine T.keep _ _ _ st7 λb hb o eb=>keep b o (gv b hb) ?_
     exact (I9.pin (b,o) (cU _ (cU _ (gd hb eb)))).1
    ·obtain ⟨o,eb,_⟩:=T.obj _ _ st7 b hb
     exact (I9.pin (b,o) (cU _ (cU _ (gd hb eb)))).2.1
    ·rw [cj,eX]
     omega
 exact codeAny_compStart_list (loop _ rfl) (T.self _ 0 _ _ _ (T.keep _ _ _ st2 λb hb o eb=>old b o eb) (loop _ rfl))
theorem zJF {i:Nat} {y:Str} {py spos:Pos} (hN:X.N.Nodup) (hy:X.N[i]? = some y) (hl:X.env.scope.names.lookup y=some .local) (B:uM X scope own caps) (hc:X.calm=true) (hi:PI X tg iter wi) (hg:∀ C s₀ H₀ ex,PG (xA X scope (zk own caps) C s₀ H₀ ex) tg g)
  (hcs:cs=[]\/∃ c,cs=[c]) (ht:∀ C s₀ H₀ ex,Zv (xA X scope (zk own caps) C s₀ H₀ ex) cs tc) (he:∀ C s₀ H₀ ex,PE (xA X scope (zk own caps) C s₀ H₀ ex) elt te) (hsw:swapsWith (.ListComp elt [⟨tg,iter,cs,0⟩] scope pos) (some (.Name y py)) spos.line X.env=pure true) (hs:∀ x,foldedSetIterable iter X.env x=pure x:=by intro _; rfl) :
  PS X (.Assign [.Name y py] (.ListComp elt [⟨tg,iter,cs,0⟩] scope pos) spos) (jU (zOE own caps wi g tc te) (ga i)):=by
 intro pins s σ H D0 I h
 rw [exec_Assign_Name_used _ _ _ _ hsw]
 refine wpAny_bind (wpAny_standAt (wpAny_bind ?_))
 change wpAny _ X.A (do let _ <- comprehension (.ListComp elt [⟨tg,iter,cs,0⟩] scope pos) scope X.env _ (newList []) false (eval iter X.env) (some (assign (.Name y py) X.env))) _ _ s
 refine wpAny_bind (wpAny_mono (wpAny_comprehension_free (use:=some (assign (.Name y py) X.env)) (Q:=λ_ s'=>SP X pins D0 .next s') rfl hs (zGR B.free) B.kind B.locs ?_) (λ_ s' hq=>wpAny_pure (wpAny_pure hq)) λ_ _ e=>e)
 refine zp (hi pins s σ H _ I h) λxv s1 h1=>zp h1 λitv s2 h2=>?_
 obtain ⟨it,fp,tn,J,H2,e,I2,T,st2,f2,W,⟨m0,w0⟩,turn⟩:=h2
 subst e
 refine zGQ (Q:=λx H1=>D0.nx (σ.set i (some x)) H1) (RR:=λacc C=>compPost (model X.prog X.w) X.A X.xe (some (assign (.Name y py) X.env)) (λ_ s'=>SP X pins D0 .next s') acc C) B hc hg hcs ht he I2 T st2 f2 w0 turn λD C s6 H6 ys m hn hC J6 hC6 q=>?_
 have I6:zF X pins σ (zY H6 D (.lst ys)) s6:=J6 s6.heap (.refl ..)
 have CL:C≠X.env.locals:=λz=>by rw [z] at hC; exact absurd (cP I2.lt hC) (df _)
 have CC:∀ x c,X.env.cells.lookup x=some c->c≠C:=λx c ec z=>by
  obtain ⟨v,o,ho,_⟩:=I2.cell x c ec
  rw [z] at ho
  exact absurd (cP (cA ho) hC) (df _)
 have CP:∀ p∈X.pn++pins,p.1≠C:=λp hp z=>by
  have hl:=cA (I2.pin p hp).1
  rw [z] at hl
  exact absurd (cP hl hC) (df _)
 change wpAny _ X.A (assign (.Name y py) X.env (.ref D)) _ _ s6
 refine wpAny_assign_Name (zHW I6 hN hy (.inl hl) (v:=.ref D) rfl (λs7 I7 ⟨a,sb,ha⟩=>?_) (.inr hl))
 have aC:C≠a:=λz=>by
  rcases ha with e | e
  ·exact CL (z.trans e)
  ·exact CC _ _ e z.symm
 refine ⟨m,hn.sameBut sb aC,λh' sb'=>⟨_,_,I7.turned (h':=h') (t':=s7.toks) (it:=C) (λb o hb eb=>sb'.extBut b o hb eb) hC6 CL (.inr (dH I2.sz hC)) CC CP,q⟩⟩
theorem zNN (B:uM X scope own caps) (hc:X.calm=true) (hi:PI X tg iter wi) (hg:∀ C s₀ H₀ ex,PG (xA X scope (zk own caps) C s₀ H₀ ex) tg g)
  (hcs:cs=[]\/∃ c,cs=[c]) (ht:∀ C s₀ H₀ ex,Zv (xA X scope (zk own caps) C s₀ H₀ ex) cs tc) (he:∀ C s₀ H₀ ex,PE (xA X scope (zk own caps) C s₀ H₀ ex) elt te) (hs:∀ x,foldedSetIterable iter X.env x=pure x:=by intro _; rfl) :
  PE X (.ListComp elt [⟨tg,iter,cs,0⟩] scope pos) (zOE own caps wi g tc te):=by
 intro pins s σ H Q I h
 rw [eval_ListComp]
 refine wpAny_comprehension_free (use:=none) rfl hs (zGR B.free) B.kind B.locs ?_
 refine zp (hi pins s σ H _ I h) λxv s1 h1=>zp h1 λitv s2 h2=>?_
 obtain ⟨it,fp,tn,J,H2,e,I2,T,st2,f2,W,⟨m0,w0⟩,turn⟩:=h2
 subst e
 refine zGQ (RR:=λacc C=>compPost (model X.prog X.w) X.A X.xe none (EP X pins σ Q) acc C) B hc hg hcs ht he I2 T st2 f2 w0 turn λD C s6 H6 ys m hn hC J6 hC6 q=>?_
 exact ⟨m,hn,λh' sb=>⟨.ref D,_,J6 h' sb,rfl,q⟩⟩
end
end L2
namespace Pu
open PySem L2 Sh
inductive D where
 | int (i:Int)
 | bool (b:Bool)
 | non
 | str (x:Str)
 | frz (ds:List D)
 | lst (ds:List D)
 | tup (ds:List D)
 | obj (c:Addr) (ns:List Str) (ds:List D)
inductive DV (H:Hp):V->D->Prop where
 | int (i:Int):DV H (.int i) (.int i)
 | bool (b:Bool):DV H (.bl b) (.bool b)
 | non:DV H .non .non
 | str (x:Str):DV H (.str x) (.str x)
 | frz {a:Addr} {xs:List V} {ds:List D} (e:∃ o,H a=some (.frz o (.lst xs))) (h:Paired (DV H) xs ds):DV H (.ref a) (.frz ds)
 | lst {a:Addr} {xs:List V} {ds:List D} (e:H a=some (.lst xs)) (h:Paired (DV H) xs ds):DV H (.ref a) (.lst ds)
 | tup {a:Addr} {xs:List V} {ds:List D} (e:H a=some (.tup xs)) (h:Paired (DV H) xs ds):DV H (.ref a) (.tup ds)
 | obj {o dx c:Addr} {ns:List Str} {xs:List V} {ds:List D} (e:H o=some (.ins c dx (ns.zip xs))) (l:ns.length=xs.length) (h:Paired (DV H) xs ds):DV H (.ref o) (.obj c ns ds)
theorem jI {H H':Hp} (s:zM H H') {a:Addr} {u:HO} (h:Rd H a u):Rd H' a u:=h.imp (s _ _) λ⟨o,e⟩=>⟨o,s _ _ e⟩
theorem DV.same {H H':Hp} (s:zM H H'):∀ {v:V} {d:D},DV H v d->DV H' v d
 | _,_,.int i=>.int i
 | _,_,.bool b=>.bool b
 | _,_,.non=>.non
 | _,_,.str x=>.str x
 | _,_,.frz ⟨o,e⟩ h=>.frz ⟨o,s _ _ e⟩ (go s h)
 | _,_,.lst e h=>.lst (s _ _ e) (go s h)
 | _,_,.tup e h=>.tup (s _ _ e) (go s h)
 | _,_,.obj e l h=>.obj (s _ _ e) l (go s h)
where
 go {H H':Hp} (s:zM H H'):∀ {xs:List V} {ds:List D},Paired (DV H) xs ds->Paired (DV H') xs ds
  | _,_,.nil=>.nil
  | _,_,.cons h t=>.cons (DV.same s h) (go s t)
noncomputable abbrev yH (H:Hp):List V->List D->Prop:=Paired (DV H)
theorem xw {H H':Hp} (s:zM H H') {xs:List V} {ds:List D} (h:yH H xs ds):yH H' xs ds:=DV.same.go s h
theorem Jh {H:Hp}:∀ {xs:List V} {ns:List Int},yH H xs (ns.map D.int)->xs=ns.map V.int
 | _,[],.nil=>rfl
 | _,_ :: _,.cons h t=>by cases h; rw [Jh t]; rfl
theorem zHz {H:Hp}:∀ {xs:List V} {bs:List Bool},yH H xs (bs.map D.bool)->xs=bs.map V.bl
 | _,[],.nil=>rfl
 | _,_ :: _,.cons h t=>by cases h; rw [zHz t]; rfl
theorem zHy {H:Hp}:∀ {ns:List Int},yH H (ns.map V.int) (ns.map D.int)
 | []=>.nil
 | _ :: _=>.cons (.int _) zHy
noncomputable abbrev D.scr (ns:List Int):D:=.frz (ns.map D.int)
theorem DV.scr {H:Hp} {a:Addr} {ns:List Int} (e:∃ o,H a=some (.frz o (.lst (ns.map V.int)))):DV H (.ref a) (.scr ns):=.frz e zHy
theorem DV.frz_inv {H:Hp} {v:V} {ds:List D} (h:DV H v (.frz ds)):∃ p xs,v=.ref p/\Rd H p (.lst xs)/\yH H xs ds:=by cases h with | frz e h=>exact ⟨_,_,rfl,.inr e,h⟩
noncomputable def uq:HO->Bool
 | .tbl _=>true
 | _=>false
noncomputable def ur:HO->Bool
 | .lst _=>true
 | .ins _ _ _=>true
 | _=>false
class yX where
 I:Hp->Prop
 same:∀ {H H':Hp},I H->zM H H'->I H'
 but:∀ {H H':Hp} {l:Addr} {o:HO},I H->H l=some o->ur o=true->(∀ b,b≠l->H' b=H b)->I H'
variable [yX]
theorem yX.put {H:Hp} {l:Addr} {u o:HO} (i:yX.I H) (e:H l=some u) (n:ur u=true:=by rfl):yX.I (zY H l o):=yX.but i e n λ_ c=>zc c
noncomputable def less (l:Addr) (H:Hp):Hp:=λb=>if b=l then none else H b
theorem yX.less {H:Hp} {l:Addr} {u:HO} (i:yX.I H) (e:H l=some u) (n:ur u=true:=by rfl):yX.I (less l H):=yX.but i e n λ_ c=>if_neg c
theorem zNe {H:Hp} {l:Addr}:zM (less l H) H:=λb o e=>by
 by_cases c:b=l
 ·rw [show less l H b=none from if_pos c] at e; cases e
 ·exact (if_neg c).symm.trans e
structure Sm (H H':Hp):Prop where
 s:∀ b o,H b=some o->uq o=false->H' b=some o
 t:∀ b o,H b=some o->uq o=true->∃ o',H' b=some o'/\uq o'=true
 k:yX.I H->yX.I H'
theorem Sm.at {H H':Hp} (s:Sm H H') {b:Addr} {o:HO} (e:H b=some o) (n:uq o=false:=by rfl):H' b=some o:=s.s b o e n
theorem Sm.of {H H':Hp} (s:zM H H'):Sm H H':=⟨λb o e _=>s b o e,λb o e n=>⟨o,s b o e,n⟩,λi=>yX.same i s⟩
theorem Sm.refl (H:Hp):Sm H H:=.of (zM.refl H)
theorem Sm.trans {H H1 H2:Hp} (a:Sm H H1) (b:Sm H1 H2):Sm H H2:=⟨λc o e n=>b.s c o (a.s c o e n) n,λc o e n=>let ⟨o1,e1,n1⟩:=a.t c o e n; b.t c o1 e1 n1,λi=>b.k (a.k i)⟩
theorem Sm.free {H H':Hp} (s:Sm H H') {b:Addr} (n:H' b=none):H b=none:=by
 cases e:H b with
 | none=>rfl
 | some o=>
  cases q:uq o with
  | false=>have:=s.s b o e q; rw [n] at this; cases this
  | true=>obtain ⟨o',e',_⟩:=s.t b o e q; rw [n] at e'; cases e'
theorem Sm.put {H0 H:Hp} {l:Addr} {x o:HO} (s:Sm H0 H) (n:H0 l=none) (e:H l=some x) (li:ur x=true:=by rfl):Sm H0 (zY H l o):=⟨λb u q t=>(zc (xZ q n)).trans (s.s b u q t),λb u q t=>let ⟨o',e',t'⟩:=s.t b u q t; ⟨o',(zc (xZ q n)).trans e',t'⟩,λi=>yX.put (s.k i) e li⟩
theorem zQn {H H1 H2:Hp} {x:Addr} {u:HO} (s:Sm H H1) (e:H1 x=some u) (b:Sm (less x H1) H2) (n:H x=none) (li:ur u=true:=by rfl):Sm H H2:=⟨λc o q t=>b.s c o ((if_neg (xZ q n)).trans (s.s c o q t)) t,λc o q t=>let ⟨o',e',t'⟩:=s.t c o q t; b.t c o' ((if_neg (xZ q n)).trans e') t',λi=>b.k (yX.less (s.k i) e li)⟩
theorem wM {H:Hp} {a:Addr} (h:H a=none) (o:HO):Sm H (zY H a o):=.of (qR h o)
open Classical in
noncomputable def zJ (Z:Addr->Prop) (H:Hp):Hp:=λb=>if Z b then none else (H b).filter λo=>!(uq o)
theorem xb {Z:Addr->Prop} {H:Hp} {b:Addr} {o:HO} (h:¬ Z b) (e:H b=some o) (n:uq o=false:=by rfl):zJ Z H b=some o:=by
 unfold zJ
 rw [if_neg h,e,Option.filter_some,n]
 rfl
theorem qf {Z:Addr->Prop} {H:Hp} {b:Addr} {o:HO} (h:zJ Z H b=some o):uq o=false:=by
 unfold zJ at h
 by_cases c:Z b
 ·rw [if_pos c] at h; cases h
 ·rw [if_neg c] at h
  have:=(im.mp h).2
  cases q:uq o with
  | false=>rfl
  | true=>rw [q] at this; cases this
theorem vf {Z:Addr->Prop} {H:Hp} {b:Addr} {o:HO} (h:zJ Z H b=some o):¬ Z b/\H b=some o:=by
 unfold zJ at h
 by_cases c:Z b
 ·rw [if_pos c] at h; cases h
 ·rw [if_neg c] at h; exact ⟨c,(im.mp h).1⟩
theorem zl {Z:Addr->Prop} {H:Hp}:zM (zJ Z H) H:=λ_ _ h=>(vf h).2
theorem yt {Z:Addr->Prop} {H H':Hp} (s:Sm H H'):zM (zJ Z H) (zJ Z H'):=λb o h=>by
 exact xb (vf h).1 (s.s _ _ (vf h).2 (qf h)) (qf h)
theorem Zw {Z Z':Addr->Prop} {H:Hp} (s:∀ b,Z' b->Z b):zM (zJ Z H) (zJ Z' H):=λb o h=>by
 exact xb (λz=>(vf h).1 (s _ z)) (vf h).2 (qf h)
structure ZL (Z:Addr->Prop) (H:Hp):Prop where
 z:∀ b,Z b->∃ u,H b=some u/\∀ xs,u≠.tup xs
 i:yX.I H
theorem ZL.same {Z:Addr->Prop} {H H':Hp} (z:ZL Z H) (s:Sm H H'):ZL Z H':=⟨λb hb=>by
 obtain ⟨u,e,n⟩:=z.z b hb
 cases q:uq u with
 | false=>exact ⟨u,s.s _ _ e q,n⟩
 | true=>
  obtain ⟨u',e',n'⟩:=s.t _ _ e q
  exact ⟨u',e',λxs y=>by rw [y] at n'; cases n'⟩,s.k z.i⟩
theorem ZL.new {Z:Addr->Prop} {H:Hp} (z:ZL Z H) {p:Addr} (h:H p=none):¬ Z p:=λq=>by
 obtain ⟨u,e,_⟩:=z.z p q
 rw [h] at e
 cases e
inductive Sl where
 | no
 | sh (d:D)
 | ow (ds:List D)
 | ob (o c:Addr) (ns:List Str) (ds:List D)
noncomputable def slot:List Sl->Nat->Sl
 | [],_=>.no
 | x :: _,0=>x
 | _ :: t,i + 1=>slot t i
noncomputable def yJ:List Sl->Nat->Sl->List Sl
 | [],_,_=>[]
 | _ :: t,0,y=>y :: t
 | x :: t,i + 1,y=>x :: yJ t i y
theorem gq:∀ (Γ:List Sl) (i:Nat) (y:Sl),(yJ Γ i y).length=Γ.length
 | [],_,_=>rfl
 | _ :: _,0,_=>rfl
 | _ :: t,i + 1,y=>by show (yJ t i y).length + 1=_; rw [gq t i y]; rfl
theorem wN:∀ (Γ:List Sl) (i j:Nat) (y:Sl),slot (yJ Γ i y) j=if j=i/\i < Γ.length then y else slot Γ j
 | [],i,j,y=>by rw [if_neg (λh=>absurd h.2 (l' _))]; rfl
 | x :: t,0,0,y=>(if_pos ⟨rfl,iC _⟩).symm
 | x :: t,0,j + 1,y=>(if_neg (λh=>nomatch h.1)).symm
 | x :: t,i + 1,0,y=>(if_neg (λh=>nomatch h.1)).symm
 | x :: t,i + 1,j + 1,y=>by
  show slot (yJ t i y) j=if j + 1=i + 1/\i + 1 < t.length + 1 then y else slot t j
  rw [wN t i j y]
  by_cases c:j=i/\i < t.length
  ·rw [if_pos c,if_pos ⟨by omega,by omega⟩]
  ·rw [if_neg c,if_neg (λh=>c ⟨by omega,by omega⟩)]
theorem ut:∀ {Γ:List Sl} {i:Nat},slot Γ i≠.no->i < Γ.length
 | [],_,h=>absurd rfl h
 | _ :: _,0,_=>iC _
 | _ :: _,_ + 1,h=>lU (ut (Γ:=_) h)
structure zr (Z:Addr->Prop) (Γ:List Sl) (σ:St) (H:Hp):Prop where
 sh:∀ i d,slot Γ i=.sh d->∃ v,σ[i]? = some (some v)/\DV (zJ Z H) v d
 ow:∀ i ds,slot Γ i=.ow ds->∃ l xs,σ[i]? = some (some (.ref l))/\Z l/\H l=some (.lst xs)/\yH (zJ Z H) xs ds
 ob:∀ i o c ns ds,slot Γ i=.ob o c ns ds->∃ dx xs,σ[i]? = some (some (.ref o))/\Z o/\H o=some (.ins c dx (ns.zip xs))/\ns.length=xs.length/\yH (zJ Z H) xs ds
 ne:∀ i j as bs l,slot Γ i=.ow as->slot Γ j=.ow bs->σ[i]? = some (some (.ref l))->σ[j]? = some (some (.ref l))->i=j
 zd:ZL Z H
 len:Γ.length=σ.length
theorem zr.same {Z:Addr->Prop} {Γ:List Sl} {σ:St} {H H':Hp} (E:zr Z Γ σ H) (s:Sm H H'):zr Z Γ σ H' where
 sh:=λi d e=>let ⟨v,h1,h2⟩:=E.sh i d e; ⟨v,h1,h2.same (yt s)⟩
 ow:=λi ds e=>let ⟨l,xs,h1,h2,h3,h4⟩:=E.ow i ds e; ⟨l,xs,h1,h2,s.at h3,xw (yt s) h4⟩
 ob:=λi o c ns ds e=>let ⟨dx,xs,h1,h2,h3,h5,h4⟩:=E.ob i o c ns ds e; ⟨dx,xs,h1,h2,s.at h3,h5,xw (yt s) h4⟩
 ne:=E.ne
 zd:=E.zd.same s
 len:=E.len
theorem zr.set {Z:Addr->Prop} {Γ:List Sl} {σ:St} {H:Hp} (E:zr Z Γ σ H) {v:V} {d:D} (h:DV (zJ Z H) v d) (i:Nat):zr Z (yJ Γ i (.sh d)) (σ.set i (some v)) H where
 sh:=λj e q=>by
  rw [wN] at q
  by_cases c:j=i/\i < Γ.length
  ·rw [if_pos c] at q
   cases q
   rw [c.1]
   exact ⟨v,by rw [dD (by have:=E.len; omega)],h⟩
  ·rw [if_neg c] at q
   obtain ⟨u,h1,h2⟩:=E.sh j e q
   have hj:=ut (Γ:=Γ) (i:=j) (by rw [q]; exact λz=>nomatch z)
   exact ⟨u,by rw [da (λz=>c ⟨z.symm,by omega⟩)]; exact h1,h2⟩
 ow:=λj e q=>by
  rw [wN] at q
  by_cases c:j=i/\i < Γ.length
  ·rw [if_pos c] at q; cases q
  ·rw [if_neg c] at q
   obtain ⟨l,xs,h1,h2⟩:=E.ow j e q
   have hj:=ut (Γ:=Γ) (i:=j) (by rw [q]; exact λz=>nomatch z)
   exact ⟨l,xs,by rw [da (λz=>c ⟨z.symm,by omega⟩)]; exact h1,h2⟩
 ob:=λj o0 c0 ns e q=>by
  rw [wN] at q
  by_cases c:j=i/\i < Γ.length
  ·rw [if_pos c] at q; cases q
  ·rw [if_neg c] at q
   obtain ⟨dx,xs,h1,h2⟩:=E.ob j o0 c0 ns e q
   have hj:=ut (Γ:=Γ) (i:=j) (by rw [q]; exact λz=>nomatch z)
   exact ⟨dx,xs,by rw [da (λz=>c ⟨z.symm,by omega⟩)]; exact h1,h2⟩
 ne:=λj k as bs l q r e f=>by
  rw [wN] at q r
  by_cases c:j=i/\i < Γ.length
  ·rw [if_pos c] at q; cases q
  ·by_cases c':k=i/\i < Γ.length
   ·rw [if_pos c'] at r; cases r
   ·rw [if_neg c] at q
    rw [if_neg c'] at r
    have hj:=ut (Γ:=Γ) (i:=j) (by rw [q]; exact λz=>nomatch z)
    have hk:=ut (Γ:=Γ) (i:=k) (by rw [r]; exact λz=>nomatch z)
    rw [da (λz=>c ⟨z.symm,by omega⟩)] at e
    rw [da (λz=>c' ⟨z.symm,by omega⟩)] at f
    exact E.ne j k as bs l q r e f
 zd:=E.zd
 len:=by rw [gq,e7]; exact E.len
noncomputable abbrev yE:=List Sl->(D->Prop)->Prop
noncomputable abbrev wf:=List Sl->(Bool->Prop)->Prop
noncomputable abbrev yn:=List Sl->(List D->Prop)->Prop
noncomputable abbrev qg:=List Sl->(Option Int->Prop)->Prop
inductive tP (p:yE) (σ:St) (H:Hp) (Q:VK):Prop
 | mk (Z:Addr->Prop) (Γ:List Sl) (R:D->Prop) (E:zr Z Γ σ H) (h:p Γ R) (q:∀ d v H',R d->Sm H H'->DV (zJ Z H') v d->Q v H'):tP p σ H Q
inductive xR (p:wf) (σ:St) (H:Hp) (Q:Bool->Hp->Prop):Prop
 | mk (Z:Addr->Prop) (Γ:List Sl) (R:Bool->Prop) (E:zr Z Γ σ H) (h:p Γ R) (q:∀ b H',R b->Sm H H'->Q b H'):xR p σ H Q
inductive wE (p:yn) (σ:St) (H:Hp) (Q:List V->Hp->Prop):Prop
 | mk (Z:Addr->Prop) (Γ:List Sl) (R:List D->Prop) (E:zr Z Γ σ H) (h:p Γ R) (q:∀ ds vs H',R ds->Sm H H'->yH (zJ Z H') vs ds->Q vs H'):wE p σ H Q
inductive qh (p:qg) (σ:St) (H:Hp) (Q:Option Int->Hp->Prop):Prop
 | mk (Z:Addr->Prop) (Γ:List Sl) (R:Option Int->Prop) (E:zr Z Γ σ H) (h:p Γ R) (q:∀ o H',R o->Sm H H'->Q o H'):qh p σ H Q
section
variable {X:Cx} {a b e c:Expr} {es:List Expr} {pos:Pos} {pa pb pc:yE} {qa qb:wf} {pl:yn}
theorem yL {t t':TE} (h:PE X e t) (w:∀ σ H Q,t' σ H Q->t σ H Q):PE X e t':=λpins s σ H Q I q=>h pins s σ H Q I (w σ H Q q)
theorem Ji {t t':TT} (h:PT X e t) (w:∀ σ H Q,t' σ H Q->t σ H Q):PT X e t':=λpins s σ H Q I q=>h pins s σ H Q I (w σ H Q q)
theorem pww {t t':TT} (h:PW X e t) (w:∀ σ H Q,t' σ H Q->t σ H Q):PW X e t':=λwh pins s σ H Q I q=>h wh pins s σ H Q I (w σ H Q q)
theorem paw {t t':TA} (h:PA X es t) (w:∀ σ H Q,t' σ H Q->t σ H Q):PA X es t':=λpos pins s σ H Q I q=>h pos pins s σ H Q I (w σ H Q q)
noncomputable def zRP (i:Nat):yE:=λΓ R=>match slot Γ i with | .sh d=>R d | _=>False
theorem zA (i:Nat) {x:Str} {pos:Pos} (hN:X.N[i]? = some x:=by rfl) (hv:gU X.env.scope x:=by first | exact Or.inl rfl | exact Or.inr (Or.inl rfl) | exact Or.inr (Or.inr rfl)) (hd:(x == ("__debug__" : Str))=false:=by decide)
  (hcd:(x == ("__classdict__" : Str))=false:=by decide):PE X (.Name x pos) (tP (zRP i)):=yL (zOX hN hv hd hcd) λσ H Q ⟨Z,Γ,R,E,h,q⟩=>by
 unfold zRP at h
 cases s:slot Γ i with
 | sh d=>
  rw [s] at h
  obtain ⟨v,e,k⟩:=E.sh i d s
  exact ⟨v,e,q d v H h (Sm.refl _) k⟩
 | _=>rw [s] at h; exact h.elim
noncomputable def pC (d:D):yE:=λ_ R=>R d
theorem zD {i j pos}:PE X (.Constant (.int i) j pos) (tP (pC (.int i))):=yL Uq λ_ H _ ⟨_,_,_,_,h,q⟩=>q _ _ H h (Sm.refl _) (.int i)
theorem xj {i j pos}:PE X (.Constant (.bool i) j pos) (tP (pC (.bool i))):=yL ZD λ_ H _ ⟨_,_,_,_,h,q⟩=>q _ _ H h (Sm.refl _) (.bool i)
theorem jJ {j pos}:PE X (.Constant .none j pos) (tP (pC .non)):=yL zRG λ_ H _ ⟨_,_,_,_,h,q⟩=>q _ _ H h (Sm.refl _) .non
theorem zOR {i j pos}:PE X (.Constant (.str i) j pos) (tP (pC (.str i))):=yL zRD λ_ H _ ⟨_,_,_,_,h,q⟩=>q _ _ H h (Sm.refl _) (.str i)
theorem Jj {x:Str} {i:Int} {pos:Pos} (hg:Gl X x) (hm:∃ t,X.mg x=some (.int i t)) (hd:(x == ("__debug__" : Str))=false:=by decide):PE X (.Name x pos) (tP (pC (.int i))):=
 let ⟨_,e⟩:=hm
 yL (zLI (v:=.int i) hg e ⟨_,rfl⟩ hd) λ_ H _ ⟨_,_,_,_,h,q⟩=>q _ _ H h (Sm.refl _) (.int i)
noncomputable abbrev F2:=D->D->(D->Prop)->Prop
noncomputable def wO (f:F2) (pa pb:yE):yE:=λΓ R=>pa Γ λx=>pb Γ λy=>f x y R
noncomputable def wy (r:R2) (f:F2):Prop:=∀ (Z:Addr->Prop) (H:Hp) (x y:V) (a b:D) (R:D->Prop) (Q:VK),ZL Z H->DV (zJ Z H) x a->DV (zJ Z H) y b->f a b R->(∀ d v H',R d->Sm H H'->DV (zJ Z H') v d->Q v H')->r x y H Q
theorem Wc {r:R2} {f:F2} (o:wy r f) (σ:St) (H:Hp) (Q:VK):tP (wO f pa pb) σ H Q->ZM r (tP pa) (tP pb) σ H Q:=λ⟨Z,Γ,R,E,h,q⟩=>
 ⟨Z,Γ,_,E,h,λd v H1 hd s1 hv=>⟨Z,Γ,_,E.same s1,hd,λd2 v2 H2 hd2 s2 hv2=>o Z H2 v v2 d d2 R Q (E.same (s1.trans s2)).zd (hv.same (yt s2)) hv2 hd2 λd3 v3 H3 h3 s3 hv3=>q d3 v3 H3 h3 (s1.trans (s2.trans s3)) hv3⟩⟩
theorem gr {op:Operator} {r:R2} {f:F2} (ho:y9 X (binaryOp op) r) (o:wy r f) (ha:PE X a (tP pa)) (hb:PE X b (tP pb)):PE X (.BinOp a op b pos) (tP (wO f pa pb)):=yL (ZN ho ha hb) (Wc o)
theorem We {op:CmpOp} {r:R2} {f:F2} (ho:y9 X (compareOp op) r) (o:wy r f) (hm:behindInMarks op b=false) (ha:PE X a (tP pa)) (hb:PE X b (tP pb)):PE X (.Compare a [op] [b] pos) (tP (wO f pa pb)):=yL (zPY ho ha hb hm) (Wc o)
theorem ub {Z:Addr->Prop} {H:Hp} {p:Addr} {xs:List V} {ds:List D} (zd:ZL Z H) (hp:H p=none) (h:yH (zJ Z H) xs ds):DV (zJ Z (zY H p (.lst xs))) (.ref p) (.lst ds):=
 .lst (xb (zd.new hp) wS) (xw (yt (wM hp _)) h)
theorem Zx {Z:Addr->Prop} {H:Hp} {p:Addr} {xs:List V} {ds:List D} (zd:ZL Z H) (hp:H p=none) (h:yH (zJ Z H) xs ds):DV (zJ Z (zY H p (.tup xs))) (.ref p) (.tup ds):=
 .tup (xb (zd.new hp) wS) (xw (yt (wM hp _)) h)
theorem zLS {Z:Addr->Prop} {H:Hp} {p:Addr} {xs:List V} {ds:List D} (zd:ZL Z H) (e:H p=some (.tup xs)) (h:yH (zJ Z H) xs ds):DV (zJ Z H) (.ref p) (.tup ds):=
 .tup (xb (λz=>by
  obtain ⟨u,e',n⟩:=zd.z p z
  rw [e] at e'
  cases e'
  exact n xs rfl) e) h
theorem DV.lst_inv {H:Hp} {v:V} {ds:List D} (h:DV H v (.lst ds)):∃ p xs,v=.ref p/\H p=some (.lst xs)/\yH H xs ds:=by cases h with | lst e h=>exact ⟨_,_,rfl,e,h⟩
theorem DV.tup_inv {H:Hp} {v:V} {ds:List D} (h:DV H v (.tup ds)):∃ p xs,v=.ref p/\H p=some (.tup xs)/\yH H xs ds:=by cases h with | tup e h=>exact ⟨_,_,rfl,e,h⟩
theorem few {n:Nat} (h:n<=1000):n<=sizeLine:=ie (JJ h)
noncomputable def zQy:R2:=λx y H Q=>∃ l b xs zs,x=.ref l/\y=.ref b/\Rd H l (.lst xs)/\H b=some (.lst zs)/\xs.length + zs.length<=sizeLine/\∀ p,H p=none->Q (.ref p) (zY H p (.lst (xs++zs)))
theorem zPh:y9 X (binaryOp .Add) zQy:=by
 intro pins s σ H x y v u Q I rx ry h
 obtain ⟨l,b,xs,zs,rfl,rfl,hH,hB,hz,q⟩:=h
 cases rx
 cases ry
 obtain ⟨z,its,n,r,e⟩:=hH.ok I.hok
 have hl:=r.length
 obtain ⟨z2,its2,n2,r2,hl2,e2⟩:=I.lstM hB
 refine PySem.P.add_list e e2 ?_ (by rw [cz,cz]; omega)
 have ea:its.toArray++its2.toArray=(its++its2).toArray:=by simp
 rw [ea]
 exact ⟨.ref _,_,I.lnew (t':=s.toks) (r.append r2) (by rw [cj]; omega),rfl,q _ I.fresh⟩
noncomputable def qi:F2
 | .frz as,.lst bs,R=>as.length + bs.length<=1000/\R (.lst (as++bs))
 | .int i,.int j,R=>R (.int (i + j))
 | .lst as,.lst bs,R=>as.length + bs.length<=1000/\R (.lst (as++bs))
 | .tup as,.tup bs,R=>as.length + bs.length<=1000/\R (.tup (as++bs))
 | _,_,_=>False
theorem zPp:wy (λx y H Q=>uZ (λi j=>.int (i + j)) x y H Q\/(zQy x y H Q\/Je x y H Q)) qi:=λZ H x y a b R Q zd hx hy h q=>by
 unfold qi at h
 split at h
 ·obtain ⟨p,xs,rfl,e1,h1⟩:=hx.frz_inv
  obtain ⟨r,ys,rfl,e2,h2⟩:=hy.lst_inv
  have l1:=Paired.length h1
  have l2:=Paired.length h2
  exact .inr (.inl ⟨p,r,xs,ys,rfl,rfl,jI zl e1,zl _ _ e2,few (by omega),λn hn=>q _ _ _ h.2 (wM hn _) (ub zd hn (gl h1 h2))⟩)
 ·cases hx; cases hy; exact .inl ⟨_,_,rfl,rfl,q _ _ H h (Sm.refl _) (.int _)⟩
 ·obtain ⟨p,xs,rfl,e1,h1⟩:=hx.lst_inv
  obtain ⟨r,ys,rfl,e2,h2⟩:=hy.lst_inv
  have l1:=Paired.length h1
  have l2:=Paired.length h2
  exact .inr (.inl ⟨p,r,xs,ys,rfl,rfl,.inl (zl _ _ e1),zl _ _ e2,few (by omega),λn hn=>q _ _ _ h.2 (wM hn _) (ub zd hn (gl h1 h2))⟩)
 ·obtain ⟨p,xs,rfl,e1,h1⟩:=hx.tup_inv
  obtain ⟨r,ys,rfl,e2,h2⟩:=hy.tup_inv
  have l1:=Paired.length h1
  have l2:=Paired.length h2
  exact .inr (.inr ⟨p,r,xs,ys,rfl,rfl,zl _ _ e1,zl _ _ e2,few (by omega),λn H' s e=>have s:=Sm.of s; q _ _ _ h.2 s (zLS (zd.same s) e (xw (yt s) (gl h1 h2)))⟩)
 ·exact h.elim
noncomputable def qj:F2
 | .int i,.int j,R=>R (.int (i - j))
 | _,_,_=>False
theorem zOc {g:Int->Int->V} {k:Int->Int->D} {f:F2} (hg:∀ i j H,DV H (g i j) (k i j)) (hf:∀ a b R,f a b R->∃ i j,a=.int i/\b=.int j/\R (k i j)):wy (uZ g) f:=λZ H x y a b R Q zd hx hy h q=>by
 obtain ⟨i,j,rfl,rfl,k⟩:=hf a b R h
 cases hx; cases hy
 exact ⟨_,_,rfl,rfl,q _ _ H k (Sm.refl _) (hg i j _)⟩
theorem Jk {C:Int->Int->Prop} {g:Int->Int->V} {k:Int->Int->D} {f:F2} (hg:∀ i j H,DV H (g i j) (k i j)) (hf:∀ a b R,f a b R->∃ i j,a=.int i/\b=.int j/\C i j/\R (k i j)):wy (rI C g) f:=λZ H x y a b R Q zd hx hy h q=>by
 obtain ⟨i,j,rfl,rfl,c,k⟩:=hf a b R h
 cases hx; cases hy
 exact ⟨_,_,rfl,rfl,c,q _ _ H k (Sm.refl _) (hg i j _)⟩
theorem zPi:wy (uZ λi j=>.int (i - j)) qj:=zOc (k:=λi j=>.int (i - j)) (λ_ _ _=>.int _) λa b R h=>by
 unfold qj at h
 split at h
 ·exact ⟨_,_,rfl,rfl,h⟩
 ·exact h.elim
noncomputable def qk:F2
 | .int i,.int j,R=>Bd 60000 i/\Bd 60000 j/\R (.int (i * j))
 | .lst [d],.int k,R=>0<=k/\k<=1000/\R (.lst (cv k.toNat d))
 | _,_,_=>False
theorem Zy {α:Type} (x:α):∀ n:Nat,(cv n [x]).flatten=cv n x
 | 0=>rfl
 | n + 1=>by rw [dr,d9,Zy x n]; rfl
theorem zGF {α β:Type} {R:α->β->Prop} {x:α} {y:β} (h:R x y):∀ n:Nat,Paired R (cv n x) (cv n y)
 | 0=>.nil
 | n + 1=>.cons h (zGF h n)
theorem zPl:wy (λx y H Q=>rI WP (λi j=>.int (i * j)) x y H Q\/Zb x y H Q) qk:=λZ H x y a b R Q zd hx hy h q=>by
 unfold qk at h
 split at h
 ·cases hx; cases hy; exact .inl ⟨_,_,rfl,rfl,⟨h.1,h.2.1⟩,q _ _ H h.2.2 (Sm.refl _) (.int _)⟩
 ·rename_i d k
  obtain ⟨p,xs,rfl,e1,h1⟩:=hx.lst_inv
  cases hy
  cases h1 with
  | @cons x _ _ _ h1 h2=>
  cases h2
  refine .inr ⟨p,_,_,rfl,rfl,zl _ _ e1,by omega,by omega,few (by rw [eX]; omega),λn hn=>?_⟩
  rw [Zy]
  exact q _ _ _ h.2.2 (wM hn _) (ub zd hn (zGF h1 _))
 ·exact h.elim
noncomputable def Jl:F2
 | .int i,.int j,R=>j≠0/\Bd 8000 j/\R (.int (i.fdiv j))
 | _,_,_=>False
theorem zNQ:wy (rI zSg λi j=>.int (i.fdiv j)) Jl:=Jk (k:=λi j=>.int (i.fdiv j)) (λ_ _ _=>.int _) λa b R h=>by
 unfold Jl at h
 split at h
 ·exact ⟨_,_,rfl,rfl,⟨h.1,h.2.1⟩,h.2.2⟩
 ·exact h.elim
noncomputable def ql:F2
 | .int i,.int j,R=>j≠0/\R (.int (i.fmod j))
 | _,_,_=>False
theorem zPm:wy (rI (λ_ j=>j≠0) λi j=>.int (i.fmod j)) ql:=Jk (k:=λi j=>.int (i.fmod j)) (λ_ _ _=>.int _) λa b R h=>by
 unfold ql at h
 split at h
 ·exact ⟨_,_,rfl,rfl,h.1,h.2⟩
 ·exact h.elim
noncomputable def qm:F2
 | .int i,.int j,R=>qJ i j/\R (.int (i ^ j.toNat))
 | _,_,_=>False
theorem zPj:wy (rI qJ λi j=>.int (i ^ j.toNat)) qm:=Jk (k:=λi j=>.int (i ^ j.toNat)) (λ_ _ _=>.int _) λa b R h=>by
 unfold qm at h
 split at h
 ·exact ⟨_,_,rfl,rfl,h.1,h.2⟩
 ·exact h.elim
noncomputable def vI (g:Int->Int->Bool):F2
 | .int i,.int j,R=>R (.bool (g i j))
 | _,_,_=>False
theorem gu {g:Int->Int->Bool}:wy (uZ λi j=>.bl (g i j)) (vI g):=zOc (k:=λi j=>.bool (g i j)) (λ_ _ _=>.bool _) λa b R h=>by
 unfold vI at h
 split at h
 ·exact ⟨_,_,rfl,rfl,h⟩
 ·exact h.elim
theorem zx (ha:PE X a (tP pa)) (hb:PE X b (tP pb)):PE X (.BinOp a .Add b pos) (tP (wO qi pa pb)):=gr (zRa.or (zPh.or Zq)) zPp ha hb
theorem wt (ha:PE X a (tP pa)) (hb:PE X b (tP pb)):PE X (.BinOp a .Sub b pos) (tP (wO qj pa pb)):=gr zRT zPi ha hb
theorem xV (ha:PE X a (tP pa)) (hb:PE X b (tP pb)):PE X (.BinOp a .Mult b pos) (tP (wO qk pa pb)):=gr (zPd.or zRU) zPl ha hb
theorem vg (ha:PE X a (tP pa)) (hb:PE X b (tP pb)):PE X (.BinOp a .FloorDiv b pos) (tP (wO Jl pa pb)):=gr zNP zNQ ha hb
theorem xW (ha:PE X a (tP pa)) (hb:PE X b (tP pb)):PE X (.BinOp a .Mod b pos) (tP (wO ql pa pb)):=gr zPe zPm ha hb
theorem jc (ha:PE X a (tP pa)) (hb:PE X b (tP pb)):PE X (.BinOp a .Pow b pos) (tP (wO qm pa pb)):=gr zRV zPj ha hb
theorem Zz (ha:PE X a (tP pa)) (hb:PE X b (tP pb)):PE X (.Compare a [.Lt] [b] pos) (tP (wO (vI λi j=>decide (i < j)) pa pb)):=We zRW gu (ui _) ha hb
theorem zQ2 (ha:PE X a (tP pa)) (hb:PE X b (tP pb)):PE X (.Compare a [.LtE] [b] pos) (tP (wO (vI λi j=>decide (i<=j)) pa pb)):=We ZS gu (ui _) ha hb
theorem zQ3 (ha:PE X a (tP pa)) (hb:PE X b (tP pb)):PE X (.Compare a [.GtE] [b] pos) (tP (wO (vI λi j=>decide (j<=i)) pa pb)):=We zRY gu (ui _) ha hb
noncomputable def Z3:D->(D->Prop)->Prop
 | .int i,R=>R (.int (-i))
 | _,_=>False
noncomputable def Z4 (f:D->(D->Prop)->Prop) (pa:yE):yE:=λΓ R=>pa Γ λx=>f x R
theorem wG (ha:PE X a (tP pa)):PE X (.UnaryOp .USub a pos) (tP (Z4 Z3 pa)):=yL (ZO zQf ha) λσ H Q ⟨Z,Γ,R,E,h,q⟩=>
 ⟨Z,Γ,_,E,h,λd v H1 hd s1 hv=>by
  unfold Z3 at hd
  split at hd
  ·cases hv; exact ⟨_,rfl,q _ _ H1 hd s1 (.int _)⟩
  ·exact hd.elim⟩
end
end Pu
namespace Pu
open PySem L2 Sh
variable [yX]
mutual
noncomputable def D.py:D->PyData
 | .int i=>.int i
 | .bool b=>.bool b
 | .non=>.none
 | .str x=>.str x
 | .frz ds=>.list (wP ds)
 | .lst ds=>.list (wP ds)
 | .tup ds=>.tuple (wP ds)
 | .obj _ _ _=>.none
noncomputable def wP:List D->List PyData
 | []=>[]
 | d :: ds=>d.py :: wP ds
end
noncomputable def D.pl:Nat->D->Bool
 | 0,_=>false
 | _ + 1,.int _=>true
 | _ + 1,.bool _=>true
 | _ + 1,.non=>true
 | _ + 1,.str x=>PyData.strOk x
 | n + 1,.frz ds=>ds.all (D.pl n)
 | n + 1,.lst ds=>ds.all (D.pl n)
 | n + 1,.tup ds=>ds.all (D.pl n)
 | _ + 1,.obj ..=>false
structure DpO (n:Nat) (d:D):Prop where
 dp:∀ K H v,DV H v d->Dp K H v d.py
 lay:d.py.canLay0=true
 dep:d.py.depth<=n
theorem Wf {n:Nat}:∀ {ds:List D},(∀ d∈ds,DpO n d)->(∀ K H xs,yH H xs ds->ul K H xs (wP ds))/\iu (wP ds)=true/\iJ (wP ds)<=n
 | [],_=>⟨λK H xs h=>by cases h; exact .nil,by simp [wP,iu],by simp [wP,iJ]⟩
 | d :: ds,h=>by
  obtain ⟨h1,h2,h3⟩:=Wf (ds:=ds) λx m=>h x (cn _ m)
  have g:=h d cq
  have l:=g.lay
  have p:=g.dep
  refine ⟨λK H xs q=>?_,by simp [wP,iu,l,h2],by simp only [wP,iJ]; omega⟩
  cases q with
  | cons q r=>exact .cons (g.dp K H _ q) (h1 K H _ r)
theorem uQ:∀ (n:Nat) (d:D),D.pl n d=true->DpO n d
 | 0,_,h=>by cases h
 | n + 1,.int i,_=>⟨λK H v h=>by cases h; exact .int i,by simp [D.py,eV],by simp [D.py,fG]⟩
 | n + 1,.bool i,_=>⟨λK H v h=>by cases h; exact .bl i,by simp [D.py,eV],by simp [D.py,fG]⟩
 | n + 1,.non,_=>⟨λK H v h=>by cases h; exact .non,by simp [D.py,eV],by simp [D.py,fG]⟩
 | n + 1,.str i,h=>⟨λK H v h=>by cases h; exact .str i,by simp only [D.py,eV]; exact h,by simp [D.py,fG]⟩
 | n + 1,.frz ds,h=>by
  obtain ⟨h1,h2,h3⟩:=Wf (n:=n) (ds:=ds) λd m=>uQ n d (cK.mp h d m)
  refine ⟨λK H v q=>?_,by simp [D.py,eV,h2],by simp only [D.py,fG]; omega⟩
  obtain ⟨p,xs,rfl,e,q⟩:=q.frz_inv
  exact .lst (.inl e) (h1 K H _ q)
 | n + 1,.obj ..,h=>by cases h
 | n + 1,.lst ds,h=>by
  obtain ⟨h1,h2,h3⟩:=Wf (n:=n) (ds:=ds) λd m=>uQ n d (cK.mp h d m)
  refine ⟨λK H v q=>?_,by simp [D.py,eV,h2],by simp only [D.py,fG]; omega⟩
  obtain ⟨p,xs,rfl,e,q⟩:=q.lst_inv
  exact .lst (zZ.of e) (h1 K H _ q)
 | n + 1,.tup ds,h=>by
  obtain ⟨h1,h2,h3⟩:=Wf (n:=n) (ds:=ds) λd m=>uQ n d (cK.mp h d m)
  refine ⟨λK H v q=>?_,by simp [D.py,eV,h2],by simp only [D.py,fG]; omega⟩
  obtain ⟨p,xs,rfl,e,q⟩:=q.tup_inv
  exact .tup (yQ.of e) (h1 K H _ q)
theorem Z5:∀ ns:List Int,wP (ns.map D.int)=ns.map PyData.int
 | []=>rfl
 | n :: t=>by rw [cT,cT,wP,Z5 t,D.py]
theorem zPU (n:Nat) (ns:List Int):(ns.map D.int).all (D.pl (n + 1))=true:=cK.mpr λd m=>by
 obtain ⟨i,_,rfl⟩:=cr.mp m
 rfl
noncomputable abbrev L (ns:List Int):D:=.lst (ns.map D.int)
noncomputable abbrev U (ns:List Int):D:=.tup (ns.map D.int)
theorem Z6 (ns ms:List Int):eU (L ns).py (L ms).py=decide (ns=ms):=by
 show dY (wP (ns.map D.int)) (wP (ms.map D.int))=_
 rw [Z5,Z5]
 exact JX ns ms
section
variable {X:Cx} {a b e c:Expr} {es:List Expr} {pos:Pos} {pa pb pc:yE} {qa qb:wf} {pl:yn}
noncomputable def Wg:F2
 | .int i,.int j,R=>R (.bool (decide (i=j)))
 | .bool i,.bool j,R=>R (.bool (i == j))
 | .str i,.str j,R=>R (.bool (i == j))
 | .non,.non,R=>R (.bool true)
 | .lst as,.lst bs,R=>(D.lst as).pl 50=true/\(D.lst bs).pl 50=true/\R (.bool (eU (D.lst as).py (D.lst bs).py))
 | .tup as,.tup bs,R=>(D.tup as).pl 50=true/\(D.tup bs).pl 50=true/\R (.bool (eU (D.tup as).py (D.tup bs).py))
 | _,_,_=>False
theorem zOd {K:b_}:wy (λx y H Q=>rEq x y H Q\/Zj K x y H Q) Wg:=λZ H x y a b R Q zd hx hy h q=>by
 unfold Wg at h
 split at h
 ·cases hx; cases hy
  refine .inl ⟨rfl,?_⟩
  rw [WI,iK]
  exact q _ _ H h (Sm.refl _) (.bool _)
 ·cases hx; cases hy
  refine .inl ⟨rfl,?_⟩
  rw [WJ]
  exact q _ _ H h (Sm.refl _) (.bool _)
 ·cases hx; cases hy
  refine .inl ⟨rfl,?_⟩
  rw [WK]
  exact q _ _ H h (Sm.refl _) (.bool _)
 ·cases hx; cases hy
  refine .inl ⟨rfl,?_⟩
  rw [show decide (V.non=V.non)=true from decide_eq_true rfl]
  exact q _ _ H h (Sm.refl _) (.bool _)
 ·have d1:=uQ _ _ h.1
  have d2:=uQ _ _ h.2.1
  have e1:=d1.dep
  have e2:=d2.dep
  exact .inr ⟨_,_,d1.dp K H _ (hx.same zl),d2.dp K H _ (hy.same zl),d1.lay,d2.lay,by omega,by omega,q _ _ H h.2.2 (Sm.refl _) (.bool _)⟩
 ·have d1:=uQ _ _ h.1
  have d2:=uQ _ _ h.2.1
  have e1:=d1.dep
  have e2:=d2.dep
  exact .inr ⟨_,_,d1.dp K H _ (hx.same zl),d2.dp K H _ (hy.same zl),d1.lay,d2.lay,by omega,by omega,q _ _ H h.2.2 (Sm.refl _) (.bool _)⟩
 ·exact h.elim
noncomputable def gv:F2
 | .int i,.int j,R=>R (.bool (!decide (i=j)))
 | .bool i,.bool j,R=>R (.bool (i != j))
 | .str i,.str j,R=>R (.bool (i != j))
 | .lst as,.lst bs,R=>(D.lst as).pl 50=true/\(D.lst bs).pl 50=true/\R (.bool (!PyData.eqv (D.lst as).py (D.lst bs).py))
 | .tup as,.tup bs,R=>(D.tup as).pl 50=true/\(D.tup bs).pl 50=true/\R (.bool (!PyData.eqv (D.tup as).py (D.tup bs).py))
 | _,_,_=>False
theorem zRb {K:b_}:wy (λx y H Q=>rNe x y H Q\/∃ d e:PyData,Dp K H x d/\Dp K H y e/\d.canLay0=true/\e.canLay0=true/\d.depth<=60/\e.depth<=60/\Q (.bl (!PyData.eqv d e)) H) gv:=λZ H x y a b R Q zd hx hy h q=>by
 unfold gv at h
 split at h
 ·cases hx; cases hy
  refine .inl ⟨rfl,?_⟩
  rw [WI,iK]
  exact q _ _ H h (Sm.refl _) (.bool _)
 ·cases hx; cases hy
  refine .inl ⟨rfl,?_⟩
  rw [WJ]
  exact q _ _ H h (Sm.refl _) (.bool _)
 ·cases hx; cases hy
  refine .inl ⟨rfl,?_⟩
  rw [WK]
  exact q _ _ H h (Sm.refl _) (.bool _)
 ·have d1:=uQ _ _ h.1
  have d2:=uQ _ _ h.2.1
  have e1:=d1.dep
  have e2:=d2.dep
  exact .inr ⟨_,_,d1.dp K H _ (hx.same zl),d2.dp K H _ (hy.same zl),d1.lay,d2.lay,by omega,by omega,q _ _ H h.2.2 (Sm.refl _) (.bool _)⟩
 ·have d1:=uQ _ _ h.1
  have d2:=uQ _ _ h.2.1
  have e1:=d1.dep
  have e2:=d2.dep
  exact .inr ⟨_,_,d1.dp K H _ (hx.same zl),d2.dp K H _ (hy.same zl),d1.lay,d2.lay,by omega,by omega,q _ _ H h.2.2 (Sm.refl _) (.bool _)⟩
 ·exact h.elim
theorem uc (hu:X.A.units + 64 < cLine) (ha:PE X a (tP pa)) (hb:PE X b (tP pb)):PE X (.Compare a [.Eq] [b] pos) (tP (wO Wg pa pb)):=We (zRZ.or (zOb hu)) zOd (ui _) ha hb
noncomputable def bD:D->(Bool->Prop)->Prop
 | .bool b,R=>R b
 | _,_=>False
noncomputable def wX (pa:yE):wf:=λΓ R=>pa Γ λd=>bD d R
theorem zOB {t:TE} (w:∀ σ H Q,tP pa σ H Q->t σ H Q) (σ:St) (H:Hp) (Q:Bool->Hp->Prop):xR (wX pa) σ H Q->zQk t σ H Q:=λ⟨Z,Γ,R,E,h,q⟩=>
 w _ _ _ ⟨Z,Γ,_,E,h,λd v H1 hd s1 hv=>by
  unfold bD at hd
  split at hd
  ·cases hv; exact ⟨_,rfl,q _ H1 hd s1⟩
  ·exact hd.elim⟩
theorem yo (ha:PE X e (tP pa)) (he:∀ whole,isTrue e X.env whole=(do let v <- whole; standAt e.pos; holding [v] (truthy v)):=by intro _; rfl):PT X e (xR (wX pa)):=Ji (Ur ha he) (zOB λ_ _ _ h=>h)
theorem qp {op:CmpOp} {r:R2} {f:F2} (ho:y9 X (compareOp op) r) (o:wy r f) (hm:behindInMarks op b=false) (ha:PE X a (tP pa)) (hb:PE X b (tP pb)):PT X (.Compare a [op] [b] pos) (xR (wX (wO f pa pb))):=Ji (zPO ho ha hb hm) (zOB (Wc o))
theorem jK (hu:X.A.units + 64 < cLine) (ha:PE X a (tP pa)) (hb:PE X b (tP pb)):PT X (.Compare a [.Eq] [b] pos) (xR (wX (wO Wg pa pb))):=qp (zRZ.or (zOb hu)) zOd (ui _) ha hb
theorem Jm (hu:X.A.units + 64 < cLine) (ha:PE X a (tP pa)) (hb:PE X b (tP pb)):PT X (.Compare a [.NotEq] [b] pos) (xR (wX (wO gv pa pb))):=qp (ZR.or (zOa hu)) zRb (ui _) ha hb
theorem Wi (ha:PE X a (tP pa)) (hb:PE X b (tP pb)):PT X (.Compare a [.Lt] [b] pos) (xR (wX (wO (vI λi j=>decide (i < j)) pa pb))):=qp zRW gu (ui _) ha hb
theorem Z7 (ha:PE X a (tP pa)) (hb:PE X b (tP pb)):PT X (.Compare a [.Gt] [b] pos) (xR (wX (wO (vI λi j=>decide (j < i)) pa pb))):=qp ZT gu (ui _) ha hb
theorem Wj (ha:PE X a (tP pa)) (hb:PE X b (tP pb)):PT X (.Compare a [.GtE] [b] pos) (xR (wX (wO (vI λi j=>decide (j<=i)) pa pb))):=qp zRY gu (ui _) ha hb
noncomputable def vJ (b:Bool) (A B:Prop):Prop:=(b=true->A)/\(b=false->B)
theorem wT {b:Bool} {A B:Prop} (e:b=true) (h:A):vJ b A B:=⟨λ_=>h,λz=>nomatch e.symm.trans z⟩
theorem wF {b:Bool} {A B:Prop} (e:b=false) (h:B):vJ b A B:=⟨λz=>(nomatch e.symm.trans z),λ_=>h⟩
theorem w2 {b:Bool} {A B:Prop} (h1:b=true->A) (h2:b=false->B):vJ b A B:=⟨h1,h2⟩
noncomputable def Jn (p q:wf):wf:=λΓ R=>p Γ λc=>vJ c (q Γ R) (R false)
noncomputable def pOr (p q:wf):wf:=λΓ R=>p Γ λc=>vJ c (R true) (q Γ R)
noncomputable def Jo (p:wf):wf:=λΓ R=>p Γ λc=>R (!c)
theorem Jp (ha:PT X a (xR qa)):PW X (.BoolOp .And [a] pos) (xR qa):=zPL ha
theorem vR (ha:PT X a (xR qa)):PW X (.BoolOp .Or [a] pos) (xR qa):=zQz ha
theorem Jq {yh:List Expr} (ha:PT X a (xR qa)) (hb:PW X (.BoolOp .And (b :: yh) pos) (xR qb)):PW X (.BoolOp .And (a :: b :: yh) pos) (xR (Jn qa qb)):=pww (zQ0 ha hb) λσ H Q ⟨Z,Γ,R,E,h,q⟩=>
 ⟨Z,Γ,_,E,h,λc H1 hc s1=>by
  cases c with
  | true=>exact ⟨Z,Γ,R,E.same s1,hc.1 rfl,λb H2 hb s2=>q b H2 hb (s1.trans s2)⟩
  | false=>exact q _ H1 (hc.2 rfl) s1⟩
theorem wz {yh:List Expr} (ha:PT X a (xR qa)) (hb:PW X (.BoolOp .Or (b :: yh) pos) (xR qb)):PW X (.BoolOp .Or (a :: b :: yh) pos) (xR (pOr qa qb)):=pww (ZE ha hb) λσ H Q ⟨Z,Γ,R,E,h,q⟩=>
 ⟨Z,Γ,_,E,h,λc H1 hc s1=>by
  cases c with
  | true=>exact q _ H1 (hc.1 rfl) s1
  | false=>exact ⟨Z,Γ,R,E.same s1,hc.2 rfl,λb H2 hb s2=>q b H2 hb (s1.trans s2)⟩⟩
theorem xS (ha:PT X a (xR qa)):PT X (.UnaryOp .Not a pos) (xR (Jo qa)):=Ji (zQ4 ha) λσ H Q ⟨Z,Γ,R,E,h,q⟩=>⟨Z,Γ,_,E,h,λc H1 hc s1=>q _ H1 hc s1⟩
noncomputable def Z8 (p q:yE):yE:=λΓ R=>p Γ λd=>bD d λc=>vJ c (q Γ R) (R (.bool false))
noncomputable def Z9 (p:yE):yE:=λΓ R=>p Γ λd=>bD d λc=>R (.bool !c)
theorem vh {op} (ha:PE X a (tP pa)):PE X (.BoolOp op [a] pos) (tP pa):=zRE ha
theorem wg {yh:List Expr} (ha:PE X a (tP pa)) (hb:PE X (.BoolOp .And (b :: yh) pos) (tP pb)):PE X (.BoolOp .And (a :: b :: yh) pos) (tP (Z8 pa pb)):=yL (zRI ha hb) λσ H Q ⟨Z,Γ,R,E,h,q⟩=>
 ⟨Z,Γ,_,E,h,λd v H1 hd s1 hv=>by
  unfold bD at hd
  split at hd
  ·cases hv
   rename_i c
   refine ⟨c,rfl,?_⟩
   cases c with
   | true=>exact ⟨Z,Γ,R,E.same s1,hd.1 rfl,λb v H2 hb s2 k=>q b v H2 hb (s1.trans s2) k⟩
   | false=>exact q _ _ H1 (hd.2 rfl) s1 (.bool _)
  ·exact hd.elim⟩
theorem zQ1 (ha:PE X a (tP pa)):PE X (.UnaryOp .Not a pos) (tP (Z9 pa)):=yL (zRF ha) λσ H Q ⟨Z,Γ,R,E,h,q⟩=>
 ⟨Z,Γ,_,E,h,λd v H1 hd s1 hv=>by
  unfold bD at hd
  split at hd
  ·cases hv; exact ⟨_,rfl,q _ _ H1 hd s1 (.bool _)⟩
  ·exact hd.elim⟩
noncomputable def Jr (t:wf) (p q:yE):yE:=λΓ R=>t Γ λc=>vJ c (p Γ R) (q Γ R)
theorem zM8 (hc:PT X c (xR qa)) (ha:PE X a (tP pa)) (hb:PE X b (tP pb)):PE X (.IfExp c a b pos) (tP (Jr qa pa pb)):=yL (zNM hc ha hb) λσ H Q ⟨Z,Γ,R,E,h,q⟩=>
 ⟨Z,Γ,_,E,h,λc H1 hd s1=>by
  cases c with
  | true=>exact ⟨Z,Γ,R,E.same s1,hd.1 rfl,λb v H2 hb s2 k=>q b v H2 hb (s1.trans s2) k⟩
  | false=>exact ⟨Z,Γ,R,E.same s1,hd.2 rfl,λb v H2 hb s2 k=>q b v H2 hb (s1.trans s2) k⟩⟩
noncomputable def Js:yn:=λ_ R=>R []
noncomputable def YA (pa:yE) (pl:yn):yn:=λΓ R=>pa Γ λd=>pl Γ λds=>R (d :: ds)
theorem zC:PA X [] (wE Js):=paw yK λσ H Q ⟨_,_,_,_,h,q⟩=>q _ _ H h (Sm.refl _) .nil
theorem zB (ha:PE X e (tP pa)) (hr:PA X es (wE pl)) (hs:starEach (e :: es) X.env=(false,eval e X.env) :: starEach es X.env:=by rfl):PA X (e :: es) (wE (YA pa pl)):=paw (zf ha hr hs) λσ H Q ⟨Z,Γ,R,E,h,q⟩=>
 ⟨Z,Γ,_,E,h,λd v H1 hd s1 hv=>⟨Z,Γ,_,E.same s1,hd,λds vs H2 hds s2 hvs=>q _ _ H2 hds (s1.trans s2) (.cons (hv.same (yt s2)) hvs)⟩⟩
noncomputable def Jt (pl:yn):yE:=λΓ R=>pl Γ λds=>ds.length<=1000/\R (.tup ds)
noncomputable def YB (pl:yn):yE:=λΓ R=>pl Γ λds=>ds.length<=1000/\R (.lst ds)
theorem wU {x1} (ha:PA X es (wE pl)):PE X (.Tuple es x1 pos) (tP (Jt pl)):=yL (zOY ha) λσ H Q ⟨Z,Γ,R,E,h,q⟩=>
 ⟨Z,Γ,_,E,h,λds vs H1 hd s1 hv=>⟨few (by rw [Paired.length hv]; exact hd.1),λp hp=>q _ _ _ hd.2 (s1.trans (wM hp _)) (Zx (E.same s1).zd hp hv)⟩⟩
theorem xO (ha:PA X es (wE pl)):PE X (.List es pos) (tP (YB pl)):=yL (zOZ ha) λσ H Q ⟨Z,Γ,R,E,h,q⟩=>
 ⟨Z,Γ,_,E,h,λds vs H1 hd s1 hv=>⟨few (by rw [Paired.length hv]; exact hd.1),λp hp=>q _ _ _ hd.2 (s1.trans (wM hp _)) (ub (E.same s1).zd hp hv)⟩⟩
theorem YC {α β:Type} {R:α->β->Prop} {xs:List α} {ys:List β} (h:Paired R xs ys) {i:Int} {y:β} (e:yx ys i=some y):∃ x,yx xs i=some x/\R x y:=by
 unfold yx at e |-
 rw [Paired.length h]
 cases k:vp ys.length i with
 | none=>rw [k] at e; cases e
 | some j=>
  rw [k] at e
  exact go h e
where
 go:∀ {xs:List α} {ys:List β} {j:Nat} {y:β},Paired R xs ys->ys[j]? = some y->∃ x,xs[j]? = some x/\R x y
  | _,_,_,_,.nil,e=>by simp at e
  | _,_,0,_,.cons r _,e=>by simp at e; subst e; exact ⟨_,rfl,r⟩
  | _,_,j + 1,y,.cons _ t,e=>by
   obtain ⟨x,h1,h2⟩:=go (j:=j) (y:=y) t (by simpa using e)
   exact ⟨x,by simpa using h1,h2⟩
noncomputable def gw:F2
 | .lst ds,.int i,R=>∃ d,yx ds i=some d/\R d
 | .tup ds,.int i,R=>∃ d,yx ds i=some d/\R d
 | .frz ds,.int i,R=>∃ d,yx ds i=some d/\R d
 | _,_,_=>False
theorem qq {α β:Type} (f:α->β) (xs:List α) (i:Int):yx (xs.map f) i=(yx xs i).map f:=by
 unfold yx
 rw [a_]
 cases vp xs.length i with
 | none=>rfl
 | some j=>exact cS ..
theorem zRc {K:b_}:wy (Zk K) gw:=λZ H x y a b R Q zd hx hy h q=>by
 unfold gw at h
 split at h
 ·obtain ⟨p,xs,rfl,e1,h1⟩:=hx.lst_inv
  cases hy
  obtain ⟨d,hd,hR⟩:=h
  obtain ⟨v,hv,hh⟩:=YC h1 hd
  exact ⟨p,xs,_,v,rfl,rfl,.inr (zZ.of (zl _ _ e1)),hv,q _ _ H hR (Sm.refl _) hh⟩
 ·obtain ⟨p,xs,rfl,e1,h1⟩:=hx.tup_inv
  cases hy
  obtain ⟨d,hd,hR⟩:=h
  obtain ⟨v,hv,hh⟩:=YC h1 hd
  exact ⟨p,xs,_,v,rfl,rfl,.inl (yQ.of (zl _ _ e1)),hv,q _ _ H hR (Sm.refl _) hh⟩
 ·obtain ⟨p,xs,rfl,e1,h1⟩:=hx.frz_inv
  cases hy
  obtain ⟨d,hd,hR⟩:=h
  obtain ⟨v,hv,hh⟩:=YC h1 hd
  exact ⟨p,xs,_,v,rfl,rfl,.inr (.inl (jI zl e1)),hv,q _ _ H hR (Sm.refl _) hh⟩
 ·exact h.elim
theorem YD (ha:PE X a (tP pa)) (hb:PE X b (tP pb)) (hs:WM b):PE X (.Subscript a b pos) (tP (wO gw pa pb)):=yL (WN zP1 ha hb hs) (Wc zRc)
theorem YE {X:Cx} {e:Option Expr} {t t':TO} (h:PO X e t) (w:∀ σ H Q,t' σ H Q->t σ H Q):PO X e t':=λpins s σ H Q I q=>h pins s σ H Q I (w σ H Q q)
noncomputable def zPb:qg:=λ_ R=>R none
noncomputable def iD:D->(Option Int->Prop)->Prop
 | .int i,R=>R (some i)
 | _,_=>False
noncomputable def YF (pa:yE):qg:=λΓ R=>pa Γ λd=>iD d R
theorem xx:PO X none (qh zPb):=YE zPT λσ H Q ⟨_,_,_,_,h,q⟩=>q _ H h (Sm.refl _)
theorem xy (h:PE X e (tP pa)):PO X (some e) (qh (YF pa)):=YE (zPS h) λσ H Q ⟨Z,Γ,R,E,h,q⟩=>
 ⟨Z,Γ,_,E,h,λd v H1 hd s1 hv=>by
  unfold iD at hd
  split at hd
  ·cases hv; exact ⟨_,rfl,q _ H1 hd s1⟩
  ·exact hd.elim⟩
noncomputable def zo {α:Type} (xs:List α) (lo hi:Option Int):List α:=(xs.drop (HT.sIx xs.length 0 lo)).take (HT.sIx xs.length xs.length hi - HT.sIx xs.length 0 lo)
theorem zLM {α β:Type} {R:α->β->Prop}:∀ {xs:List α} {ys:List β} (n:Nat),Paired R xs ys->Paired R (xs.take n) (ys.take n)
 | _,_,0,_=>.nil
 | _,_,_ + 1,.nil=>.nil
 | _,_,n + 1,.cons h t=>.cons h (zLM n t)
theorem zLN {α β:Type} {R:α->β->Prop}:∀ {xs:List α} {ys:List β} (n:Nat),Paired R xs ys->Paired R (xs.drop n) (ys.drop n)
 | _,_,0,h=>h
 | _,_,_ + 1,.nil=>.nil
 | _,_,n + 1,.cons _ t=>zLN n t
theorem Ju {α β:Type} {R:α->β->Prop} {xs:List α} {ys:List β} (h:Paired R xs ys) (lo hi:Option Int):Paired R (zo xs lo hi) (zo ys lo hi):=by
 unfold zo
 rw [Paired.length h]
 exact zLM _ (zLN _ h)
noncomputable def slD:D->Option Int->Option Int->(D->Prop)->Prop
 | .lst ds,lo,hi,R=>R (.lst (zo ds lo hi))
 | .tup ds,lo,hi,R=>R (.tup (zo ds lo hi))
 | _,_,_,_=>False
noncomputable def pSl (pa:yE) (po qo:qg):yE:=λΓ R=>pa Γ λd=>po Γ λl=>qo Γ λu=>slD d l u R
theorem zQo {X:Cx} {r r':V->Option Int->Option Int->Hp->VK->Prop} (h:qM X r) (h':qM X r'):qM X (λx l u H Q=>r x l u H Q\/r' x l u H Q):=λpins s σ H x v vl vu lo hi sl Q I r1 r2 r3 r4 q=>
 q.elim (h pins s σ H x v vl vu lo hi sl Q I r1 r2 r3 r4) (h' pins s σ H x v vl vu lo hi sl Q I r1 r2 r3 r4)
theorem wH {lo hi:Option Expr} {po qo:qg} {p2:Pos} (ha:PE X a (tP pa)) (hl:PO X lo (qh po)) (hu:PO X hi (qh qo)):PE X (.Subscript a (.Slice lo hi none p2) pos) (tP (pSl pa po qo)):=yL (zJG (zQo zKq zNh) ha hl hu) λσ H Q ⟨Z,Γ,R,E,h,q⟩=>
 ⟨Z,Γ,_,E,h,λd v H1 hd s1 hv=>⟨Z,Γ,_,E.same s1,hd,λl H2 hl s2=>⟨Z,Γ,_,E.same (s1.trans s2),hl,λu H3 hu s3=>by
  have s:=s1.trans (s2.trans s3)
  have hv:=hv.same (yt (s2.trans s3))
  have zd:=(E.same s).zd
  unfold slD at hu
  split at hu
  ·obtain ⟨p,xs,rfl,e1,h1⟩:=hv.lst_inv
   exact .inl ⟨p,xs,rfl,zZ.of (zl _ _ e1),λn hn=>q _ _ _ hu (s.trans (wM hn _)) (ub zd hn (Ju h1 _ _))⟩
  ·obtain ⟨p,xs,rfl,e1,h1⟩:=hv.tup_inv
   exact .inr ⟨p,xs,rfl,zl _ _ e1,λn H' s' e=>have s':=Sm.of s'; q _ _ _ hu (s.trans s') (zLS (zd.same s') e (xw (yt s') (Ju h1 _ _)))⟩
  ·exact hu.elim⟩⟩⟩
noncomputable abbrev FL:=List D->(D->Prop)->Prop
noncomputable def ud (r:List V->Hp->VK->Prop) (f:FL):Prop:=∀ (Z:Addr->Prop) (H:Hp) (vs:List V) (ds:List D) (R:D->Prop) (Q:VK),ZL Z H->yH (zJ Z H) vs ds->f ds R->(∀ d v H',R d->Sm H H'->DV (zJ Z H') v d->Q v H')->r vs H Q
noncomputable def jd (f:FL) (pl:yn):yE:=λΓ R=>pl Γ λds=>f ds R
theorem zKh {r:List V->Hp->VK->Prop} {f:FL} (o:ud r f) (σ:St) (H:Hp) (Q:VK):tP (jd f pl) σ H Q->gg r (wE pl) σ H Q:=λ⟨Z,Γ,R,E,h,q⟩=>
 ⟨Z,Γ,_,E,h,λds vs H1 hd s1 hv=>o Z H1 vs ds R Q (E.same s1).zd hv hd λd v H2 h2 s2 hv2=>q d v H2 h2 (s1.trans s2) hv2⟩
theorem yB {x:Str} {id:String} {p:Pos} {r:List V->Hp->VK->Prop} {f:FL} (hc:vD X (.builtin id) r) (o:ud r f) (hg:Gl X x) (hm:X.mg x=none) (hv:bootBuiltins x=some (.builtin id)) (ha:PA X (e :: es) (wE pl)) (hn:x≠"__name__":=by decide) (hdb:(x == ("__debug__" : Str))=false:=by decide)
  (he:starEach (e :: es) X.env=(false,eval e X.env) :: starEach es X.env:=by rfl) (hpl:(backTo pos (starEach es X.env)).any (·.1)=false:=by rfl):PE X (.Call (.Name x p) (e :: es) [] pos) (tP (jd f pl)):=yL (xh hc hg hm hv ha hn hdb he hpl) (zKh o)
theorem xk {x:Str} {T:String} {p:Pos} {r:List V->Hp->VK->Prop} {f:FL} (hc:vD X (.type T) r) (o:ud r f) (hg:Gl X x) (hm:X.mg x=none) (hv:bootBuiltins x=some (.type T)) (ha:PA X (e :: es) (wE pl)) (hn:x≠"__name__":=by decide) (hdb:(x == ("__debug__" : Str))=false:=by decide)
  (he:starEach (e :: es) X.env=(false,eval e X.env) :: starEach es X.env:=by rfl) (hpl:(backTo pos (starEach es X.env)).any (·.1)=false:=by rfl):PE X (.Call (.Name x p) (e :: es) [] pos) (tP (jd f pl)):=yL (zLJ hc hg hm hv ha hn hdb he hpl) (zKh o)
noncomputable def qr:FL
 | [.lst ds],R=>R (.int ds.length)
 | [.tup ds],R=>R (.int ds.length)
 | [.frz ds],R=>R (.int ds.length)
 | _,_=>False
theorem xD {H:Hp} {vs:List V} {d:D} (h:yH H vs [d]):∃ v,vs=[v]/\DV H v d:=by
 cases h with
 | cons h t=>cases t; exact ⟨_,rfl,h⟩
theorem uu {H:Hp} {vs:List V} {d e:D} (h:yH H vs [d,e]):∃ v w,vs=[v,w]/\DV H v d/\DV H w e:=by
 cases h with
 | cons h t=>obtain ⟨w,rfl,k⟩:=xD t; exact ⟨_,_,rfl,h,k⟩
theorem xP {K:b_}:ud (λxs H Q=>∃ p ys,xs=[.ref p]/\(zZ K H p ys\/yQ K H p ys)/\Q (.int ys.length) H) qr:=λZ H vs ds R Q zd hv h q=>by
 unfold qr at h
 split at h
 ·obtain ⟨v,rfl,hw⟩:=xD hv
  obtain ⟨p,xs,rfl,e1,h1⟩:=hw.lst_inv
  exact ⟨p,xs,rfl,.inl (zZ.of (zl _ _ e1)),by rw [Paired.length h1]; exact q _ _ H h (Sm.refl _) (.int _)⟩
 ·obtain ⟨v,rfl,hw⟩:=xD hv
  obtain ⟨p,xs,rfl,e1,h1⟩:=hw.tup_inv
  exact ⟨p,xs,rfl,.inr (yQ.of (zl _ _ e1)),by rw [Paired.length h1]; exact q _ _ H h (Sm.refl _) (.int _)⟩
 ·obtain ⟨v,rfl,hw⟩:=xD hv
  obtain ⟨p,xs,rfl,e1,h1⟩:=hw.frz_inv
  exact ⟨p,xs,rfl,.inl (.inl (jI zl e1)),by rw [Paired.length h1]; exact q _ _ H h (Sm.refl _) (.int _)⟩
 ·exact h.elim
noncomputable def Jv:FL
 | [.frz ds],R=>R (.lst ds)
 | [.lst ds],R=>R (.lst ds)
 | [.tup ds],R=>R (.lst ds)
 | _,_=>False
theorem vz {K:b_}:ud (λxs H Q=>∃ p ys,xs=[.ref p]/\(zZ K H p ys\/yQ K H p ys)/\∀ l,H l=none->Q (.ref l) (zY H l (.lst ys))) Jv:=λZ H vs ds R Q zd hv h q=>by
 unfold Jv at h
 split at h
 ·obtain ⟨v,rfl,hw⟩:=xD hv
  obtain ⟨p,xs,rfl,e1,h1⟩:=hw.frz_inv
  exact ⟨p,xs,rfl,.inl (.inl (jI zl e1)),λl hl=>q _ _ _ h (wM hl _) (ub zd hl h1)⟩
 ·obtain ⟨v,rfl,hw⟩:=xD hv
  obtain ⟨p,xs,rfl,e1,h1⟩:=hw.lst_inv
  exact ⟨p,xs,rfl,.inl (zZ.of (zl _ _ e1)),λl hl=>q _ _ _ h (wM hl _) (ub zd hl h1)⟩
 ·obtain ⟨v,rfl,hw⟩:=xD hv
  obtain ⟨p,xs,rfl,e1,h1⟩:=hw.tup_inv
  exact ⟨p,xs,rfl,.inr (yQ.of (zl _ _ e1)),λl hl=>q _ _ _ h (wM hl _) (ub zd hl h1)⟩
 ·exact h.elim
noncomputable def YG:FL
 | [.lst ds],R=>R (.tup ds)
 | [.tup ds],R=>R (.tup ds)
 | _,_=>False
theorem jL {K:b_}:ud (λxs H Q=>∃ p ys,xs=[.ref p]/\((zZ K H p ys/\∀ l,H l=none->Q (.ref l) (zY H l (.tup ys)))\/(yQ K H p ys/\Q (.ref p) H))) YG:=λZ H vs ds R Q zd hv h q=>by
 unfold YG at h
 split at h
 ·obtain ⟨v,rfl,hw⟩:=xD hv
  obtain ⟨p,xs,rfl,e1,h1⟩:=hw.lst_inv
  exact ⟨p,xs,rfl,.inl ⟨zZ.of (zl _ _ e1),λl hl=>q _ _ _ h (wM hl _) (Zx zd hl h1)⟩⟩
 ·obtain ⟨v,rfl,hw⟩:=xD hv
  obtain ⟨p,xs,rfl,e1,h1⟩:=hw.tup_inv
  exact ⟨p,xs,rfl,.inr ⟨yQ.of (zl _ _ e1),q _ _ _ h (Sm.refl _) hw⟩⟩
 ·exact h.elim
noncomputable def YH:FL
 | [.lst ds],R=>∃ ns:List Int,ds=ns.map D.int/\R (.int ns.sum)
 | _,_=>False
theorem Wl {K:b_}:ud (λxs H Q=>∃ (p:Addr) (ns:List Int),xs=[.ref p]/\zZ K H p (ns.map V.int)/\Q (.int ns.sum) H) YH:=λZ H vs ds R Q zd hv h q=>by
 unfold YH at h
 split at h
 ·obtain ⟨v,rfl,hw⟩:=xD hv
  obtain ⟨p,xs,rfl,e1,h1⟩:=hw.lst_inv
  obtain ⟨ns,rfl,h⟩:=h
  cases Jh h1
  exact ⟨p,ns,rfl,zZ.of (zl _ _ e1),q _ _ H h (Sm.refl _) (.int _)⟩
 ·exact h.elim
noncomputable def YI:FL
 | [.lst ds],R=>∃ bs:List Bool,ds=bs.map D.bool/\R (.bool (bs.all id))
 | _,_=>False
theorem vi {K:b_}:ud (λxs H Q=>∃ (p:Addr) (bs:List Bool),xs=[V.ref p]/\zZ K H p (bs.map V.bl)/\Q (V.bl (bs.all id)) H) YI:=λZ H vs ds R Q zd hv h q=>by
 unfold YI at h
 split at h
 ·obtain ⟨v,rfl,hw⟩:=xD hv
  obtain ⟨p,xs,rfl,e1,h1⟩:=hw.lst_inv
  obtain ⟨ns,rfl,h⟩:=h
  cases zHz h1
  exact ⟨p,ns,rfl,zZ.of (zl _ _ e1),q _ _ H h (Sm.refl _) (.bool _)⟩
 ·exact h.elim
noncomputable def YJ:FL
 | [.int i,.int j],R=>R (.int (max i j))
 | _,_=>False
theorem YK:ud (λxs H Q=>∃ i j,xs=[.int i,.int j]/\Q (.int (if j > i then j else i)) H) YJ:=λZ H vs ds R Q zd hv h q=>by
 unfold YJ at h
 split at h
 ·rename_i i j
  obtain ⟨v,w,rfl,hx,hy⟩:=uu hv
  cases hx; cases hy
  refine ⟨_,_,rfl,?_⟩
  have e:(if j > i then j else i)=max i j:=by rw [Int.max_def]; split <;> split <;> omega
  rw [e]
  exact q _ _ H h (Sm.refl _) (.int _)
 ·exact h.elim
noncomputable def YL:FL
 | [.int i,.int j],R=>R (.int (min i j))
 | _,_=>False
theorem zMR:ud (λxs H Q=>∃ i j,xs=[.int i,.int j]/\Q (.int (if j < i then j else i)) H) YL:=λZ H vs ds R Q zd hv h q=>by
 unfold YL at h
 split at h
 ·rename_i i j
  obtain ⟨v,w,rfl,hx,hy⟩:=uu hv
  cases hx; cases hy
  refine ⟨_,_,rfl,?_⟩
  have e:(if j < i then j else i)=min i j:=by rw [Int.min_def]; split <;> split <;> omega
  rw [e]
  exact q _ _ H h (Sm.refl _) (.int _)
 ·exact h.elim
noncomputable def YM:FL
 | [.int i],R=>R (.int i)
 | [.bool b],R=>R (.int (if b=true then 1 else 0))
 | _,_=>False
theorem zMS:ud (λxs H Q=>(∃ i,xs=[.int i]/\Q (.int i) H)\/∃ k,xs=[.bl k]/\Q (.int (if k then 1 else 0)) H) YM:=λZ H vs ds R Q zd hv h q=>by
 unfold YM at h
 split at h
 ·obtain ⟨v,rfl,hw⟩:=xD hv
  cases hw
  exact .inl ⟨_,rfl,q _ _ H h (Sm.refl _) (.int _)⟩
 ·obtain ⟨v,rfl,hw⟩:=xD hv
  cases hw
  exact .inr ⟨_,rfl,q _ _ H h (Sm.refl _) (.int _)⟩
 ·exact h.elim
end
end Pu
namespace Pu
open PySem L2 Sh
variable [yX]
noncomputable def setN:St->List Nat->List V->St
 | σ,j :: js,v :: vs=>setN (σ.set j (some v)) js vs
 | σ,_,_=>σ
noncomputable def Wm:List Sl->List Nat->List D->List Sl
 | Γ,j :: js,d :: ds=>Wm (yJ Γ j (.sh d)) js ds
 | Γ,_,_=>Γ
noncomputable def jM:Option (List D)->(List D->Prop)->Prop
 | some os,k=>k os
 | none,_=>False
theorem YN {o:Option (List D)} {k:List D->Prop} (h:jM o k):∃ os,o=some os/\k os:=by
 cases o with
 | none=>exact h.elim
 | some os=>exact ⟨os,rfl,h⟩
inductive tG (js:List Nat) (po:D->Option (List D)) (v:V) (σ:St) (H:Hp) (Q:St->Hp->Prop):Prop
 | mk (Z:Addr->Prop) (d:D) (os:List D) (hv:DV (zJ Z H) v d) (ho:po d=some os) (q:∀ vs,yH (zJ Z H) vs os->Q (setN σ js vs) H):tG js po v σ H Q
inductive tGs (js:List Nat) (po:List D->Option (List D)) (us:List V) (σ:St) (H:Hp) (Q:St->Hp->Prop):Prop
 | mk (Z:Addr->Prop) (ds os:List D) (hv:yH (zJ Z H) us ds) (ho:po ds=some os) (q:∀ vs,yH (zJ Z H) vs os->Q (setN σ js vs) H):tGs js po us σ H Q
structure gz (X:Cx) (es:List Expr) (js:List Nat) (po:List D->Option (List D)) (n:Nat):Prop where
 g:gZ X es (tGs js po)
 l:∀ ds os,po ds=some os->ds.length=n
 k:∀ ds os,po ds=some os->os.length=js.length
section
variable {X:Cx} {pos:Pos}
noncomputable def Jw:D->Option (List D):=λd=>some [d]
theorem zM6 (i:Nat) {x:Str} (hN:X.N.Nodup) (hi:X.N[i]? = some x) (hx:uh X.env.scope x) (hf:X.fn x=true\/X.env.scope.names.lookup x=some .local:=by first | exact .inl rfl | exact .inr rfl | assumption):PG X (.Name x pos) (tG [i] Jw):=
 λpins s σ H v u Q I r ⟨_,_,_,hv,ho,q⟩=>Uw hN hi hx hf pins s σ H v u Q I r (by
  cases ho
  exact q [v] (.cons hv .nil))
noncomputable def zQ7:List D->Option (List D)
 | []=>some []
 | _=>none
noncomputable def Jx (po:List D->Option (List D)):List D->Option (List D)
 | d :: ds=>(po ds).map (d :: ·)
 | []=>none
noncomputable def Wn (po:List D->Option (List D)):D->Option (List D)
 | .tup ds=>po ds
 | .lst ds=>po ds
 | _=>none
theorem w4:gz X [] [] zQ7 0 where
 g:=λpins s σ H vs us Q I r ⟨_,ds,os,hv,ho,q⟩=>by
  cases ds with
  | nil=>cases hv; exact zPX pins s σ H [] us Q I r ⟨rfl,q [] (by cases ho; exact .nil)⟩
  | cons=>cases ho
 l:=λds os h=>by cases ds with | nil=>rfl | cons=>cases h
 k:=λds os h=>by cases ds with | nil=>cases h; rfl | cons=>cases h
theorem zK4 (i:Nat) {x:Str} {es:List Expr} {js:List Nat} {po:List D->Option (List D)} {n:Nat} (hN:X.N.Nodup) (hi:X.N[i]? = some x) (hx:uh X.env.scope x) (h:gz X es js po n)
  (hs:(assignEach (.Name x pos :: es) X.env).map (·.2)=assign (.Name x pos) X.env :: (assignEach es X.env).map (·.2):=by rfl) (hf:X.fn x=true\/X.env.scope.names.lookup x=some .local:=by first | exact .inl rfl | exact .inr rfl | assumption):gz X (.Name x pos :: es) (i :: js) (Jx po) (n + 1) where
 g:=λpins s σ H vs us Q I r ⟨Z,ds,os,hv,ho,q⟩=>by
  cases hv with
  | nil=>cases ho
  | @cons v d vt dt hv ht=>
   change (po dt).map (d :: ·)=some os at ho
   cases e:po dt with
   | none=>rw [e] at ho; cases ho
   | some os'=>
    rw [e] at ho
    cases ho
    exact zNI (Uw hN hi hx hf) h.g hs pins s σ H _ us Q I r ⟨v,vt,rfl,Z,dt,os',ht,e,λvs hvs=>q (v :: vs) (.cons hv hvs)⟩
 l:=λds os q=>by
  cases ds with
  | nil=>cases q
  | cons d dt=>
   change (po dt).map (d :: ·)=some os at q
   cases e:po dt with
   | none=>rw [e] at q; cases q
   | some os'=>rw [cJ,h.l dt os' e]
 k:=λds os q=>by
  cases ds with
  | nil=>cases q
  | cons d dt=>
   change (po dt).map (d :: ·)=some os at q
   cases e:po dt with
   | none=>rw [e] at q; cases q
   | some os'=>rw [e] at q; cases q; rw [cJ,cJ,h.k dt os' e]
theorem wI {H:Hp} {vs:List V} {ds:List D} (h:yH H vs ds):vs.length=ds.length:=Paired.length h
theorem qt {po:List D->Option (List D)} {js:List Nat} (h:∀ ds os,po ds=some os->os.length=js.length):∀ d os,Wn po d=some os->os.length=js.length:=λd os q=>by
 unfold Wn at q
 split at q
 ·exact h _ _ q
 ·exact h _ _ q
 ·cases q
theorem w6 {es:List Expr} {js:List Nat} {po:List D->Option (List D)} {n k:Nat} (hc:X.calm=true) (h:gz X es js po n) (hn:(assignEach es X.env).length=n:=by rfl) (hst:(assignEach es X.env).findIdx? (·.1)=none:=by rfl):PG X (.Tuple es k pos) (tG js (Wn po)):=
 λpins s σ H v u Q I r ⟨Z,d,os,hv,ho,q⟩=>by
  unfold Wn at ho
  split at ho
  ·obtain ⟨p,xs,rfl,e,hx⟩:=hv.tup_inv
   exact zRB hc h.g hn hst pins s σ H _ u Q I r ⟨p,xs,rfl,yQ.of (zl _ _ e),by rw [wI hx]; exact h.l _ _ ho,Z,_,os,hx,ho,q⟩
  ·obtain ⟨p,xs,rfl,e,hx⟩:=hv.lst_inv
   exact zRC hc h.g hn hst pins s σ H _ u Q I r ⟨p,xs,rfl,zZ.of (zl _ _ e),by rw [wI hx]; exact h.l _ _ ho,Z,_,os,hx,ho,q⟩
  ·cases ho
end
noncomputable def Wk (Z:Addr->Prop) (J:It) (H:Hp) (ds:List D):Prop:=∀ i Z' H',zM (zJ Z H) (zJ Z' H')->ZL Z' H'->(∀ d,ds[i]? = some d->J.go i H'/\∀ x H'',J.yld i H' x H''->Sm H' H''/\DV (zJ Z' H'') x d)/\(i=ds.length->J.stop i H')
inductive jN (p:yn) (σ:St) (H:Hp) (Q:It->Hp->Prop):Prop
 | mk (Z:Addr->Prop) (Γ:List Sl) (R:List D->Prop) (E:zr Z Γ σ H) (h:p Γ R) (q:∀ ds J H',R ds->Sm H H'->Wk Z J H' ds->Q J H'):jN p σ H Q
theorem j2 {α β:Type} {R:α->β->Prop} {xs:List α} {ys:List β} (h:Paired R xs ys) {j:Nat} {y:β} (e:ys[j]? = some y):∃ x,xs[j]? = some x/\R x y:=YC.go h e
section
variable {X:Cx} {tg e e1 e2:Expr} {pos:Pos} {pa:yE} {pl:yn}
theorem YO {w w':TI} (h:PI X tg e w) (k:∀ σ H R,w' σ H R->w σ H R):PI X tg e w':=λpins s σ H R I q=>h pins s σ H R I (k σ H R q)
noncomputable def Jy (K:b_) (tl:TE):TI:=λσ H R=>tl σ H λx H1=>(∃ a,x=.ref a/\(∃ xs,zZ K H1 a xs)/\R (WE K a) H1)\/∃ a,x=.ref a/\(∃ xs,yQ K H1 a xs)/\R (WF K a) H1
theorem zOW {l:Expr} {tl:TE} (hl:PE X l tl):PI X tg l (Jy X.K tl):=by
 intro pins s σ H R I h
 refine zp (hl pins s σ H _ I h) λv s1 ⟨x,H1,I1,r1,q1⟩=>?_
 rcases q1 with ⟨a,e,⟨xs,hq⟩,q⟩ | ⟨a,e,⟨xs,hq⟩,q⟩
 ·subst e
  cases r1
  obtain ⟨its,rv,p,hz⟩:=I1.list hq
  refine PySem.wpAny_pyIter_list p.isList ?_
  refine ⟨s1.heap.objs.size,[s1.heap.objs.size],_,_,H1,rfl,I1.kept (t':=s1.toks) λb o e=>ci _ e,zKg a _,⟨_,cy _ rfl,rfl,rfl⟩,λb hb=>?_,q⟩
  have e:b=s1.heap.objs.size:=by simpa using hb
  subst e
  exact I1.fpOk (cD _) (I1.hok.fresh (cD _))
 ·subst e
  cases r1
  obtain ⟨its,rv,p,hz⟩:=I1.tuple hq
  refine PySem.wpAny_pyIter_tuple (show s1.heap.IsTuple a its.toArray from p) ?_
  refine ⟨s1.heap.objs.size,[s1.heap.objs.size],_,_,H1,rfl,I1.kept (t':=s1.toks) λb o e=>ci _ e,zJs a _,⟨_,cy _ rfl,rfl,rfl⟩,λb hb=>?_,q⟩
  have e:b=s1.heap.objs.size:=by simpa using hb
  subst e
  exact I1.fpOk (cD _) (I1.hok.fresh (cD _))
noncomputable def uv:D->(List D->Prop)->Prop
 | .frz ds,R=>R ds
 | .lst ds,R=>R ds
 | .tup ds,R=>R ds
 | _,_=>False
noncomputable def YQ (pa:yE):yn:=λΓ R=>pa Γ λd=>uv d R
theorem zKY {K:b_} {Z:Addr->Prop} {H:Hp} {p:Addr} {xs:List V} {ds:List D} (e:Rd (zJ Z H) p (.lst xs)) (h:yH (zJ Z H) xs ds):Wk Z (WE K p) H ds:=λi Z' H' s zd=>by
 have e1:zZ K H' p xs:=.inl (jI zl (jI s e))
 refine ⟨λd hd=>?_,λhi=>⟨xs,e1,by rw [wI h]; omega⟩⟩
 obtain ⟨x,hx,hh⟩:=j2 h hd
 refine ⟨⟨xs,x,e1,hx⟩,λy H'' ⟨e2,hy⟩=>?_⟩
 subst e2
 have:=hy xs e1
 rw [hx] at this
 cases this
 exact ⟨Sm.refl _,hh.same s⟩
theorem zQa {K:b_} {Z:Addr->Prop} {H:Hp} {p:Addr} {xs:List V} {ds:List D} (e:zJ Z H p=some (.tup xs)) (h:yH (zJ Z H) xs ds):Wk Z (WF K p) H ds:=λi Z' H' s zd=>by
 have e1:=zl _ _ (s _ _ e)
 refine ⟨λd hd=>?_,λhi=>⟨xs,yQ.of e1,by rw [wI h]; omega⟩⟩
 obtain ⟨x,hx,hh⟩:=j2 h hd
 refine ⟨⟨xs,x,yQ.of e1,hx⟩,λy H'' ⟨e2,hy⟩=>?_⟩
 subst e2
 have:=hy xs (yQ.of e1)
 rw [hx] at this
 cases this
 exact ⟨Sm.refl _,hh.same s⟩
theorem yj (ha:PE X e (tP pa)):PI X tg e (jN (YQ pa)):=YO (zOW ha) λσ H Q ⟨Z,Γ,R,E,h,q⟩=>
 ⟨Z,Γ,_,E,h,λd v H1 hd s1 hv=>by
  unfold uv at hd
  split at hd
  ·obtain ⟨p,xs,rfl,e,hx⟩:=hv.frz_inv
   exact .inl ⟨p,rfl,⟨xs,.inl (jI zl e)⟩,q _ _ H1 hd s1 (zKY e hx)⟩
  ·obtain ⟨p,xs,rfl,e,hx⟩:=hv.lst_inv
   exact .inl ⟨p,rfl,⟨xs,zZ.of (zl _ _ e)⟩,q _ _ H1 hd s1 (zKY (.inl e) hx)⟩
  ·obtain ⟨p,xs,rfl,e,hx⟩:=hv.tup_inv
   exact .inr ⟨p,rfl,⟨xs,yQ.of (zl _ _ e)⟩,q _ _ H1 hd s1 (zQa e hx)⟩
  ·exact hd.elim⟩
noncomputable def rng (lo:Int) (n:Nat):List D:=(cR n).map λk:Nat=>D.int (lo + (k:Int))
theorem zMk {Z:Addr->Prop} {H:Hp} {lo:Int} {n:Nat}:Wk Z (WG lo n) H (rng lo n):=λi Z' H' s zd=>by
 refine ⟨λd hd=>?_,λhi=>?_⟩
 ·unfold rng at hd
  rw [cS] at hd
  have hlt:i < n:=by
   apply Classical.byContradiction
   intro c
   rw [eC (by rw [cI]; omega)] at hd
   cases hd
  rw [dj hlt] at hd
  cases hd
  exact ⟨hlt,λx H'' ⟨e1,e2⟩=>by subst e1; subst e2; exact ⟨Sm.refl _,.int _⟩⟩
 ·show n<=i
  rw [hi]
  unfold rng
  rw [a_,cI]
  exact cD _
noncomputable def rng0 (n:Nat):List D:=(cR n).map λk:Nat=>D.int (k:Int)
theorem Jz (n:Nat):rng0 n=rng 0 n:=cN λk _=>by rw [e9]
theorem uR {n k:Nat} {d:D} (h:(rng0 n)[k]? = some d):k < n/\d=.int (k:Int):=by
 unfold rng0 at h
 rw [cS] at h
 by_cases c:k < n
 ·rw [dj c] at h
  exact ⟨c,(Option.some.inj h).symm⟩
 ·rw [eC (by rw [cI]; omega)] at h
  cases h
theorem ue (n:Nat):(rng0 n).length=n:=by unfold rng0; rw [a_,cI]
noncomputable def zQv:List D->(List D->Prop)->Prop
 | [.int j],R=>-1000<=j/\j<=1000/\R (rng0 j.toNat)
 | _,_=>False
noncomputable def J0 (f:List D->(List D->Prop)->Prop) (pl:yn):yn:=λΓ R=>pl Γ λds=>f ds R
theorem xz {p:Pos} (hg:Gl X "range") (hm:X.mg "range" = none) (ha:PA X [e] (wE pl)) (hs:starEach [e] X.env=[(false,eval e X.env)]:=by rfl):PI X tg (.Call (.Name "range" p) [e] [] pos) (jN (J0 zQv pl)):=YO (zLC hg hm ha hs) λσ H Q ⟨Z,Γ,R,E,h,q⟩=>
 ⟨Z,Γ,_,E,h,λds vs H1 hd s1 hv=>by
  unfold zQv at hd
  split at hd
  ·obtain ⟨h1,h2,hd⟩:=hd
   obtain ⟨v,rfl,hw⟩:=xD hv
   cases hw
   rw [Jz] at hd
   exact ⟨_,rfl,by omega,by omega,q _ _ H1 hd s1 zMk⟩
  ·exact hd.elim⟩
noncomputable abbrev y3 (x y:D):D:=.tup [x,y]
theorem J3 {α β γ:Type} (f:α->β->γ):∀ {xs:List α} {ys:List β} {i:Nat} {z:γ},(dh f xs ys)[i]? = some z->∃ x y,xs[i]? = some x/\ys[i]? = some y/\z=f x y
 | [],_,_,_,h=>by simp at h
 | _ :: _,[],_,_,h=>by simp at h
 | x :: _,y :: _,0,_,h=>by simp at h; exact ⟨x,y,rfl,rfl,h.symm⟩
 | _ :: xs,_ :: ys,i + 1,z,h=>by
  obtain ⟨x,y,h1,h2,h3⟩:=J3 f (xs:=xs) (ys:=ys) (i:=i) (z:=z) (by simpa using h)
  exact ⟨x,y,by simpa using h1,by simpa using h2,h3⟩
theorem zN6 {S1 S2:Hp->Addr->List V->Prop} {Z:Addr->Prop} {H:Hp} {p r:Addr} {xs ys:List V} {ds es:List D} (h1:∀ Z' H',zM (zJ Z H) (zJ Z' H')->S1 H' p xs) (h2:∀ Z' H',zM (zJ Z H) (zJ Z' H')->S2 H' r ys) (hx:yH (zJ Z H) xs ds) (hy:yH (zJ Z H) ys es) :
  Wk Z ⟨λi H=>∃ xs ys x y,S1 H p xs/\S2 H r ys/\xs[i]? = some x/\ys[i]? = some y,λi H v H'=>∃ T x y,v=.ref T/\H T=none/\H'=zY H T (.tup [x,y])/\(∀ xs,S1 H p xs->xs[i]? = some x)/\∀ ys,S2 H r ys->ys[i]? = some y,
   λi H=>∃ xs ys,S1 H p xs/\S2 H r ys/\i<=xs.length/\i<=ys.length/\(i=xs.length\/i=ys.length)⟩ H (dh y3 ds es):=λi Z' H' s zd=>by
 have a1:=h1 Z' H' s
 have a2:=h2 Z' H' s
 have l1:=wI hx
 have l2:=wI hy
 refine ⟨λd hd=>?_,λhi=>?_⟩
 ·obtain ⟨a,b,ha,hb,rfl⟩:=J3 _ hd
  obtain ⟨x,gx,kx⟩:=j2 hx ha
  obtain ⟨y,gy,ky⟩:=j2 hy hb
  refine ⟨⟨xs,ys,x,y,a1,a2,gx,gy⟩,λv H'' ⟨T,x',y',ev,hT,eH,q1,q2⟩=>?_⟩
  have:=q1 xs a1
  rw [gx] at this
  cases this
  have:=q2 ys a2
  rw [gy] at this
  cases this
  subst ev
  subst eH
  exact ⟨wM hT _,Zx zd hT (.cons (kx.same s) (.cons (ky.same s) .nil))⟩
 ·rw [iZ] at hi
  exact ⟨xs,ys,a1,a2,by omega,by omega,by omega⟩
noncomputable def uS:List D->(List D->Prop)->Prop
 | [.frz ds,.lst es],R=>R (dh y3 ds es)
 | [.frz ds,.frz es],R=>R (dh y3 ds es)
 | [.lst ds,.frz es],R=>R (dh y3 ds es)
 | [.tup ds,.frz es],R=>R (dh y3 ds es)
 | [.lst ds,.lst es],R=>R (dh y3 ds es)
 | [.lst ds,.tup es],R=>R (dh y3 ds es)
 | [.tup ds,.lst es],R=>R (dh y3 ds es)
 | [.tup ds,.tup es],R=>R (dh y3 ds es)
 | _,_=>False
noncomputable def kd (t:Bool) (ds:List D):D:=match t with
 | true=>.tup ds
 | false=>.lst ds
theorem YR {K:b_} {Z:Addr->Prop} {H:Hp} {v:V} {ds:List D}:∀ {t:Bool},DV (zJ Z H) v (kd t ds)->∃ a xs,v=.ref a/\(∀ Z' H',zM (zJ Z H) (zJ Z' H')->wr t K H' a xs)/\yH (zJ Z H) xs ds
 | true,h=>let ⟨a,xs,e,ea,ha⟩:=h.tup_inv; ⟨a,xs,e,λ_ _ s=>yQ.of (zl _ _ (s _ _ ea)),ha⟩
 | false,h=>let ⟨a,xs,e,ea,ha⟩:=h.lst_inv; ⟨a,xs,e,λ_ _ s=>zZ.of (zl _ _ (s _ _ ea)),ha⟩
theorem qu {ts:List Expr} {kk:Nat} {tp p:Pos} (hg:Gl X "zip") (hm:X.mg "zip" = none) (ha:PA X [e1,e2] (wE pl)) (hs:starEach [e1,e2] X.env=[(false,eval e1 X.env),(false,eval e2 X.env)]:=by rfl) (hs2:starEach [e2] X.env=[(false,eval e2 X.env)]:=by rfl) :
  PI X (.Tuple ts kk tp) (.Call (.Name "zip" p) [e1,e2] [] pos) (jN (J0 uS pl)):=YO (zPW hg hm ha hs hs2) λσ H Q ⟨Z,Γ,R,E,h,q⟩=>
 ⟨Z,Γ,_,E,h,λds vs H1 hd s1 hv=>by
  have main:∀ (t u:Bool) (es fs:List D),yH (zJ Z H1) vs [kd t es,kd u fs]->R (dh y3 es fs)->∃ a b t u,vs=[.ref a,.ref b]/\(∃ xs,wr t X.K H1 a xs)/\(∃ ys,wr u X.K H1 b ys)/\Q (Wb t u X.K a b) H1:=λt u es fs hv hd=>by
   obtain ⟨v,w,rfl,hx,hy⟩:=uu hv
   obtain ⟨a,xs,rfl,ea,ha⟩:=YR (K:=X.K) hx
   obtain ⟨b,ys,rfl,eb,hb⟩:=YR (K:=X.K) hy
   exact ⟨a,b,t,u,rfl,⟨xs,ea Z H1 (zM.refl _)⟩,⟨ys,eb Z H1 (zM.refl _)⟩,q _ _ H1 hd s1 (zN6 ea eb ha hb)⟩
  have fzk:∀ {v:V} {es:List D},DV (zJ Z H1) v (.frz es)->∃ a xs,v=.ref a/\(∀ Z' H',zM (zJ Z H1) (zJ Z' H')->wr false X.K H' a xs)/\yH (zJ Z H1) xs es:=λh=>let ⟨a,xs,e,ea,ha⟩:=h.frz_inv; ⟨a,xs,e,λ_ _ s=>.inl (jI zl (jI s ea)),ha⟩
  have mainF:∀ {t u:Bool} {d e:D} {es fs:List D},(∀ {v:V},DV (zJ Z H1) v d->∃ a xs,v=.ref a/\(∀ Z' H',zM (zJ Z H1) (zJ Z' H')->wr t X.K H' a xs)/\yH (zJ Z H1) xs es)->(∀ {v:V},DV (zJ Z H1) v e->∃ a xs,v=.ref a/\(∀ Z' H',zM (zJ Z H1) (zJ Z' H')->wr u X.K H' a xs)/\yH (zJ Z H1) xs fs)->yH (zJ Z H1) vs [d,e]->R (dh y3 es fs)->∃ a b t u,vs=[.ref a,.ref b]/\(∃ xs,wr t X.K H1 a xs)/\(∃ ys,wr u X.K H1 b ys)/\Q (Wb t u X.K a b) H1:=λ{t u d e es fs} h1 h2 hv hd=>by
   obtain ⟨v,w,rfl,hx,hy⟩:=uu hv
   obtain ⟨a,xs,rfl,ea,ha⟩:=h1 hx
   obtain ⟨b,ys,rfl,eb,hb⟩:=h2 hy
   exact ⟨a,b,t,u,rfl,⟨xs,ea Z H1 (zM.refl _)⟩,⟨ys,eb Z H1 (zM.refl _)⟩,q _ _ H1 hd s1 (zN6 ea eb ha hb)⟩
  unfold uS at hd
  split at hd
  ·exact mainF (t:=false) (u:=false) fzk (YR (t:=false)) hv hd
  ·exact mainF (t:=false) (u:=false) fzk fzk hv hd
  ·exact mainF (t:=false) (u:=false) (YR (t:=false)) fzk hv hd
  ·exact mainF (t:=true) (u:=false) (YR (t:=true)) fzk hv hd
  ·exact main false false _ _ hv hd
  ·exact main false true _ _ hv hd
  ·exact main true false _ _ hv hd
  ·exact main true true _ _ hv hd
  ·exact hd.elim⟩
end
end Pu
namespace Pu
open PySem L2 Sh
variable [yX]
noncomputable def un:Sl->Sl
 | .sh d=>.sh d
 | _=>.no
theorem zI7:∀ (Γ:List Sl) (i:Nat),slot Γ i=(Γ[i]?).getD .no
 | [],_=>rfl
 | _ :: _,0=>rfl
 | _ :: t,i + 1=>(zI7 t i).trans (by rw [eP])
theorem YS {s:Sl} {d:D} (h:un s=.sh d):s=.sh d:=by cases s <;> first | exact h | cases h
theorem YT {s:Sl} {ds:List D} (h:un s=.ow ds):False:=by cases s <;> cases h
theorem YU {s:Sl} {o c:Addr} {ns:List Str} {ds:List D} (h:un s=.ob o c ns ds):False:=by cases s <;> cases h
theorem Wo {os:List D} {l:List Sl} (hl:∀ i o c ns ds,slot l i≠.ob o c ns ds):∀ i o c ns ds,slot (os.map Sl.sh++l) i≠.ob o c ns ds:=λi o c ns ds h=>by
 induction os generalizing i with
 | nil=>exact hl i o c ns ds h
 | cons d t ih=>
  cases i with
  | zero=>cases h
  | succ i=>exact ih i h
theorem Wp {os:List D} {l:List Sl} (hl:∀ i ds,slot l i≠.ow ds):∀ i ds,slot (os.map Sl.sh++l) i≠.ow ds:=λi ds h=>by
 induction os generalizing i with
 | nil=>exact hl i ds h
 | cons d t ih=>
  cases i with
  | zero=>cases h
  | succ i=>exact ih i h
theorem Wq (Γ:List Sl):∀ (js:List Nat) (i:Nat),slot (js.map λj=>un (slot Γ j)) i=match js[i]? with | some j=>un (slot Γ j) | none=>.no
 | [],_=>rfl
 | _ :: _,0=>rfl
 | _ :: js,i + 1=>by
  rw [eP]
  exact Wq Γ js i
theorem zMF {Z:Addr->Prop} {Γ:List Sl} {σ:St} {H:Hp} (E:zr Z Γ σ H) {js:List Nat} {vs:List V} {os:List D} (h:yH (zJ Z H) vs os):zr Z (os.map Sl.sh++js.map λj=>un (slot Γ j)) (vs.map some++js.map λj=>(σ[j]?).getD none) H:=by
 have no:∀ i ds,slot (os.map Sl.sh++js.map λj=>un (slot Γ j)) i≠.ow ds:=Wp λi ds h=>by
  rw [Wq] at h
  split at h
  ·exact YT h
  ·cases h
 have nob:∀ i o c ns ds,slot (os.map Sl.sh++js.map λj=>un (slot Γ j)) i≠.ob o c ns ds:=Wo λi o c ns ds h=>by
  rw [Wq] at h
  split at h
  ·exact YU h
  ·cases h
 refine ⟨?_,λi ds e=>absurd e (no i ds),λi o c ns ds e=>absurd e (nob i o c ns ds),λi _ ds _ _ e=>absurd e (no i ds),E.zd,?_⟩
 clear nob
 ·induction h with
  | nil=>
   intro i d e
   change slot (js.map λj=>un (slot Γ j)) i=_ at e
   show ∃ v,(js.map λj=>(σ[j]?).getD none)[i]? = some (some v)/\_
   rw [Wq] at e
   rw [cS]
   cases k:js[i]? with
   | none=>rw [k] at e; cases e
   | some j=>
    rw [k] at e
    obtain ⟨v,h1,h2⟩:=E.sh j d (YS e)
    exact ⟨v,by show some ((σ[j]?).getD none)=_; rw [h1]; rfl,h2⟩
  | @cons v d vs ds hv _ ih=>
   intro i e q
   cases i with
   | zero=>cases q; exact ⟨v,rfl,hv⟩
   | succ i=>
    obtain ⟨u,h1,h2⟩:=ih (λi=>no (i + 1)) i e q
    exact ⟨u,by rw [cT,lV,eP]; exact h1,h2⟩
 ·rw [cj,cj,a_,a_,a_,a_,wI h]
theorem zI8 (c:St):∀ (pre o:St) (vs:List V),o.length=vs.length->setN (pre++(o++c)) (fY pre.length o.length) vs=pre++(vs.map some++c)
 | _,[],[],_=>rfl
 | _,[],_ :: _,h=>nomatch h
 | _,_ :: _,[],h=>nomatch h
 | pre,x :: o,v :: vs,h=>by
  rw [cJ,List.range'_succ]
  show setN ((pre++((x :: o)++c)).set pre.length (some v)) (fY (pre.length + 1) o.length) vs=_
  rw [List.set_append_right _ _ (cD _),eD]
  have:=zI8 c (pre++[some v]) o vs (Nat.succ.inj h)
  rw [cj,d_] at this
  rw [d_] at this
  exact this
inductive zi (ds:List D) (G:D->(D->Prop)->Prop) (R:D->Prop):Prop
 | mk (few:ds.length<=1000) (F:D->D->Prop) (h:∀ d,d∈ds->G d (F d)) (q:∀ es,Paired F ds es->R (.lst es)):zi ds G R
noncomputable def YV (caps:List Nat) (pi:yn) (po:D->Option (List D)) (pe:yE):yE:=λΓ R=>pi Γ λds=>zi ds (λd S=>jM (po d) λos=>pe (os.map Sl.sh++caps.map λj=>un (slot Γ j)) S) R
theorem zJb {Z:Addr->Prop} {Γ:List Sl} {σ:St} {H:Hp} {own:List Str} {caps:List (Nat × Str)} {J:It} {ds:List D} {js:List Nat} {po:D->Option (List D)} {pt:wf} {pe:yE} {Q:VK} {f:D->Bool} {F:D->D->Prop} {Zt:Addr->Prop} {Γt:List Sl} (E:zr Z Γ σ H) (Et:zr Zt Γt σ H) (sub:∀ b,Zt b->Z b) (wk:Wk Z J H ds) (hj:js=fY 0 own.length) (hk:∀ d os,po d=some os->os.length=js.length) (few:ds.length<=1000)
  (hT:∀ d,d∈ds->jM (po d) λos=>pt (os.map Sl.sh++(caps.map (·.1)).map λj=>un (slot Γt j)) λb=>b=f d)
  (hF:∀ d,d∈ds->f d=true->jM (po d) λos=>pe (os.map Sl.sh++(caps.map (·.1)).map λj=>un (slot Γ j)) (F d))
  (q:∀ es ys H' p,Paired F (ds.filter f) es->Sm H H'->yH (zJ Z H') ys es->H' p=none->Q (.ref p) (zY H' p (.lst ys))):JR J (tG js po) (xR pt) (tP pe) Q (uK own caps σ) H:=by
 have hc:uK own caps σ=own.map (λ_=>none)++(caps.map (·.1)).map λj=>(σ[j]?).getD none:=by
  unfold uK
  rw [cw]
  rfl
 refine ⟨λi m ys σ1 H1=>m + i=ds.length/\Sm H H1/\(∃ es,Paired F ((ds.take i).filter f) es/\yH (zJ Z H1) ys es)/\∃ o:St,o.length=own.length/\σ1=o++(caps.map (·.1)).map λj=>(σ[j]?).getD none,⟨ds.length,rfl,Sm.refl _,⟨[],.nil,.nil⟩,_,a_ ..,hc⟩,?_⟩
 rintro i m ys σ1 H1 ⟨hm,s1,⟨es,he,hy⟩,o,lo,rfl⟩
 obtain ⟨w1,w2⟩:=wk i Z H1 (yt s1) (E.zd.same s1)
 have le:es.length<=i:=by
  have h1:=Paired.length he
  have h2:=iL f (ds.take i)
  rw [cE] at h2
  omega
 by_cases hi:i < ds.length
 ·have tk:(ds.take (i + 1)).filter f=(ds.take i).filter f++(if f ds[i]=true then [ds[i]] else []):=by
   rw [eG hi,List.filter_append,List.filter_cons,List.filter_nil]
  refine .inr ⟨(w1 _ (ck hi)).1,by rw [wI hy]; exact JJ (by omega),λy σ' H'=>m - 1 + (i + 1)=ds.length/\Sm H H'/\(∃ es,Paired F ((ds.take (i + 1)).filter f) es/\yH (zJ Z H') (ys++[y]) es)/\∃ o:St,o.length=own.length/\σ'=o++(caps.map (·.1)).map λj=>(σ[j]?).getD none,λσ' H'=>m - 1 + (i + 1)=ds.length/\Sm H H'/\(∃ es,Paired F ((ds.take (i + 1)).filter f) es/\yH (zJ Z H') ys es)/\∃ o:St,o.length=own.length/\σ'=o++(caps.map (·.1)).map λj=>(σ[j]?).getD none,λy σ' H' k=>⟨m - 1,by omega,k⟩,λσ' H' k=>⟨m - 1,by omega,k⟩,λx H' yl=>?_⟩
  obtain ⟨s2,dv⟩:=(w1 _ (ck hi)).2 x H' yl
  obtain ⟨os,ho,ht⟩:=YN (hT _ (dN hi))
  have lo2:=hk _ _ ho
  refine ⟨Z,_,os,dv,ho,λvs hvs=>?_⟩
  have lv:=wI hvs
  have e1:setN (o++(caps.map (·.1)).map λj=>(σ[j]?).getD none) js vs=vs.map some++(caps.map (·.1)).map λj=>(σ[j]?).getD none:=by
   rw [hj,<- lo]
   exact zI8 _ [] o vs (by rw [lv,lo2,hj,j_]; exact lo)
  rw [e1]
  have lw:(vs.map some).length=own.length:=by rw [a_,lv,lo2,hj,j_]
  refine ⟨Zt,_,_,zMF (Et.same (s1.trans s2)) (xw (Zw sub) hvs),ht,λb H3 hb s3=>?_⟩
  subst hb
  by_cases c:f ds[i]=true
  ·rw [if_pos c]
   obtain ⟨os',ho',hp⟩:=YN (hF _ (dN hi) c)
   cases ho.symm.trans ho'
   refine ⟨Z,_,_,zMF (E.same (s1.trans (s2.trans s3))) (xw (yt s3) hvs),hp,λd v H4 hd s4 hv=>⟨by omega,s1.trans (s2.trans (s3.trans s4)),⟨es++[d],?_,Zh hv (xw (yt (s2.trans (s3.trans s4))) hy)⟩,_,lw,rfl⟩⟩
   rw [tk,if_pos c]
   exact Zh hd he
  ·rw [if_neg c]
   refine ⟨by omega,s1.trans (s2.trans s3),⟨es,?_,xw (yt (s2.trans s3)) hy⟩,_,lw,rfl⟩
   rw [tk,if_neg c,dF]
   exact he
 ·have ei:i=ds.length:=by omega
  refine .inl ⟨w2 ei,λp hp=>q es ys H1 p ?_ s1 hy hp⟩
  rw [cL (by omega)] at he
  exact he
noncomputable def pT1:wf:=λ_ R=>R true
theorem zRM {X:Cx}:Zv X [] (xR pT1):=λσ H Q ⟨_,_,_,_,h,q⟩=>q true H h (Sm.refl _)
theorem YW {ds:List D}:ds.filter (λ_=>true)=ds:=List.filter_eq_self.mpr λ_ _=>rfl
theorem zJc {Z:Addr->Prop} {Γ:List Sl} {σ:St} {H:Hp} {own:List Str} {caps:List (Nat × Str)} {J:It} {ds:List D} {js:List Nat} {po:D->Option (List D)} {pe:yE} {Q:VK} {F:D->D->Prop} (E:zr Z Γ σ H) (wk:Wk Z J H ds) (hj:js=fY 0 own.length) (hk:∀ d os,po d=some os->os.length=js.length) (few:ds.length<=1000)
  (hF:∀ d,d∈ds->jM (po d) λos=>pe (os.map Sl.sh++(caps.map (·.1)).map λj=>un (slot Γ j)) (F d))
  (q:∀ es ys H' p,Paired F ds es->Sm H H'->yH (zJ Z H') ys es->H' p=none->Q (.ref p) (zY H' p (.lst ys))):JR J (tG js po) (xR pT1) (tP pe) Q (uK own caps σ) H:=
 zJb (f:=λ_=>true) E E (λ_ z=>z) wk hj hk few (λd m=>by
  obtain ⟨os,ho,_⟩:=YN (hF d m)
  rw [ho]
  exact rfl) (λd m _=>hF d m) λes ys H' p h=>q es ys H' p (by rw [YW] at h; exact h)
section
variable {X:Cx} {scope:Scope} {own:List Str} {caps:List (Nat × Str)} {tg iter elt:Expr} {pos:Pos} {pi:yn} {po:D->Option (List D)} {pe:yE} {js:List Nat}
theorem yg (B:uM X scope own caps) (hc:X.calm=true) (hj:js=fY 0 own.length) (hk:∀ d os,po d=some os->os.length=js.length) (hi:PI X tg iter (jN pi)) (hg:∀ C s₀ H₀ ex,PG (xA X scope (zk own caps) C s₀ H₀ ex) tg (tG js po))
  (he:∀ C s₀ H₀ ex,PE (xA X scope (zk own caps) C s₀ H₀ ex) elt (tP pe)) (hs:∀ x,foldedSetIterable iter X.env x=pure x:=by intro _; rfl):PE X (.ListComp elt [⟨tg,iter,[],0⟩] scope pos) (tP (YV (caps.map (·.1)) pi po pe)):=
 yL (zNN B hc hi hg (.inl rfl) (λ_ _ _ _=>zRM) he hs) λσ H Q ⟨Z,Γ,R,E,h,q⟩=>⟨Z,Γ,_,E,h,λds J H1 ⟨fw,F,hF,hR⟩ s1 wk=>zJc (E.same s1) wk hj hk fw hF λes ys H' p h1 s2 h2 hp=>q _ _ _ (hR es h1) (s1.trans (s2.trans (wM hp _))) (ub ((E.same s1).zd.same s2) hp h2)⟩
end
theorem zi.map {ds:List D} {G:D->(D->Prop)->Prop} {R:D->Prop} (f:D->D) (few:ds.length<=1000) (h:∀ d,d∈ds->G d λe=>e=f d) (q:R (.lst (ds.map f))):zi ds G R:=⟨few,λd e=>e=f d,h,λes p=>by
 have:∀ {ds es:List D},Paired (λd e=>e=f d) ds es->es=ds.map f:=λ{ds es} p=>by
  induction p with
  | nil=>rfl
  | cons h _ ih=>rw [h,ih]; rfl
 rw [this p]
 exact q⟩
theorem zi.all {ds:List D} {G:D->(D->Prop)->Prop} {R:D->Prop} (P:D->Prop) (few:ds.length<=1000) (h:∀ d,d∈ds->G d P) (q:∀ es,es.length=ds.length->(∀ e∈es,P e)->R (.lst es)):zi ds G R:=⟨few,λ_=>P,h,λes p=>q es (Paired.length p).symm (by
 clear h few q
 induction p with
 | nil=>exact λ_ h=>nomatch h
 | cons h _ ih=>exact λe m=>(cu.mp m).elim (λz=>z ▸ h) (ih e))⟩
theorem zi.at {ds:List D} {G:D->(D->Prop)->Prop} {R:D->Prop} (P:D->D->Prop) (few:ds.length<=1000) (h:∀ d,d∈ds->G d (P d)) (q:∀ es,Paired P ds es->R (.lst es)):zi ds G R:=⟨few,P,h,q⟩
noncomputable def zv:D->Int
 | .int i=>i
 | _=>0
theorem zi.int {ns:List Int} {G:D->(D->Prop)->Prop} {R:D->Prop} (g:Int->Int) (few:ns.length<=1000) (h:∀ n,n∈ns->G (.int n) λe=>e=.int (g n)) (q:R (.lst ((ns.map g).map D.int))):zi (ns.map D.int) G R:=
 zi.map (λd=>.int (g (zv d))) (by rw [a_]; exact few) (λd m=>by
  obtain ⟨n,hn,rfl⟩:=cr.mp m
  exact h n hn) (by rw [cw] at q |-; exact q)
theorem zi.bool {ds:List D} {G:D->(D->Prop)->Prop} {R:D->Prop} (g:D->Bool) (few:ds.length<=1000) (h:∀ d,d∈ds->G d λe=>e=.bool (g d)) (q:R (.lst ((ds.map g).map D.bool))):zi ds G R:=
 zi.map (λd=>.bool (g d)) few h (by rw [cw] at q; exact q)
theorem zi.rng {lo:Int} {n:Nat} {G:D->(D->Prop)->Prop} {R:D->Prop} (g:Nat->D) (few:n<=1000) (h:∀ k,k < n->G (.int (lo + (k:Int))) λe=>e=g k) (q:R (.lst ((cR n).map g))):zi (Pu.rng lo n) G R:=
 zi.map (λd=>g (zv d - lo).toNat) (by unfold Pu.rng; rw [a_,cI]; exact few) (λd m=>by
  obtain ⟨k,hk,rfl⟩:=cr.mp m
  rw [show (zv (.int (lo + (k:Int))) - lo).toNat=k by show (lo + (k:Int) - lo).toNat=k; omega]
  exact h k (du.mp hk)) (by
  have e:(Pu.rng lo n).map (λd=>g (zv d - lo).toNat)=(cR n).map g:=by
   unfold Pu.rng
   rw [cw]
   refine cN λk _=>?_
   show g (lo + (k:Int) - lo).toNat=g k
   rw [show (lo + (k:Int) - lo).toNat=k by omega]
  rw [e]
  exact q)
theorem zi.rngP {lo:Int} {n:Nat} {G:D->(D->Prop)->Prop} {R:D->Prop} (P:D->Prop) (few:n<=1000) (h:∀ k,k < n->G (.int (lo + (k:Int))) P) (q:∀ es,es.length=n->(∀ e∈es,P e)->R (.lst es)):zi (Pu.rng lo n) G R:=
 zi.all P (by unfold Pu.rng; rw [a_,cI]; exact few) (λd m=>by
  obtain ⟨k,hk,rfl⟩:=cr.mp m
  exact h k (du.mp hk)) (λes l=>q es (by rw [l]; unfold Pu.rng; rw [a_,cI]))
theorem zi.rng0 {n:Nat} {G:D->(D->Prop)->Prop} {R:D->Prop} (g:Nat->D) (few:n<=1000) (h:∀ k,k < n->G (.int (k:Int)) λe=>e=g k) (q:R (.lst ((cR n).map g))):zi (Pu.rng0 n) G R:=by
 rw [Jz]
 exact zi.rng g few (λk hk=>by rw [e9]; exact h k hk) q
theorem zi.rng0P {n:Nat} {G:D->(D->Prop)->Prop} {R:D->Prop} (P:D->Prop) (few:n<=1000) (h:∀ k,k < n->G (.int (k:Int)) P) (q:∀ es,es.length=n->(∀ e∈es,P e)->R (.lst es)):zi (Pu.rng0 n) G R:=by
 rw [Jz]
 exact zi.rngP P few (λk hk=>by rw [e9]; exact h k hk) q
noncomputable def uw (P:Int->Prop) (d:D):Prop:=∃ i,d=.int i/\P i
theorem zLh {P:Int->Prop}:∀ {es:List D},(∀ e∈es,uw P e)->∃ ns:List Int,es=ns.map D.int/\∀ x∈ns,P x
 | [],_=>⟨[],rfl,λ_ h=>nomatch h⟩
 | e :: es,h=>by
  obtain ⟨ns,rfl,k⟩:=zLh (es:=es) λx m=>h x (cn _ m)
  obtain ⟨i,rfl,p⟩:=h e cq
  exact ⟨i :: ns,rfl,λx m=>(cu.mp m).elim (λz=>z ▸ p) (k x)⟩
theorem zi.nums {n:Nat} {G:D->(D->Prop)->Prop} {R:D->Prop} (P:Int->Prop) (few:n<=1000) (h:∀ k,k < n->G (.int (k:Int)) (uw P)) (q:∀ ns:List Int,ns.length=n->(∀ x∈ns,P x)->R (.lst (ns.map D.int))):zi (Pu.rng0 n) G R:=
 zi.rng0P (uw P) few h λes l k=>by
  obtain ⟨ns,rfl,p⟩:=zLh k
  exact q ns (by rw [<- l,a_]) p
theorem yR {i:Nat}:∀ d os,Jw d=some os->os.length=[i].length:=λd os h=>by cases h; rfl
theorem qv:∀ ds os,zQ7 ds=some os->os.length=([]:List Nat).length:=λds os h=>by cases ds with | nil=>cases h; rfl | cons=>cases h
theorem vj {i:Nat} {js:List Nat} {po:List D->Option (List D)} (h:∀ ds os,po ds=some os->os.length=js.length):∀ ds os,Jx po ds=some os->os.length=(i :: js).length:=λds os q=>by
 cases ds with
 | nil=>cases q
 | cons d dt=>
  change (po dt).map (d :: ·)=some os at q
  cases e:po dt with
  | none=>rw [e] at q; cases q
  | some os'=>rw [e] at q; cases q; rw [cJ,cJ,h dt os' e]
structure yu (Z0:Addr->Prop) (H0:Hp) (Z:Addr->Prop) (Γ:List Sl) (σ:St) (H:Hp):Prop where
 e:zr Z Γ σ H
 z0:∀ b,Z0 b->Z b
 z0d:ZL Z0 H0
 same:Sm H0 H
 own:∀ i ds l,slot Γ i=.ow ds->σ[i]? = some (some (.ref l))->H0 l=none
 owb:∀ i o c ns ds,slot Γ i=.ob o c ns ds->H0 o=none
structure zSd where
 nx:List Sl->Prop
 rt:D->Prop
 bk:List Sl->Prop:=λ_=>False
 ct:List Sl->Prop:=λ_=>False
noncomputable abbrev xH:=zSd->List Sl->Prop
inductive yb (p:xH) (D0:yq) (σ:St) (H:Hp):Prop
 | mk (Z0:Addr->Prop) (H0:Hp) (Z:Addr->Prop) (Γ:List Sl) (Dp:zSd) (E:yu Z0 H0 Z Γ σ H) (h:p Dp Γ) (nx:∀ Z' Γ' σ' H',yu Z0 H0 Z' Γ' σ' H'->zM (zJ Z H) (zJ Z' H')->Dp.nx Γ'->D0.nx σ' H')
  (rt:∀ d v H',Sm H0 H'->DV (zJ Z0 H') v d->Dp.rt d->D0.rt v H') (bk:∀ Z' Γ' σ' H',yu Z0 H0 Z' Γ' σ' H'->zM (zJ Z H) (zJ Z' H')->Dp.bk Γ'->D0.bk σ' H') (ct:∀ Z' Γ' σ' H',yu Z0 H0 Z' Γ' σ' H'->zM (zJ Z H) (zJ Z' H')->Dp.ct Γ'->D0.ct σ' H'):yb p D0 σ H
theorem yu.mv {Z0:Addr->Prop} {H0:Hp} {Z:Addr->Prop} {Γ:List Sl} {σ:St} {H H':Hp} (E:yu Z0 H0 Z Γ σ H) (s:Sm H H'):yu Z0 H0 Z Γ σ H':=⟨E.e.same s,E.z0,E.z0d,E.same.trans s,E.own,E.owb⟩
theorem yu.set {Z0:Addr->Prop} {H0:Hp} {Z:Addr->Prop} {Γ:List Sl} {σ:St} {H:Hp} (E:yu Z0 H0 Z Γ σ H) {v:V} {d:D} (h:DV (zJ Z H) v d) (i:Nat):yu Z0 H0 Z (yJ Γ i (.sh d)) (σ.set i (some v)) H:=
 ⟨E.e.set h i,E.z0,E.z0d,E.same,λj ds l q r=>by
  rw [wN] at q
  by_cases c:j=i/\i < Γ.length
  ·rw [if_pos c] at q; cases q
  ·rw [if_neg c] at q
   have hj:=ut (Γ:=Γ) (i:=j) (by rw [q]; exact λz=>nomatch z)
   rw [da (λz=>c ⟨z.symm,by omega⟩)] at r
   exact E.own j ds l q r,λj o0 c0 ns ds q=>by
  rw [wN] at q
  by_cases c:j=i/\i < Γ.length
  ·rw [if_pos c] at q; cases q
  ·rw [if_neg c] at q
   exact E.owb j o0 c0 ns ds q⟩
theorem yu.setN {Z0:Addr->Prop} {H0:Hp} {Z:Addr->Prop} {H:Hp}:∀ {js:List Nat} {vs:List V} {os:List D} {Γ:List Sl} {σ:St},yu Z0 H0 Z Γ σ H->yH (zJ Z H) vs os->yu Z0 H0 Z (Wm Γ js os) (Pu.setN σ js vs) H
 | [],_,_,_,_,E,_=>E
 | _ :: _,_,_,_,_,E,.nil=>E
 | _ :: js,_,_,_,_,E,.cons h t=>yu.setN (js:=js) (E.set h _) t
theorem Wr {Z:Addr->Prop} {H:Hp} {l:Addr} {o:HO} (h:Z l):zM (zJ Z H) (zJ Z (zY H l o)):=λb u e=>by
 obtain ⟨h1,h2⟩:=vf e
 have nb:b≠l:=λz=>h1 (by rw [z]; exact h)
 exact xb h1 ((zc nb).trans h2) (qf e)
theorem yu.put {Z0:Addr->Prop} {H0:Hp} {Z:Addr->Prop} {Γ:List Sl} {σ:St} {H:Hp} (E:yu Z0 H0 Z Γ σ H) {i:Nat} {ds ds':List D} {l:Addr} {xs:List V} (hs:slot Γ i=.ow ds) (hl:σ[i]? = some (some (.ref l))) (hz:Z l) (hx:yH (zJ Z H) xs ds'):yu Z0 H0 Z (yJ Γ i (.ow ds')) σ (zY H l (.lst xs)):=by
 obtain ⟨l0,xs0,hl0,_,el,_⟩:=E.e.ow i ds hs
 have el0:l0=l:=by rw [hl] at hl0; cases hl0; rfl
 rw [el0] at el
 have keyb:∀ j o c ns d,slot (yJ Γ i (.ow ds')) j=.ob o c ns d->slot Γ j=.ob o c ns d:=λj o0 c0 ns d q=>by
  rw [wN] at q
  by_cases c:j=i/\i < Γ.length
  ·rw [if_pos c] at q; cases q
  ·rw [if_neg c] at q; exact q
 have li:=ut (Γ:=Γ) (i:=i) (by rw [hs]; exact λz=>nomatch z)
 have hp:zM (zJ Z H) (zJ Z (zY H l (.lst xs))):=Wr hz
 have key:∀ j ds'',slot (yJ Γ i (.ow ds')) j=.ow ds''->∃ q,slot Γ j=.ow q:=λj d q=>by
  rw [wN] at q
  by_cases c:j=i/\i < Γ.length
  ·rw [c.1]; exact ⟨ds,hs⟩
  ·rw [if_neg c] at q; exact ⟨d,q⟩
 refine ⟨⟨λj d q=>?_,λj d q=>?_,λj o c ns d q=>?_,λj k as bs m q r=>?_,⟨λb hb=>?_,yX.put E.e.zd.i el⟩,by rw [gq]; exact E.e.len⟩,E.z0,E.z0d,?_,λj d m q=>?_,λj o c ns d q=>E.owb j o c ns d (keyb j o c ns d q)⟩
 ·rw [wN] at q
  by_cases c:j=i/\i < Γ.length
  ·rw [if_pos c] at q; cases q
  ·rw [if_neg c] at q
   obtain ⟨v,h1,h2⟩:=E.e.sh j d q
   exact ⟨v,h1,h2.same hp⟩
 ·rw [wN] at q
  by_cases c:j=i/\i < Γ.length
  ·rw [if_pos c] at q
   cases q
   rw [c.1]
   exact ⟨l,xs,hl,hz,wS,xw hp hx⟩
  ·rw [if_neg c] at q
   obtain ⟨m,ys,h1,h2,h3,h4⟩:=E.e.ow j d q
   have nm:m≠l:=λz=>c ⟨E.e.ne j i d ds l q hs (by rw [h1,z]) hl,li⟩
   exact ⟨m,ys,h1,h2,by rw [zc nm]; exact h3,xw hp h4⟩
 ·obtain ⟨dx,ys,h1,h2,h3,h5,h4⟩:=E.e.ob j o c ns d (keyb j o c ns d q)
  have nm:o≠l:=λz=>by rw [z,el] at h3; cases h3
  exact ⟨dx,ys,h1,h2,by rw [zc nm]; exact h3,h5,xw hp h4⟩
 ·obtain ⟨q1,hq⟩:=key j as q
  obtain ⟨r1,hr⟩:=key k bs r
  exact E.e.ne j k q1 r1 m hq hr
 ·obtain ⟨u,e,n⟩:=E.e.zd.z b hb
  by_cases c:b=l
  ·rw [c]; exact ⟨_,wS,λ_ z=>nomatch z⟩
  ·exact ⟨u,by rw [zc c]; exact e,n⟩
 ·exact E.same.put (E.own i ds l hs hl) el
 ·obtain ⟨q1,hq⟩:=key j d q
  exact E.own j q1 m hq
theorem yu.make {Z0:Addr->Prop} {H0:Hp} {Z:Addr->Prop} {Γ:List Sl} {σ:St} {H:Hp} (E:yu Z0 H0 Z Γ σ H) {p:Addr} {xs:List V} {ds:List D} (hp:H p=none) (hx:yH (zJ Z H) xs ds) (i:Nat) :
  yu Z0 H0 (λb=>Z b\/b=p) (yJ Γ i (.ow ds)) (σ.set i (some (.ref p))) (zY H p (.lst xs))/\zM (zJ Z H) (zJ (λb=>Z b\/b=p) (zY H p (.lst xs))):=by
 have s:zM (zJ Z H) (zJ (λb=>Z b\/b=p) (zY H p (.lst xs))):=λb o e=>by
  obtain ⟨h1,h2⟩:=vf e
  have nb:=xZ h2 hp
  exact xb (λz=>z.elim h1 nb) ((zc nb).trans h2) (qf e)
 have old:∀ j d,slot Γ j=.ow d->∀ m,σ[j]? = some (some (.ref m))->m≠p:=λj d q m h z=>by
  obtain ⟨l,ys,h1,h2,h3,_⟩:=E.e.ow j d q
  rw [h] at h1
  cases h1
  rw [z,hp] at h3
  cases h3
 have get:∀ j,¬ (j=i/\i < Γ.length)->slot Γ j≠.no->(σ.set i (some (V.ref p)))[j]? = σ[j]?:=λj c q=>by
  have hj:=ut q
  exact da (λz=>c ⟨z.symm,by omega⟩)
 have new:∀ j,j=i/\i < Γ.length->(σ.set i (some (V.ref p)))[j]? = some (some (.ref p)):=λj c=>by
  rw [c.1,dD (by have:=E.e.len; omega)]
 have keyb:∀ j o c ns d,slot (yJ Γ i (.ow ds)) j=.ob o c ns d->slot Γ j=.ob o c ns d/\(σ.set i (some (V.ref p)))[j]? = σ[j]?:=λj o0 c0 ns d q=>by
  rw [wN] at q
  by_cases c:j=i/\i < Γ.length
  ·rw [if_pos c] at q; cases q
  ·rw [if_neg c] at q; exact ⟨q,get j c (by rw [q]; exact λz=>nomatch z)⟩
 refine ⟨⟨⟨λj d q=>?_,λj d q=>?_,λj o c ns d q=>?_,λj k as bs m q r e f=>?_,⟨λb hb=>?_,yX.same E.e.zd.i (qR hp _)⟩,by rw [gq,e7]; exact E.e.len⟩,λb hb=>.inl (E.z0 b hb),E.z0d,E.same.trans (wM hp _),λj d m q e=>?_,λj o c ns d q=>E.owb j o c ns d (keyb j o c ns d q).1⟩,s⟩
 ·rw [wN] at q
  by_cases c:j=i/\i < Γ.length
  ·rw [if_pos c] at q; cases q
  ·rw [if_neg c] at q
   obtain ⟨v,h1,h2⟩:=E.e.sh j d q
   exact ⟨v,by rw [get j c (by rw [q]; exact λz=>nomatch z)]; exact h1,h2.same s⟩
 ·rw [wN] at q
  by_cases c:j=i/\i < Γ.length
  ·rw [if_pos c] at q
   cases q
   exact ⟨p,xs,new j c,.inr rfl,wS,xw s hx⟩
  ·rw [if_neg c] at q
   obtain ⟨m,ys,h1,h2,h3,h4⟩:=E.e.ow j d q
   exact ⟨m,ys,by rw [get j c (by rw [q]; exact λz=>nomatch z)]; exact h1,.inl h2,by rw [zc (old j d q m h1)]; exact h3,xw s h4⟩
 ·obtain ⟨q,g⟩:=keyb j o c ns d q
  obtain ⟨dx,ys,h1,h2,h3,h5,h4⟩:=E.e.ob j o c ns d q
  exact ⟨dx,ys,g.trans h1,.inl h2,by rw [zc (xZ h3 hp)]; exact h3,h5,xw s h4⟩
 ·rw [wN] at q r
  by_cases c:j=i/\i < Γ.length
  ·by_cases c':k=i/\i < Γ.length
   ·omega
   ·rw [if_neg c'] at r
    rw [new j c] at e
    rw [get k c' (by rw [r]; exact λz=>nomatch z)] at f
    cases e
    exact absurd rfl (old k bs r p f)
  ·rw [if_neg c] at q
   rw [get j c (by rw [q]; exact λz=>nomatch z)] at e
   by_cases c':k=i/\i < Γ.length
   ·rw [new k c'] at f
    cases f
    exact absurd rfl (old j as q p e)
   ·rw [if_neg c'] at r
    rw [get k c' (by rw [r]; exact λz=>nomatch z)] at f
    exact E.e.ne j k as bs m q r e f
 ·by_cases c:b=p
  ·rw [c]; exact ⟨_,wS,λ_ z=>nomatch z⟩
  ·obtain ⟨u,e,n⟩:=E.e.zd.z b (hb.resolve_right c)
   exact ⟨u,by rw [zc c]; exact e,n⟩
 ·rw [wN] at q
  by_cases c:j=i/\i < Γ.length
  ·rw [new j c] at e
   cases e
   exact E.same.free hp
  ·rw [if_neg c] at q
   rw [get j c (by rw [q]; exact λz=>nomatch z)] at e
   exact E.own j d m q e
noncomputable def frz (Γ:List Sl) (i:Nat):List Sl:=match slot Γ i with
 | .ow ds=>yJ Γ i (.sh (.lst ds))
 | _=>Γ
theorem yu.frz {Z0:Addr->Prop} {H0:Hp} {Z:Addr->Prop} {Γ:List Sl} {σ:St} {H:Hp} (E:yu Z0 H0 Z Γ σ H) (i:Nat):∃ Z',yu Z0 H0 Z' (Pu.frz Γ i) σ H/\zM (zJ Z H) (zJ Z' H):=by
 unfold Pu.frz
 cases hs:slot Γ i with
 | no=>exact ⟨Z,E,zM.refl _⟩
 | sh _=>exact ⟨Z,E,zM.refl _⟩
 | ob _ _ _ _=>exact ⟨Z,E,zM.refl _⟩
 | ow ds=>
  obtain ⟨l,xs,hl,hz,el,hx⟩:=E.e.ow i ds hs
  have s:zM (zJ Z H) (zJ (λb=>Z b/\b≠l) H):=Zw λb h=>h.1
  have key:∀ j d,slot (yJ Γ i (.sh (.lst ds))) j=.ow d->slot Γ j=.ow d/\j≠i:=λj d q=>by
   rw [wN] at q
   by_cases c:j=i/\i < Γ.length
   ·rw [if_pos c] at q; cases q
   ·rw [if_neg c] at q
    have hj:=ut (Γ:=Γ) (i:=j) (by rw [q]; exact λz=>nomatch z)
    exact ⟨q,λz=>c ⟨z,by omega⟩⟩
  have keyb:∀ j o c ns d,slot (yJ Γ i (.sh (.lst ds))) j=.ob o c ns d->slot Γ j=.ob o c ns d:=λj o0 c0 ns d q=>by
   rw [wN] at q
   by_cases c:j=i/\i < Γ.length
   ·rw [if_pos c] at q; cases q
   ·rw [if_neg c] at q; exact q
  refine ⟨λb=>Z b/\b≠l,⟨⟨λj d q=>?_,λj d q=>?_,λj o c ns d q=>?_,λj k as bs m q r=>?_,⟨λb hb=>E.e.zd.z b hb.1,E.e.zd.i⟩,by rw [gq]; exact E.e.len⟩,λb hb=>⟨E.z0 b hb,λz=>?_⟩,E.z0d,E.same,λj d m q=>E.own j d m (key j d q).1,λj o c ns d q=>E.owb j o c ns d (keyb j o c ns d q)⟩,s⟩
  ·rw [wN] at q
   by_cases c:j=i/\i < Γ.length
   ·rw [if_pos c] at q
    cases q
    rw [c.1]
    exact ⟨.ref l,hl,.lst (xb (λz=>z.2 rfl) el) (xw s hx)⟩
   ·rw [if_neg c] at q
    obtain ⟨v,h1,h2⟩:=E.e.sh j d q
    exact ⟨v,h1,h2.same s⟩
  ·obtain ⟨q1,q2⟩:=key j d q
   obtain ⟨m,ys,h1,h2,h3,h4⟩:=E.e.ow j d q1
   exact ⟨m,ys,h1,⟨h2,λz=>q2 (E.e.ne j i d ds l q1 hs (by rw [h1,z]) hl)⟩,h3,xw s h4⟩
  ·obtain ⟨dx,ys,h1,h2,h3,h5,h4⟩:=E.e.ob j o c ns d (keyb j o c ns d q)
   exact ⟨dx,ys,h1,⟨h2,λz=>by rw [z,el] at h3; cases h3⟩,h3,h5,xw s h4⟩
  ·exact E.e.ne j k as bs m (key j as q).1 (key k bs r).1
  ·obtain ⟨ys,e,_⟩:=E.z0d.z b hb
   rw [z,E.own i ds l hs hl] at e
   cases e
end Pu
namespace Pu
open PySem L2 Sh
variable [yX]
open PyProof.Rows (envOfC)
section
variable {X:Cx} {e:Expr} {es:List Expr} {st:Stmt} {sts:List Stmt} {pos:Pos} {pa pb:yE} {pl:yn} {p q:xH}
theorem yM {t t':TS} (h:PS X st t) (w:∀ D σ H,t' D σ H->t D σ H):PS X st t':=λpins s σ H D I k=>h pins s σ H D I (w D σ H k)
theorem qw {t t':TS} (h:yS X sts t) (w:∀ D σ H,t' D σ H->t D σ H):yS X sts t':=λpins s σ H D I k=>h pins s σ H D I (w D σ H k)
noncomputable def YX:xH:=λD Γ=>D.nx Γ
noncomputable def YY (p q:xH):xH:=λD Γ=>p { D with nx:=q D } Γ
theorem yd:yS X [] (yb YX):=qw gX λD σ H ⟨Z0,H0,Z,Γ,Dp,E,h,nx,rt,bk,ct⟩=>nx Z Γ σ H E (zM.refl _) h
theorem zH (h1:PS X st (yb p)) (h2:yS X sts (yb q)):yS X (st :: sts) (yb (YY p q)):=qw (vQ h1 h2) λD σ H ⟨Z0,H0,Z,Γ,Dp,E,h,nx,rt,bk,ct⟩=>
 ⟨Z0,H0,Z,Γ,{ Dp with nx:=q Dp },E,h,λZ' Γ' σ' H' E' s' h'=>⟨Z0,H0,Z',Γ',Dp,E',h',λZ2 Γ2 σ2 H2 E2 s2=>nx Z2 Γ2 σ2 H2 E2 (s'.trans s2),rt,λZ2 Γ2 σ2 H2 E2 s2=>bk Z2 Γ2 σ2 H2 E2 (s'.trans s2),λZ2 Γ2 σ2 H2 E2 s2=>ct Z2 Γ2 σ2 H2 E2 (s'.trans s2)⟩,rt,bk,ct⟩
noncomputable def zRN (p q:xH):xH:=λD Γ=>∃ M:List Sl->Prop,p { D with nx:=M } Γ/\∀ Γ',M Γ'->q D Γ'
theorem Ws (h1:PS X st (yb p)) (h2:yS X sts (yb q)):yS X (st :: sts) (yb (zRN p q)):=qw (vQ h1 h2) λD σ H ⟨Z0,H0,Z,Γ,Dp,E,⟨M,h,k⟩,nx,rt,bk,ct⟩=>
 ⟨Z0,H0,Z,Γ,{ Dp with nx:=M },E,h,λZ' Γ' σ' H' E' s' h'=>⟨Z0,H0,Z',Γ',Dp,E',k Γ' h',λZ2 Γ2 σ2 H2 E2 s2=>nx Z2 Γ2 σ2 H2 E2 (s'.trans s2),rt,λZ2 Γ2 σ2 H2 E2 s2=>bk Z2 Γ2 σ2 H2 E2 (s'.trans s2),λZ2 Γ2 σ2 H2 E2 s2=>ct Z2 Γ2 σ2 H2 E2 (s'.trans s2)⟩,rt,bk,ct⟩
theorem zN (h1:PS X st (yb p)):yS X [st] (yb p):=jv h1
noncomputable def J5 (i:Nat) (p:xH):xH:=λD Γ=>p D (frz Γ i)
theorem vK (i:Nat) (h1:PS X st (yb p)):PS X st (yb (J5 i p)):=yM h1 λD σ H ⟨Z0,H0,Z,Γ,Dp,E,h,nx,rt,bk,ct⟩=>by
 obtain ⟨Z',E',s⟩:=E.frz i
 exact ⟨Z0,H0,Z',_,Dp,E',h,λZ2 Γ2 σ2 H2 E2 s2=>nx Z2 Γ2 σ2 H2 E2 (s.trans s2),rt,λZ2 Γ2 σ2 H2 E2 s2=>bk Z2 Γ2 σ2 H2 E2 (s.trans s2),λZ2 Γ2 σ2 H2 E2 s2=>ct Z2 Γ2 σ2 H2 E2 (s.trans s2)⟩
noncomputable def qy (i:Nat) (pa:yE):xH:=λD Γ=>pa Γ λd=>D.nx (yJ Γ i (.sh d))
theorem zQh {i:Nat} (D:yq) (σ:St) (H:Hp):yb (qy i pa) D σ H->jU (tP pa) (ga i) D σ H:=λ⟨Z0,H0,Z,Γ,Dp,E,h,nx,rt,bk,ct⟩=>
 ⟨Z,Γ,_,E.e,h,λd v H1 hd s1 hv=>nx Z _ _ H1 ((E.mv s1).set hv i) (yt s1) hd⟩
theorem zPN (i:Nat) {x:Str} {pos':Pos} (hN:X.N.Nodup) (hi:X.N[i]? = some x) (hx:uh X.env.scope x) (he:PE X e (tP pa)) (hs:swapsWith e (some (.Name x pos')) pos.line X.env=pure false:=by rfl) (hf:X.fn x=true\/X.env.scope.names.lookup x=some .local:=by first | exact .inl rfl | exact .inr rfl | assumption) :
  PS X (.Assign [.Name x pos'] e pos) (yb (qy i pa)):=yM (gc hN hi hx he hs hf) zQh
noncomputable def J7 (js:List Nat) (po:D->Option (List D)) (pa:yE):xH:=λD Γ=>pa Γ λd=>jM (po d) λos=>D.nx (Wm Γ js os)
theorem qz {tg:Expr} {js:List Nat} {po:D->Option (List D)} (he:PE X e (tP pa)) (hg:PG X tg (tG js po)) (hs:swapsWithSole [tg] e pos.line X.env=pure false:=by rfl) (hw:swappedStores [tg] e X.env=pure none:=by rfl)
  (h1:(assignEach [tg] X.env).map (·.2)=[assign tg X.env]:=by rfl):PS X (.Assign [tg] e pos) (yb (J7 js po pa)):=yM (zQ5 he hg hs hw h1) λD σ H ⟨Z0,H0,Z,Γ,Dp,E,h,nx,rt,bk,ct⟩=>
 ⟨Z,Γ,_,E.e,h,λd v H1 hd s1 hv=>by
  obtain ⟨os,ho,hd⟩:=YN hd
  exact ⟨Z,d,os,hv,ho,λvs hvs=>nx Z _ _ H1 ((E.mv s1).setN hvs) (yt s1) hd⟩⟩
noncomputable def J8 (i:Nat) (pl:yn):xH:=λD Γ=>pl Γ λds=>ds.length<=1000/\D.nx (yJ Γ i (.ow ds))
theorem vS (i:Nat) {x:Str} {pos' lp:Pos} (hN:X.N.Nodup) (hi:X.N[i]? = some x) (hx:uh X.env.scope x) (he:PA X es (wE pl)) (hs:swapsWith (.List es lp) (some (.Name x pos')) pos.line X.env=pure false:=by rfl) (hf:X.fn x=true\/X.env.scope.names.lookup x=some .local:=by first | exact .inl rfl | exact .inr rfl | assumption) :
  PS X (.Assign [.Name x pos'] (.List es lp) pos) (yb (J8 i pl)):=yM (gc hN hi hx (zOZ he) hs hf) λD σ H ⟨Z0,H0,Z,Γ,Dp,E,h,nx,rt,bk,ct⟩=>
 ⟨Z,Γ,_,E.e,h,λds vs H1 hd s1 hv=>⟨few (by rw [wI hv]; exact hd.1),λl hl=>by
  obtain ⟨E2,s2⟩:=(E.mv s1).make hl hv i
  exact nx _ _ _ _ E2 ((yt s1).trans s2) hd.2⟩⟩
noncomputable def YZ:D->(List D->Prop)->Prop
 | .lst es,k=>k es
 | _,_=>False
noncomputable def zRQ (i:Nat) (ow:Bool) (caps:List Nat) (pi:yn) (po:D->Option (List D)) (pe:yE):xH:=λT Γ=>pi Γ λds=>zi ds (λd S=>jM (po d) λos=>pe (os.map Sl.sh++caps.map λj=>un (slot Γ j)) S) λd=>YZ d λes=>T.nx (yJ Γ i (match ow with | true=>.ow es | false=>.sh (.lst es)))
theorem ux (i:Nat) (ow:Bool) {scope:Scope} {own:List Str} {caps:List (Nat × Str)} {tg iter elt:Expr} {pi:yn} {po:D->Option (List D)} {pe:yE} {js:List Nat} {y:Str} {py spos:Pos} (hN:X.N.Nodup) (hy:X.N[i]? = some y) (hl:X.env.scope.names.lookup y=some .local) (B:uM X scope own caps) (hc:X.calm=true) (hj:js=fY 0 own.length) (hk:∀ d os,po d=some os->os.length=js.length)
  (hi:PI X tg iter (jN pi)) (hg:∀ C s₀ H₀ ex,PG (xA X scope (zk own caps) C s₀ H₀ ex) tg (tG js po)) (he:∀ C s₀ H₀ ex,PE (xA X scope (zk own caps) C s₀ H₀ ex) elt (tP pe)) (hsw:swapsWith (.ListComp elt [⟨tg,iter,[],0⟩] scope pos) (some (.Name y py)) spos.line X.env=pure true) (hs:∀ x,foldedSetIterable iter X.env x=pure x:=by intro _; rfl) :
  PS X (.Assign [.Name y py] (.ListComp elt [⟨tg,iter,[],0⟩] scope pos) spos) (yb (zRQ i ow (caps.map (·.1)) pi po pe)):=yM (zJF hN hy hl B hc hi hg (.inl rfl) (λ_ _ _ _=>zRM) he hsw hs) λD σ H ⟨Z0,H0,Z,Γ,Dp,E,h,nx,rt,bk,ct⟩=>
 ⟨Z,Γ,_,E.e,h,λds J H1 ⟨fw,F,hF,hR⟩ s1 wk=>zJc (E.e.same s1) wk hj hk fw hF λes ys H' l h1 s2 h2 hp=>by
  have E1:=(E.mv s1).mv s2
  cases ow with
  | true=>
   obtain ⟨E2,s3⟩:=E1.make hp h2 i
   exact nx _ _ _ _ E2 ((yt (s1.trans s2)).trans s3) (hR es h1)
  | false=>exact nx Z _ _ _ ((E1.mv (wM hp _)).set (ub E1.e.zd hp h2) i) (yt (s1.trans (s2.trans (wM hp _)))) (hR es h1)⟩
noncomputable def J9 (pa:yE):xH:=λD Γ=>pa Γ D.rt
theorem zV (he:PE X e (tP pa)):PS X (.Return (some e) pos) (yb (J9 pa)):=yM (zOT he) λD σ H ⟨Z0,H0,Z,Γ,Dp,E,h,nx,rt,bk,ct⟩=>
 ⟨Z,Γ,_,E.e,h,λd v H1 hd s1 hv=>rt d v H1 (E.same.trans s1) (hv.same (Zw E.z0)) hd⟩
noncomputable def pIf (t:wf) (p q:xH):xH:=λD Γ=>t Γ λc=>vJ c (p D Γ) (q D Γ)
theorem ye {c:Expr} {a b:List Stmt} {t:wf} (hc:PT X c (xR t)) (ha:yS X a (yb p)) (hb:yS X b (yb q)):PS X (.If c a b pos) (yb (pIf t p q)):=yM (ZH hc ha hb) λD σ H ⟨Z0,H0,Z,Γ,Dp,E,h,nx,rt,bk,ct⟩=>
 ⟨Z,Γ,_,E.e,h,λc H1 hd s1=>by
  have f:∀ {P:List Sl->Prop} {Q:St->Hp->Prop},(∀ Z' Γ' σ' H',yu Z0 H0 Z' Γ' σ' H'->zM (zJ Z H) (zJ Z' H')->P Γ'->Q σ' H')->∀ Z' Γ' σ' H',yu Z0 H0 Z' Γ' σ' H'->zM (zJ Z H1) (zJ Z' H')->P Γ'->Q σ' H':=λg Z2 Γ2 σ2 H2 E2 s2=>g Z2 Γ2 σ2 H2 E2 ((yt s1).trans s2)
  cases c with
  | true=>exact ⟨Z0,H0,Z,Γ,Dp,E.mv s1,hd.1 rfl,f nx,rt,f bk,f ct⟩
  | false=>exact ⟨Z0,H0,Z,Γ,Dp,E.mv s1,hd.2 rfl,f nx,rt,f bk,f ct⟩⟩
noncomputable def zRO:xH:=λ_ _=>False
theorem QA:PS X st (yb zRO):=yM zND λD σ H ⟨Z0,H0,Z,Γ,Dp,E,h,nx,rt,bk,ct⟩=>h
noncomputable def QB (pi:yn) (js:List Nat) (po:D->Option (List D)) (pb:xH):xH:=λD Γ=>pi Γ λds=>∃ I:Nat->List Sl->Prop,I 0 Γ/\(∀ k d Γ',ds[k]? = some d->I k Γ'->jM (po d) λos=>pb ⟨I (k + 1),D.rt,D.nx,I (k + 1)⟩ (Wm Γ' js os))/\∀ Γ',I ds.length Γ'->D.nx Γ'
theorem wj {tg iter:Expr} {body:List Stmt} {pi:yn} {js:List Nat} {po:D->Option (List D)} (hp:PassesOwn (model X.prog X.w) X.A X.env X.xe) (hc:X.calm=true) (hi:PI X tg iter (jN pi)) (hg:PG X tg (tG js po)) (hb:yS X body (yb p))
  (hs:∀ x,foldedSetIterable iter X.env x=pure x:=by intro _; rfl):PS X (.For tg iter body [] pos) (yb (QB pi js po p)):=yM (zOU hp hc hi hg hb hs) λD σ H ⟨Z0,H0,Z,Γ,Dp,E,h,nx,rt,bk,ct⟩=>
 ⟨Z,Γ,_,E.e,h,λds J H1 ⟨I,h0,hst,hd⟩ s1 wk=>by
  have g:∀ {Q:List Sl->Prop} {T:St->Hp->Prop} {Z1 H2},zM (zJ Z H1) (zJ Z1 H2)->(∀ Z' Γ' σ' H',yu Z0 H0 Z' Γ' σ' H'->zM (zJ Z H) (zJ Z' H')->Q Γ'->T σ' H')->∀ Z' Γ' σ' H',yu Z0 H0 Z' Γ' σ' H'->zM (zJ Z1 H2) (zJ Z' H')->Q Γ'->T σ' H':=λs k Z2 Γ2 σ2 H2 E2 s2=>k Z2 Γ2 σ2 H2 E2 ((yt s1).trans (s.trans s2))
  refine ⟨λi m σ' H'=>m + i=ds.length/\∃ Z' Γ',yu Z0 H0 Z' Γ' σ' H'/\zM (zJ Z H1) (zJ Z' H')/\I i Γ',⟨ds.length,rfl,Z,Γ,E.mv s1,zM.refl _,h0⟩,?_⟩
  rintro i m σ' H' ⟨hm,Z',Γ',E',s',hI⟩
  obtain ⟨w1,w2⟩:=wk i Z' H' s' E'.e.zd
  by_cases hi:i < ds.length
  ·refine .inr ⟨(w1 _ (ck hi)).1,λσ' H'=>m - 1 + (i + 1)=ds.length/\∃ Z' Γ',yu Z0 H0 Z' Γ' σ' H'/\zM (zJ Z H1) (zJ Z' H')/\I (i + 1) Γ',λσ2 H2 k=>⟨m - 1,by omega,k⟩,λx H2 yl=>?_⟩
   obtain ⟨s2,dv⟩:=(w1 _ (ck hi)).2 x H2 yl
   obtain ⟨os,ho,hb⟩:=YN (hst i _ Γ' (ck hi) hI)
   refine ⟨Z',_,os,dv,ho,λvs hvs=>?_⟩
   have s3:=s'.trans (yt s2)
   have again:∀ Z2 Γ2 σ2 H3,yu Z0 H0 Z2 Γ2 σ2 H3->zM (zJ Z' H2) (zJ Z2 H3)->I (i + 1) Γ2->m - 1 + (i + 1)=ds.length/\∃ Z' Γ',yu Z0 H0 Z' Γ' σ2 H3/\zM (zJ Z H1) (zJ Z' H3)/\I (i + 1) Γ':=λZ2 Γ2 σ2 H3 E3 k hI=>⟨by omega,Z2,Γ2,E3,s3.trans k,hI⟩
   exact ⟨Z0,H0,Z',_,_,(E'.mv s2).setN hvs,hb,again,rt,g s3 nx,again⟩
  ·have ei:i=ds.length:=by omega
   rw [ei] at hI
   exact .inl ⟨w2 ei,nx Z' Γ' σ' H' E' ((yt s1).trans s') (hd Γ' hI)⟩⟩
noncomputable def QC:Sl->(List D->Prop)->Prop
 | .ow ds,R=>R ds
 | _,_=>False
theorem zLR {s:Sl} {R:List D->Prop} (h:QC s R):∃ ds,s=.ow ds/\R ds:=by
 cases s with
 | ow ds=>exact ⟨ds,rfl,h⟩
 | _=>exact h.elim
noncomputable def QD (i:Nat) (pa:yE):xH:=λD Γ=>QC (slot Γ i) λds=>pa Γ λd=>ds.length < 1000/\D.nx (yJ Γ i (.ow (ds++[d])))
theorem wY {i:Nat} {K:b_} (D:yq) (σ:St) (H:Hp):yb (QD i pa) D σ H->gY (tBM K "list" qY (vH i) (jD (tP pa) wn)) D σ H:=λ⟨Z0,H0,Z,Γ,Dp,E,h,nx,rt,bk,ct⟩=>by
 obtain ⟨ds,hs,h⟩:=zLR h
 obtain ⟨l,xs,hl,hz,el,hx⟩:=E.e.ow i ds hs
 refine ⟨.ref l,hl,.inl ⟨rfl,xs,zZ.of el⟩,Z,Γ,_,E.e,h,λd v H1 hd s1 hv=>?_⟩
 have hx1:=xw (yt s1) hx
 exact ⟨l,xs,v,rfl,rfl,s1.at el,JJ (by rw [wI hx]; omega),nx Z _ _ _ ((E.mv s1).put hs hl hz (Zh hv hx1)) ((yt s1).trans (Wr hz)) hd.2⟩
noncomputable def ixL (ds:List D):D->(D->Prop)->Prop
 | .int i,R=>∃ d,yx ds i=some d/\R d
 | _,_=>False
noncomputable def QE (i:Nat) (pb:yE):yE:=λΓ R=>QC (slot Γ i) λds=>pb Γ λk=>ixL ds k R
theorem zOS (i:Nat) {x:Str} {b:Expr} {xp:Pos} (hb:PE X b (tP pb)) (hs:WM b) (hN:X.N[i]? = some x:=by rfl) (hv:gU X.env.scope x:=by first | exact Or.inl rfl | exact Or.inr (Or.inl rfl) | exact Or.inr (Or.inr rfl)) (hd:(x == ("__debug__" : Str))=false:=by decide)
  (hcd:(x == ("__classdict__" : Str))=false:=by decide):PE X (.Subscript (.Name x xp) b pos) (tP (QE i pb)):=yL (WN zLs (yO i hN hv hd hcd) hb hs) λσ H Q ⟨Z,Γ,R,E,h,q⟩=>by
 obtain ⟨ds,hs,h⟩:=zLR h
 obtain ⟨l,xs,hl,hz,el,hx⟩:=E.ow i ds hs
 refine ⟨.ref l,hl,Z,Γ,_,E,h,λk u H2 hk s2 hu=>?_⟩
 unfold ixL at hk
 split at hk
 ·cases hu
  obtain ⟨d,hd,hR⟩:=hk
  obtain ⟨v,hv,hh⟩:=YC hx hd
  exact ⟨l,xs,_,v,rfl,rfl,zZ.of (s2.at el),hv,q _ _ H2 hR s2 (hh.same (yt s2))⟩
 ·exact hk.elim
noncomputable def D.isInt:D->Bool
 | .int _=>true
 | .bool _=>true
 | _=>false
noncomputable def D.isBool:D->Bool
 | .bool _=>true
 | _=>false
noncomputable def D.isLst:D->Bool
 | .lst _=>true
 | .frz _=>true
 | _=>false
noncomputable def D.isTup:D->Bool
 | .tup _=>true
 | _=>false
noncomputable def D.isObj:D->Bool
 | .obj ..=>true
 | _=>false
noncomputable def Yb (c:String) (f:D->Bool):D->(D->Prop)->Prop:=λd R=>d.isObj=false/\R (.bool (f d))
theorem kA {K:b_} {H:Hp} {v:V} {d:D} (h:DV H v d) (o:d.isObj=false):∃ t,yT K H v t/\cO K t (.type "int")=some d.isInt/\cO K t (.type "bool")=some d.isBool/\cO K t (.type "list")=some d.isLst/\cO K t (.type "tuple")=some d.isTup:=by
 cases h with
 | int i=>exact ⟨_,.int i,qU K .int,qV K .int,jG K .int,jF K .int⟩
 | bool b=>exact ⟨_,.bl b,qU K .bool,qV K .bool,jG K .bool,jF K .bool⟩
 | non=>exact ⟨_,.non,qU K .non,qV K .non,jG K .non,jF K .non⟩
 | str x=>exact ⟨_,.str x,qU K .str,qV K .str,jG K .str,jF K .str⟩
 | frz e _=>
  obtain ⟨o,e⟩:=e
  exact ⟨_,.frz e,qU K .lst,qV K .lst,jG K .lst,jF K .lst⟩
 | lst e _=>exact ⟨_,.lst e,qU K .lst,qV K .lst,jG K .lst,jF K .lst⟩
 | tup e _=>exact ⟨_,.tup e,qU K .tup,qV K .tup,jG K .tup,jF K .tup⟩
 | obj e _ _=>cases o
theorem vT {K:b_} {c:String} {f:D->Bool} (hf:∀ H v d,DV H v d->d.isObj=false->∃ t,yT K H v t/\cO K t (.type c)=some (f d)) (σ:St) (H:Hp) (Q:VK):tP (Z4 (Yb c f) pa) σ H Q->gg (zQw K) (jD (tP pa) (jD (tC (.ty c)) wn)) σ H Q:=λ⟨Z,Γ,R,E,h,q⟩=>
 ⟨Z,Γ,_,E,h,λd v H1 hd s1 hv=>by
  obtain ⟨t,h1,h2⟩:=hf H1 v d (hv.same zl) hd.1
  exact ⟨v,c,t,_,rfl,h1,h2,q _ _ H1 hd.2 s1 (.bool _)⟩⟩
theorem zRx {K:b_} (H:Hp) (v:V) (d:D) (h:DV H v d) (o:d.isObj=false):∃ t,yT K H v t/\cO K t (.type "int")=some d.isInt:=let ⟨t,h1,h2,_⟩:=kA h o; ⟨t,h1,h2⟩
theorem zJN {K:b_} (H:Hp) (v:V) (d:D) (h:DV H v d) (o:d.isObj=false):∃ t,yT K H v t/\cO K t (.type "bool")=some d.isBool:=let ⟨t,h1,_,h2,_⟩:=kA h o; ⟨t,h1,h2⟩
theorem je {K:b_} (H:Hp) (v:V) (d:D) (h:DV H v d) (o:d.isObj=false):∃ t,yT K H v t/\cO K t (.type "list")=some d.isLst:=let ⟨t,h1,_,_,h2,_⟩:=kA h o; ⟨t,h1,h2⟩
theorem Wt {K:b_} (H:Hp) (v:V) (d:D) (h:DV H v d) (o:d.isObj=false):∃ t,yT K H v t/\cO K t (.type "tuple")=some d.isTup:=let ⟨t,h1,_,_,_,h2⟩:=kA h o; ⟨t,h1,h2⟩
end
inductive zG (F:FL) (vs:List V) (H:Hp) (Q:VK) (E:XK):Prop
 | mk (Z:Addr->Prop) (ds:List D) (R:D->Prop) (zd:ZL Z H) (hv:yH (zJ Z H) vs ds) (h:F ds R) (q:∀ d v H',R d->Sm H H'->DV (zJ Z H') v d->Q v H'):zG F vs H Q E
section
variable {P:Program} {w:World} {K:b_} {mg:Str->Option Value} {base:Heap}
theorem q0 (n i:Nat):slot (cv n .no) i=.no:=by
 rw [zI7]
 cases h:(cv n Sl.no)[i]? with
 | none=>rfl
 | some x=>exact dX (cY h)
theorem QF {Z:Addr->Prop} {H:Hp} {vs:List V} {ds:List D} (zd:ZL Z H) (h:yH (zJ Z H) vs ds) (n:Nat):zr Z (ds.map Sl.sh++cv n .no) (vs.map some++cv n none) H:=by
 have no:∀ i as,slot (ds.map Sl.sh++cv n .no) i≠.ow as:=Wp λi as h=>by rw [q0] at h; cases h
 have nob:∀ i o c ns as,slot (ds.map Sl.sh++cv n .no) i≠.ob o c ns as:=Wo λi o c ns as h=>by rw [q0] at h; cases h
 refine ⟨?_,λi as e=>absurd e (no i as),λi o c ns as e=>absurd e (nob i o c ns as),λi _ as _ _ e=>absurd e (no i as),zd,?_⟩
 clear nob
 ·induction h with
  | nil=>
   intro i d e
   change slot (cv n .no) i=_ at e
   rw [q0] at e
   cases e
  | @cons v d vs ds hv _ ih=>
   intro i e q
   cases i with
   | zero=>cases q; exact ⟨v,rfl,hv⟩
   | succ i=>
    obtain ⟨u,h1,h2⟩:=ih (λi=>no (i + 1)) i e q
    exact ⟨u,by rw [cT,lV,eP]; exact h1,h2⟩
 ·rw [cj,cj,a_,a_,di,di,wI h]
theorem zJH {N ps:List Str} {F:FL} {p:xH} (len:∀ ds R,F ds R->ds.length=ps.length) (h2:∀ ds R,F ds R->p { nx:=λ_=>R .non,rt:=R } (ds.map Sl.sh++cv (N.length - ps.length) .no)) {H:Hp} {vs:List V} {Q:VK} {E:XK} (h:zG F vs H Q E):yb p { nx:=λ_ H'=>Q .non H',rt:=Q } (L2.we N vs) H:=by
 obtain ⟨Z,ds,R,zd,hv,h,q⟩:=h
 have e:L2.we N vs=vs.map some++cv (N.length - ps.length) none:=by
  unfold L2.we
  rw [wI hv,len ds R h]
 refine ⟨Z,H,Z,_,_,⟨?_,λ_ h=>h,zd,Sm.refl _,?_,?_⟩,h2 ds R h,λZ' Γ' σ' H' E' _ hn=>q .non .non H' hn E'.same .non,λd v H' s' hv' hd=>q d v H' hd s' hv',λ_ _ _ _ _ _ h=>h.elim,λ_ _ _ _ _ _ h=>h.elim⟩
 ·rw [e]
  exact QF zd hv _
 ·exact λi as l e=>absurd e (Wp (λi as h=>by rw [q0] at h; cases h) i as)
 ·exact λi o c ns as e=>absurd e (Wo (λi o c ns as h=>by rw [q0] at h; cases h) i o c ns as)
theorem zKn {ps:List Str} {F:FL} (len:∀ ds R,F ds R->ds.length=ps.length) (vs:List V) (H:Hp) (Q:VK) (E:XK):zG F vs H Q E->vs.length=ps.length:=λ⟨Z,ds,R,zd,hv,h,q⟩=>by rw [wI hv]; exact len ds R h
theorem okP {x qual:Str} {st:Stmt} {f:Addr} {fd:FuncData} {N ps:List Str} {k:Nat} {F:FL} (Fu:zg K x qual st f fd) (S:zb N ps (zR st)) (len:∀ ds R,F ds R->ds.length=ps.length)
  (hbody:∀ (cdv:Value) (A:Around) (outer:List Env) (s:Shared) (H:Hp) (E:XK),zX k (A.deeper (envOfC qual (zR st) s.heap.objs.size f cdv))->
   ∃ p,yS (zW zU P w K mg base N qual (zR st) f cdv A outer s H E).nox (xU st) (yb p)/\∀ ds R,F ds R->p { nx:=λ_=>R .non,rt:=R } (ds.map Sl.sh++cv (N.length - ps.length) .no)):zE P w K mg base zU (k + 1) f fd ps (zG F):=
 Fu.ok S (zKn len) λcdv A outer s H vs Q E hr h=>let ⟨p,h1,h2⟩:=hbody cdv A outer s H E hr; ⟨_,h1,zJH len h2 h⟩
theorem QG {x qual:Str} {st:Stmt} {f:Addr} {fd:FuncData} {dv:Value} {N ps:List Str} {k:Nat} {F:FL} (Fu:xN K x qual st f fd dv) (S:zb N ps (zR st)) (len:∀ ds R,F ds R->ds.length=ps.length)
  (hbody:∀ (cdv:Value) (A:Around) (outer:List Env) (s:Shared) (H:Hp) (E:XK),zX k (A.deeper (envOfC qual (zR st) s.heap.objs.size f cdv))->
   ∃ p,yS (zW zU P w K mg base N qual (zR st) f cdv A outer s H E).nox (xU st) (yb p)/\∀ ds R,F ds R->p { nx:=λ_=>R .non,rt:=R } (ds.map Sl.sh++cv (N.length - ps.length) .no)):zE P w K mg base zU (k + 1) f fd ps (zG F):=
 Fu.ok S (zKn len) λcdv A outer s H vs Q E hr h=>let ⟨p,h1,h2⟩:=hbody cdv A outer s H E hr; ⟨_,h1,zJH len h2 h⟩
theorem zQ {X:Cx} {x:Str} {ps:List Str} {k:Nat} {F:FL} {e:Expr} {es:List Expr} {pl:yn} {p pos:Pos} (c:Fn X.prog X.w X.K X.mg X.base x ps k (zG F)) (hr:zX k X.A) (hg:Gl X x) (ha:PA X (e :: es) (wE pl))
  (hdb:(x == ("__debug__" : Str))=false:=by decide) (he:starEach (e :: es) X.env=(false,eval e X.env) :: starEach es X.env:=by rfl) (hpl:(backTo pos (starEach es X.env)).any (·.1)=false:=by rfl) :
  PE X (.Call (.Name x p) (e :: es) [] pos) (tP (jd F pl)):=yL (JO c hr hg ha hdb he hpl) λσ H Q ⟨Z,Γ,R,E,h,q⟩=>
 ⟨Z,Γ,_,E,h,λds vs H1 hd s1 hv=>⟨Z,ds,R,(E.same s1).zd,by rw [dF]; exact hv,hd,λd v H2 h2 s2 hv2=>q d v H2 h2 (s1.trans s2) hv2⟩⟩
end
end Pu
namespace Pu
open PySem L2 Sh
variable [yX]
open PyProof.Rows (envOfC)
theorem zJB {f:Str} {y:V}:∀ {ns:List Str} {xs:List V},ns.length=xs.length->f∉ns->yr f y (ns.zip xs)=(ns++[f]).zip (xs++[y])
 | [],[],_,_=>rfl
 | [],_ :: _,h,_=>nomatch h
 | _ :: _,[],h,_=>nomatch h
 | n :: ns,x :: xs,h,hf=>by
  show (if n=f then (n,y) :: ns.zip xs else (n,x) :: yr f y (ns.zip xs))=_
  rw [if_neg (λz=>hf (by rw [z]; exact cq)),zJB (Nat.succ.inj h) (λz=>hf (cn _ z))]
  rfl
theorem yu.putO {Z0:Addr->Prop} {H0:Hp} {Z:Addr->Prop} {Γ:List Sl} {σ:St} {H:Hp} (E:yu Z0 H0 Z Γ σ H) {i:Nat} {o c dx:Addr} {ns ns':List Str} {ds ds':List D} {xs:List V} (hs:slot Γ i=.ob o c ns ds) (he:∃ fs,H o=some (.ins c dx fs)) (hl:ns'.length=xs.length) (hx:yH (zJ Z H) xs ds') (one:∀ j o' c' ns' ds',slot Γ j=.ob o' c' ns' ds'->j=i):yu Z0 H0 Z (yJ Γ i (.ob o c ns' ds')) σ (zY H o (.ins c dx (ns'.zip xs))):=by
 obtain ⟨dx0,xs0,hl0,hz,el,_⟩:=E.e.ob i o c ns ds hs
 have li:=ut (Γ:=Γ) (i:=i) (by rw [hs]; exact λz=>nomatch z)
 have hp:zM (zJ Z H) (zJ Z (zY H o (.ins c dx (ns'.zip xs)))):=Wr hz
 have keyw:∀ j d,slot (yJ Γ i (.ob o c ns' ds')) j=.ow d->slot Γ j=.ow d:=λj d q=>by
  rw [wN] at q
  by_cases c:j=i/\i < Γ.length
  ·rw [if_pos c] at q; cases q
  ·rw [if_neg c] at q; exact q
 refine ⟨⟨λj d q=>?_,λj d q=>?_,λj o' c' ns1 d q=>?_,λj k as bs m q r=>E.e.ne j k as bs m (keyw j as q) (keyw k bs r),⟨λb hb=>?_,he.elim λ_ e=>yX.put E.e.zd.i e⟩,by rw [gq]; exact E.e.len⟩,E.z0,E.z0d,?_,λj d m q=>E.own j d m (keyw j d q),λj o' c' ns1 d q=>?_⟩
 ·rw [wN] at q
  by_cases c:j=i/\i < Γ.length
  ·rw [if_pos c] at q; cases q
  ·rw [if_neg c] at q
   obtain ⟨v,h1,h2⟩:=E.e.sh j d q
   exact ⟨v,h1,h2.same hp⟩
 ·obtain ⟨m,ys,h1,h2,h3,h4⟩:=E.e.ow j d (keyw j d q)
  have nm:m≠o:=λz=>by rw [z,el] at h3; cases h3
  exact ⟨m,ys,h1,h2,by rw [zc nm]; exact h3,xw hp h4⟩
 ·rw [wN] at q
  by_cases c:j=i/\i < Γ.length
  ·rw [if_pos c] at q
   cases q
   rw [c.1]
   exact ⟨dx,xs,hl0,hz,wS,hl,xw hp hx⟩
  ·rw [if_neg c] at q
   exact absurd ⟨one _ _ _ _ _ q,li⟩ c
 ·obtain ⟨u,e,n⟩:=E.e.zd.z b hb
  by_cases c:b=o
  ·rw [c]; exact ⟨_,wS,λ_ z=>nomatch z⟩
  ·exact ⟨u,by rw [zc c]; exact e,n⟩
 ·exact he.elim λ_ e=>E.same.put (E.owb i o c ns ds hs) e
 ·rw [wN] at q
  by_cases c:j=i/\i < Γ.length
  ·rw [if_pos c] at q
   cases q
   exact E.owb i o _ ns ds hs
  ·rw [if_neg c] at q
   exact E.owb j o' c' ns1 d q
noncomputable def Yc:Sl->(Addr->Addr->List Str->List D->Prop)->Prop
 | .ob o c ns ds,R=>R o c ns ds
 | _,_=>False
theorem zLg {s:Sl} {R:Addr->Addr->List Str->List D->Prop} (h:Yc s R):∃ o c ns ds,s=.ob o c ns ds/\R o c ns ds:=by
 cases s with
 | ob o c ns ds=>exact ⟨o,c,ns,ds,rfl,h⟩
 | _=>exact h.elim
noncomputable def q9:List Sl->Bool
 | []=>true
 | .ob _ _ _ _ :: _=>false
 | _ :: t=>q9 t
theorem Wu:∀ {Γ:List Sl},q9 Γ=true->∀ j o c ns ds,slot Γ j≠.ob o c ns ds
 | [],_,_,_,_,_,_,h=>nomatch h
 | .no :: _,_,0,_,_,_,_,h=>nomatch h
 | .sh _ :: _,_,0,_,_,_,_,h=>nomatch h
 | .ow _ :: _,_,0,_,_,_,_,h=>nomatch h
 | .ob .. :: _,g,_,_,_,_,_,_=>nomatch g
 | .no :: t,g,j + 1,o,c,ns,ds,h=>Wu (Γ:=t) g j o c ns ds h
 | .sh _ :: t,g,j + 1,o,c,ns,ds,h=>Wu (Γ:=t) g j o c ns ds h
 | .ow _ :: t,g,j + 1,o,c,ns,ds,h=>Wu (Γ:=t) g j o c ns ds h
noncomputable def zSf (K:b_) (c:Addr) (f:Str):Prop:=uj K c/\yw K c f
noncomputable def QH (K:b_) (f:Str) (pa:yE):xH:=λT Γ=>pa Γ λd=>Yc (slot Γ 0) λo c ns ds=>zSf K c f/\f∉ns/\ns.length < 900/\q9 (Γ.drop 1)=true/\T.nx (yJ Γ 0 (.ob o c (ns++[f]) (ds++[d])))
section
variable {X:Cx} {e:Expr} {es:List Expr} {pos:Pos} {pa:yE} {pl:yn} {C:Addr}
theorem vL {K:b_} {f:Str} (D:yq) (σ:St) (H:Hp):yb (QH K f pa) D σ H->ZV K (vH 0) (tP pa) f D σ H:=λ⟨Z0,H0,Z,Γ,Dp,E,h,nx,rt,bk,ct⟩=>
 ⟨Z,Γ,_,E.e,h,λd v H1 hd s1 hv=>by
  obtain ⟨o,c,ns,ds,hs,hk,hf,hn,hn2,hd⟩:=zLg hd
  obtain ⟨dx,xs,hl,hz,el,ln,hx⟩:=(E.mv s1).e.ob 0 o c ns ds hs
  refine ⟨.ref o,hl,o,c,dx,_,rfl,el,hk.1,hk.2,by rw [eA]; omega,?_⟩
  rw [zJB ln hf]
  refine nx Z _ _ _ ((E.mv s1).putO hs ⟨_,el⟩ (by rw [cj,cj,ln]; rfl) (Zh hv hx) ?_) ((yt s1).trans (Wr hz)) hd
  intro j o' c' ns' ds' q
  cases j with
  | zero=>rfl
  | succ j=>
   cases Γ with
   | nil=>cases q
   | cons x t=>exact absurd q (Wu (Γ:=t) hn2 j o' c' ns' ds')⟩
inductive vM (C:Addr) (F:FL) (vs:List V) (H:Hp) (Q:VK) (E:XK):Prop
 | mk (Z:Addr->Prop) (ds:List D) (R:D->Prop) (o dx:Addr) (us:List V) (e:vs=.ref o :: us) (ho:H o=some (.ins C dx [])) (hz:¬ Z o) (zd:ZL Z H) (hv:yH (zJ (λb=>Z b\/b=o) H) us ds) (h:F ds R) (q:∀ d H',R d->Sm (less o H) H'->DV (zJ Z H') (.ref o) d->Q .non H'):vM C F vs H Q E
theorem zJI {N ps:List Str} {F:FL} {p:xH} (len:∀ ds R,F ds R->ds.length=ps.length) (h2:∀ o ds R,F ds R->p { nx:=λΓ=>Yc (slot Γ 0) λo' c ns es=>o'=o/\R (.obj c ns es),rt:=λ_=>False } (.ob o C [] [] :: (ds.map Sl.sh++cv (N.length - (ps.length + 1)) .no))) {H:Hp} {vs:List V} {Q:VK} {E:XK} (h:vM C F vs H Q E):yb p { nx:=λ_ H'=>Q .non H',rt:=Q } (L2.we N vs) H:=by
 obtain ⟨Z,ds,R,o,dx,us,e,ho,hz,zd,hv,h,q⟩:=h
 subst e
 have e:L2.we N (.ref o :: us)=some (.ref o) :: (us.map some++cv (N.length - (ps.length + 1)) none):=by
  unfold L2.we
  rw [cJ,wI hv,len ds R h]
  rfl
 have zd':ZL (λb=>Z b\/b=o) H:=⟨λb hb=>hb.elim (zd.z b) λz=>by rw [z]; exact ⟨_,ho,λ_ z=>nomatch z⟩,zd.i⟩
 have E0:=QF zd' hv (N.length - (ps.length + 1))
 refine ⟨Z,less o H,λb=>Z b\/b=o,_,_,⟨?_,λ_ h=>.inl h,⟨λb hb=>?_,yX.less zd.i ho⟩,.of zNe,?_,?_⟩,h2 o ds R h,λZ' Γ' σ' H' E' _ hn=>?_,λ_ _ _ _ _ h=>h.elim,λ_ _ _ _ _ _ h=>h.elim,λ_ _ _ _ _ _ h=>h.elim⟩
 ·rw [e]
  refine ⟨λi d q=>?_,λi d q=>?_,λi o' c ns d q=>?_,λi j as bs l q r=>?_,zd',by rw [cJ,cJ,E0.len]⟩
  ·cases i with
   | zero=>cases q
   | succ i=>exact E0.sh i d q
  ·cases i with
   | zero=>cases q
   | succ i=>exact E0.ow i d q
  ·cases i with
   | zero=>cases q; exact ⟨dx,[],rfl,.inr rfl,ho,rfl,.nil⟩
   | succ i=>exact E0.ob i o' c ns d q
  ·cases i with
   | zero=>cases q
   | succ i=>
    cases j with
    | zero=>cases r
    | succ j=>exact λa b=>congrArg _ (E0.ne i j as bs l q r a b)
 ·obtain ⟨u,e1,n⟩:=zd.z b hb
  exact ⟨u,(if_neg λz=>hz (by rw [<- z]; exact hb)).trans e1,n⟩
 ·intro i as l q
  cases i with
  | zero=>cases q
  | succ i=>exact absurd q (Wp (λi as h=>by rw [q0] at h; cases h) i as)
 ·intro i o' c ns as q
  cases i with
  | zero=>cases q; exact if_pos rfl
  | succ i=>exact absurd q (Wo (λi o c ns as h=>by rw [q0] at h; cases h) i o' c ns as)
 ·obtain ⟨o',c,ns,es,hs,e2,hR⟩:=zLg hn
  subst e2
  obtain ⟨dx',xs,hl,hz',el,ln,hx⟩:=E'.e.ob 0 o' c ns es hs
  refine q _ H' hR E'.same (.obj (xb hz el) ln (xw (Zw E'.z0) hx))
theorem zKo {ps:List Str} {p0:Str} {F:FL} (len:∀ ds R,F ds R->ds.length=ps.length) (vs:List V) (H:Hp) (Q:VK) (E:XK):vM C F vs H Q E->vs.length=(p0 :: ps).length:=λ⟨Z,ds,R,o,dx,us,e,ho,hz,zd,hv,h,q⟩=>by rw [e,cJ,cJ,wI hv,len ds R h]
theorem QI {P:Program} {w:World} {K:b_} {mg:Str->Option Value} {base:Heap} {x qual:Str} {st:Stmt} {f:Addr} {fd:FuncData} {N ps:List Str} {p0:Str} {k:Nat} {F:FL} (Fu:zg K x qual st f fd) (S:zb N (p0 :: ps) (zR st)) (len:∀ ds R,F ds R->ds.length=ps.length)
  (hbody:∀ (cdv:Value) (A:Around) (outer:List Env) (s:Shared) (H:Hp) (E:XK),zX k (A.deeper (envOfC qual (zR st) s.heap.objs.size f cdv))->
   ∃ p,yS (zW zU P w K mg base N qual (zR st) f cdv A outer s H E).nox (xU st) (yb p)/\∀ o ds R,F ds R->p { nx:=λΓ=>Yc (slot Γ 0) λo' c ns es=>o'=o/\R (.obj c ns es),rt:=λ_=>False } (.ob o C [] [] :: (ds.map Sl.sh++cv (N.length - (ps.length + 1)) .no))):zE P w K mg base zU (k + 1) f fd (p0 :: ps) (vM C F):=
 Fu.ok S (zKo len) λcdv A outer s H vs Q E hr h=>let ⟨p,h1,h2⟩:=hbody cdv A outer s H E hr; ⟨_,h1,zJI len h2 h⟩
theorem QJ {P:Program} {w:World} {K:b_} {mg:Str->Option Value} {base:Heap} {x qual:Str} {st:Stmt} {f:Addr} {fd:FuncData} {dv:Value} {N ps:List Str} {p0:Str} {k:Nat} {F:FL} (Fu:xN K x qual st f fd dv) (S:zb N (p0 :: ps) (zR st)) (len:∀ ds R,F ds R->ds.length=ps.length)
  (hbody:∀ (cdv:Value) (A:Around) (outer:List Env) (s:Shared) (H:Hp) (E:XK),zX k (A.deeper (envOfC qual (zR st) s.heap.objs.size f cdv))->
   ∃ p,yS (zW zU P w K mg base N qual (zR st) f cdv A outer s H E).nox (xU st) (yb p)/\∀ o ds R,F ds R->p { nx:=λΓ=>Yc (slot Γ 0) λo' c ns es=>o'=o/\R (.obj c ns es),rt:=λ_=>False } (.ob o C [] [] :: (ds.map Sl.sh++cv (N.length - (ps.length + 1)) .no))):zE P w K mg base zU (k + 1) f fd (p0 :: ps) (vM C F):=
 Fu.ok S (zKo len) λcdv A outer s H vs Q E hr h=>let ⟨p,h1,h2⟩:=hbody cdv A outer s H E hr; ⟨_,h1,zJI len h2 h⟩
theorem zI2 {F:FL} {ev:List V} {ed:List D} (he:∀ H,yH H ev ed) (σ:St) (H:Hp) (Q:VK):tP (jd (λds=>F (ds++ed)) pl) σ H Q->ZW C (vM C F) ev E0 (wE pl) σ H Q:=λ⟨Z,Γ,R,E,h,q⟩=>
 ⟨Z,Γ,_,E,h,λds vs H1 hd s1 hv x dx hx hdx ne=>by
  have zd:=(E.same s1).zd
  have s2:Sm H1 (zY (zY H1 dx (.own x)) x (.ins C dx [])):=.of (zKw hx hdx ne _ _)
  refine ⟨Z,ds++ed,R,x,dx,vs++ev,rfl,wS,zd.new hx,zd.same s2,?_,hd,λd H' hR sb dv=>⟨rfl,q d _ H' hR (zQn (s1.trans s2) wS sb ?_) dv⟩⟩
  ·refine gl (xw ?_ hv) (he _)
   intro b o e
   obtain ⟨n1,n2⟩:=vf e
   exact xb (λz=>z.elim n1 (xZ n2 hx)) (s2.at n2 (qf e)) (qf e)
  ·exact s1.free hx⟩
theorem zPA {F:FL} (σ:St) (H:Hp) (Q:VK) (h:tP (jd F pl) σ H Q):ZW C (vM C F) [] E0 (wE pl) σ H Q:=zI2 (ed:=[]) (λ_=>.nil) σ H Q (by rw [show (λds=>F (ds++[]))=F from funext λds=>by rw [dF]]; exact h)
theorem Wv {x:Str} {ps:List Str} {k:Nat} {F:FL} {p:Pos} (c:jH X.prog X.w X.K X.mg X.base C ps k (vM C F)) (T:yi X.K X.mg x C) (hr:zX (k + 1) X.A) (hg:Gl X x) (ha:PA X (e :: es) (wE pl))
  (hdb:(x == ("__debug__" : Str))=false:=by decide) (he:starEach (e :: es) X.env=(false,eval e X.env) :: starEach es X.env:=by rfl) (hpl:(backTo pos (starEach es X.env)).any (·.1)=false:=by rfl) :
  PE X (.Call (.Name x p) (e :: es) [] pos) (tP (jd F pl)):=yL (zNK c T hr hg ha hdb he hpl) zPA
theorem zM7 {x:Str} {ps:List Str} {k:Nat} {F:FL} {p:Pos} {dv:V} (dd:D) (hd:∀ H,DV H dv dd) (c:wp X.prog X.w X.K X.mg X.base C ps k (vM C F) dv) (T:yi X.K X.mg x C) (hr:zX (k + 1) X.A) (hg:Gl X x) (ha:PA X (e :: es) (wE pl))
  (hdb:(x == ("__debug__" : Str))=false:=by decide) (he:starEach (e :: es) X.env=(false,eval e X.env) :: starEach es X.env:=by rfl) (hpl:(backTo pos (starEach es X.env)).any (·.1)=false:=by rfl) :
  PE X (.Call (.Name x p) (e :: es) [] pos) (tP (jd (λds=>F (ds++[dd])) pl)):=yL (zLF c T hr hg ha hdb he hpl) (zI2 λH=>.cons (hd H) .nil)
theorem uy {x:Str} {ps:List Str} {k:Nat} {F:FL} {p:Pos} {dv:V} (dd:D) (hd:∀ H,DV H dv dd) (c:uL X.prog X.w X.K X.mg X.base x ps k (zG F) dv) (hr:zX k X.A) (hg:Gl X x) (ha:PA X (e :: es) (wE pl))
  (hdb:(x == ("__debug__" : Str))=false:=by decide) (he:starEach (e :: es) X.env=(false,eval e X.env) :: starEach es X.env:=by rfl) (hpl:(backTo pos (starEach es X.env)).any (·.1)=false:=by rfl) :
  PE X (.Call (.Name x p) (e :: es) [] pos) (tP (jd (λds=>F (ds++[dd])) pl)):=yL (zLK c hr hg ha hdb he hpl) λσ H Q ⟨Z,Γ,R,E,h,q⟩=>
 ⟨Z,Γ,_,E,h,λds vs H1 hd' s1 hv=>⟨Z,ds++[dd],R,(E.same s1).zd,gl hv (.cons (hd _) .nil),hd',λd v H2 h2 s2 hv2=>q d v H2 h2 (s1.trans s2) hv2⟩⟩
noncomputable def Yd (K:b_) (f:Str):D->(D->Prop)->Prop
 | .obj c ns ds,R=>zSf K c f/\∃ d,(ns.zip ds).lookup f=some d/\R d
 | _,_=>False
theorem zHl {H:Hp} {f:Str} {d:D}:∀ {ns:List Str} {xs:List V} {ds:List D},ns.length=xs.length->yH H xs ds->(ns.zip ds).lookup f=some d->∃ v,(ns.zip xs).lookup f=some v/\DV H v d
 | [],_,_,_,_,h=>nomatch h
 | _ :: _,[],_,h,_,_=>nomatch h
 | n :: ns,x :: xs,_,h,.cons (b:=d') (l₂:=dt) k t,q=>by
  change (match f == n with | true=>some d' | false=>(ns.zip dt).lookup f)=some d at q
  show ∃ v,(match f == n with | true=>some x | false=>(ns.zip xs).lookup f)=some v/\_
  cases e:f == n with
  | true=>rw [e] at q; cases q; exact ⟨x,rfl,k⟩
  | false=>rw [e] at q; exact zHl (Nat.succ.inj h) t q
theorem yU (K:b_) {f:Str} (ha:PE X e (tP pa)) (hb:attributeBase e f X.env (eval e X.env)=eval e X.env) (hK:X.K=K:=by rfl):PE X (.Attribute e f pos) (tP (Z4 (Yd K f) pa)):=yL (zRH ha hb) λσ H Q ⟨Z,Γ,R,E,h,q⟩=>
 ⟨Z,Γ,_,E,h,λd v H1 hd s1 hv=>by
  unfold Yd at hd
  split at hd
  ·obtain ⟨hk,d',hl,hR⟩:=hd
   cases hv with
   | obj e1 l1 h1=>
    obtain ⟨v,e2,dv⟩:=zHl l1 h1 hl
    exact ⟨_,_,_,_,v,rfl,zl _ _ e1,by rw [hK]; exact hk.1,by rw [hK]; exact hk.2,e2,q _ _ H1 hR s1 dv⟩
  ·exact hd.elim⟩
noncomputable def zRi (C:Addr) (m:Str) (F:FL):D->(D->Prop)->Prop
 | .obj c ns ds,R=>c=C/\m∉ns/\F [.obj c ns ds] R
 | _,_=>False
theorem WO {f:Str}:∀ {ns:List Str} {xs:List V},f∉ns->(ns.zip xs).lookup f=none
 | [],_,_=>rfl
 | _ :: _,[],_=>rfl
 | n :: ns,x :: xs,h=>by
  show (match f == n with | true=>some x | false=>(ns.zip xs).lookup f)=none
  have e:(f == n)=false:=beq_eq_false_iff_ne.mpr λz=>h (by rw [z]; exact cq)
  rw [e]
  exact WO λz=>h (cn _ z)
theorem Ye {x m:Str} {ps:List Str} {k:Nat} {F:FL} {apos:Pos} {pl:Sem Bool} (c:uo X.prog X.w X.K X.mg X.base C m ps k (zG F)) (T:yi X.K X.mg x C) (hr:zX k X.A) (ha:PE X e (tP pa))
  (ht:eval (.Call (.Attribute e m apos) [] [] pos) X.env=(do
   let ov <- eval e X.env
   standAt apos.atName
   let (f,first) <- holding [ov] (getMethod ov m pl)
   callWith pos f first (backTo pos (starEach [] X.env)) (backToKw pos (keywordEach [] X.env))):=by rfl) :
  PE X (.Call (.Attribute e m apos) [] [] pos) (tP (Z4 (zRi C m F) pa)):=yL (zLE c T hr ha ht) λσ H Q ⟨Z,Γ,R,E,h,q⟩=>
 ⟨Z,Γ,_,E,h,λd v H1 hd s1 hv=>by
  unfold zRi at hd
  split at hd
  ·obtain ⟨rfl,hm,hR⟩:=hd
   have hv0:=hv
   cases hv with
   | obj e1 l1 h1=>exact ⟨_,_,_,rfl,zl _ _ e1,WO hm,Z,_,R,(E.same s1).zd,.cons hv0 .nil,hR,λd v H2 h2 s2 hv2=>q d v H2 h2 (s1.trans s2) hv2⟩
  ·exact hd.elim⟩
noncomputable def zR1 (K:b_) (C:Addr):D->(D->Prop)->Prop
 | .obj c _ _,R=>(∃ mg x,yi K mg x c)/\∃ b,cO K (.ref c) (.ref C)=some b/\R (.bool b)
 | _,_=>False
theorem gA {K:b_} (σ:St) (H:Hp) (Q:VK):tP (Z4 (zR1 K C) pa) σ H Q->gg (zOP K) (jD (tP pa) (jD (tC (.ref C)) wn)) σ H Q:=λ⟨Z,Γ,R,E,h,q⟩=>
 ⟨Z,Γ,_,E,h,λd v H1 hd s1 hv=>by
  unfold zR1 at hd
  split at hd
  ·obtain ⟨⟨mg,x,T⟩,b,hk,hR⟩:=hd
   cases hv with
   | obj e1 l1 h1=>exact ⟨_,_,_,b,rfl,T.ty (zl _ _ e1),hk,q _ _ H1 hR s1 (.bool _)⟩
  ·exact hd.elim⟩
noncomputable def Yg (pa:yE):xH:=λT Γ=>pa Γ λ_=>T.nx Γ
theorem zM4 (he:PE X e (tP pa)) (hs:swapsWith e none pos.line X.env=pure false:=by rfl):PS X (.Expr e pos) (yb (Yg pa)):=yM (xX he hs) λD σ H ⟨Z0,H0,Z,Γ,Dp,E,h,nx,rt,bk,ct⟩=>
 ⟨Z,Γ,_,E.e,h,λd v H1 hd s1 hv=>nx Z Γ σ H1 (E.mv s1) (yt s1) hd⟩
end
end Pu
namespace Pu
open PySem L2 Sh
variable [yX]
noncomputable def j3 (k:Nat):List D->List D
 | []=>[]
 | d :: t=>y3 (.int (k:Int)) d :: j3 (k + 1) t
theorem QK:∀ (k:Nat) (ds:List D),(j3 k ds).length=ds.length
 | _,[]=>rfl
 | k,_ :: t=>congrArg (· + 1) (QK (k + 1) t)
theorem QL:∀ {k:Nat} {ds:List D} {i:Nat} {e:D},(j3 k ds)[i]? = some e->∃ d,ds[i]? = some d/\e=y3 (.int ((k + i:Nat):Int)) d
 | _,[],_,_,h=>by simp [j3] at h
 | k,d :: t,0,e,h=>⟨d,rfl,by simp [j3] at h; exact h.symm⟩
 | k,d :: t,i + 1,e,h=>by
  obtain ⟨d',h1,h2⟩:=QL (k:=k + 1) (ds:=t) (i:=i) (e:=e) (by simpa [j3] using h)
  exact ⟨d',by simpa using h1,by rw [h2,show k + 1 + i=k + (i + 1) by omega]⟩
theorem zMl {K:b_} {Z:Addr->Prop} {H:Hp} {p:Addr} {k:Nat} {xs:List V} {ds:List D} (e:zJ Z H p=some (.lst xs)) (h:yH (zJ Z H) xs ds):Wk Z (qS K p k) H (j3 k ds):=λi Z' H' s zd=>by
 have e1:=zl _ _ (s _ _ e)
 refine ⟨λd hd=>?_,λhi=>⟨xs,zZ.of e1,by rw [QK] at hi; rw [wI h]; omega⟩⟩
 obtain ⟨d',hd',rfl⟩:=QL hd
 obtain ⟨x,hx,hh⟩:=j2 h hd'
 refine ⟨⟨xs,x,zZ.of e1,hx⟩,λy H'' ⟨T,x',ev,hT,eH,q⟩=>?_⟩
 have:=q xs (zZ.of e1)
 rw [hx] at this
 cases this
 subst ev
 subst eH
 exact ⟨wM hT _,Zx zd hT (.cons (.int _) (.cons (hh.same s) .nil))⟩
noncomputable def Yh:List D->(List D->Prop)->Prop
 | [.lst ds],R=>R ds
 | _,_=>False
noncomputable def enD (ds:List D):D->(List D->Prop)->Prop
 | .int i,R=>0<=i/\i<=1000/\R (j3 i.toNat ds)
 | _,_=>False
noncomputable def QM (pl:yn) (pb:yE):yn:=λΓ R=>pl Γ λds=>Yh ds λes=>pb Γ λd=>enD es d R
section
variable {X:Cx} {e1 e2:Expr} {pos:Pos} {pb:yE} {pl:yn}
theorem zK3 {ts:List Expr} {kk:Nat} {tp p kp:Pos} (hg:Gl X "enumerate") (hm:X.mg "enumerate" = none) (ha:PA X [e1] (wE pl)) (he:PE X e2 (tP pb)) (hs:starEach [e1] X.env=[(false,eval e1 X.env)]:=by rfl) (hs2:starEach [] X.env=[]:=by rfl) :
  PI X (.Tuple ts kk tp) (.Call (.Name "enumerate" p) [e1] [⟨some "start",e2,kp⟩] pos) (jN (QM pl pb)):=YO (zNH hg hm ha he hs hs2) λσ H Q ⟨Z,Γ,R,E,h,q⟩=>
 ⟨Z,Γ,_,E,h,λds vs H1 hd s1 hv=>by
  unfold Yh at hd
  split at hd
  ·obtain ⟨v,rfl,hw⟩:=xD hv
   obtain ⟨a,xs,rfl,ea,hx⟩:=hw.lst_inv
   refine ⟨a,rfl,Z,Γ,_,E.same s1,hd,λd u H2 hd2 s2 hu=>?_⟩
   unfold enD at hd2
   split at hd2
   ·rename_i i
    obtain ⟨h0,h1,hR⟩:=hd2
    cases hu
    have e2:=yt (Z:=Z) s2 _ _ ea
    refine ⟨i.toNat,by rw [show ((i.toNat:Nat):Int)=i by omega],?_,⟨xs,zZ.of (zl _ _ e2)⟩,q _ _ H2 hR (s1.trans s2) (zMl e2 (xw (yt s2) hx))⟩
    unfold Builtin.SmallTypes.fitsIndex
    rw [decide_eq_true (by omega),decide_eq_true (by omega)]
    rfl
   ·exact hd2.elim
  ·exact hd.elim⟩
end
end Pu
namespace L2
open PySem PySem.Spec PyProof.Rows
theorem zH4:bootBuiltins "min" = some (.builtin "min"):=by decide +kernel
end L2
namespace Pu
open PySem L2 Sh
variable [yX]
open PyProof.Rows (envOfC)
variable {P:Program} {w:World} {K:b_} {mg:Str->Option Value} {base:Heap}
theorem zE.impN {CX:vX} {k:Nat} {f:Addr} {fd:FuncData} {ps:List Str} {sp sq:Sp} (i:∀ vs H Q E,sq vs H Q E->sp vs H Q E) (o:zE P w K mg base CX k f fd ps sp):zE P w K mg base CX k f fd ps sq:=
 ⟨λvs H Q E h=>o.1 vs H Q E (i vs H Q E h),λa b c d e f g h j k l m n z=>o.2 a b c d e f g h j k l m n (i _ _ _ _ z)⟩
end Pu
namespace Pu
open PySem L2 Sh
variable [yX]
section
variable {X:Cx} {a:Expr} {pos:Pos} {pa:yE}
noncomputable def slS:D->Option Int->Option Int->(D->Prop)->Prop
 | .frz ds,lo,hi,R=>R (.lst (zo ds lo hi))
 | _,_,_,_=>False
noncomputable def QN (pa:yE) (po qo:qg):yE:=λΓ R=>pa Γ λd=>po Γ λl=>qo Γ λu=>slS d l u R
theorem zK6 {lo hi:Option Expr} {po qo:qg} {p2:Pos} (ha:PE X a (tP pa)) (hl:PO X lo (qh po)) (hu:PO X hi (qh qo)):PE X (.Subscript a (.Slice lo hi none p2) pos) (tP (QN pa po qo)):=yL (zJG zKq ha hl hu) λσ H Q ⟨Z,Γ,R,E,h,q⟩=>
 ⟨Z,Γ,_,E,h,λd v H1 hd s1 hv=>⟨Z,Γ,_,E.same s1,hd,λl H2 hl s2=>⟨Z,Γ,_,E.same (s1.trans s2),hl,λu H3 hu s3=>by
  have s:=s1.trans (s2.trans s3)
  have hv:=hv.same (yt (s2.trans s3))
  have zd:=(E.same s).zd
  unfold slS at hu
  split at hu
  ·obtain ⟨p,xs,rfl,e,h1⟩:=hv.frz_inv
   exact ⟨_,_,rfl,.inl (jI zl e),λn hn=>q _ _ _ hu (s.trans (wM hn _)) (ub zd hn (Ju h1 _ _))⟩
  ·exact hu.elim⟩⟩⟩
end
inductive kB (ds:List D) (T:D->(Bool->Prop)->Prop) (G:D->(D->Prop)->Prop) (R:D->Prop):Prop
 | mk (few:ds.length<=1000) (f:D->Bool) (F:D->D->Prop) (t:∀ d,d∈ds->T d λb=>b=f d) (h:∀ d,d∈ds->f d=true->G d (F d)) (q:∀ es,Paired F (ds.filter f) es->R (.lst es)):kB ds T G R
noncomputable def zPc (i:Nat) (ow:Bool) (caps:List Nat) (pi:yn) (po:D->Option (List D)) (pt:wf) (pe:yE):xH:=λT Γ=>pi Γ λds=>kB ds (λd S=>jM (po d) λos=>pt (os.map Sl.sh++caps.map λj=>un (slot Γ j)) S) (λd S=>jM (po d) λos=>pe (os.map Sl.sh++caps.map λj=>un (slot Γ j)) S) λd=>YZ d λes=>T.nx (yJ Γ i (match ow with | true=>.ow es | false=>.sh (.lst es)))
theorem zHg {X:Cx} {pos:Pos} (i:Nat) (ow:Bool) {scope:Scope} {own:List Str} {caps:List (Nat × Str)} {tg iter elt cond:Expr} {pi:yn} {po:D->Option (List D)} {pt:wf} {pe:yE} {js:List Nat} {y:Str} {py spos:Pos} (hN:X.N.Nodup) (hy:X.N[i]? = some y) (hl:X.env.scope.names.lookup y=some .local) (B:uM X scope own caps) (hc:X.calm=true) (hj:js=fY 0 own.length) (hk:∀ d os,po d=some os->os.length=js.length)
  (hi:PI X tg iter (jN pi)) (hg:∀ C s₀ H₀ ex,PG (xA X scope (zk own caps) C s₀ H₀ ex) tg (tG js po)) (ht:∀ C s₀ H₀ ex,PT (xA X scope (zk own caps) C s₀ H₀ ex) cond (xR pt)) (he:∀ C s₀ H₀ ex,PE (xA X scope (zk own caps) C s₀ H₀ ex) elt (tP pe)) (hsw:swapsWith (.ListComp elt [⟨tg,iter,[cond],0⟩] scope pos) (some (.Name y py)) spos.line X.env=pure true) (hs:∀ x,foldedSetIterable iter X.env x=pure x:=by intro _; rfl) :
  PS X (.Assign [.Name y py] (.ListComp elt [⟨tg,iter,[cond],0⟩] scope pos) spos) (yb (zPc i ow (caps.map (·.1)) pi po pt pe)):=yM (zJF hN hy hl B hc hi hg (.inr ⟨_,rfl⟩) ht he hsw hs) λD σ H ⟨Z0,H0,Z,Γ,Dp,E,h,nx,rt,bk,ct⟩=>
 ⟨Z,Γ,_,E.e,h,λds J H1 ⟨fw,f,F,hT,hF,hR⟩ s1 wk=>zJb (E.e.same s1) (E.e.same s1) (λ_ z=>z) wk hj hk fw hT hF λes ys H' l h1 s2 h2 hp=>by
  have E1:=(E.mv s1).mv s2
  cases ow with
  | true=>
   obtain ⟨E2,s3⟩:=E1.make hp h2 i
   exact nx _ _ _ _ E2 ((yt (s1.trans s2)).trans s3) (hR es h1)
  | false=>exact nx Z _ _ _ ((E1.mv (wM hp _)).set (ub E1.e.zd hp h2) i) (yt (s1.trans (s2.trans (wM hp _)))) (hR es h1)⟩
theorem zLQ {α:Type} {ds es:List α} (p:Paired (λd e=>e=d) ds es):es=ds:=by
 induction p with
 | nil=>rfl
 | cons h _ ih=>rw [h,ih]
theorem kB.keep {ds:List D} {T:D->(Bool->Prop)->Prop} {G:D->(D->Prop)->Prop} {R:D->Prop} (f:D->Bool) (few:ds.length<=1000) (t:∀ d,d∈ds->T d λb=>b=f d) (h:∀ d,d∈ds->G d λe=>e=d) (q:R (.lst (ds.filter f))):kB ds T G R:=⟨few,f,λd e=>e=d,t,λd m _=>h d m,λes p=>by rw [zLQ p]; exact q⟩
end Pu
namespace L2
open PySem PySem.Spec PyProof.Rows
theorem zKU (a b c:Value):checkTypeCall "zip" ⟨[a,b,c],[]⟩=pure ():=by kernel_rfl
theorem zKT (a b c:Value):checkBuiltinCall "zip.__new__" ⟨[.type "zip",a,b,c],[]⟩=pure ():=by kernel_rfl
theorem zLf (a b c d:Value):argsOk "object.__init__" ⟨[a,b,c,d],[]⟩:=by rw [argsOk,signature?_of (id:="object.__init__") (n:=['_','_','t','i','n','i','_','_']) (o:=['t','c','e','j','b','o']) (by kernel_rfl) F.owner_object]; kernel_rfl
noncomputable abbrev xI (h:Heap) (T:Addr) (a b c:Value):Prop:=h.get? T=some { cls:=.type "tuple",data:=.seq #[a,b,c] }
structure Zt (z TI TO i1 i2 i3:Addr) (f1 f2 f3:List Addr):Prop where
 zI:TI≠z
 zO:TO≠z
 z1:i1≠z
 z2:i2≠z
 z3:i3≠z
 IO:TI≠TO
 I1:TI≠i1
 I2:TI≠i2
 I3:TI≠i3
 O1:TO≠i1
 O2:TO≠i2
 O3:TO≠i3
 n1:z∉f1
 n2:z∉f2
 n3:z∉f3
 o1:TO∉f1
 o2:TO∉f2
 o3:TO∉f3
 e12:i1∉f2
 e13:i1∉f3
 e21:i2∉f1
 e23:i2∉f3
 e31:i3∉f1
 e32:i3∉f2
section
variable {prog:Program} {w:World} {A:Around} {E:Value->Shared->Prop} {s:Shared}
theorem Yi {T:Addr} {a b c x:Value} {k:Nat} {Q:Unit->Shared->Prop} (hT:xI s.heap T a b c) (h:∀ g,g.get? T=some { cls:=.type "tuple",data:=.seq ((#[a,b,c]:Array Value).setIfInBounds k x) }->Heap.SameBut T s.heap g->Q () { s with heap:=g }):wpAny (model prog w) A (updateSeq T (·.setIfInBounds k x)) Q E s:=
 wpAny_updateSeq hT rfl (h _ (by rw [eY _ hT rfl]; simp [Obj.mapSeq]) (Heap.SameBut.update ..))
theorem zKX {z TI TO i1 i2 i3:Addr} {f1 f2 f3:List Addr} {n1 n2 n3 k:Nat} {P1 P2 P3:Nat->Value->Prop} {S1 S2 S3:Nat->Heap->Prop} {a b c:Value} {Q:Value->Shared->Prop}
  (D1:Draws prog w A i1 f1 n1 P1 S1) (D2:Draws prog w A i2 f2 n2 P2 S2) (D3:Draws prog w A i3 f3 n3 P3 S3) (Z:Zt z TI TO i1 i2 i3 f1 f2 f3) (hz:IsZip s.heap z TI TO .none) (hI:xI s.heap TI (.ref i1) (.ref i2) (.ref i3)) (hO:xI s.heap TO a b c)
  (s1:S1 k s.heap) (s2:S2 k s.heap) (s3:S3 k s.heap) (k1:k < n1) (k2:k < n2) (k3:k < n3)
  (hQ:∀ x y t h' tk,P1 k x->P2 k y->P3 k t->IsZip h' z TI TO (rawInt s.heap.objs.size)->xI h' TI (.ref i1) (.ref i2) (.ref i3)->xI h' TO x y t->S1 (k + 1) h'->S2 (k + 1) h'->S3 (k + 1) h'->xI h' s.heap.objs.size x y t->
   (∀ c o,c≠z->c≠TO->c≠i1->c≠i2->c≠i3->s.heap.get? c=some o->h'.get? c=some o)->Q (.ref s.heap.objs.size) { s with heap:=h',toks:=tk }) :
  wpAny (model prog w) A (Builtin.«zip.__next__» ⟨[.ref z],[]⟩) (λfin s'=>∃ v,fin=.done (.ret v)/\Q v s') E s:=by
 change wpAny _ _ (field (.ref z) 2 >>= _) _ _ _
 refine wpAny_bind (wpAny_field hz rfl (x:=.bool false) rfl ?_)
 change wpAny _ _ (field (.ref z) 3 >>= _) _ _ _
 refine wpAny_bind (wpAny_field hz rfl (x:=.ref TI) rfl ?_)
 refine wpAny_bind (wpAny_seqItems hI rfl ?_)
 change wpAny _ _ (Builtin.SmallTypes.ownedTupleIsFree (.ref z) >>= _) _ _ _
 refine wpAny_bind ?_
 unfold Builtin.SmallTypes.ownedTupleIsFree
 refine wpAny_bind (wpAny_field hz rfl (x:=.none) rfl (wpAny_pure ?_))
 simp only [if_true]
 refine wpAny_bind (wpAny_rule ?_)
 refine wpAny_bind (wpAny_field hz rfl (x:=.ref TO) rfl ?_)
 refine wpAny_bind (wpAny_setField_rec hz (by simp) λg1 z1 m1=>?_)
 replace z1:IsZip g1 z TI TO .ellipsis:=z1
 refine wpAny_bind ?_
 simp only [hV,ia,fM,f8]
 refine wpAny_bind (wpAny_bind (wpAny_onRaise ?_))
 change wpAny _ _ (Builtin.SmallTypes.nextOf (.ref i1) >>= _) _ _ _
 refine wpAny_bind (D1.item k _ _ _ k1 (D1.frame _ _ _ s1 λc hc o e=>m1.extBut c o (λq=>Z.n1 (q ▸ hc)) e) λx g2 t2 px s12 m2=>wpAny_pure ?_)
 have q2:xI g2 TO a b c:=m2.extBut _ _ Z.O1 (m1.extBut _ _ Z.zO hO)
 refine wpAny_bind (wpAny_seqItems q2 rfl ?_)
 refine wpAny_bind (Yi q2 λg3 q3 m3=>?_)
 replace q3:xI g3 TO x b c:=q3
 refine wpAny_bind (wpAny_letGo (wpAny_pure ?_))
 refine wpAny_bind (wpAny_bind (wpAny_onRaise ?_))
 change wpAny _ _ (Builtin.SmallTypes.nextOf (.ref i2) >>= _) _ _ _
 refine wpAny_bind (D2.item k _ _ _ k2 (D2.frame _ _ _ s2 λc hc o e=>m3.extBut c o (λq=>Z.o2 (q ▸ hc)) (m2.extBut c o (λq=>Z.e12 (q ▸ hc)) (m1.extBut c o (λq=>Z.n2 (q ▸ hc)) e))) λy g4 t4 py s24 m4=>wpAny_pure ?_)
 have q4:xI g4 TO x b c:=m4.extBut _ _ Z.O2 q3
 refine wpAny_bind (wpAny_seqItems q4 rfl ?_)
 refine wpAny_bind (Yi q4 λg5 q5 m5=>?_)
 replace q5:xI g5 TO x y c:=q5
 refine wpAny_bind (wpAny_letGo (wpAny_pure ?_))
 refine wpAny_bind (wpAny_bind (wpAny_onRaise ?_))
 change wpAny _ _ (Builtin.SmallTypes.nextOf (.ref i3) >>= _) _ _ _
 refine wpAny_bind (D3.item k _ _ _ k3 (D3.frame _ _ _ s3 λc hc o e=>m5.extBut c o (λq=>Z.o3 (q ▸ hc)) (m4.extBut c o (λq=>Z.e23 (q ▸ hc)) (m3.extBut c o (λq=>Z.o3 (q ▸ hc)) (m2.extBut c o (λq=>Z.e13 (q ▸ hc)) (m1.extBut c o (λq=>Z.n3 (q ▸ hc)) e))))) λt g6 t6 pt s36 m6=>wpAny_pure ?_)
 have q6:xI g6 TO x y c:=m6.extBut _ _ Z.O3 q5
 refine wpAny_bind (wpAny_seqItems q6 rfl ?_)
 refine wpAny_bind (Yi q6 λg7 q7 m7=>?_)
 replace q7:xI g7 TO x y t:=q7
 refine wpAny_bind (wpAny_letGo (wpAny_pure (wpAny_pure ?_)))
 refine wpAny_bind (wpAny_seqItems q7 rfl ?_)
 refine wpAny_bind (wpAny_newTuple ?_)
 have sz:g7.objs.size=s.heap.objs.size:=by
  have r7:g7.objs.size=g6.objs.size:=m7.1
  have r6:g6.objs.size=g5.objs.size:=m6.1
  have r5:g5.objs.size=g4.objs.size:=m5.1
  have r4:g4.objs.size=g3.objs.size:=m4.1
  have r3:g3.objs.size=g2.objs.size:=m3.1
  have r2:g2.objs.size=g1.objs.size:=m2.1
  have r1:g1.objs.size=s.heap.objs.size:=m1.1
  omega
 have all7:∀ c o,c≠z->c≠TO->c≠i1->c≠i2->c≠i3->s.heap.get? c=some o->g7.get? c=some o:=λc o c1 c2 c3 c4 c5 e=>m7.extBut _ _ c2 (m6.extBut _ _ c5 (m5.extBut _ _ c2 (m4.extBut _ _ c4 (m3.extBut _ _ c2 (m2.extBut _ _ c3 (m1.extBut _ _ c1 e))))))
 have z7:IsZip g7 z TI TO .ellipsis:=m7.extBut _ _ Z.zO.symm (m6.extBut _ _ Z.z3.symm (m5.extBut _ _ Z.zO.symm (m4.extBut _ _ Z.z2.symm (m3.extBut _ _ Z.zO.symm (m2.extBut _ _ Z.z1.symm z1)))))
 have I7:xI g7 TI (.ref i1) (.ref i2) (.ref i3):=all7 _ _ Z.zI Z.IO Z.I1 Z.I2 Z.I3 hI
 have u1:S1 (k + 1) g7:=D1.frame _ _ _ s12 λc hc o e=>m7.extBut c o (λq=>Z.o1 (q ▸ hc)) (m6.extBut c o (λq=>Z.e31 (q ▸ hc)) (m5.extBut c o (λq=>Z.o1 (q ▸ hc)) (m4.extBut c o (λq=>Z.e21 (q ▸ hc)) (m3.extBut c o (λq=>Z.o1 (q ▸ hc)) e))))
 have u2:S2 (k + 1) g7:=D2.frame _ _ _ s24 λc hc o e=>m7.extBut c o (λq=>Z.o2 (q ▸ hc)) (m6.extBut c o (λq=>Z.e32 (q ▸ hc)) (m5.extBut c o (λq=>Z.o2 (q ▸ hc)) e))
 have u3:S3 (k + 1) g7:=D3.frame _ _ _ s36 λc hc o e=>m7.extBut c o (λq=>Z.o3 (q ▸ hc)) e
 have lt:z < g7.objs.size:=cA z7
 change wpAny _ _ (Builtin.SmallTypes.ownedTupleHandOut (.ref z) (.ref g7.objs.size) >>= _) _ _ _
 refine wpAny_bind ?_
 unfold Builtin.SmallTypes.ownedTupleHandOut
 have z8:IsZip (g7.push { cls:=.type "tuple",data:=.seq #[x,y,t] }) z TI TO .ellipsis:=ci _ z7
 refine wpAny_bind (wpAny_setField_rec z8 (by simp) λg9 z9 m9=>?_)
 replace z9:IsZip g9 z TI TO (rawInt g7.objs.size):=z9
 refine wpAny_setField_rec z9 (by simp) λg0 z0 m0=>?_
 replace z0:IsZip g0 z TI TO (rawInt g7.objs.size):=z0
 have up:∀ c o,c≠z->g7.get? c=some o->g0.get? c=some o:=λc o c1 e=>m0.extBut _ _ c1 (m9.extBut _ _ c1 (ci _ e))
 have T0:xI g0 g7.objs.size x y t:=m0.extBut _ _ (eM lt) (m9.extBut _ _ (eM lt) (cy _ rfl))
 rw [sz] at z0 T0
 refine wpAny_pure ⟨_,rfl,?_⟩
 change Q (.ref g7.objs.size) _
 rw [sz]
 exact hQ x y t g0 _ px py pt z0 (up _ _ Z.zI I7) (up _ _ Z.zO q7) (D1.frame _ _ _ u1 λc hc o e=>up c o (λq=>Z.n1 (q ▸ hc)) e) (D2.frame _ _ _ u2 λc hc o e=>up c o (λq=>Z.n2 (q ▸ hc)) e) (D3.frame _ _ _ u3 λc hc o e=>up c o (λq=>Z.n3 (q ▸ hc)) e) T0
  λc o c1 c2 c3 c4 c5 e=>up c o c1 (all7 c o c1 c2 c3 c4 c5 e)
theorem zKV {z TI TO i1 i2 i3:Addr} {f1 f2 f3:List Addr} {n1 n2 n3 k:Nat} {P1 P2 P3:Nat->Value->Prop} {S1 S2 S3:Nat->Heap->Prop} {a b c:Value} {Q:Fin->Shared->Prop}
  (D1:Draws prog w A i1 f1 n1 P1 S1) (D2:Draws prog w A i2 f2 n2 P2 S2) (D3:Draws prog w A i3 f3 n3 P3 S3) (Z:Zt z TI TO i1 i2 i3 f1 f2 f3) (hz:IsZip s.heap z TI TO .none) (hI:xI s.heap TI (.ref i1) (.ref i2) (.ref i3)) (hO:xI s.heap TO a b c)
  (s1:S1 k s.heap) (s2:S2 k s.heap) (s3:S3 k s.heap) (k1:k<=n1) (k2:k<=n2) (k3:k<=n3) (ke:k=n1\/k=n2\/k=n3)
  (hE:∀ h' e tk,(∀ c o,c≠z->c≠TO->c≠i1->c≠i2->c≠i3->s.heap.get? c=some o->h'.get? c=some o)->(∃ o,h'.get? e=some o/\o.cls=.type "StopIteration")->E (.ref e) { s with heap:=h',toks:=tk }) :
  wpAny (model prog w) A (Builtin.«zip.__next__» ⟨[.ref z],[]⟩) Q E s:=by
 change wpAny _ _ (field (.ref z) 2 >>= _) _ _ _
 refine wpAny_bind (wpAny_field hz rfl (x:=.bool false) rfl ?_)
 change wpAny _ _ (field (.ref z) 3 >>= _) _ _ _
 refine wpAny_bind (wpAny_field hz rfl (x:=.ref TI) rfl ?_)
 refine wpAny_bind (wpAny_seqItems hI rfl ?_)
 change wpAny _ _ (Builtin.SmallTypes.ownedTupleIsFree (.ref z) >>= _) _ _ _
 refine wpAny_bind ?_
 unfold Builtin.SmallTypes.ownedTupleIsFree
 refine wpAny_bind (wpAny_field hz rfl (x:=.none) rfl (wpAny_pure ?_))
 simp only [if_true]
 refine wpAny_bind (wpAny_rule ?_)
 refine wpAny_bind (wpAny_field hz rfl (x:=.ref TO) rfl ?_)
 refine wpAny_bind (wpAny_setField_rec hz (by simp) λg1 z1 m1=>?_)
 replace z1:IsZip g1 z TI TO .ellipsis:=z1
 refine wpAny_bind ?_
 simp only [hV,ia,fM,f8]
 refine wpAny_bind (wpAny_bind (wpAny_onRaise ?_))
 change wpAny _ _ (Builtin.SmallTypes.nextOf (.ref i1) >>= _) _ _ _
 have s1':S1 k g1:=D1.frame _ _ _ s1 λc hc o e=>m1.extBut c o (λq=>Z.n1 (q ▸ hc)) e
 by_cases c1:k=n1
 ·subst c1
  refine wpAny_bind (D1.done _ _ _ s1' λg2 e m2 he=>?_)
  obtain ⟨oe,he1,he2⟩:=he
  have z2:IsZip g2 z TI TO .ellipsis:=m2 _ _ Z.z1.symm z1
  have nez:e≠z:=λq=>by subst q; rw [z2] at he1; cases he1; simp at he2
  exact wpAny_setField_rec z2 (by simp) λg3 _ m3=>hE g3 e _ (λc o c1 c2 c3 c4 c5 q=>m3.extBut _ _ c1 (m2 _ _ c3 (m1.extBut _ _ c1 q))) ⟨oe,m3.extBut _ _ nez he1,he2⟩
 refine wpAny_bind (D1.item k _ _ _ (by omega) s1' λx g2 t2 px s12 m2=>wpAny_pure ?_)
 have q2:xI g2 TO a b c:=m2.extBut _ _ Z.O1 (m1.extBut _ _ Z.zO hO)
 refine wpAny_bind (wpAny_seqItems q2 rfl ?_)
 refine wpAny_bind (Yi q2 λg3 q3 m3=>?_)
 replace q3:xI g3 TO x b c:=q3
 refine wpAny_bind (wpAny_letGo (wpAny_pure ?_))
 refine wpAny_bind (wpAny_bind (wpAny_onRaise ?_))
 change wpAny _ _ (Builtin.SmallTypes.nextOf (.ref i2) >>= _) _ _ _
 have s2':S2 k g3:=D2.frame _ _ _ s2 λc hc o e=>m3.extBut c o (λq=>Z.o2 (q ▸ hc)) (m2.extBut c o (λq=>Z.e12 (q ▸ hc)) (m1.extBut c o (λq=>Z.n2 (q ▸ hc)) e))
 have z3:IsZip g3 z TI TO .ellipsis:=m3.extBut _ _ Z.zO.symm (m2.extBut _ _ Z.z1.symm z1)
 by_cases c2:k=n2
 ·subst c2
  refine wpAny_bind (D2.done _ _ _ s2' λg4 e m4 he=>?_)
  obtain ⟨oe,he1,he2⟩:=he
  have z4:IsZip g4 z TI TO .ellipsis:=m4 _ _ Z.z2.symm z3
  have nez:e≠z:=λq=>by subst q; rw [z4] at he1; cases he1; simp at he2
  exact wpAny_setField_rec z4 (by simp) λg5 _ m5=>hE g5 e _ (λc o c1 c2 c3 c4 c5 q=>m5.extBut _ _ c1 (m4 _ _ c4 (m3.extBut _ _ c2 (m2.extBut _ _ c3 (m1.extBut _ _ c1 q))))) ⟨oe,m5.extBut _ _ nez he1,he2⟩
 have c3:k=n3:=(ke.resolve_left c1).resolve_left c2
 subst c3
 refine wpAny_bind (D2.item k _ _ _ (by omega) s2' λy g4 t4 py s24 m4=>wpAny_pure ?_)
 have q4:xI g4 TO x b c:=m4.extBut _ _ Z.O2 q3
 refine wpAny_bind (wpAny_seqItems q4 rfl ?_)
 refine wpAny_bind (Yi q4 λg5 q5 m5=>?_)
 refine wpAny_bind (wpAny_letGo (wpAny_pure ?_))
 refine wpAny_bind (wpAny_bind (wpAny_onRaise ?_))
 change wpAny _ _ (Builtin.SmallTypes.nextOf (.ref i3) >>= _) _ _ _
 refine wpAny_bind (D3.done _ _ _ (D3.frame _ _ _ s3 λc hc o e=>m5.extBut c o (λq=>Z.o3 (q ▸ hc)) (m4.extBut c o (λq=>Z.e23 (q ▸ hc)) (m3.extBut c o (λq=>Z.o3 (q ▸ hc)) (m2.extBut c o (λq=>Z.e13 (q ▸ hc)) (m1.extBut c o (λq=>Z.n3 (q ▸ hc)) e))))) λg6 e m6 he=>?_)
 obtain ⟨oe,he1,he2⟩:=he
 have z6:IsZip g6 z TI TO .ellipsis:=m6 _ _ Z.z3.symm (m5.extBut _ _ Z.zO.symm (m4.extBut _ _ Z.z2.symm z3))
 have nez:e≠z:=λq=>by subst q; rw [z6] at he1; cases he1; simp at he2
 exact wpAny_setField_rec z6 (by simp) λg7 _ m7=>hE g7 e _ (λc o c1 c2 c3 c4 c5 q=>m7.extBut _ _ c1 (m6 _ _ c5 (m5.extBut _ _ c2 (m4.extBut _ _ c4 (m3.extBut _ _ c2 (m2.extBut _ _ c3 (m1.extBut _ _ c1 q))))))) ⟨oe,m7.extBut _ _ nez he1,he2⟩
end
end L2
namespace L2
open PySem PySem.Spec PyProof.Rows
section
variable {prog:Program} {w:World} {A:Around} {E:Value->Shared->Prop} {s:Shared}
theorem zKW {z TI TO i1 i2 i3:Addr} {f1 f2 f3:List Addr} {n1 n2 n3 k:Nat} {P1 P2 P3:Nat->Value->Prop} {S1 S2 S3:Nat->Heap->Prop} {a b c:Value} {Q:Option Value->Shared->Prop}
  (D1:Draws prog w A.in1 i1 f1 n1 P1 S1) (D2:Draws prog w A.in1 i2 f2 n2 P2 S2) (D3:Draws prog w A.in1 i3 f3 n3 P3 S3) (Z:Zt z TI TO i1 i2 i3 f1 f2 f3) (hz:IsZip s.heap z TI TO .none) (hI:xI s.heap TI (.ref i1) (.ref i2) (.ref i3)) (hO:xI s.heap TO a b c)
  (s1:S1 k s.heap) (s2:S2 k s.heap) (s3:S3 k s.heap) (k1:k < n1) (k2:k < n2) (k3:k < n3)
  (hQ:∀ x y t h' tk,P1 k x->P2 k y->P3 k t->IsZip h' z TI TO (rawInt s.heap.objs.size)->xI h' TI (.ref i1) (.ref i2) (.ref i3)->xI h' TO x y t->S1 (k + 1) h'->S2 (k + 1) h'->S3 (k + 1) h'->xI h' s.heap.objs.size x y t->
   (∀ c o,c≠z->c≠TO->c≠i1->c≠i2->c≠i3->s.heap.get? c=some o->h'.get? c=some o)->Q (some (.ref s.heap.objs.size)) { s with heap:=h',toks:=tk }) :
  wpAny (model prog w) A (pyNext (.ref z)) Q E s:=by
 have ty:s.TypeIs (.ref z) "zip":=⟨_,hz,rfl⟩
 unfold pyNext
 refine wpAny_bind (wpAny_attempt (wpAny_callSpecial?_slot (name:=dM "__next__") ty F.slot_zip_next (wpAny_call_entry F.slot_zip_next ty F.entry_zip_next ?_ (F.args_zip_next_1 _))))
 exact zKX D1 D2 D3 Z hz hI hO s1 s2 s3 k1 k2 k3 λx y t h' tk c1 c2 c3 c4 c5 c6 c7 c8 c9 c10 c11=>wpAny_pure (hQ x y t h' tk c1 c2 c3 c4 c5 c6 c7 c8 c9 c10 c11)
theorem zMj {z TI TO i1 i2 i3:Addr} {f1 f2 f3:List Addr} {n1 n2 n3 k:Nat} {P1 P2 P3:Nat->Value->Prop} {S1 S2 S3:Nat->Heap->Prop} {a b c:Value} {Q:Option Value->Shared->Prop}
  (D1:Draws prog w A.in1 i1 f1 n1 P1 S1) (D2:Draws prog w A.in1 i2 f2 n2 P2 S2) (D3:Draws prog w A.in1 i3 f3 n3 P3 S3) (Z:Zt z TI TO i1 i2 i3 f1 f2 f3) (hz:IsZip s.heap z TI TO .none) (hI:xI s.heap TI (.ref i1) (.ref i2) (.ref i3)) (hO:xI s.heap TO a b c)
  (s1:S1 k s.heap) (s2:S2 k s.heap) (s3:S3 k s.heap) (k1:k<=n1) (k2:k<=n2) (k3:k<=n3) (ke:k=n1\/k=n2\/k=n3)
  (hQ:∀ h' tk,(∀ c o,c≠z->c≠TO->c≠i1->c≠i2->c≠i3->s.heap.get? c=some o->h'.get? c=some o)->Q none { s with heap:=h',toks:=tk }) :
  wpAny (model prog w) A (pyNext (.ref z)) Q E s:=by
 have ty:s.TypeIs (.ref z) "zip":=⟨_,hz,rfl⟩
 unfold pyNext
 refine wpAny_bind (wpAny_attempt (wpAny_callSpecial?_slot (name:=dM "__next__") ty F.slot_zip_next (wpAny_call_entry F.slot_zip_next ty F.entry_zip_next
  (zKV D1 D2 D3 Z hz hI hO s1 s2 s3 k1 k2 k3 ke λh' e tk keep he=>?_) (F.args_zip_next_1 _))))
 obtain ⟨o,ho,hc⟩:=he
 refine wpAny_bind (wpAny_isInstance (T:="StopIteration") (b:=true) ⟨o,ho,hc⟩ isSubtype_stop ?_)
 exact wpAny_pure (hQ _ _ keep)
end
noncomputable abbrev QO (l:Addr):Obj:={ cls:=.type "list_iterator",data:=.fields #[.ref l,.int 0 0] }
noncomputable abbrev Yj (h:Heap) (a:Addr):Heap:=h.push (QO a)
noncomputable abbrev Yk (h:Heap) (a b:Addr):Heap:=(Yj h a).push (QO b)
noncomputable abbrev Ww (h:Heap) (a b c:Addr):Heap:=(Yk h a b).push (QO c)
noncomputable abbrev Wx (h:Heap) (a b c:Addr):Heap:=(Ww h a b c).push { cls:=.type "tuple",data:=.seq #[.ref h.objs.size,.ref (Yj h a).objs.size,.ref (Yk h a b).objs.size] }
noncomputable abbrev Wy (h:Heap) (a b c:Addr):Heap:=(Wx h a b c).push { cls:=.type "tuple",data:=.seq #[.none,.none,.none] }
noncomputable abbrev gB (h:Heap) (a b c:Addr):Heap:=(Wy h a b c).push { cls:=.type "zip",data:=.fields #[.none,.bool false,.bool false,.ref (Ww h a b c).objs.size,.ref (Wx h a b c).objs.size] }
theorem zMh (a b c:Addr) (xs ys zs:Array Value) :
  Meets (Builtin.«zip.__new__» ⟨[.type "zip",.ref a,.ref b,.ref c],[]⟩) (λ_ R s=>s.heap.IsList a xs/\s.heap.IsList b ys/\s.heap.IsList c zs/\R (.ok (.ret (.ref (Wy s.heap a b c).objs.size))) { s with heap:=gB s.heap a b c }):=
 .of_wp λprog w A R s h=>by
  obtain ⟨hp,g,d,tk,os⟩:=s; obtain ⟨h1,h2,h3,h⟩:=h
  have hsub:=sub_zip
  have e1:iY (Shared.heap ⟨hp,g,d,tk,os⟩) a xs:=h1
  have e2:iY (Shared.heap ⟨Yj hp a,g,d,tk,os⟩) b ys:=Heap.IsList.push h2 _
  have e3:iY (Shared.heap ⟨Yk hp a b,g,d,tk,os⟩) c zs:=Heap.IsList.push (Heap.IsList.push h3 _) _
  wp_walk using wpAny_pyIter_list e1,wpAny_pyIter_list e2,wpAny_pyIter_list e3
  exact ⟨_,rfl,h⟩
theorem zMP {prog:Program} {w:World} {A:Around} {E:Value->Shared->Prop} {s:Shared} {a b c:Addr} {xs ys zs:Array Value} {Q:Value->Shared->Prop} (h1:s.heap.IsList a xs) (h2:s.heap.IsList b ys) (h3:s.heap.IsList c zs)
  (h:∀ h',IsZip h' (s.heap.objs.size + 5) (s.heap.objs.size + 3) (s.heap.objs.size + 4) .none->xI h' (s.heap.objs.size + 3) (.ref s.heap.objs.size) (.ref (s.heap.objs.size + 1)) (.ref (s.heap.objs.size + 2))->xI h' (s.heap.objs.size + 4) .none .none .none->
   h'.IsListIter s.heap.objs.size a 0->h'.IsListIter (s.heap.objs.size + 1) b 0->h'.IsListIter (s.heap.objs.size + 2) c 0->(∀ c o,s.heap.get? c=some o->h'.get? c=some o)->Q (.ref (s.heap.objs.size + 5)) { s with heap:=h' }) :
  wpAny (model prog w) A (call (.type "zip") [.ref a,.ref b,.ref c]) Q E s:=by
 refine callType_new F.called_zip (by decide) (zKU _ _ _) (zKT _ _ _) (λobj=>zLf obj _ _ _) F.entry_zip_new (zMh a b c xs ys zs) ⟨h1,h2,h3,?_⟩
 have n1:(Yj s.heap a).objs.size=s.heap.objs.size + 1:=dl ..
 have n2:(Yk s.heap a b).objs.size=s.heap.objs.size + 2:=by rw [dl,n1]
 have n3:(Ww s.heap a b c).objs.size=s.heap.objs.size + 3:=by rw [dl,n2]
 have n4:(Wx s.heap a b c).objs.size=s.heap.objs.size + 4:=by rw [dl,n3]
 have n5:(Wy s.heap a b c).objs.size=s.heap.objs.size + 5:=by rw [dl,n4]
 have p6:(gB s.heap a b c).get? (Wy s.heap a b c).objs.size=some _:=cy _ rfl
 have p5:(gB s.heap a b c).get? (Wx s.heap a b c).objs.size=some _:=ci _ (cy _ rfl)
 have p4:(gB s.heap a b c).get? (Ww s.heap a b c).objs.size=some _:=ci _ (ci _ (cy _ rfl))
 have p3:(gB s.heap a b c).get? (Yk s.heap a b).objs.size=some _:=ci _ (ci _ (ci _ (cy _ rfl)))
 have p2:(gB s.heap a b c).get? (Yj s.heap a).objs.size=some _:=ci _ (ci _ (ci _ (ci _ (cy _ rfl))))
 have p1:(gB s.heap a b c).get? s.heap.objs.size=some _:=ci _ (ci _ (ci _ (ci _ (ci _ (cy _ rfl)))))
 change _/\_
 rw [n3,n4,n5] at p6
 rw [n1,n2,n3] at p4
 rw [n4] at p5
 rw [n2] at p3
 rw [n1] at p2
 rw [n5]
 exact ⟨⟨_,p6,rfl⟩,h _ p6 p4 p5 ⟨_,p1,rfl,rfl⟩ ⟨_,p2,rfl,rfl⟩ ⟨_,p3,rfl,rfl⟩ λc o x=>ci _ (ci _ (ci _ (ci _ (ci _ (ci _ x)))))⟩
theorem zF.turnT3 {X:Cx} {pins:List (Addr × Obj)} {σ:St} {H:Hp} {s:Shared} {h':Heap} {tk:Nat} {ch:List Addr} {T:Addr} {x y t:V} {u v r:Value} (I:zF X pins σ H s) (hf:∀ b∈ch,yz X pins H b) (keep:∀ b o,b∉ch->s.heap.get? b=some o->h'.get? b=some o)
  (hT:s.heap.objs.size<=T) (p:xI h' T u v r) (rx:zS x u) (ry:zS y v) (rt:zS t r):zF X pins σ (zY H T (.tup [x,y,t])) { s with heap:=h',toks:=tk }:=by
 have fr:H T=none:=I.hok.fresh hT
 have nT:∀ b o,s.heap.get? b=some o->b≠T:=λb o e z=>by rw [z] at e; exact absurd (cP (cA e) hT) (df _)
 have uJ:∀ b o,H b=some o->b∉ch:=λb o e z=>by rw [(hf b z).1] at e; cases e
 refine I.step (ch:=ch) (λb hb=>⟨(hf b hb).2.2.2.1,(hf b hb).2.1,(hf b hb).2.2.2.2.1,(hf b hb).2.2.2.2.2⟩) (λb o _ _ hc e _=>keep b o hc e) (λb o _ _ hc e _=>⟨o.slots,keep b o hc e⟩)
  (λb o _ e n=>by rw [zc (nT b o e)]; exact n) (λb o hc e=>⟨o,keep b o hc e⟩) (λb xs e=>by rw [zc (xZ e fr)]; exact e) (λb o w e=>by rw [zc (xZ e fr)]; exact e)
  (λb ps e=>⟨#[],by rw [zc (xZ e fr),e]; simp⟩) (λm hm=>?_) (λb w e=>?_) I.bare
 ·obtain ⟨o,es,ep,ho,r⟩:=hm
  exact ⟨o,es,ep,keep _ o (λz=>(hf _ z).2.1 rfl) ho,r⟩
 ·by_cases hb:b=T
  ·subst hb
   rw [wS] at e
   cases e
   exact ⟨by show 3<=sizeLine; decide,[u,v,r],.cons rx (.cons ry (.cons rt .nil)),⟨_,p,rfl,_,rfl⟩⟩
  ·rw [zc hb] at e
   refine (I.hok b w e).stay (λc q hc ec=>keep c q ?_ ec) (λc ec=>by rw [zc (xZ ec fr)]; exact ec) λc xs ec=>by rw [zc (xZ ec fr)]; exact ec
   rcases hc with z | z
   ·rw [z]
    exact uJ b w e
   ·exact uJ c _ z
noncomputable def gC (K:b_) (a b c:Addr):It:=
 ⟨λi H=>∃ xs ys zs x y t,zZ K H a xs/\zZ K H b ys/\zZ K H c zs/\xs[i]? = some x/\ys[i]? = some y/\zs[i]? = some t,
  λi H v H'=>∃ T x y t,v=.ref T/\H T=none/\H'=zY H T (.tup [x,y,t])/\(∀ xs,zZ K H a xs->xs[i]? = some x)/\(∀ ys,zZ K H b ys->ys[i]? = some y)/\∀ zs,zZ K H c zs->zs[i]? = some t,
  λi H=>∃ xs ys zs,zZ K H a xs/\zZ K H b ys/\zZ K H c zs/\i<=xs.length/\i<=ys.length/\i<=zs.length/\(i=xs.length\/i=ys.length\/i=zs.length)⟩
theorem zKe {P:Program} {w:World} {K:b_} {es:List Expr} {kk:Nat} {tp:Pos} {a b c z TI TO i1 i2 i3:Addr} (Z:Zt z TI TO i1 i2 i3 [i1,a] [i2,b] [i3,c]) (na:a≠i1) (nb:b≠i2) (nc:c≠i3) :
  vC P w K (.Tuple es kk tp) (gC K a b c) [z,TI,TO,i1,i2,i3] z (λi h=>IsZip h z TI TO .none/\xI h TI (.ref i1) (.ref i2) (.ref i3)/\(∃ x y t,xI h TO x y t)/\h.IsListIter i1 a i/\h.IsListIter i2 b i/\h.IsListIter i3 c i) where
 mem:=by simp
 obj:=λi h ⟨t1,t2,⟨x,y,t,t3⟩,t4,t5,t6⟩ d hd=>by
  simp only [cu,cW,or_false] at hd
  rcases hd with rfl | rfl | rfl | rfl | rfl | rfl
  ·exact ⟨_,t1,jY⟩
  ·exact ⟨_,t2,WQ⟩
  ·exact ⟨_,t3,WQ⟩
  ·obtain ⟨o,e,_,d⟩:=t4
   exact ⟨o,e,by rw [d]; exact jY⟩
  ·obtain ⟨o,e,_,d⟩:=t5
   exact ⟨o,e,by rw [d]; exact jY⟩
  ·obtain ⟨o,e,_,d⟩:=t6
   exact ⟨o,e,by rw [d]; exact jY⟩
 keep:=λi h h' ⟨t1,t2,⟨x,y,t,t3⟩,t4,t5,t6⟩ k=>⟨k z (by simp) _ t1,k TI (by simp) _ t2,⟨x,y,t,k TO (by simp) _ t3⟩,(by obtain ⟨o,e,r⟩:=t4; exact ⟨o,k i1 (by simp) o e,r⟩),(by obtain ⟨o,e,r⟩:=t5; exact ⟨o,k i2 (by simp) o e,r⟩),(by obtain ⟨o,e,r⟩:=t6; exact ⟨o,k i3 (by simp) o e,r⟩)⟩
 item:=by
  intro X hP hw hK hc i pins s σ H E I hf ⟨t1,t2,⟨x0,y0,w0,t3⟩,t4,t5,t6⟩ hg
  subst hP hw hK
  obtain ⟨xs,ys,zs,x,y,t,hq1,hq2,hq3,hx,hy,ht⟩:=hg
  obtain ⟨its1,rv1,p1,_⟩:=I.list hq1
  obtain ⟨its2,rv2,p2,_⟩:=I.list hq2
  obtain ⟨its3,rv3,p3,_⟩:=I.list hq3
  obtain ⟨u,hu,ru⟩:=rv1.get hx
  obtain ⟨v,hv,rv⟩:=rv2.get hy
  obtain ⟨r,hr,rt⟩:=rv3.get ht
  have hh:X.A.in1.handled=none:=I.ok.hd hc
  have l1:i < its1.toArray.size:=by rw [cz]; exact (cH.mp hu).1
  have l2:i < its2.toArray.size:=by rw [cz]; exact (cH.mp hv).1
  have l3:i < its3.toArray.size:=by rw [cz]; exact (cH.mp hr).1
  refine zKW (Draws.list hh i1 a na its1.toArray) (Draws.list hh i2 b nb its2.toArray) (Draws.list hh i3 c nc its3.toArray) Z t1 t2 t3 ⟨t4,p1.isList⟩ ⟨t5,p2.isList⟩ ⟨t6,p3.isList⟩ l1 l2 l3 ?_
  intro x' y' t' h1 tk px py pt z1 z2 z3 z4 z5 z8 z6 keep
  have ex:x'=u:=by
   have q:its1.toArray[i]? = some x':=px
   simp only [eZ] at q
   rw [hu] at q
   exact (Option.some.inj q).symm
  have ey:y'=v:=by
   have q:its2.toArray[i]? = some y':=py
   simp only [eZ] at q
   rw [hv] at q
   exact (Option.some.inj q).symm
  have et:t'=r:=by
   have q:its3.toArray[i]? = some t':=pt
   simp only [eZ] at q
   rw [hr] at q
   exact (Option.some.inj q).symm
  subst ex ey et
  refine ⟨_,rfl,wpAny_letOwnedTupleGo_zip (s:={ s with heap:=h1,toks:=tk }) z1 λh2 z7 sb=>?_⟩
  have zlt:z < s.heap.objs.size:=cA t1
  have keep2:∀ d o,d∉[z,TI,TO,i1,i2,i3]->s.heap.get? d=some o->h2.get? d=some o:=λd o hc e=>by
   simp only [cu,cW,or_false,not_or] at hc
   exact sb.extBut d o hc.1 (keep d o hc.1 hc.2.2.1 hc.2.2.2.1 hc.2.2.2.2.1 hc.2.2.2.2.2 e)
  have pT:xI h2 s.heap.objs.size x' y' t':=sb.extBut _ _ (eM zlt) z6
  have I':=I.turnT3 (h':=h2) (tk:=tk) (ch:=[z,TI,TO,i1,i2,i3]) (x:=x) (y:=y) (t:=t) hf keep2 (cD _) pT ru rv rt
  refine ⟨.ref s.heap.objs.size,_,I',rfl,⟨s.heap.objs.size,x,y,t,rfl,I.hok.fresh (cD _),rfl,λxs' q=>by rw [I.list_inj q hq1]; exact hx,λys' q=>by rw [I.list_inj q hq2]; exact hy,λzs' q=>by rw [I.list_inj q hq3]; exact ht⟩,
   ⟨z7,sb.extBut _ _ Z.zI z2,⟨_,_,_,sb.extBut _ _ Z.zO z3⟩,z4.1.extBut sb.extBut Z.z1,z5.1.extBut sb.extBut Z.z2,z8.1.extBut sb.extBut Z.z3⟩,λd hc=>?_⟩
  have:=(hf d hc).1
  rw [zc]
  ·exact this
  ·intro q
   obtain ⟨o,e,_⟩:∃ o,s.heap.get? d=some o/\True:=by
    simp only [cu,cW,or_false] at hc
    rcases hc with rfl | rfl | rfl | rfl | rfl | rfl
    ·exact ⟨_,t1,trivial⟩
    ·exact ⟨_,t2,trivial⟩
    ·exact ⟨_,t3,trivial⟩
    ·obtain ⟨o,e,_⟩:=t4; exact ⟨o,e,trivial⟩
    ·obtain ⟨o,e,_⟩:=t5; exact ⟨o,e,trivial⟩
    ·obtain ⟨o,e,_⟩:=t6; exact ⟨o,e,trivial⟩
   rw [q] at e
   exact absurd (cA e) (df _)
 done:=by
  intro X hP hw hK hc i pins s σ H E I hf ⟨t1,t2,⟨x0,y0,w0,t3⟩,t4,t5,t6⟩ hg
  subst hP hw hK
  obtain ⟨xs,ys,zs,hq1,hq2,hq3,e1,e2,e4,e3⟩:=hg
  obtain ⟨its1,rv1,p1,_⟩:=I.list hq1
  obtain ⟨its2,rv2,p2,_⟩:=I.list hq2
  obtain ⟨its3,rv3,p3,_⟩:=I.list hq3
  have hh:X.A.in1.handled=none:=I.ok.hd hc
  have n1:its1.toArray.size=xs.length:=by rw [cz]; exact rv1.length.symm
  have n2:its2.toArray.size=ys.length:=by rw [cz]; exact rv2.length.symm
  have n3:its3.toArray.size=zs.length:=by rw [cz]; exact rv3.length.symm
  refine zMj (Draws.list hh i1 a na its1.toArray) (Draws.list hh i2 b nb its2.toArray) (Draws.list hh i3 c nc its3.toArray) Z t1 t2 t3 ⟨t4,p1.isList⟩ ⟨t5,p2.isList⟩ ⟨t6,p3.isList⟩ (by omega) (by omega) (by omega) (by omega) ?_
  intro h1 tk keep
  refine ⟨rfl,I.turnN (h':=h1) (tk:=tk) (ch:=[z,TI,TO,i1,i2,i3]) hf λd o hc e=>?_⟩
  simp only [cu,cW,or_false,not_or] at hc
  exact keep d o hc.1 hc.2.2.1 hc.2.2.2.1 hc.2.2.2.2.1 hc.2.2.2.2.2 e
 self:=λ_ _ _ _ _ st h=>wpAny_pyIter_zip st.1 h
theorem Yl (n a b c:Nat) (la:a < n) (lb:b < n) (lc:c < n):Zt (n + 5) (n + 3) (n + 4) n (n + 1) (n + 2) [n,a] [n + 1,b] [n + 2,c]:=by
 have e:∀ x y:Nat,x≠y->(x:Addr)≠y:=λ_ _ h=>h
 constructor <;> first | exact e _ _ (by omega) | exact vd (by omega) (by omega)
section
variable {X:Cx} {es:List Expr} {kk:Nat} {tp:Pos}
noncomputable def Ym (K:b_) (ta:TA):TI:=λσ H R=>ta σ H λvs H1=>∃ a b c,vs=[.ref a,.ref b,.ref c]/\(∃ xs,zZ K H1 a xs)/\(∃ ys,zZ K H1 b ys)/\(∃ zs,zZ K H1 c zs)/\R (gC K a b c) H1
theorem zQb {a b c:V} {us:List Value} (h:zL [a,b,c] us):∃ u v r,us=[u,v,r]/\zS a u/\zS b v/\zS c r:=by
 cases h with
 | cons h1 h=>cases h with
  | cons h2 h=>cases h with
   | cons h3 h=>cases h; exact ⟨_,_,_,rfl,h1,h2,h3⟩
theorem zPV {e1 e2 e3:Expr} {ta:TA} {p pos:Pos} (hg:Gl X "zip") (hm:X.mg "zip" = none) (ha:PA X [e1,e2,e3] ta) (hs:starEach [e1,e2,e3] X.env=(false,eval e1 X.env) :: starEach [e2,e3] X.env:=by rfl) (hpl:(backTo pos (starEach [e2,e3] X.env)).any (·.1)=false:=by rfl) :
  PI X (.Tuple es kk tp) (.Call (.Name "zip" p) [e1,e2,e3] [] pos) (Ym X.K ta):=by
 intro pins s σ H R I h
 refine Call_ (qG I hg hm (show bootBuiltins "zip" = some (.type "zip") by decide +kernel) (PyProof.Rows.callWith_type1 (zp (ha pos pins s σ H _ I h) λus s1 ⟨vs,H1,I1,r1,q1⟩=>?_) hs hpl))
 obtain ⟨a,b,c,e,⟨xs,hx⟩,⟨ys,hy⟩,⟨zs,hz⟩,q⟩:=q1
 subst e
 obtain ⟨u,v,r,rfl,ru,rv,rr⟩:=zQb r1
 cases ru
 cases rv
 cases rr
 obtain ⟨its1,rv1,p1,_⟩:=I1.list hx
 obtain ⟨its2,rv2,p2,_⟩:=I1.list hy
 obtain ⟨its3,rv3,p3,_⟩:=I1.list hz
 have la:a < s1.heap.objs.size:=by obtain ⟨o,n,e,_⟩:=p1; exact cA e
 have lb:b < s1.heap.objs.size:=by obtain ⟨o,n,e,_⟩:=p2; exact cA e
 have lc:c < s1.heap.objs.size:=by obtain ⟨o,n,e,_⟩:=p3; exact cA e
 refine zMP p1.isList p2.isList p3.isList λh' z1 z2 z3 z4 z5 z6 keep=>wpAny_pyIter_zip z1 ?_
 have I2:zF X pins σ H1 { s1 with heap:=h' }:=I1.kept (t':=s1.toks) keep
 refine ⟨s1.heap.objs.size + 5,[s1.heap.objs.size + 5,s1.heap.objs.size + 3,s1.heap.objs.size + 4,s1.heap.objs.size,s1.heap.objs.size + 1,s1.heap.objs.size + 2],_,_,H1,rfl,I2,
  zKe (a:=a) (b:=b) (c:=c) (Yl _ _ _ _ la lb lc) (de la) (de (fe lb)) (de (fe (fe lc))),⟨z1,z2,⟨_,_,_,z3⟩,z4,z5,z6⟩,λd hc=>?_,q⟩
 have ge:s1.heap.objs.size<=d:=by
  simp only [cu,cW,or_false] at hc
  rcases hc with rfl | rfl | rfl | rfl | rfl | rfl
  ·exact dA _ 5
  ·exact dA _ 3
  ·exact dA _ 4
  ·exact cD _
  ·exact dA _ 1
  ·exact dA _ 2
 exact I1.fpOk ge (I1.hok.fresh ge)
end
end L2
namespace Pu
open PySem L2 Sh
variable [yX]
noncomputable abbrev Yn (x y t:D):D:=.tup [x,y,t]
noncomputable def v0:List D->List D->List D->List D
 | a :: as,b :: bs,c :: cs=>Yn a b c :: v0 as bs cs
 | _,_,_=>[]
theorem zN4:∀ (as bs cs:List D),(v0 as bs cs).length=min as.length (min bs.length cs.length)
 | [],_,_=>by simp [v0]
 | _ :: _,[],_=>by simp [v0]
 | _ :: _,_ :: _,[]=>by simp [v0]
 | _ :: as,_ :: bs,_ :: cs=>by
  show (v0 as bs cs).length + 1=_
  rw [zN4 as bs cs]
  simp only [cJ]
  omega
theorem zN5:∀ {as bs cs:List D} {i:Nat} {d:D},(v0 as bs cs)[i]? = some d->∃ a b c,as[i]? = some a/\bs[i]? = some b/\cs[i]? = some c/\d=Yn a b c
 | [],_,_,_,_,h=>by simp [v0] at h
 | _ :: _,[],_,_,_,h=>by simp [v0] at h
 | _ :: _,_ :: _,[],_,_,h=>by simp [v0] at h
 | a :: _,b :: _,c :: _,0,d,h=>⟨a,b,c,rfl,rfl,rfl,by cases h; rfl⟩
 | _ :: as,_ :: bs,_ :: cs,i + 1,d,h=>by
  obtain ⟨a,b,c,h1,h2,h3,e⟩:=zN5 (as:=as) (bs:=bs) (cs:=cs) (i:=i) (d:=d) h
  exact ⟨a,b,c,h1,h2,h3,e⟩
theorem zN3 {α β:Type} (u:α->D) (v:β->D):∀ (xs:List α) (ys:List β) (cs:List D),v0 (xs.map u) (ys.map v) cs=(xs.zip (ys.zip cs)).map λp=>Yn (u p.1) (v p.2.1) p.2.2
 | [],_,_=>rfl
 | _ :: _,[],_=>rfl
 | _ :: _,_ :: _,[]=>rfl
 | x :: xs,y :: ys,c :: cs=>by
  show Yn (u x) (v y) c :: v0 (xs.map u) (ys.map v) cs=_
  rw [zN3 u v xs ys cs]
  rfl
theorem zO6 {K:b_} {Z:Addr->Prop} {H:Hp} {a b c:Addr} {xs ys zs:List V} {ds es fs:List D} (h1:∀ Z' H',zM (zJ Z H) (zJ Z' H')->zZ K H' a xs) (h2:∀ Z' H',zM (zJ Z H) (zJ Z' H')->zZ K H' b ys) (h3:∀ Z' H',zM (zJ Z H) (zJ Z' H')->zZ K H' c zs) (hx:yH (zJ Z H) xs ds) (hy:yH (zJ Z H) ys es) (hz:yH (zJ Z H) zs fs) :
  Wk Z (gC K a b c) H (v0 ds es fs):=λi Z' H' s zd=>by
 have a1:=h1 Z' H' s
 have a2:=h2 Z' H' s
 have a3:=h3 Z' H' s
 have l1:=wI hx
 have l2:=wI hy
 have l3:=wI hz
 refine ⟨λd hd=>?_,λhi=>?_⟩
 ·obtain ⟨p,q,r,hp,hq,hr,rfl⟩:=zN5 hd
  obtain ⟨x,gx,kx⟩:=j2 hx hp
  obtain ⟨y,gy,ky⟩:=j2 hy hq
  obtain ⟨t,gt,kt⟩:=j2 hz hr
  refine ⟨⟨xs,ys,zs,x,y,t,a1,a2,a3,gx,gy,gt⟩,λv H'' ⟨T,x',y',t',ev,hT,eH,q1,q2,q3⟩=>?_⟩
  have:=q1 xs a1
  rw [gx] at this
  cases this
  have:=q2 ys a2
  rw [gy] at this
  cases this
  have:=q3 zs a3
  rw [gt] at this
  cases this
  subst ev
  subst eH
  exact ⟨wM hT _,Zx zd hT (.cons (kx.same s) (.cons (ky.same s) (.cons (kt.same s) .nil)))⟩
 ·rw [zN4] at hi
  exact ⟨xs,ys,zs,a1,a2,a3,by omega,by omega,by omega,by omega⟩
noncomputable def zQZ:List D->(List D->Prop)->Prop
 | [.lst ds,.lst es,.lst fs],R=>R (v0 ds es fs)
 | _,_=>False
theorem QP {H:Hp} {vs:List V} {d e f:D} (h:yH H vs [d,e,f]):∃ v w u,vs=[v,w,u]/\DV H v d/\DV H w e/\DV H u f:=by
 cases h with
 | cons h1 h=>cases h with
  | cons h2 h=>cases h with
   | cons h3 h=>cases h; exact ⟨_,_,_,rfl,h1,h2,h3⟩
theorem zM5 {X:Cx} {pl:yn} {e1 e2 e3:Expr} {pos:Pos} {ts:List Expr} {kk:Nat} {tp p:Pos} (hg:Gl X "zip") (hm:X.mg "zip" = none) (ha:PA X [e1,e2,e3] (wE pl)) (hs:starEach [e1,e2,e3] X.env=(false,eval e1 X.env) :: starEach [e2,e3] X.env:=by rfl) (hpl:(backTo pos (starEach [e2,e3] X.env)).any (·.1)=false:=by rfl) :
  PI X (.Tuple ts kk tp) (.Call (.Name "zip" p) [e1,e2,e3] [] pos) (jN (J0 zQZ pl)):=YO (zPV hg hm ha hs hpl) λσ H Q ⟨Z,Γ,R,E,h,q⟩=>
 ⟨Z,Γ,_,E,h,λds vs H1 hd s1 hv=>by
  unfold zQZ at hd
  split at hd
  ·obtain ⟨v,w,u,rfl,hx,hy,hz⟩:=QP hv
   obtain ⟨a,xs,rfl,ea,ha⟩:=hx.lst_inv
   obtain ⟨b,ys,rfl,eb,hb⟩:=hy.lst_inv
   obtain ⟨c,zs,rfl,ec,hc⟩:=hz.lst_inv
   exact ⟨a,b,c,rfl,⟨xs,zZ.of (zl _ _ ea)⟩,⟨ys,zZ.of (zl _ _ eb)⟩,⟨zs,zZ.of (zl _ _ ec)⟩,q _ _ H1 hd s1 (zO6 (λ_ _ s=>zZ.of (zl _ _ (s _ _ ea))) (λ_ _ s=>zZ.of (zl _ _ (s _ _ eb))) (λ_ _ s=>zZ.of (zl _ _ (s _ _ ec))) ha hb hc)⟩
  ·exact hd.elim⟩
end Pu
namespace Pu
open PySem L2 Sh
variable [yX]
noncomputable def zRk:FL
 | [.lst ds],R=>∃ ns:List Int,ds=ns.map D.int/\0 < ns.length/\∀ M,M∈ns->(∀ a∈ns,a<=M)->R (.int M)
 | _,_=>False
theorem zJf {K:b_}:ud (λxs H Q=>∃ (p:Addr) (ns:List Int),xs=[.ref p]/\zZ K H p (ns.map V.int)/\0 < ns.length/\∀ M,M∈ns->(∀ a∈ns,a<=M)->Q (.int M) H) zRk:=λZ H vs ds R Q zd hv h q=>by
 unfold zRk at h
 split at h
 ·obtain ⟨v,rfl,hw⟩:=xD hv
  obtain ⟨p,xs,rfl,e1,h1⟩:=hw.lst_inv
  obtain ⟨ns,rfl,l0,h⟩:=h
  cases Jh h1
  exact ⟨p,ns,rfl,zZ.of (zl _ _ e1),l0,λM m1 m2=>q _ _ H (h M m1 m2) (Sm.refl _) (.int _)⟩
 ·exact h.elim
end Pu
namespace L2
open PySem PySem.Spec PyProof.Rows
section
variable {X:Cx}
theorem zH1 (hc:X.calm=true):vD X (.builtin "max") (λxs H Q=>∃ (p:Addr) (ns:List Int),xs=[.ref p]/\zZ X.K H p (ns.map V.int)/\0 < ns.length/\∀ M,M∈ns->(∀ a∈ns,a<=M)->Q (.int M) H):=by
 intro pins s σ H xs us Q I r h
 obtain ⟨p,ns,rfl,hl,h0,q⟩:=h
 obtain ⟨u,rfl,rx⟩:=jW r
 obtain rfl:u=.ref p:=rx
 obtain ⟨its,rv,pl,hz⟩:=I.list hl
 have hi:∀ {xs:List Int} {ys:List Value},zL (xs.map V.int) ys->IntsAre ys xs:=by
  intro xs
  induction xs with
  | nil=>intro ys h; cases h; exact .nil
  | cons x xs ih=>
   intro ys h
   cases h with
   | cons h1 h2=>
    obtain ⟨t,rfl⟩:=h1
    exact .cons x t (ih h2)
 have hA:=hi rv
 obtain ⟨xs,e⟩:=hA.allInts.items
 have hns:ns=xs.toList.map (·.1):=by rw [<- hA.numsOf,<- nums_intItems,<- e]
 have hsz:0 < xs.size:=by
  have h3:=h0
  rw [hns,a_,ez] at h3
  exact h3
 have hl2:=pl.isList
 rw [e] at hl2
 refine max_intList (I.ok.hd hc) hl2 hsz λv h' tk hv hk=>?_
 obtain ⟨t,rfl⟩:=intItems_at hv
 obtain ⟨h1,h2⟩:=argBest_gt (numAt xs) (xs.size - 1)
 refine ⟨.int _,H,I.kept hk,⟨t,rfl⟩,q _ ?_ λa ha=>?_⟩
 ·rw [hns,numAt_eq]
  rw [cg,ck (by rw [a_,ez]; omega)]
  exact dN _
 ·rw [hns] at ha
  obtain ⟨j,hj,rfl⟩:=mem_getD ha
  rw [a_,ez] at hj
  have:=h2 j (by omega)
  rw [numAt_eq] at this
  exact this
end
end L2
namespace Pu
open PySem L2 Sh
variable [yX]
section
variable {X:Cx} {e a b c:Expr} {es:List Expr} {pos:Pos} {pa pb:yE} {pl:yn} {p:xH} {t:wf}
noncomputable def QQ:F2
 | d,.non,R=>R (.bool (match d with | .non=>true | _=>false))
 | _,_,_=>False
theorem zPn:wy (λx y H Q=>y=.non/\Q (.bl (decide (x=.non))) H) QQ:=λZ H x y a b R Q zd hx hy h q=>by
 unfold QQ at h
 split at h
 ·cases hy
  refine ⟨rfl,?_⟩
  cases hx <;> exact q _ _ H h (Sm.refl _) (.bool _)
 ·exact h.elim
theorem zK2 (ha:PE X a (tP pa)) (hb:PE X b (tP pb)):PT X (.Compare a [.Is] [b] pos) (xR (wX (wO QQ pa pb))):=qp L2.zRX zPn (ui _) ha hb
end
end Pu
namespace L2
open PySem PySem.Spec PyProof.Rows
theorem zNB {X:Cx} {ss:List Stmt}:yS X ss (λ_ _ _=>False):=λ_ _ _ _ _ _ h=>h.elim
end L2
namespace Pu
open PySem L2 Sh
variable [yX]
open PyProof.Rows (envOfC)
inductive j4 (F:Addr->List D->Prop) (vs:List V) (H:Hp) (Q:VK) (E:XK):Prop
 | mk (Z:Addr->Prop) (ds:List D) (C:Addr) (zd:ZL Z H) (hv:yH (zJ Z H) vs ds) (h:F C ds) (q:∀ H',Sm H H'->E (.ref C) none H'):j4 F vs H Q E
theorem zKm {ps:List Str} {F:Addr->List D->Prop} (len:∀ C ds,F C ds->ds.length=ps.length) (vs:List V) (H:Hp) (Q:VK) (E:XK):j4 F vs H Q E->vs.length=ps.length:=λ⟨_,ds,C,_,hv,h,_⟩=>by rw [wI hv]; exact len C ds h
theorem Wz {N ps:List Str} {Z:Addr->Prop} {H:Hp} {vs:List V} {ds:List D} (zd:ZL Z H) (hv:yH (zJ Z H) vs ds) (l:ds.length=ps.length):zr Z (ds.map Sl.sh++cv (N.length - ps.length) .no) (L2.we N vs) H:=by
 have e:L2.we N vs=vs.map some++cv (N.length - ps.length) none:=by
  unfold L2.we
  rw [wI hv,l]
 rw [e]
 exact QF zd hv _
theorem Yo {p:wf} {pl:yn} {u:TS} {C:Addr} {E:XK} {D0:yq} {σ:St} {H:Hp} {Z:Addr->Prop} {Γ:List Sl} (e:zr Z Γ σ H) (h:p Γ λc=>c=true) (ha:pl Γ λds=>ds.length<=1000) (q:∀ H',Sm H H'->E (.ref C) none H'):jS (qH (xR p) (jS (zOD C E (wE pl)) WD) u) WD D0 σ H:=
 ⟨Z,Γ,_,e,h,λc H1 hc s1=>by
  subst hc
  rw [if_pos rfl]
  exact ⟨Z,Γ,_,e.same s1,ha,λds vs H2 hd s2 hv=>⟨few (by rw [wI hv]; exact hd),q H2 (s1.trans s2)⟩⟩⟩
theorem zO8 {F:Addr->List D->Prop} {pl:yn} {E:XK} {D0:yq} {σ:St} {H:Hp} {Z:Addr->Prop} {Γ:List Sl} {C:Addr} {u:TS} (e:zr Z Γ σ H) (h:pl Γ λds=>F C ds) (q:∀ H',Sm H H'->E (.ref C) none H'):jS (gY (jX (j4 F) [] E (wE pl))) u D0 σ H:=
 ⟨Z,Γ,_,e,h,λds vs H1 hd s1 hv=>⟨Z,ds,C,(e.same s1).zd,by rw [dF]; exact hv,hd,λH2 s2=>q H2 (s1.trans s2)⟩⟩
end Pu
namespace Pu
open PySem L2 Sh
variable [yX]
open PyProof.Rows (envOfC)
noncomputable abbrev Yp (F:FL) (n:Nat):Prop:=∀ ds R,F ds R->ds.length=n
section
variable {P:Program} {w:World} {K:b_} {mg:Str->Option Value} {base:Heap} {x qual:Str} {st:Stmt} {f c C:Addr} {fd:FuncData} {dv:Value} {N ps:List Str} {p0:Str} {k:Nat} {F:FL}
theorem yI (Fu:zg K x qual st f fd) (S:zb N ps (zR st)) (hbody:∀ (cdv:Value) (A:Around) (outer:List Env) (s:Shared) (H:Hp) (E:XK),zX k (A.deeper (envOfC qual (zR st) s.heap.objs.size f cdv))->
   ∃ p,yS (zW zU P w K mg base N qual (zR st) f cdv A outer s H E).nox (xU st) (yb p)/\∀ ds R,F ds R->p { nx:=λ_=>R .non,rt:=R } (ds.map Sl.sh++cv (N.length - ps.length) .no)) (len:Yp F ps.length:=by intro _ _ h; repeat (first | exact congrArg dS h.1 | obtain ⟨_,h⟩:=h)):zE P w K mg base zU (k + 1) f fd ps (zG F):=okP Fu S len hbody
theorem Yq (Fu:xN K x qual st f fd dv) (S:zb N ps (zR st)) (hbody:∀ (cdv:Value) (A:Around) (outer:List Env) (s:Shared) (H:Hp) (E:XK),zX k (A.deeper (envOfC qual (zR st) s.heap.objs.size f cdv))->
   ∃ p,yS (zW zU P w K mg base N qual (zR st) f cdv A outer s H E).nox (xU st) (yb p)/\∀ ds R,F ds R->p { nx:=λ_=>R .non,rt:=R } (ds.map Sl.sh++cv (N.length - ps.length) .no)) (len:Yp F ps.length:=by intro _ _ h; repeat (first | exact congrArg dS h.1 | obtain ⟨_,h⟩:=h)):zE P w K mg base zU (k + 1) f fd ps (zG F):=QG Fu S len hbody
end
section
variable {X:Cx} {a b e:Expr} {es:List Expr} {pos pos':Pos} {pa pb:yE} {pl:yn} {x:Str}
theorem zP (ha:PE X a (tP pa)) (hb:PE X b (tP pb)) (hs:WM b:=by exact λ_ _=>rfl):PE X (.Subscript a b pos) (tP (wO gw pa pb)):=YD ha hb hs
theorem zw (i:Nat) (hN:X.N.Nodup) (he:PE X e (tP pa)) (hi:X.N[i]? = some x:=by rfl) (hx:uh X.env.scope x:=by first | exact Or.inl rfl | exact Or.inr rfl) (hs:swapsWith e (some (.Name x pos')) pos.line X.env=pure false:=by rfl) (hf:X.fn x=true\/X.env.scope.names.lookup x=some .local:=by first | exact .inl rfl | exact .inr rfl | assumption):PS X (.Assign [.Name x pos'] e pos) (yb (qy i pa)):=zPN i hN hi hx he hs hf
theorem zy (i:Nat) (hN:X.N.Nodup) (hi:X.N[i]? = some x:=by rfl) (hx:uh X.env.scope x:=by first | exact Or.inl rfl | exact Or.inr rfl) (hf:X.fn x=true\/X.env.scope.names.lookup x=some .local:=by first | exact .inl rfl | exact .inr rfl | assumption):PG X (.Name x pos) (tG [i] Jw):=zM6 i hN hi hx hf
theorem yF {js:List Nat} {po:List D->Option (List D)} {n:Nat} (i:Nat) (hN:X.N.Nodup) (h:gz X es js po n) (hi:X.N[i]? = some x:=by rfl) (hx:uh X.env.scope x:=by first | exact Or.inl rfl | exact Or.inr rfl)
  (hs:(assignEach (.Name x pos :: es) X.env).map (·.2)=assign (.Name x pos) X.env :: (assignEach es X.env).map (·.2):=by rfl) (hf:X.fn x=true\/X.env.scope.names.lookup x=some .local:=by first | exact .inl rfl | exact .inr rfl | assumption):gz X (.Name x pos :: es) (i :: js) (Jx po) (n + 1):=zK4 i hN hi hx h hs hf
theorem yA (l:List Str) (h:l.Nodup:=by decide +kernel):l.Nodup:=h
theorem yN {scope S:Scope} {own N ps:List Str} {caps:List (Nat × Str)} (_:zb N ps S) (k:scope.kind=.function:=by rfl) (nd:(scope.names.map (·.1)).Nodup:=by decide +kernel) (hS:X.env.scope=S:=by rfl) (hc:∃ n,X.env.cells=cellsFrom n S.names []:=by first | exact ⟨0,rfl⟩ | exact ⟨_,rfl⟩) (hN:X.N=N:=by rfl) (fr:scope.names.all (λy=>y.2 != .free || S.names.lookup y.1 == some .cell)=true:=by decide +kernel)
  (cp:caps.all (λp=>N[p.1]? == some p.2 && scope.names.lookup p.2 == some .free && S.names.lookup p.2 == some .cell)=true:=by decide +kernel):uM X scope own caps:=zNz k nd hS hc hN fr cp
theorem W0 {Y:Cx} {scope S:Scope} {own own0:List Str} {caps caps0:List (Nat × Str)} {C:Addr} {s₀:Shared} {H₀:Hp} {ex:List Addr} (k:scope.kind=.function:=by rfl) (nd:(scope.names.map (·.1)).Nodup:=by decide +kernel)
  (ndS:(S.names.map (·.1)).Nodup:=by decide +kernel) (fr:scope.names.all (λy=>y.2 != .free || S.names.lookup y.1 == some .cell || S.names.lookup y.1 == some .free)=true:=by decide +kernel)
  (cp:caps.all (λp=>(zk own0 caps0)[p.1]? == some p.2 && scope.names.lookup p.2 == some .free)=true:=by decide +kernel):uM (xA Y S (zk own0 caps0) C s₀ H₀ ex) scope own caps:=zSW k nd ndS fr cp
end
end Pu
namespace Pu
open PySem L2 Sh
variable [yX]
section
variable {X:Cx} {a b e:Expr} {pos:Pos} {pa pb:yE}
noncomputable def eqG (neg:Bool):F2:=λa b R=>a.pl 50=true/\b.pl 50=true/\R (.bool (neg != eU a.py b.py))
theorem zPk {K:b_}:wy (λx y H Q=>∃ d e:PyData,Dp K H x d/\Dp K H y e/\d.canLay0=true/\e.canLay0=true/\d.depth<=60/\e.depth<=60/\Q (.bl (!PyData.eqv d e)) H) (eqG true):=λZ H x y a b R Q zd hx hy ⟨h1,h2,h⟩ q=>by
 have d1:=uQ _ _ h1
 have d2:=uQ _ _ h2
 have e1:=d1.dep
 have e2:=d2.dep
 refine ⟨_,_,d1.dp K H _ (hx.same zl),d2.dp K H _ (hy.same zl),d1.lay,d2.lay,by omega,by omega,q _ _ H ?_ (Sm.refl _) (.bool _)⟩
 rw [Bool.true_bne] at h
 exact h
theorem zPM (hu:X.A.units + 64 < cLine) (ha:PE X a (tP pa)) (hb:PE X b (tP pb)):PT X (.Compare a [.NotEq] [b] pos) (xR (wX (wO (eqG true) pa pb))):=qp (zOa hu) zPk (ui _) ha hb
end
noncomputable def Yr (K:b_) (Cb:Addr) (F:Addr->List D->Prop) (pl:yn) (p:xH):xH:=λD Γ=>pl Γ λds=>∃ C,F C ds/\iV K (.ref C) (.ref Cb)=some true/\p D Γ
theorem zO9 {K:b_} {Cb:Addr} {F:Addr->List D->Prop} {pl:yn} {p:xH} (D:yq) (σ:St) (H:Hp):yb (Yr K Cb F pl p) D σ H->zQj K Cb (λ(ES:St->XK) (D:yq) (σ:St) (H:Hp)=>jX (j4 F) [] (ES σ) (wE pl) σ H λ_ H1=>D.nx σ H1) (yb p) D σ H:=λ⟨Z0,H0,Z,Γ,Dp,E,h,nx,rt,bk,ct⟩=>
 ⟨Z,Γ,_,E.e,h,λds vs H1 ⟨C,hF,hx,hp⟩ s1 hv=>⟨Z,ds,C,(E.e.same s1).zd,by rw [dF]; exact hv,hF,λH2 s2=>⟨C,rfl,hx,λe he=>by
  have s3:=(s1.trans s2).trans (wM he (qc e C))
  exact ⟨Z0,H0,Z,Γ,Dp,E.mv s3,hp,λZ' Γ' σ' H' E' s'=>nx Z' Γ' σ' H' E' ((yt s3).trans s'),rt,λZ' Γ' σ' H' E' s'=>bk Z' Γ' σ' H' E' ((yt s3).trans s'),λZ' Γ' σ' H' E' s'=>ct Z' Γ' σ' H' E' ((yt s3).trans s')⟩⟩⟩⟩
end Pu
namespace L2
open PySem PySem.Spec PyProof.Rows
theorem zF.retold {X:Cx} {pins:List (Addr × Obj)} {σ:St} {H H2:Hp} {s:Shared} (I:zF X pins σ H s) (n:∀ a,H a=none->H2 a=none) (tups:∀ b xs,H b=some (.tup xs)->H2 b=some (.tup xs)) (frzs:∀ b o u,X.H₀ b=some (.frz o u)->H2 b=some (.frz o u)) (tbls:∀ b ps,H b=some (.tbl ps)->H2 b=some (.tbl ps)) (ok:yy X.prog X.w H2 s.heap):zF X pins σ H2 s:=
 ⟨I.ok,I.os,I.bare,⟨I.base.keep,I.base.slot,λb o e k x=>n b (I.base.free b o e k x),I.base.there,λb xs e=>tups b xs (I.base.tups b xs e),frzs,λb ps e=>let ⟨m,q⟩:=I.base.tbls b ps e; ⟨m,tbls b _ q⟩⟩,I.loc,I.cell,n _ I.free,λx c e=>n _ (I.freeC x c e),λp hp=>let ⟨a,b,c⟩:=I.pin p hp; ⟨a,n _ b,c⟩,ok,I.len⟩
structure Fz (H H2:Hp):Prop where
 l:∀ a xs,H a=some (.lst xs)->∃ o,H2 a=some (.frz o (.lst xs))
 o:∀ a,(∀ xs,H a≠some (.lst xs))->H2 a=H a
noncomputable def gD (h:Heap) (H:Hp):Hp:=λa=>match H a with
 | some (.lst xs)=>(h.get? a).map λo=>.frz o (.lst xs)
 | x=>x
theorem QR {h:Heap} {H:Hp} {a:Addr} (n:∀ xs,H a≠some (.lst xs)):gD h H a=H a:=by
 unfold gD
 split
 ·rename_i xs e; exact absurd e (n xs)
 ·rfl
theorem Ys {P:Program} {w:World} {H:Hp} {h:Heap} (ok:yy P w H h):Fz H (gD h H)/\yy P w (gD h H) h:=by
 have at_:∀ a xs,H a=some (.lst xs)->∃ o,h.get? a=some o/\gD h H a=some (.frz o (.lst xs)):=λa xs e=>by
  obtain ⟨_,its,n,_,g⟩:=ok a _ e
  refine ⟨_,g,?_⟩
  unfold gD
  rw [e]
  show (h.get? a).map _=_
  rw [g]
  rfl
 have oth:∀ {a o},H a=some o->(∀ xs,o≠.lst xs)->gD h H a=some o:=λe n=>(QR λxs z=>by rw [e] at z; exact n xs (Option.some.inj z)).trans e
 refine ⟨⟨λa xs e=>let ⟨o,_,q⟩:=at_ a xs e; ⟨o,q⟩,λa n=>QR n⟩,λa u q=>?_⟩
 by_cases c:∃ xs,H a=some (.lst xs)
 ·obtain ⟨xs,e⟩:=c
  obtain ⟨o,g,q2⟩:=at_ a xs e
  rw [q2] at q
  cases q
  exact ⟨g,ok a _ e⟩
 ·rw [QR λxs e=>c ⟨xs,e⟩] at q
  exact (ok a u q).stay (λ_ _ _ z=>z) (λb z=>oth z λxs y=>nomatch y) λb xs z=>oth z λys y=>nomatch y
theorem kD {X:Cx} {ss:List Stmt} {t:TS} (h:yS X ss t):yS X ss (λD σ H=>∀ H2,Fz H H2->t D σ H2):=λpins s σ H D I k=>by
 obtain ⟨f,ok⟩:=Ys I.hok
 refine h pins s σ _ D (I.retold (λa n=>(f.o a λxs z=>by rw [n] at z; cases z).trans n) (λb xs e=>(f.o b λys z=>by rw [e] at z; cases z).trans e) (λb o u e=>?_) (λb ps e=>(f.o b λys z=>by rw [e] at z; cases z).trans e) ok) (k _ f)
 have e:=I.base.frzs b o u e
 exact (f.o b λys z=>by rw [e] at z; cases z).trans e
open Classical in
noncomputable def wJ (T:Addr->Prop) (H:Hp):Hp:=λa=>match H a with
 | some (.frz o (.lst xs))=>if T a then some (.lst xs) else some (.frz o (.lst xs))
 | x=>x
theorem gE {T:Addr->Prop} {H:Hp} {a:Addr} {o:Obj} {xs:List V} (n:T a) (e:H a=some (.frz o (.lst xs))):wJ T H a=some (.lst xs):=by
 unfold wJ
 rw [e]
 exact if_pos n
theorem Yt {T:Addr->Prop} {H:Hp} {a:Addr} (n:¬ T a):wJ T H a=H a:=by
 unfold wJ
 split
 ·rename_i o xs e
  rw [if_neg n,e]
 ·rfl
theorem jf {T:Addr->Prop} {H:Hp} {a:Addr} (n:∀ o xs,H a≠some (.frz o (.lst xs))):wJ T H a=H a:=by
 unfold wJ
 split
 ·rename_i o xs e
  exact absurd e (n o xs)
 ·rfl
end L2
namespace Pu
open PySem L2 Sh
variable [yX]
mutual
noncomputable def zT:D->D
 | .lst ds=>.frz (ze ds)
 | .tup ds=>.tup (ze ds)
 | .frz ds=>.frz (ze ds)
 | .obj c ns ds=>.obj c ns (ze ds)
 | .int i=>.int i
 | .bool i=>.bool i
 | .non=>.non
 | .str i=>.str i
noncomputable def ze:List D->List D
 | []=>[]
 | d :: ds=>zT d :: ze ds
end
theorem vU:∀ ds:List D,ze ds=ds.map zT
 | []=>by simp [ze]
 | d :: ds=>by simp [ze,vU ds]
theorem DV.fz {Z:Addr->Prop} {H H2:Hp} (f:Fz H H2):∀ {v:V} {d:D},DV (zJ Z H) v d->DV (zJ Z H2) v (zT d)
 | _,_,.int i=>by rw [zT]; exact .int i
 | _,_,.bool b=>by rw [zT]; exact .bool b
 | _,_,.non=>by rw [zT]; exact .non
 | _,_,.str x=>by rw [zT]; exact .str x
 | _,_,.frz (a:=a) e h=>by
  rw [zT]
  refine .frz ?_ (go f h)
  obtain ⟨o,e⟩:=e
  obtain ⟨k1,k2⟩:=vf e
  exact ⟨o,xb k1 ((f.o a λys z=>by rw [k2] at z; cases z).trans k2)⟩
 | _,_,.lst e h=>by
  rw [zT]
  obtain ⟨k1,k2⟩:=vf e
  obtain ⟨o,q⟩:=f.l _ _ k2
  exact .frz ⟨o,xb k1 q⟩ (go f h)
 | _,_,.tup (a:=a) e h=>by
  rw [zT]
  obtain ⟨k1,k2⟩:=vf e
  exact .tup (xb k1 ((f.o a λys z=>by rw [k2] at z; cases z).trans k2)) (go f h)
 | _,_,.obj (o:=a) e l h=>by
  rw [zT]
  obtain ⟨k1,k2⟩:=vf e
  exact .obj (xb k1 ((f.o a λys z=>by rw [k2] at z; cases z).trans k2)) l (go f h)
where
 go {Z:Addr->Prop} {H H2:Hp} (f:Fz H H2):∀ {xs:List V} {ds:List D},Paired (DV (zJ Z H)) xs ds->Paired (DV (zJ Z H2)) xs (ze ds)
  | _,_,.nil=>by rw [ze]; exact .nil
  | _,_,.cons h t=>by rw [ze]; exact .cons (DV.fz f h) (go f t)
end Pu
namespace K56
open PySem L2 Sh Pu
noncomputable def zn (i:Nat):Stmt:=PySem.Challenge.pw_steadyhand_k56_papers_of_rooms_as_told.main.body.getD i (.Pass ⟨0,0,0,0⟩)
structure Bl (mg:Str->Option Value):Prop where
 isinstance_:mg "isinstance" = none
 int_:mg "int" = none
 bool_:mg "bool" = none
 tuple_:mg "tuple" = none
 len_:mg "len" = none
 all_:mg "all" = none
 list_:mg "list" = none
 range_:mg "range" = none
 zip_:mg "zip" = none
 sum_:mg "sum" = none
 max_:mg "max" = none
 enumerate_:mg "enumerate" = none
 min_:mg "min" = none
 MOST_NUMBERS_:∃ t,mg "MOST_NUMBERS" = some (.int 3 t)
 MOST_PUSHES_:∃ t,mg "MOST_PUSHES" = some (.int 6 t)
 MOST_MODES_:∃ t,mg "MOST_MODES" = some (.int 40 t)
structure zMd (K:b_) (C:Addr):Prop where
 no:True
structure zIE (K:b_) (C:Addr):Prop where
 n_start:yw K C "start"
 n_rows:yw K C "rows"
 n_turn:yw K C "turn"
structure zMc (K:b_) (C:Addr):Prop where
 n_start:yw K C "start"
 n_goal:yw K C "goal"
 n_turns:yw K C "turns"
structure zO4 (K:b_) (C:Addr):Prop where
 n_rows:yw K C "rows"
 n_nexts:yw K C "nexts"
 n_steer:yw K C "steer"
 n_push:yw K C "push"
 n_add:yw K C "add"
 n_divisor:yw K C "divisor"
structure zMY (K:b_) (C:Addr):Prop where
 n_many:yw K C "many"
 n_kept_pushes:yw K C "kept_pushes"
 n_kept_modes:yw K C "kept_modes"
structure zMa (K:b_) (C:Addr):Prop where
 no:True
structure zMZ (K:b_) (C:Addr):Prop where
 n_rooms:yw K C "rooms"
 n_back:yw K C "back"
 n_starts:yw K C "starts"
 n_steps:yw K C "steps"
 n_stays:yw K C "stays"
structure zMb (K:b_) (C:Addr):Prop where
 n_room:yw K C "room"
 n_starts:yw K C "starts"
 n_steps:yw K C "steps"
 n_measure:yw K C "measure"
 n_step:yw K C "step"
 n_top:yw K C "top"
 n_falls:yw K C "falls"
 n_floors:yw K C "floors"
 n_tops:yw K C "tops"
structure qZ (K:b_) (aRooms aPaper aSettles aClaim:Addr):Prop where
 k_Rooms_Paper:cO K (.ref aRooms) (.ref aPaper)=some true
 k_Settles_Claim:cO K (.ref aSettles) (.ref aClaim)=some true
variable [iT:yX]
inductive Fw:Nat->D->Prop
 | int {k:Nat} (i:Int):Fw (k + 1) (.int i)
 | bool {k:Nat} (b:Bool):Fw (k + 1) (.bool b)
 | non {k:Nat}:Fw (k + 1) .non
 | str {k:Nat} (x:Str):Fw (k + 1) (.str x)
 | lst {k:Nat} {ds:List D} (l:ds.length<=900) (h:∀ d∈ds,Fw k d):Fw (k + 1) (.lst ds)
 | tup {k:Nat} {ds:List D} (l:ds.length<=900) (h:∀ d∈ds,Fw k d):Fw (k + 1) (.tup ds)
theorem Fw.no {k:Nat} {d:D} (h:Fw k d):d.isObj=false:=by cases h <;> rfl
theorem Fw.lst_inv {k:Nat} {d:D} (h:Fw k d) (e:d.isLst=true):∃ ds,d=.lst ds/\ds.length<=900/\∃ j,k=j + 1/\∀ d∈ds,Fw j d:=by
 cases h with
 | lst l h=>exact ⟨_,rfl,l,_,rfl,h⟩
 | _=>cases e
theorem Fw.tup_inv {k:Nat} {d:D} (h:Fw k d) (e:d.isTup=true):∃ ds,d=.tup ds/\ds.length<=900/\∃ j,k=j + 1/\∀ d∈ds,Fw j d:=by
 cases h with
 | tup l h=>exact ⟨_,rfl,l,_,rfl,h⟩
 | _=>cases e
theorem zLy {k:Nat} {ns:List Int}:∀ d∈ns.map D.int,Fw (k + 1) d:=λd m=>by
 obtain ⟨i,_,rfl⟩:=cr.mp m
 exact .int i
theorem k0 {n:Nat} (h:n.ble 1000=true:=by rfl):n<=1000:=Nat.le_of_ble_eq_true h
theorem bR {R:D->Prop} {a b:Bool} (q:R (.bool a)) (e:a=b):R (.bool b):=e ▸ q
noncomputable def uT (d:D):Bool:=d.isInt && !d.isBool
noncomputable def W1 (n:Int):D->Bool
 | .lst ds=>decide ((ds.length:Int)=n) && ds.all uT
 | _=>false
noncomputable def Yu (h w:Int):D->Bool
 | .lst ds=>decide ((ds.length:Int)=h) && ds.all (W1 w)
 | _=>false
noncomputable def vN (n:Int):D->Bool
 | .tup ds=>decide ((ds.length:Int)=n + 1) && ds.all uT
 | _=>false
noncomputable def kF (n:Int):D->Bool
 | .lst ds=>ds.all (vN n)
 | _=>false
theorem v7 {α:Type} (f:α->Bool) (xs:List α):(xs.map f).all id=xs.all f:=by rw [List.all_map]; rfl
noncomputable def gF:FL:=λds R=>∃ d,ds=[d]/\d.isObj=false/\R (.bool (uT d))
noncomputable def QS:FL:=λds R=>∃ d n k,ds=[d,.int n]/\Fw k d/\R (.bool (W1 n d))
noncomputable def Yv:FL:=λds R=>∃ d h w k,ds=[d,.int h,.int w]/\Fw k d/\R (.bool (Yu h w d))
noncomputable def Yx:FL:=λds R=>∃ d n k,ds=[d,.int n]/\Fw k d/\R (.bool (vN n d))
noncomputable def W2:FL:=λds R=>∃ d n k,ds=[d,.int n]/\Fw k d/\R (.bool (kF n d))
mutual
noncomputable def y4:D->D
 | .lst ds=>.lst (wu ds)
 | .tup ds=>.tup (wu ds)
 | .frz ds=>.lst (wu ds)
 | .obj c ns ds=>.obj c ns (wu ds)
 | .int i=>.int i
 | .bool i=>.bool i
 | .non=>.non
 | .str i=>.str i
noncomputable def wu:List D->List D
 | []=>[]
 | d :: ds=>y4 d :: wu ds
end
theorem kG:∀ ds:List D,wu ds=ds.map y4
 | []=>by simp [wu]
 | d :: ds=>by simp [wu,kG ds]
inductive Fq:Nat->D->Prop
 | int {k:Nat} (i:Int):Fq (k + 1) (.int i)
 | bool {k:Nat} (b:Bool):Fq (k + 1) (.bool b)
 | non {k:Nat}:Fq (k + 1) .non
 | str {k:Nat} (x:Str):Fq (k + 1) (.str x)
 | lst {k:Nat} {ds:List D} (l:ds.length<=900) (h:∀ d∈ds,Fq (k + 1) d):Fq (k + 1 + 1) (.lst ds)
 | frz {k:Nat} {ds:List D} (l:ds.length<=900) (h:∀ d∈ds,Fq (k + 1) d):Fq (k + 1 + 1) (.frz ds)
 | tup {k:Nat} {ds:List D} (l:ds.length<=900) (h:∀ d∈ds,Fq (k + 1) d):Fq (k + 1 + 1) (.tup ds)
theorem j5 {α:Type} {f:α->α} {l:List α} (h:∀ x∈l,f x=x):l.map f=l:=(cN h).trans (e_ _)
theorem Fw.cp {k:Nat} {d:D} (h:Fw k d):Fq (k + 1) d/\y4 d=d:=by
 induction h with
 | int i=>exact ⟨.int i,by rw [y4]⟩
 | bool i=>exact ⟨.bool i,by rw [y4]⟩
 | non=>exact ⟨.non,by rw [y4]⟩
 | str i=>exact ⟨.str i,by rw [y4]⟩
 | lst l _ ih=>exact ⟨.lst l λd hd=>(ih d hd).1,by rw [y4,kG,j5 λd hd=>(ih d hd).2]⟩
 | tup l _ ih=>exact ⟨.tup l λd hd=>(ih d hd).1,by rw [y4,kG,j5 λd hd=>(ih d hd).2]⟩
theorem Fw.fz {k:Nat} {d:D} (h:Fw k d):Fq (k + 1) (zT d)/\y4 (zT d)=d:=by
 have key:∀ {k:Nat} {ds:List D},(∀ d∈ds,Fq (k + 1) (zT d)/\y4 (zT d)=d)->(∀ d∈ds.map zT,Fq (k + 1) d)/\(ds.map zT).map y4=ds:=λih=>⟨λe he=>by
  obtain ⟨d,hd,rfl⟩:=cr.mp he
  exact (ih d hd).1,by rw [cw]; exact j5 λd hd=>(ih d hd).2⟩
 induction h with
 | int i=>rw [zT]; exact ⟨.int i,by rw [y4]⟩
 | bool i=>rw [zT]; exact ⟨.bool i,by rw [y4]⟩
 | non=>rw [zT]; exact ⟨.non,by rw [y4]⟩
 | str i=>rw [zT]; exact ⟨.str i,by rw [y4]⟩
 | lst l _ ih=>rw [zT,vU]; exact ⟨.frz (by rw [a_]; exact l) (key ih).1,by rw [y4,kG,(key ih).2]⟩
 | tup l _ ih=>rw [zT,vU]; exact ⟨.tup (by rw [a_]; exact l) (key ih).1,by rw [y4,kG,(key ih).2]⟩
theorem Fq.no {k:Nat} {d:D} (h:Fq k d):d.isObj=false:=by cases h <;> rfl
noncomputable def j6 (j:Nat):FL:=λds R=>∃ d n,ds=[d,.int n]/\Fq j d/\(j:Int)<=n + 1/\R (y4 d)
noncomputable def zSD:FL:=λds R=>∃ p w n:Int,ds=[.int p,.int w,.int n]/\0<=w/\w<=900/\R (L (ya p w.toNat n))
noncomputable def IS (d:D) (ns:List Int):Prop:=d=L ns\/d=U ns
theorem IS.seq {d:D} {ns:List Int} (h:IS d ns) {R:List D->Prop} (q:R (ns.map D.int)):uv d R:=by
 rcases h with rfl | rfl
 ·exact q
 ·exact q
noncomputable def zL4:FL:=λds R=>∃ (f:Int) (d:D) (ns:List Int),ds=[.int f,d]/\IS d ns/\ns.length<=900/\Bd 9000 f/\(∀ x∈ns,Bd 9000 x)/\R (L (ns.map (f * ·)))
noncomputable def zL5:FL:=λds R=>∃ (d e:D) (ns os:List Int),ds=[d,e]/\IS d ns/\IS e os/\ns.length<=900/\(∀ x∈ns,Bd 9000 x)/\(∀ x∈os,Bd 9000 x)/\R (.int (xB ns os))
theorem zIy:∀ ns os:List Int,dh y3 (ns.map D.int) (os.map D.int)=(ns.zip os).map λq=>y3 (.int q.1) (.int q.2)
 | [],_=>rfl
 | _ :: _,[]=>rfl
 | _ :: ns,_ :: os=>by rw [cT,cT,fV,zIy ns os]; rfl
theorem IS.zip {d e:D} {ns os:List Int} (h:IS d ns) (k:IS e os) {R:List D->Prop} (q:R ((ns.zip os).map λq=>y3 (.int q.1) (.int q.2))):uS [d,e] R:=by
 rw [<- zIy] at q
 rcases h with rfl | rfl <;> rcases k with rfl | rfl <;> exact q
theorem Yy {qs:List (Int × Int)} {G:D->(D->Prop)->Prop} {R:D->Prop} (g:Int × Int->Int) (few:qs.length<=1000) (h:∀ q,q∈qs->G (y3 (.int q.1) (.int q.2)) λe=>e=.int (g q)) (k:R (.lst ((qs.map g).map D.int))):zi (qs.map λq=>y3 (.int q.1) (.int q.2)) G R:=
 zi.map (λd=>match d with | .tup [x,y]=>.int (g (zv x,zv y)) | _=>.non) (by rw [a_]; exact few) (λd m=>by
  obtain ⟨q,hq,rfl⟩:=cr.mp m
  exact h q hq) (by rw [cw] at k |-; exact k)
theorem zI5:∀ ns os:List Int,((ns.zip os).map λq=>q.1 * q.2).sum=xB ns os
 | [],_=>rfl
 | _ :: _,[]=>rfl
 | n :: ns,o :: os=>by rw [i9,cT,iA,zI5 ns os]; rfl
noncomputable abbrev Tb (t:List (List Int)):D:=.lst (t.map L)
noncomputable abbrev Rm (t:List (List Int)):D:=.lst (t.map U)
noncomputable def yC:D->List Int
 | .lst ds=>ds.map zv
 | .tup ds=>ds.map zv
 | _=>[]
theorem kH (ns:List Int):(ns.map D.int).map zv=ns:=by rw [cw]; exact e_ _
theorem W3 (ns:List Int):yC (L ns)=ns:=kH ns
theorem jO (ns:List Int):yC (U ns)=ns:=kH ns
theorem wv {α:Type} {xs:List α} {G:D->(D->Prop)->Prop} {R:D->Prop} (u:α->D) (v:D->α) (hv:∀ x,v (u x)=x) (g:α->D) (few:xs.length<=1000) (h:∀ x,x∈xs->G (u x) λe=>e=g x) (q:R (.lst (xs.map g))):zi (xs.map u) G R:=
 zi.map (λd=>g (v d)) (by rw [a_]; exact few) (λd m=>by
  obtain ⟨x,hx,rfl⟩:=cr.mp m
  rw [hv]
  exact h x hx) (by
  rw [cw,show ((λd=>g (v d)) ∘ u)=g from funext λx=>congrArg g (hv x)]
  exact q)
noncomputable def IT (e:D) (ls:List (List Int)):Prop:=e=Tb ls\/e=Rm ls
theorem zKS {α:Type} (u:α->D):∀ (ns:List Int) (ls:List α),dh y3 (ns.map D.int) (ls.map u)=(ns.zip ls).map λq=>y3 (.int q.1) (u q.2)
 | [],_=>rfl
 | _ :: _,[]=>rfl
 | _ :: ns,_ :: ls=>by rw [cT,cT,fV,zKS u ns ls]; rfl
noncomputable def v2 (d:D):Int × List Int:=match d with
 | .tup [x,y]=>(zv x,yC y)
 | _=>(0,[])
theorem xE {ns:List Int} {j:Nat} (h:j < ns.length) {i:Int} (e:i=(j:Int)):yx (ns.map D.int) i=some (.int (ns.getD j 0)):=by
 rw [qq,e]
 unfold yx vp
 rw [if_pos (by omega),if_pos (by omega)]
 show iv D.int ns[((j:Nat):Int).toNat]? = _
 rw [show ((j:Nat):Int).toNat=j by omega,ck h,cg,ck h]
 rfl
theorem IS.zipT {d e:D} {ns:List Int} {ls:List (List Int)} (h:IS d ns) (k:IT e ls) {R:List D->Prop} (q:∀ u:List Int->D,u=L\/u=U->R ((ns.zip ls).map λq=>y3 (.int q.1) (u q.2))):uS [d,e] R:=by
 have q1:=q L (.inl rfl)
 have q2:=q U (.inr rfl)
 rw [<- zKS] at q1 q2
 rcases h with rfl | rfl <;> rcases k with rfl | rfl <;> first | exact q1 | exact q2
theorem Yz {u:List Int->D} (hu:u=L\/u=U) (q:Int × List Int):v2 (y3 (.int q.1) (u q.2))=q:=by
 rcases hu with rfl | rfl
 ·show (q.1,yC (L q.2))=q
  rw [W3]
 ·show (q.1,yC (U q.2))=q
  rw [jO]
noncomputable def QT:FL:=λds R=>∃ (d e:D) (ns:List Int) (ls:List (List Int)) (w:Nat),ds=[d,e,.int (w:Int)]/\IS d ns/\IT e ls/\w<=900/\ns.length<=900/\(∀ x∈ns,Bd 9000 x)/\(∀ r∈ls,w<=r.length/\∀ x∈r,Bd 9000 x)/\R (L ((cR w).map (zm ns ls)))
noncomputable def zL2:FL:=λds R=>∃ p w n b:Int,ds=[.int p,.int w,.int n,.int b]/\0<=w/\w<=900/\R (U (ya p w.toNat n++[b]))
theorem jg {e:Nat} {r:List Int} (h:∀ x∈r,Bd e x) (j:Nat):Bd e (r.getD j 0):=by
 rw [cg]
 cases hj:r[j]? with
 | none=>show (0:Int).natAbs < 2 ^ e; exact h_ e
 | some x=>exact h x (cY hj)
noncomputable abbrev zOe:List Str:=["rows","nexts","steer","push","add","divisor"]
noncomputable abbrev zPC:List Str:=["many","kept_pushes","kept_modes"]
noncomputable abbrev v8 (C:Addr) (m:MD):D:=.obj C zOe [Rm m.rows,Tb m.nexts,L m.steer,Tb m.push,L m.add,.int m.div]
noncomputable abbrev zz (b:Int × Int):D:=.tup [.int b.1,.int b.2]
noncomputable abbrev uA (C CM:Addr) (n:Nat) (bs:List (Int × Int)) (ms:List MD):D:=.obj C zPC [.int (n:Int),.lst (bs.map zz),.lst (ms.map (v8 CM))]
theorem uz {k:Nat} {ns:List Int} (h:ns.length<=900):Fw (k + 2) (L ns):=.lst (by rw [a_]; exact h) zLy
theorem Y0 {k:Nat} {ns:List Int} (h:ns.length<=900):Fw (k + 2) (U ns):=.tup (by rw [a_]; exact h) zLy
theorem W4 {k:Nat} {t:List (List Int)} (h:t.length<=900) (h2:∀ r∈t,r.length<=900):Fw (k + 3) (Tb t):=.lst (by rw [a_]; exact h) λd m=>by
 obtain ⟨r,hr,rfl⟩:=cr.mp m
 exact uz (h2 r hr)
theorem kI {k:Nat} {t:List (List Int)} (h:t.length<=900) (h2:∀ r∈t,r.length<=900):Fw (k + 3) (Rm t):=.lst (by rw [a_]; exact h) λd m=>by
 obtain ⟨r,hr,rfl⟩:=cr.mp m
 exact Y0 (h2 r hr)
theorem zID (ns:List Int):(ns.map D.int).all uT=true:=cK.mpr λd m=>by
 obtain ⟨i,_,rfl⟩:=cr.mp m
 rfl
theorem QU {n:Int} {ns:List Int} (h:(ns.length:Int)=n):W1 n (L ns)=true:=by
 show (decide _ && _)=true
 rw [a_,decide_eq_true h,zID]
 rfl
theorem zOC {h w:Int} {t:List (List Int)} (e:(t.length:Int)=h) (k:∀ r∈t,(r.length:Int)=w):Yu h w (Tb t)=true:=by
 show (decide _ && _)=true
 rw [a_,decide_eq_true e]
 exact cK.mpr λd m=>by
  obtain ⟨r,hr,rfl⟩:=cr.mp m
  exact QU (k r hr)
theorem zQu {n:Int} {ns:List Int} (h:(ns.length:Int)=n + 1):vN n (U ns)=true:=by
 show (decide _ && _)=true
 rw [a_,decide_eq_true h,zID]
 rfl
theorem W5 {n:Int} {t:List (List Int)} (k:∀ r∈t,(r.length:Int)=n + 1):kF n (Rm t)=true:=cK.mpr λd m=>by
 obtain ⟨r,hr,rfl⟩:=cr.mp m
 exact zQu (k r hr)
noncomputable def zOn (C:Addr):FL:=λds R=>∃ r n s p a d,ds=[r,n,s,p,a,d]/\Fw 5 r/\Fw 5 n/\Fw 5 s/\Fw 5 p/\Fw 5 a/\R (.obj C zOe [r,n,s,p,a,d])
noncomputable def zL9:FL:=λds R=>∃ b:Int × Int,ds=[zz b]/\b.1<=b.2/\R (.bool true)
noncomputable def zMA (C:Addr):FL:=λds R=>∃ (m:MD) (n p:Nat),ds=[v8 C m,.int (n:Int),.int (p:Int)]/\wq m n p/\R (.bool true)
noncomputable def zJU (C:Addr):FL:=λds R=>∃ (n:Nat) (bs:List (Int × Int)) (ms:List MD),ds=[.int (n:Int),.lst (bs.map zz),.lst (ms.map (v8 C))]/\wL n bs ms/\R (.bool true)
noncomputable def zL1 (C CM:Addr):FL:=λds R=>∃ (n:Nat) (bs:List (Int × Int)) (ms:List MD),ds=[.int (n:Int),.lst (bs.map zz),.lst (ms.map (v8 CM))]/\wL n bs ms/\R (uA C CM n bs ms)
noncomputable def QV (C CM:Addr):FL:=λds R=>∃ n bs ms,ds=[uA C CM n bs ms]/\R (.lst (bs.map zz))
noncomputable def zOm (C CM:Addr):FL:=λds R=>∃ n bs ms,ds=[uA C CM n bs ms]/\R (.lst (ms.map (v8 CM)))
noncomputable def kJ (ms:List MD):Bool:=ms.all λm=>m.steer.all λx=>decide (x=0)
noncomputable def zGM (C:Addr):FL:=λds R=>∃ m,ds=[v8 C m]/\m.steer.length<=900/\R (.bool (m.steer.all λx=>decide (x=0)))
noncomputable def QW (C CM:Addr):FL:=λds R=>∃ n bs ms,ds=[uA C CM n bs ms]/\wL n bs ms/\R (.bool (kJ ms))
noncomputable def zGO (C CM:Addr):FL:=λds R=>∃ n bs ms,ds=[uA C CM n bs ms]/\wL n bs ms/\kJ ms=true/\R .non
theorem zSU {ns:List Int} {G:D->(D->Prop)->Prop} {R:D->Prop} (g:Int->Bool) (few:ns.length<=1000) (h:∀ n,n∈ns->G (.int n) λe=>e=.bool (g n)) (q:R (.lst ((ns.map g).map D.bool))):zi (ns.map D.int) G R:=
 wv D.int zv (λ_=>rfl) (λn=>.bool (g n)) few h (by rw [cw] at q; exact q)
noncomputable def xu (d:D):MD:=match d with
 | .obj _ _ [.lst r,.lst n,s,.lst p,a,d]=>⟨r.map yC,n.map yC,yC s,p.map yC,yC a,zv d⟩
 | _=>⟨[],[],[],[],[],0⟩
theorem zN7 (t:List (List Int)):(t.map L).map yC=t:=by
 rw [cw,show (yC ∘ L)=id from funext λr=>W3 r]
 exact e_ _
theorem zQc (t:List (List Int)):(t.map U).map yC=t:=by
 rw [cw,show (yC ∘ U)=id from funext λr=>jO r]
 exact e_ _
theorem QX (C:Addr) (m:MD):xu (v8 C m)=m:=by
 show MD.mk ((m.rows.map U).map yC) ((m.nexts.map L).map yC) (yC (L m.steer)) ((m.push.map L).map yC) (yC (L m.add)) m.div=m
 rw [zQc,zN7,zN7,W3,W3]
noncomputable def Y1 (d:D):Int × Int:=match d with
 | .tup [x,y]=>(zv x,zv y)
 | _=>(0,0)
noncomputable def uB (n p:Nat) (ws:List Int) (b:Int) (m:MD):List Int:=((cR n).map (zm ws m.nexts)++(cR p).map (zm ws m.push))++[m.div * b - xB ws m.add]
theorem QY:∀ (rows:List (List Int)) (nums:List Int) (j:Nat),yW rows nums j=zm nums rows j
 | [],nums,j=>by unfold yW zm; simp
 | r :: rows,[],j=>by unfold yW zm; simp
 | r :: rows,x :: nums,j=>by rw [uO,Jf,QY rows nums j,ik]
noncomputable def uC:D->Bool
 | .int i=>decide (0<=i)
 | _=>false
noncomputable def x8 (c:Nat):D->Bool
 | .tup [x,.lst ys]=>uC x && (decide (ys.length=c) && ys.all uC)
 | _=>false
noncomputable def uU (rows:List (List Int)) (tw:List Int) (n:Nat):D->Bool
 | .tup [.int o,.lst ys]=>x8 rows.length (.tup [.int o,.lst ys]) && um rows tw o (ys.map zv) n
 | _=>false
noncomputable def Y2 (a:D):Prop:=∀ o ys,a=.tup [.int o,.lst ys]->Bd 1000 o/\∀ y∈ys,Bd 1000 (zv y)
structure ve (rows:List (List Int)) (n:Nat):Prop where
 row:∀ r∈rows,r.length=n + 1/\∀ x∈r,Bd 1000 x
 few:rows.length<=500
 nar:n<=100
theorem zGL:∀ {ys:List D},ys.all uC=true->∃ ns:List Int,ys=ns.map .int/\ys.map zv=ns/\∀ x∈ns,0<=x
 | [],_=>⟨[],rfl,rfl,λ_ h=>by cases h⟩
 | a :: ys,h=>by
  rw [List.all_cons,dk] at h
  obtain ⟨ns,rfl,e,h0⟩:=zGL h.2
  cases a with
  | int i=>exact ⟨i :: ns,rfl,by rw [cT,e]; rfl,λx hx=>(cu.mp hx).elim (λz=>z ▸ of_decide_eq_true h.1) (h0 x)⟩
  | _=>cases h.1
theorem zMw {c:Nat} {a:D} (h:x8 c a=true):∃ (o:Int) (ns:List Int),a=.tup [.int o,L ns]/\0<=o/\ns.length=c/\∀ x∈ns,0<=x:=by
 unfold x8 at h
 split at h
 ·rename_i x ys
  rw [dk,dk,decide_eq_true_iff] at h
  obtain ⟨ns,rfl,_,h0⟩:=zGL h.2.2
  cases x with
  | int o=>exact ⟨o,ns,rfl,of_decide_eq_true h.1,by have:=h.2.1; rw [a_] at this; exact this,h0⟩
  | _=>cases h.1
 ·cases h
theorem zMv {rows:List (List Int)} {tw:List Int} {n:Nat} {a:D} (h:x8 rows.length a=false):uU rows tw n a=false:=by
 unfold uU
 split
 ·rw [h]; rfl
 ·rfl
theorem zNc (ns:List Int):(ns.map D.int).map zv=ns:=by rw [cw]; exact e_ _
theorem zKs {rows:List (List Int)} {tw ns:List Int} {n:Nat} {o:Int} (h:x8 rows.length (.tup [.int o,L ns])=true):uU rows tw n (.tup [.int o,L ns])=um rows tw o ns n:=by
 show (x8 rows.length (.tup [.int o,.lst (ns.map .int)]) && um rows tw o ((ns.map D.int).map zv) n)=_
 rw [show x8 rows.length (.tup [.int o,.lst (ns.map .int)])=true from h,zNc]
 rfl
noncomputable def kN (c:Int):D->Bool
 | .lst as=>decide ((as.length:Int)=c)
 | _=>false
noncomputable def jP (rows tws:List (List Int)) (n:Nat):D->Bool
 | .lst as=>decide ((as.length:Int)=(tws.length:Int)) && (tws.zip as).all λp=>uU rows p.1 n p.2
 | _=>false
noncomputable def x9 (a:D):Prop:=∀ as,a=.lst as->∀ x∈as,Y2 x
theorem W6 {c:Int} {a:D} (h:kN c a=true):∃ as,a=.lst as/\(as.length:Int)=c:=by
 cases a with
 | lst as=>exact ⟨as,rfl,of_decide_eq_true h⟩
 | _=>cases h
theorem zNr {rows tws:List (List Int)} {n:Nat} {a:D} (h:kN (tws.length:Int) a=false):jP rows tws n a=false:=by
 cases a with
 | lst as=>show (decide _ && _)=false; rw [show decide ((as.length:Int)=(tws.length:Int))=false from h]; rfl
 | _=>rfl
theorem vO {e:Nat}:Bd e (0:Int):=by
 show (0:Int).natAbs < 2 ^ e
 exact h_ e
theorem QZ {e:Nat} {r:List Int} (h:∀ x∈r,Bd e x) (j:Nat):Bd e (r.getD j 0):=by
 rw [cg]
 cases hj:r[j]? with
 | none=>exact vO
 | some x=>exact h x (cY hj)
theorem Qa {a b:Nat}:∀ {ns os:List Int},(∀ x∈ns,Bd a x)->(∀ x∈os,Bd b x)->Bd (a + b + ns.length + 1) (xB ns os)
 | [],_,_,_=>by unfold xB; exact vO
 | _ :: _,[],_,_=>by unfold xB; exact vO
 | n :: ns,o :: os,hn,ho=>by
  have i:=Qa (a:=a) (b:=b) (ns:=ns) (os:=os) (λq m=>hn q (cn _ m)) (λq m=>ho q (cn _ m))
  rw [cJ]
  show Bd _ (n * o + xB ns os)
  exact (((hn n cq).mul (ho o cq)).mono (show a + b<=a + b + ns.length + 1 by omega) |>.add i).mono (by omega)
theorem zMV {a b j:Nat} {ns:List Int} {N:List (List Int)} (h:∀ x∈ns,Bd a x) (hN:∀ r∈N,∀ x∈r,Bd b x):Bd (a + b + ns.length + 1) (zm ns N j):=by
 rw [zHh]
 refine Qa h λx hx=>?_
 obtain ⟨r,hr,rfl⟩:=cr.mp hx
 exact QZ (hN r hr) j
structure MS (m:MD):Prop where
 nexts:∀ r∈m.nexts,∀ x∈r,Bd 300 x
 push:∀ r∈m.push,∀ x∈r,Bd 300 x
 add:∀ x∈m.add,Bd 300 x
 div:Bd 300 m.div
 rows:∀ r∈m.rows,∀ x∈r,Bd 300 x
 few:m.rows.length<=100
structure wZ (room:List (List Int)) (n:Nat):Prop where
 row:∀ r∈room,r.length=n + 1/\∀ x∈r,Bd 300 x
 few:room.length<=100
theorem wZ.rw {room:List (List Int)} {n:Nat} (h:wZ room n) (n3:n<=3):ve room n:=⟨λr hr=>⟨(h.row r hr).1,λx hx=>((h.row r hr).2 x hx).mono⟩,by have:=h.few; omega,by omega⟩
theorem Qb {e n:Nat} {pl nu:Int} (h:Bd e nu):∀ x∈ya pl n nu,Bd e x:=λx hx=>by
 obtain ⟨i,_,rfl⟩:=cr.mp hx
 show Bd e (if (i:Int)=pl then nu else 0)
 split
 ·exact h
 ·exact vO
theorem zMr {n:Nat} {bs:List (Int × Int)} {rows:List (List Int)} (h:∀ r∈rows,r.length=n + 1/\∀ x∈r,Bd 1000 x) (few:rows.length<=400) (n3:n<=3) (b6:bs.length<=6) (bb:∀ b∈bs,Bd 300 b.1/\Bd 300 b.2):ve (vy n bs rows) (n + bs.length):=by
 have b1:Bd 4 (1:Int):=Bd.lit
 refine ⟨λr hr=>?_,?_,by omega⟩
 ·rcases cZ.mp hr with hr | hr
  ·obtain ⟨q,hq,rfl⟩:=cr.mp hr
   obtain ⟨lq,bq⟩:=h q hq
   refine ⟨by unfold xv; simp; omega,λx hx=>?_⟩
   unfold xv at hx
   rcases cZ.mp hx with hx | hx
   ·rcases cZ.mp hx with hx | hx
    ·exact bq x (fj hx)
    ·rw [dX hx]; exact vO
   ·rw [cQ.mp hx]; exact QZ bq n
  ·obtain ⟨l,hl,hr⟩:=iE.mp hr
   obtain ⟨i,hi,rfl⟩:=iM.mp hl
   have hb:=bb _ (dN hi)
   have key:∀ (y c:Int),Bd 1000 y->Bd 1000 c->(ya ((n + i:Nat):Int) (n + bs.length) y++[c]).length=n + bs.length + 1/\∀ x∈ya ((n + i:Nat):Int) (n + bs.length) y++[c],Bd 1000 x:=λy c hy hc=>⟨by rw [cj,vx]; rfl,λx hx=>by
    rcases cZ.mp hx with hx | hx
    ·exact Qb hy x hx
    ·rw [cQ.mp hx]; exact hc⟩
   rcases cu.mp hr with rfl | hr
   ·exact key _ _ b1.mono (hb.2.mono)
   ·rw [cQ.mp hr]
    exact key _ _ (b1.neg.mono) (hb.1.neg.mono)
 ·unfold vy
  rw [cj,a_]
  have:((bs.mapIdx (wD n bs.length)).flatten).length=2 * bs.length:=by
   rw [fD]
   have e:(bs.mapIdx (wD n bs.length)).map dS=cv bs.length 2:=by
    refine fu (by simp) λi h1 h2=>?_
    simp [wD]
   rw [e]
   simp
   omega
  omega
theorem zK0 (n p:Nat) (ws:List Int) (b:Int) (m:MD):(uB n p ws b m).length=n + p + 1:=by unfold uB; simp; omega
theorem zM2 {n p:Nat} {ws:List Int} {b:Int} {m:MD} (h:MS m) (lw:ws.length<=3) (bw:∀ x∈ws,Bd 301 x) (bb:Bd 301 b):∀ x∈uB n p ws b m,Bd 700 x:=λx hx=>by
 unfold uB at hx
 rcases cZ.mp hx with hx | hx
 ·rcases cZ.mp hx with hx | hx <;> obtain ⟨j,_,rfl⟩:=cr.mp hx
  ·exact (zMV bw h.nexts).mono (by omega)
  ·exact (zMV bw h.push).mono (by omega)
 ·rw [cQ.mp hx]
  exact (((h.div.mul bb).mono (show 300 + 301<=650 by decide)).sub ((Qa bw h.add).mono (show 301 + 300 + ws.length + 1<=650 by omega))).mono
noncomputable def gG (n p:Nat) (m:MD) (behind:List (List Int)):List (List Int):=behind.map λr=>uB n p (r.take n) (r.getD n 0) m
noncomputable def W7 (n:Nat) (bs:List (Int × Int)) (room behind:List (List Int)) (m:MD) (a:D):Bool:=jP (vy n bs (room++m.rows)) (gG n bs.length m behind) (n + bs.length) a
noncomputable def kO (n:Nat) (bs:List (Int × Int)) (ms:List MD) (room behind:List (List Int)):D->Bool
 | .lst as=>decide ((as.length:Int)=(ms.length:Int)) && (ms.zip as).all λp=>W7 n bs room behind p.1 p.2
 | _=>false
structure Y3 (n:Nat) (bs:List (Int × Int)) (ms:List MD):Prop where
 ok:wL n bs ms
 ms:∀ m∈ms,MS m
 bs:∀ b∈bs,Bd 300 b.1/\Bd 300 b.2
theorem zLq {n:Nat} {bs:List (Int × Int)} {ms:List MD} {room behind:List (List Int)} {a:D} (h:kN (ms.length:Int) a=false):kO n bs ms room behind a=false:=by
 cases a with
 | lst as=>show (decide _ && _)=false; rw [show decide ((as.length:Int)=(ms.length:Int))=false from h]; rfl
 | _=>rfl
noncomputable def xc (a:D):Prop:=∀ as,a=.lst as->∀ x∈as,x9 x
theorem w8 {r:List Int} {n:Nat} (h:r.length=n + 1):zo (r.map D.int) none (some (-1))=(r.take n).map D.int:=by
 have e1:HT.sIx (r.map D.int).length 0 none=0:=HT.sIx_none _ _
 have e2:HT.sIx (r.map D.int).length (r.map D.int).length (some (-1))=n:=by
  rw [a_,h]
  show (if (-1:Int) < 0 then ((-1:Int) + ((n + 1:Nat):Int)).toNat else min (-1:Int).toNat (n + 1))=n
  rw [if_pos (by decide)]
  omega
 unfold zo
 rw [e1,e2,iU,ij,mw]
theorem Qc (ws:List Int) (b:Int):zo ((ws++[b]).map D.int) none (some (-1))=ws.map D.int:=by
 rw [w8 (n:=ws.length) (by rw [cj]; rfl),cX (cD _),cL (cD _)]
theorem kR {r:List Int} {n:Nat} (h:r.length=n + 1):yx (r.map D.int) (-1)=some (.int (r.getD n 0)):=by
 rw [qq]
 unfold yx vp
 rw [if_neg (by decide),if_pos (by omega)]
 show iv D.int r[((-1:Int) + (r.length:Int)).toNat]? = _
 rw [show ((-1:Int) + (r.length:Int)).toNat=n by omega,ck (by omega),cg,ck (by omega)]
 rfl
theorem zMW (ws:List Int) (b:Int):yx ((ws++[b]).map D.int) (-1)=some (.int b):=by
 rw [kR (n:=ws.length) (by rw [cj]; rfl),cg,dg (cD _),eD]
 rfl
theorem RmA (a b:List (List Int)):D.lst (a.map U++b.map U)=Rm (a++b):=by rw [Rm,cx]
theorem Y4 {α:Type} (u:α->D):∀ (xs:List α) (ys:List D),dh y3 (xs.map u) ys=(xs.zip ys).map λq=>y3 (u q.1) q.2
 | [],_=>rfl
 | _ :: _,[]=>rfl
 | _ :: xs,_ :: ys=>by rw [cT,fV,Y4 u xs ys]; rfl
theorem Qd {α:Type} {xs:List α} {ys:List D} {G:D->(D->Prop)->Prop} {R:D->Prop} (u:α->D) (v:D->α) (hv:∀ x,v (u x)=x) (g:α->D->Bool) (few:xs.length<=1000) (h:∀ x y,(x,y)∈xs.zip ys->G (y3 (u x) y) λe=>e=.bool (g x y)) (q:R (.lst (((xs.zip ys).map λp=>g p.1 p.2).map D.bool))):zi (dh y3 (xs.map u) ys) G R:=by
 rw [Y4]
 refine wv (λp:α × D=>y3 (u p.1) p.2) (λd=>match d with | .tup [a,b]=>(v a,b) | _=>(v .non,.non)) (λp=>?_) (λp=>.bool (g p.1 p.2)) (by rw [eA]; omega) (λp hp=>h p.1 p.2 hp) (by rw [cw] at q; exact q)
 show (v (u p.1),p.2)=p
 rw [hv]
theorem zKa {d:D} (h:uT d=true):∃ i,d=.int i:=by
 cases d with
 | int i=>exact ⟨i,rfl⟩
 | bool b=>cases h
 | _=>cases h
theorem Fw.mono0 {j:Nat} {a:D} (h:Fw j a):∀ {k:Nat},j<=k->Fw k a:=by
 induction h with
 | lst l _ ih=>
  intro k hk
  obtain ⟨m,rfl⟩:∃ m,k=m + 1:=⟨k - 1,by omega⟩
  exact .lst l λa ha=>ih a ha (by omega)
 | tup l _ ih=>
  intro k hk
  obtain ⟨m,rfl⟩:∃ m,k=m + 1:=⟨k - 1,by omega⟩
  exact .tup l λa ha=>ih a ha (by omega)
 | int i=>intro k hk; obtain ⟨m,rfl⟩:∃ m,k=m + 1:=⟨k - 1,by omega⟩; exact .int i
 | bool i=>intro k hk; obtain ⟨m,rfl⟩:∃ m,k=m + 1:=⟨k - 1,by omega⟩; exact .bool i
 | non=>intro k hk; obtain ⟨m,rfl⟩:∃ m,k=m + 1:=⟨k - 1,by omega⟩; exact .non
 | str i=>intro k hk; obtain ⟨m,rfl⟩:∃ m,k=m + 1:=⟨k - 1,by omega⟩; exact .str i
structure MBd (m:MD):Prop where
 nexts:∀ r∈m.nexts,∀ x∈r,Bd 9000 x
 push:∀ r∈m.push,∀ x∈r,Bd 9000 x
 add:∀ x∈m.add,Bd 9000 x
 div:Bd 9000 m.div
theorem Fw.mono {j k:Nat} {a:D} (h:Fw j a) (l:j<=k:=by decide):Fw k a:=h.mono0 l
theorem MS.mbd {m:MD} (h:MS m):MBd m:=⟨λr hr x hx=>(h.nexts r hr x hx).mono,λr hr x hx=>(h.push r hr x hx).mono,λx hx=>(h.add x hx).mono,h.div.mono⟩
theorem zi.cast {ds ds':List D} {G:D->(D->Prop)->Prop} {R:D->Prop} (e:ds=ds') (h:zi ds' G R):zi ds G R:=by rw [e]; exact h
theorem Y5 (ns:List Int):(L ns).pl 50=true:=zPU 48 ns
theorem RmM {α:Type} (f:α->List Int) (xs:List α):D.lst (xs.map λr=>U (f r))=Rm (xs.map f):=by unfold Rm; rw [cw]; rfl
theorem kS {b:Bool} (h:(!b)=true):b=false:=by cases b <;> first | rfl | cases h
theorem kT {b:Bool} (h:(!b)=false):b=true:=by cases b <;> first | rfl | cases h
noncomputable def zHv (C CM:Addr):FL:=λds R=>∃ n bs ms rows,ds=[uA C CM n bs ms,Rm rows]/\n<=3/\bs.length<=6/\(∀ r∈rows,r.length=n + 1)/\rows.length<=900/\R (Rm (vy n bs rows))
noncomputable def zOl (C CM:Addr):FL:=λds R=>∃ n bs ms m r,ds=[uA C CM n bs ms,v8 CM m,U r]/\n<=3/\bs.length<=6/\wq m n bs.length/\MBd m/\r.length=n + 1/\(∀ x∈r,Bd 9000 x)/\R (U (uB n bs.length (r.take n) (r.getD n 0) m))
noncomputable def zOp:FL:=λds R=>∃ rows d ns n,ds=[Rm rows,d,.int ((n:Nat):Int)]/\IS d ns/\n<=800/\ns.length<=900/\(∀ x∈ns,Bd 9000 x)/\(∀ r∈rows,n + 1<=r.length/\∀ x∈r,Bd 9000 x)/\R (U ((cR (n + 1)).map (zm ns rows)))
noncomputable def W8:FL:=λds R=>∃ d,ds=[d]/\d.isObj=false/\R (.bool (uC d))
noncomputable def zL3:FL:=λds R=>∃ d c k,ds=[d,.int ((c:Nat):Int)]/\Fw k d/\R (.bool (x8 c d))
noncomputable def zOk:FL:=λds R=>∃ rows tw n d k,ds=[Rm rows,U tw,d]/\tw.length=n + 1/\(∀ x∈tw,Bd 1000 x)/\ve rows n/\Fw k d/\Y2 d/\R (.bool (uU rows tw n d))
noncomputable def Y6:FL:=λds R=>∃ d c k,ds=[d,.int c]/\Fw k d/\R (.bool (kN c d))
noncomputable def W9:FL:=λds R=>∃ rows tws n d k,ds=[Rm rows,Rm tws,d]/\ve rows n/\ve tws n/\Fw k d/\x9 d/\R (.bool (jP rows tws n d))
noncomputable def zL8 (C CM:Addr):FL:=λds R=>∃ n bs ms m room behind d k,ds=[uA C CM n bs ms,v8 CM m,Rm room,Rm behind,d]/\Y3 n bs ms/\wq m n bs.length/\MS m/\wZ room n/\wZ behind n/\Fw k d/\x9 d/\R (.bool (W7 n bs room behind m d))
noncomputable def zOo (C CM:Addr):FL:=λds R=>∃ n bs ms room behind d k,ds=[uA C CM n bs ms,Rm room,Rm behind,d]/\Y3 n bs ms/\wZ room n/\wZ behind n/\Fw k d/\xc d/\R (.bool (kO n bs ms room behind d))
noncomputable def fNo:FL:=λ_ _=>False
theorem zPB {α:Type} {l:List (List α)} {k:Nat} {x:List α} (h:l[k]? = some x):(l.take (k + 1)).flatten=(l.take k).flatten++x:=by
 rw [uN h,i0,iG]
noncomputable abbrev UA:List Str:=["start","rows","turn"]
noncomputable abbrev Y7:List Str:=["rooms","back","starts","steps","stays"]
noncomputable abbrev vk (rooms:List (List (List Int))):D:=.lst (rooms.map Rm)
noncomputable abbrev xf (C:Addr) (s g:List (List Int)) (t:Int):D:=.obj C UA [Rm s,Rm g,.int t]
noncomputable abbrev Y8 (C:Addr) (rooms:List (List (List Int))) (BK A1 A2 A3:D):D:=.obj C Y7 [vk rooms,BK,A1,A2,A3]
noncomputable def j7 (a:D):Prop:=∀ as,a=.lst as->∀ x∈as,xc x
noncomputable def kU (n:Nat) (bs:List (Int × Int)) (ms:List MD) (rooms:List (List (List Int))) (b:Nat):D->Bool
 | .lst as=>decide ((as.length:Int)=(rooms.length:Int)) && (rooms.zip ((rooms.drop 1++[rooms.getD b []]).zip as)).all λp=>kO n bs ms p.1 p.2.1 p.2.2
 | _=>false
noncomputable def Y9 (n:Nat) (rooms:List (List (List Int))) (f:Nat) (g:List (List Int)):D->Bool
 | .lst as=>decide ((as.length:Int)=(rooms.length:Int)) && ((rooms.drop f).zip (as.drop f)).all λp=>jP p.1 g n p.2
 | _=>false
noncomputable def u5 (n:Nat) (bs:List (Int × Int)) (ms:List MD) (s g:List (List Int)) (t:Int) (rooms:List (List (List Int))) (BK A1 A2 A3:D):Bool:=
 match BK with
 | .int b=>if b < 0\/(rooms.length:Int)<=b then false else jP s (rooms.getD 0 []) n A1 && (kU n bs ms rooms b.toNat A2 && Y9 n rooms (min b t).toNat g A3)
 | _=>false
structure j8 (n:Nat) (rooms:List (List (List Int))):Prop where
 rm:∀ r∈rooms,wZ r n
 few:rooms.length<=100
theorem zKM {n:Nat} {bs:List (Int × Int)} {ms:List MD} {rooms:List (List (List Int))} {b:Nat} {a:D} (h:kN (rooms.length:Int) a=false):kU n bs ms rooms b a=false:=by
 cases a with
 | lst as=>show (decide _ && _)=false; rw [show decide ((as.length:Int)=(rooms.length:Int))=false from h]; rfl
 | _=>rfl
theorem zMq {n:Nat} {rooms:List (List (List Int))} {f:Nat} {g:List (List Int)} {a:D} (h:kN (rooms.length:Int) a=false):Y9 n rooms f g a=false:=by
 cases a with
 | lst as=>show (decide _ && _)=false; rw [show decide ((as.length:Int)=(rooms.length:Int))=false from h]; rfl
 | _=>rfl
noncomputable def kW:D->List (List Int)
 | .lst ds=>ds.map yC
 | _=>[]
theorem Qe (r:List (List Int)):kW (Rm r)=r:=by
 show (r.map U).map yC=r
 rw [cw]
 exact (cN λx _=>jO x).trans (e_ _)
theorem XA {rooms:List (List (List Int))} {b:Int} (h0:0<=b) (h1:b < (rooms.length:Int)):yx (rooms.map Rm) b=some (Rm (rooms.getD b.toNat [])):=by
 rw [qq]
 unfold yx vp
 rw [if_pos h0,if_pos (by omega)]
 show iv Rm rooms[b.toNat]? = _
 rw [ck (by omega),cg,ck (by omega)]
 rfl
theorem zRj {rooms:List (List (List Int))} {b:Nat} (h:b < rooms.length):rooms.getD b []∈rooms:=by
 rw [cg,ck h]
 exact dN _
theorem kX {α:Type} {xs:List α} {b:Int} (h:0<=b):zo xs (some b) none=xs.drop b.toNat:=by
 obtain ⟨k,rfl⟩:=dZ h
 unfold zo
 have e:HT.sIx xs.length 0 (some ((k:Nat):Int))=min k xs.length:=HT.sIx_nat ..
 show (xs.drop (HT.sIx xs.length 0 (some ((k:Nat):Int)))).take (xs.length - HT.sIx xs.length 0 (some ((k:Nat):Int)))=xs.drop ((k:Nat):Int).toNat
 rw [e,d8,cL (by rw [db]; exact cD _)]
 by_cases c:k<=xs.length
 ·rw [l_ c]
 ·rw [lW (by omega),iH (cD _),iH (show xs.length<=k by omega)]
noncomputable def zSG (C:Addr):FL:=λds R=>∃ s g t,ds=[s,g,t]/\Fq 6 s/\Fq 6 g/\R (.obj C UA [y4 s,y4 g,t])
noncomputable def zSH (C:Addr):FL:=λds R=>∃ a b c d e,ds=[a,b,c,d,e]/\Fq 6 a/\Fq 6 c/\Fq 6 d/\Fq 6 e/\R (.obj C Y7 [y4 a,b,y4 c,y4 d,y4 e])
noncomputable def zSF (C:Addr):FL:=λds R=>∃ s g t n,ds=[xf C s g t,.int ((n:Nat):Int)]/\n<=3/\wZ s n/\wZ g n/\0<=t/\R (.bool true)
noncomputable def XB (n:Int):D->Bool
 | .lst ds=>ds.all (kF n)
 | _=>false
noncomputable def zSO:FL:=λds R=>∃ d n k,ds=[d,.int n]/\Fw k d/\R (.bool (XB n d))
noncomputable def zMB (C CM CR:Addr):FL:=λds R=>∃ n bs ms rooms b A1 A2 A3 k,ds=[uA C CM n bs ms,Y8 CR rooms (.int b) A1 A2 A3]/\Y3 n bs ms/\j8 n rooms/\0<=b/\b < (rooms.length:Int)/\Fw k A2/\j7 A2/\R (.bool (kU n bs ms rooms b.toNat A2))
noncomputable def zSE (CS CR:Addr):FL:=λds R=>∃ n s g t rooms b A1 A2 A3 k,ds=[xf CS s g t,Y8 CR rooms (.int b) A1 A2 A3]/\n<=3/\j8 n rooms/\wZ g n/\0<=t/\0<=b/\Fw k A3/\xc A3/\R (.bool (Y9 n rooms (min b t).toNat g A3))
noncomputable def UB (C CM CS CR:Addr):FL:=λds R=>∃ n bs ms s g t d0 BK A1 A2 A3 k,ds=[uA C CM n bs ms,xf CS s g t,.obj CR Y7 [d0,BK,A1,A2,A3]]/\Y3 n bs ms/\wZ s n/\wZ g n/\0<=t/\Fw k d0/\kJ ms=true/\((XB (n:Int) d0=false/\R (.bool false))\/∃ rooms,d0=vk rooms/\j8 n rooms/\BK.isObj=false/\Fw k A1/\Fw k A2/\Fw k A3/\x9 A1/\j7 A2/\xc A3/\R (.bool (u5 n bs ms s g t rooms BK A1 A2 A3)))
theorem zM1 {n:Nat} {rooms:List (List (List Int))} (h:j8 n rooms):XB (n:Int) (vk rooms)=true:=cK.mpr λd m=>by
 obtain ⟨r,hr,rfl⟩:=cr.mp m
 exact W5 λx hx=>by rw [((h.rm r hr).row x hx).1]; rfl
structure Er (K:b_) (mg:Str->Option Value) (cC:Addr):Prop where
 mgC:mg "NotClosed" = some (.ref cC)
 excC:iz K cC bmV "ValueError.__new__" = true
 cc:iV K (.ref cC) (.ref cC)=some true
inductive XC (C CM cC:Addr) (k:Nat) (c:Addr) (ds:List D):Prop
 | mk (n:Nat) (bs:List (Int × Int)) (ms:List MD) (es:List D) (e:ds=uA C CM n bs ms :: es) (l:es.length=k) (h:wL n bs ms) (cl:kJ ms=false) (hc:c=cC):XC C CM cC k c ds
theorem Jg {n:Nat} {bs:List (Int × Int)} {rows:List (List Int)} (h:∀ r∈rows,r.length=n + 1):∀ r∈vy n bs rows,r.length=n + bs.length + 1:=λr hr=>by
 rcases cZ.mp hr with hr | hr
 ·obtain ⟨q,hq,rfl⟩:=cr.mp hr
  have:=h q hq
  unfold xv
  simp
  omega
 ·obtain ⟨l,hl,hr⟩:=iE.mp hr
  obtain ⟨i,hi,rfl⟩:=iM.mp hl
  rcases cu.mp hr with rfl | hr
  ·rw [cj,vx]; rfl
  ·rw [cQ.mp hr,cj,vx]; rfl
structure Qf (e:Nat) (m:MD):Prop where
 nexts:∀ r∈m.nexts,∀ x∈r,Bd e x
 steer:∀ x∈m.steer,Bd e x
 push:∀ r∈m.push,∀ x∈r,Bd e x
 add:∀ x∈m.add,Bd e x
 div:Bd e m.div
 rows:∀ r∈m.rows,∀ x∈r,Bd e x
 few:m.rows.length<=100
theorem Qf.ms {e:Nat} {m:MD} (h:Qf e m) (k:e<=300):MS m:=⟨λr hr x hx=>(h.nexts r hr x hx).mono k,λr hr x hx=>(h.push r hr x hx).mono k,λx hx=>(h.add x hx).mono k,h.div.mono k,λr hr x hx=>(h.rows r hr x hx).mono k,h.few⟩
theorem md (a:Int) {b:Int} (h:0 < b):0<=a.fmod b/\a.fmod b < b:=⟨Int.fmod_nonneg_of_pos a h,Int.fmod_lt_of_pos a h⟩
theorem uD {n:Nat} {a b:Int} (h:Bd n b) (p:0 < b):Bd n (a.fmod b):=by
 have:=md a p
 exact h.of_le (by omega)
theorem XD {n:Nat} (h:n<=3):Bd 2 (n:Int):=by
 show (n:Int).natAbs < 2 ^ 2
 omega
theorem zO2 {α:Type} {xs:List α} {i:Int} (h0:0<=i) (h1:i < (xs.length:Int)):∃ x∈xs,yx xs i=some x:=by
 obtain ⟨k,rfl⟩:=dZ h0
 have hk:k < xs.length:=by omega
 refine ⟨xs[k],dN hk,?_⟩
 unfold yx vp
 rw [if_pos (by omega),if_pos (by omega)]
 show xs[((k:Nat):Int).toNat]? = _
 rw [show ((k:Nat):Int).toNat=k by omega,ck hk]
theorem zSY {xs:List Int} {i:Int} (h0:0<=i) (h1:i < (xs.length:Int)):∃ x∈xs,yx (xs.map D.int) i=some (.int x):=by
 obtain ⟨x,hx,e⟩:=zO2 h0 h1
 exact ⟨x,hx,by rw [qq,e]; rfl⟩
theorem vm {xs:List Int} {i:Int} {R:D->Prop} (h0:0<=i) (h1:i < (xs.length:Int)) (q:∀ x∈xs,R (.int x)):∃ d,yx (xs.map D.int) i=some d/\R d:=by
 obtain ⟨x,hx,e⟩:=zSY h0 h1
 exact ⟨_,e,q x hx⟩
theorem j9 {xs:List D} {i:Int} {R:D->Prop} (h0:0<=i) (h1:i < (xs.length:Int)) (q:∀ x∈xs,R x):∃ d,yx xs i=some d/\R d:=by
 obtain ⟨x,hx,e⟩:=zO2 h0 h1
 exact ⟨_,e,q x hx⟩
theorem zO1 {y f:Int} {n:Nat} (h:Bd n f) (h1 : -f<=y) (h2:y<=f):Bd n y:=h.of_le (by omega)
theorem jh {α:Type} {P:α->Prop} {xs:List α} {y:α} (h:∀ x∈xs,P x) (k:P y):∀ x∈xs++[y],P x:=λx hx=>by
 rcases cZ.mp hx with hx | hx
 ·exact h x hx
 ·rw [cQ.mp hx]; exact k
theorem UC {xs:List D} {k:Nat}:zo xs (some (k:Int)) none=xs.drop k:=by
 unfold zo
 rw [HT.sIx_none,HT.sIx_nat,cL (by rw [db]; omega)]
 by_cases h:k<=xs.length
 ·rw [l_ h]
 ·rw [lW (by omega),List.drop_length,List.drop_of_length_le (by omega)]
noncomputable abbrev ji:Int:=10 ^ (45:Int).toNat
noncomputable def XE:FL:=λds R=>∃ ns k,ds=[.scr ns,.int k]/\0<=k/\∀ c,R (.int c)
noncomputable def UD (xs:List Int):Prop:=∀ x∈xs,0<=x/\Bd 150 x
noncomputable def zQE:FL:=λds R=>∃ (c:Int) (n:Nat),ds=[.int c,.int (n:Int)]/\n<=100/\∀ xs,xs.length=n->UD xs->R (L xs)
noncomputable def zQG:FL:=λds R=>∃ x far:Int,ds=[.int x,.int far]/\0<=far/\Bd 9000 far/\∀ y,-far<=y->y<=far->R (.int y)
noncomputable def wA (n i:Nat) (b:Int × Int):List (List Int):=[ya (i:Int) n 1++[b.2],(ya (i:Int) n 1).map (λx=>0 - x)++[0 - b.1]]
noncomputable def zj (bs:List (Int × Int)):List (List Int):=(bs.mapIdx (wA bs.length)).flatten
noncomputable def XF:FL:=λds R=>∃ bs:List (Int × Int),ds=[.lst (bs.map zz)]/\bs.length<=100/\R (Rm (zj bs))
noncomputable abbrev XG (m:MD):D:=.tup [Rm m.rows,Tb m.nexts,L m.steer,Tb m.push,L m.add,.int m.div]
noncomputable abbrev UE (n:Nat) (bs:List (Int × Int)) (ms:List MD) (u:Int):D:=.tup [.int (n:Int),.lst (bs.map zz),.lst (ms.map XG),.int u]
theorem zR0 (i j:Nat):(if decide ((j:Int)=(i:Int))=true then (1:Int) else 0)=if (j:Int)=(i:Int) then 1 else 0:=by
 by_cases c:(j:Int)=(i:Int)
 ·rw [if_pos c,if_pos (decide_eq_true c)]
 ·rw [if_neg c,if_neg (by rw [decide_eq_false c]; exact cV)]
theorem zJQ {bs:List (Int × Int)} {k:Nat} (h:k < bs.length) {i:Int} (e:i=(k:Int)):yx (bs.map zz) i=some (zz bs[k]):=by
 rw [qq,e]
 unfold yx vp
 rw [if_pos (by omega),if_pos (by omega)]
 show iv zz bs[((k:Nat):Int).toNat]? = _
 rw [show ((k:Nat):Int).toNat=k by omega,ck h]
 rfl
theorem zMn {α:Type} {l:List (List α)} {k:Nat} {x:List α} (h:l[k]? = some x):(l.take (k + 1)).flatten=(l.take k).flatten++x:=by
 rw [uN h,i0,iG]
noncomputable def gH:Int->Nat->List Int
 | _,0=>[]
 | r,n + 1=>r.fmod ji :: gH (r.fdiv ji) n
noncomputable abbrev uV:Int:=(10:Int) ^ (18:Int).toNat + 9
noncomputable def gI:Int->Int->Nat->List Int
 | _,_,0=>[]
 | r,k,n + 1=>(r * r + 48271 * r + k).fmod uV :: gI ((r * r + 48271 * r + k).fmod uV) (k + 1) n
noncomputable def yD (c:Int) (n:Nat):List Int:=if (10:Int) ^ (30:Int).toNat<=c then gH (c - (10:Int) ^ (30:Int).toNat) n else (gI (c.fmod uV + 48271) 0 (n + 2)).drop 2
theorem zOI:∀ (r:Int) (n:Nat),(gH r n).length=n/\UD (gH r n)
 | _,0=>⟨rfl,λ_ h=>nomatch h⟩
 | r,n + 1=>by
  obtain ⟨h1,h2⟩:=zOI (r.fdiv ji) n
  refine ⟨congrArg (· + 1) h1,λx hx=>?_⟩
  rcases cu.mp hx with rfl | hx
  ·exact ⟨(md r (show (0:Int) < ji by decide)).1,uD (show Bd 150 ji from Bd.lit) (by decide)⟩
  ·exact h2 x hx
theorem zOH:∀ (r k:Int) (n:Nat),(gI r k n).length=n/\UD (gI r k n)
 | _,_,0=>⟨rfl,λ_ h=>nomatch h⟩
 | r,k,n + 1=>by
  obtain ⟨h1,h2⟩:=zOH ((r * r + 48271 * r + k).fmod uV) (k + 1) n
  refine ⟨congrArg (· + 1) h1,λx hx=>?_⟩
  rcases cu.mp hx with rfl | hx
  ·exact ⟨(md _ (show (0:Int) < uV by decide)).1,(uD (show Bd 60 uV from Bd.lit) (by decide)).mono⟩
  ·exact h2 x hx
theorem kY (c:Int) (n:Nat):(yD c n).length=n/\UD (yD c n):=by
 unfold yD
 split
 ·exact zOI _ _
 ·obtain ⟨h1,h2⟩:=zOH (c.fmod uV + 48271) 0 (n + 2)
  exact ⟨by rw [db,h1]; rfl,λx hx=>h2 x (dB hx)⟩
noncomputable def y6 (x far:Int):Int:=x.fmod (2 * far + 1) - far
noncomputable def UF:FL:=λds R=>∃ ns k,ds=[.scr ns,.int k]/\0<=k/\R (.int (ns.getD k.toNat 0))
noncomputable def qA:FL:=λds R=>∃ (c:Int) (n:Nat),ds=[.int c,.int (n:Int)]/\n<=100/\R (L (yD c n))
noncomputable def XH:FL:=λds R=>∃ x far:Int,ds=[.int x,.int far]/\0<=far/\Bd 9000 far/\R (.int (y6 x far))
theorem Qg (ds:List D) (R:D->Prop) (h:XE ds R):UF ds R:=let ⟨ns,k,e,k0,q⟩:=h; ⟨ns,k,e,k0,q _⟩
theorem zOG (ds:List D) (R:D->Prop) (h:zQE ds R):qA ds R:=let ⟨c,n,e,h1,q⟩:=h; ⟨c,n,e,h1,q _ (kY c n).1 (kY c n).2⟩
theorem kZ (ds:List D) (R:D->Prop) (h:zQG ds R):XH ds R:=let ⟨x,far,e,h0,hb,q⟩:=h; ⟨x,far,e,h0,hb,q _ (by have:=md x (show (0:Int) < 2 * far + 1 by omega); unfold y6; omega) (by have:=md x (show (0:Int) < 2 * far + 1 by omega); unfold y6; omega)⟩
theorem uE {P:Program} {w:World} {K:b_} {mg:Str->Option Value} {base:Heap} {x:Str} {ps:List Str} {k:Nat} {F G:FL} (i:∀ ds R,G ds R->F ds R) (c:Fn P w K mg base x ps k (zG F)):Fn P w K mg base x ps k (zG G):=by
 obtain ⟨f,fd,a,b⟩:=c.ex
 exact ⟨f,fd,zE.impN (λvs H Q E ⟨Z,ds,R,zd,hv,h,q⟩=>⟨Z,ds,R,zd,hv,i _ _ h,q⟩) a,b⟩
noncomputable def SF (d:D) (ds:List D):Prop:=d=.lst ds\/d=.frz ds
theorem SF.len {d:D} {ds:List D} (h:SF d ds) {R:D->Prop} (q:R (.int ds.length)):qr [d] R:=by rcases h with rfl | rfl <;> exact q
theorem SF.ix {d:D} {ds:List D} (h:SF d ds) {i:Int} {R:D->Prop} (q:∃ x,yx ds i=some x/\R x):gw d (.int i) R:=by rcases h with rfl | rfl <;> exact q
noncomputable def ka:FL:=λds R=>∃ (d:D) (bs:List (Int × Int)),ds=[d]/\SF d (bs.map zz)/\bs.length<=100/\R (Rm (zj bs))
theorem Qh (ds:List D) (R:D->Prop) (h:XF ds R):ka ds R:=let ⟨bs,e,l,q⟩:=h; ⟨_,bs,e,.inl rfl,l,q⟩
noncomputable def vP (c:Int) (n:Nat) (u:Int):List (Int × Int):=(cR n).map λi=>(y6 ((yD c (2 * n)).getD (2 * i) 0) 3 * u,y6 ((yD c (2 * n)).getD (2 * i) 0) 3 * u + ((yD c (2 * n)).getD (2 * i + 1) 0).fmod 4 * u + (((yD c (2 * n)).getD (2 * i + 1) 0).fdiv 4).fmod 2)
noncomputable def zSN:FL:=λds R=>∃ (c:Int) (n:Nat) (u:Int),ds=[.int c,.int (n:Int),.int u]/\n<=3/\0<=u/\Bd 100 u/\R (.lst ((vP c n u).map zz))
theorem zMT {c:Int} {n:Nat} {u:Int} (u0:0<=u) (bu:Bd 100 u):(vP c n u).length=n/\∀ b∈vP c n u,b.1<=b.2/\Bd 105 b.1/\Bd 105 b.2:=by
 unfold vP
 refine ⟨by rw [a_,cI],λb hb=>?_⟩
 obtain ⟨i,_,rfl⟩:=cr.mp hb
 generalize (yD c (2 * n)).getD (2 * i) 0=x
 generalize (yD c (2 * n)).getD (2 * i + 1) 0=y
 have m0:=md x (show (0:Int) < 2 * 3 + 1 by decide)
 have m1:=md y (show (0:Int) < 4 by decide)
 have m2:=md (y.fdiv 4) (show (0:Int) < 2 by decide)
 have g0:0<=y.fmod 4 * u:=iW m1.1 u0
 have by2:Bd 2 (y6 x 3):=zO1 (f:=3) Bd.lit (by unfold y6; omega) (by unfold y6; omega)
 have c1:Bd 102 (y6 x 3 * u):=by2.mul bu
 have c2:Bd 103 (y.fmod 4 * u):=(uD (n:=3) Bd.lit (by decide)).mul bu
 have c3:Bd 2 ((y.fdiv 4).fmod 2):=uD Bd.lit (by decide)
 exact ⟨by show y6 x 3 * u<=y6 x 3 * u + y.fmod 4 * u + (y.fdiv 4).fmod 2; omega,c1.mono,((c1.mono (show 102<=103 by decide)).add c2 |>.add c3.mono).mono⟩
theorem XI {e:Nat} {a b:Int} (h:Bd e a) (k:Bd e b):Bd e (max a b):=by
 rw [Int.max_def]
 split
 ·exact k
 ·exact h
theorem zOz {a:Nat}:∀ {ns:List Int},(∀ x∈ns,Bd a x)->Bd (a + ns.length) ns.sum
 | [],_=>by rw [List.sum_nil]; exact vO
 | n :: ns,h=>by
  rw [iA,cJ]
  exact (((h n cq).mono (show a<=a + ns.length by omega)).add (zOz λx hx=>h x (cn _ hx))).mono (by omega)
theorem zSe (a b:List Int):L (a++b)=.lst (a.map D.int++b.map D.int):=by unfold L; rw [cx]
theorem jQ {y:Int} {f n:Nat} (h:f < 2 ^ n) (h1 : -(f:Int)<=y) (h2:y<=(f:Int)):Bd n y:=by
 show y.natAbs < 2 ^ n
 omega
theorem u6 {α β:Type} {f:α->β} {l:List α} {k:Nat} {y:β} (h:(l.map f)[k]? = some y):∃ x,l[k]? = some x/\f x=y:=by
 rw [cS] at h
 cases c:l[k]? with
 | none=>rw [c] at h; cases h
 | some x=>rw [c] at h; cases h; exact ⟨x,rfl,rfl⟩
noncomputable def zK:List Int->List (Int × Int)->Int
 | x :: xs,b :: bs=>max (x * b.1) (x * b.2) + zK xs bs
 | _,_=>0
theorem zI4:∀ {xs:List Int} {bs:List (Int × Int)} {x:Int} {b:Int × Int},xs.length=bs.length->zK (xs++[x]) (bs++[b])=zK xs bs + max (x * b.1) (x * b.2)
 | [],[],x,b,_=>by show max (x * b.1) (x * b.2) + 0=0 + max (x * b.1) (x * b.2); omega
 | [],_ :: _,_,_,h=>nomatch h
 | _ :: _,[],_,_,h=>nomatch h
 | y :: xs,c :: bs,x,b,h=>by
  show max (y * c.1) (y * c.2) + zK (xs++[x]) (bs++[b])=max (y * c.1) (y * c.2) + zK xs bs + max (x * b.1) (x * b.2)
  rw [zI4 (Nat.succ.inj h)]
  omega
theorem gJ {e f:Nat}:∀ {xs:List Int} {bs:List (Int × Int)},(∀ x∈xs,Bd f x)->(∀ b∈bs,Bd e b.1/\Bd e b.2)->Bd (f + e + xs.length) (zK xs bs)
 | [],_,_,_=>vO
 | _ :: _,[],_,_=>vO
 | x :: xs,b :: bs,h,k=>by
  have h1:=XI ((h x cq).mul (k b cq).1) ((h x cq).mul (k b cq).2)
  have h2:=gJ (xs:=xs) (bs:=bs) (λy hy=>h y (cn _ hy)) λc hc=>k c (cn _ hc)
  exact (h1.mono (dA _ _)).add h2
theorem zI3:∀ (xs:List Int) (bs:List (Int × Int)),zK (xs.take (min xs.length bs.length)) (bs.take (min xs.length bs.length))=zK xs bs
 | [],bs=>by rw [me,Nat.zero_min]; rfl
 | x :: xs,[]=>by rw [me,Nat.min_zero]; rfl
 | x :: xs,b :: bs=>by
  rw [cJ,cJ,Nat.succ_min_succ,ib,ib]
  show _ + zK _ _=_ + zK _ _
  rw [zI3 xs bs]
noncomputable abbrev yk (s:Int × List Int):D:=.tup [.int s.1,L s.2]
noncomputable abbrev vA (ss:List (Int × List Int)):D:=.lst (ss.map yk)
noncomputable abbrev wB (t:List (List (Int × List Int))):D:=.lst (t.map vA)
theorem XJ (j:Nat):∀ {r1:List (List Int)} {s1:List Int} {r2:List (List Int)} {s2:List Int},r1.length=s1.length->yW (r1++r2) (s1++s2) j=yW r1 s1 j + yW r2 s2 j
 | [],[],_,_,_=>by rw [jz,e9]; rfl
 | [],_ :: _,_,_,h=>nomatch h
 | _ :: _,[],_,_,h=>nomatch h
 | r :: r1,s :: s1,r2,s2,h=>by
  show yW (r :: (r1++r2)) (s :: (s1++s2)) j=_
  rw [uO,uO,XJ j (Nat.succ.inj h)]
  omega
theorem zQ8 (j:Nat):∀ (rows:List (List Int)) (k:Nat),yW rows (cv k 0) j=0
 | [],_=>jz _ _
 | _ :: _,0=>Zs _ _
 | r :: rows,k + 1=>by
  rw [dr,uO,zQ8 j rows k]
  omega
theorem XM (r:List Int) (x:Int) (j:Nat):yW [r] [x] j=r.getD j 0 * x:=by rw [uO,jz,fH]
theorem zOM {rows:List (List Int)} {tw ns:List Int} {n:Nat} (lt:tw.length=n + 1) (h:∀ j,j < n->yW rows ns j=tw.getD j 0) (k:yW rows ns n<=tw.getD n 0):um rows tw 1 ns n=true:=by
 unfold um
 rw [if_neg (by decide),mf,decide_eq_true k,my]
 refine decide_eq_true ?_
 rw [show (tw.take n).map (1 * ·)=tw.take n from (cN λx _=>mf x).trans (e_ _),<- zMo (by omega)]
 exact cN λj hj=>h j (du.mp hj)
theorem zQr {rows:List (List Int)} {tw ns:List Int} {n:Nat} (h:∀ j,j < n->yW rows ns j=0) (k:yW rows ns n < 0):um rows tw 0 ns n=true:=by
 unfold um
 rw [if_pos rfl,decide_eq_true k,my]
 refine cK.mpr λx hx=>?_
 obtain ⟨j,hj,rfl⟩:=cr.mp hx
 exact decide_eq_true (h j (du.mp hj))
noncomputable def yp:List Int->List Int
 | []=>[]
 | x :: xs=>max x 0 :: max (0 - x) 0 :: yp xs
theorem vB:∀ xs:List Int,(yp xs).length=2 * xs.length
 | []=>rfl
 | _ :: xs=>by show (yp xs).length + 1 + 1=2 * (xs.length + 1); rw [vB xs]; omega
theorem kg:∀ xs:List Int,∀ y∈yp xs,0<=y
 | [],_,h=>nomatch h
 | x :: xs,y,h=>by
  rcases cu.mp h with rfl | h
  ·omega
  rcases cu.mp h with rfl | h
  ·omega
  exact kg xs y h
theorem zKd {a n j:Nat} {y c:Int} (h:j < n):(ya (a:Int) n y++[c]).getD j 0=if j=a then y else 0:=by
 rw [cg,dm (by rw [vx]; exact h)]
 unfold ya
 rw [cS,dj h]
 show (if ((j:Nat):Int)=((a:Nat):Int) then y else 0)=_
 by_cases e:j=a
 ·rw [if_pos e,if_pos (by omega)]
 ·rw [if_neg e,if_neg (by omega)]
theorem zI1 {a n:Nat} {y c:Int}:(ya (a:Int) n y++[c]).getD n 0=c:=by
 rw [cg,dg (by rw [vx]; omega),vx,eD]
 rfl
theorem zNv (x:Int):1 * max x 0 + (-1) * max (0 - x) 0=x:=by omega
theorem zNu {x a b:Int} (h:a<=b):b * max x 0 + (-a) * max (0 - x) 0=max (x * a) (x * b):=by
 by_cases c:0<=x
 ·rw [fP c,fB (show 0 - x<=0 by omega),lK,fH,fB (eS h c),ik]
 ·have z:x * b<=x * a:=eT (by omega) h
  rw [fB (show x<=0 by omega),fP (show 0<=0 - x by omega),lK,e9,fP z,fb,Int.neg_mul_neg,ik]
theorem Qi {n p:Nat}:∀ {bs:List (Int × Int)} {g:List Int} (k:Nat),g.length=bs.length->k + bs.length<=p->(∀ b∈bs,b.1<=b.2)->(∀ j,j < n + p->yW ((bs.mapIdx λi b=>wD n p (k + i) b).flatten) (yp g) j=if n + k<=j then g.getD (j - (n + k)) 0 else 0)/\yW ((bs.mapIdx λi b=>wD n p (k + i) b).flatten) (yp g) (n + p)=zK g bs
 | [],[],k,_,_,_=>⟨λj _=>by
   rw [show yW ((([]:List (Int × Int)).mapIdx λi b=>wD n p (k + i) b).flatten) (yp []) j=0 from jz _ _]
   split <;> rfl,jz _ _⟩
 | [],_ :: _,_,h,_,_=>nomatch h
 | _ :: _,[],_,h,_,_=>nomatch h
 | b :: bs,x :: g,k,h,kp,ob=>by
  have kp:k + (bs.length + 1)<=p:=kp
  obtain ⟨i1,i2⟩:=Qi (n:=n) (p:=p) (bs:=bs) (g:=g) (k + 1) (Nat.succ.inj h) (by omega) λc hc=>ob c (cn _ hc)
  have e:(((b :: bs).mapIdx λi b=>wD n p (k + i) b).flatten)=(ya ((n + k:Nat):Int) (n + p) 1++[b.2]) :: (ya ((n + k:Nat):Int) (n + p) (-1)++[-b.1]) :: ((bs.mapIdx λi b=>wD n p (k + 1 + i) b).flatten):=by
   rw [lT,d9]
   have:(λ(i:Nat) (b:Int × Int)=>wD n p (k + (i + 1)) b)=λi b=>wD n p (k + 1 + i) b:=by funext i b; rw [show k + (i + 1)=k + 1 + i by omega]
   rw [this]
   rfl
  rw [e]
  show (∀ j,j < n + p->yW (_ :: _ :: _) (max x 0 :: max (0 - x) 0 :: yp g) j=_)/\yW (_ :: _ :: _) (max x 0 :: max (0 - x) 0 :: yp g) _=_
  refine ⟨λj hj=>?_,?_⟩
  ·rw [uO,uO,i1 j hj,zKd hj,zKd hj]
   by_cases c:j=n + k
   ·have o:=zNv x
    rw [if_pos c,if_pos c,if_neg (by omega),if_pos (by omega),c,eD]
    show 1 * _ + ((-1) * _ + 0)=x
    omega
   ·rw [if_neg c,if_neg c]
    by_cases d:n + k<=j
    ·rw [if_pos (show n + (k + 1)<=j by omega),if_pos d,show j - (n + k)=j - (n + (k + 1)) + 1 by omega]
     show 0 * _ + (0 * _ + _)=(x :: g).getD (_ + 1) 0
     rw [fE]
     omega
    ·rw [if_neg (show ¬ n + (k + 1)<=j by omega),if_neg d]
     omega
  ·rw [uO,uO,i2,zI1,zI1]
   have o:=zNu (x:=x) (ob b cq)
   show _=max (x * b.1) (x * b.2) + zK g bs
   omega
theorem zSV {bx:List (Int × Int)}:zj bx=(bx.mapIdx λi b=>wD 0 bx.length (0 + i) b).flatten:=by
 unfold zj
 congr 1
 refine io.mpr λi hi=>?_
 unfold wA wD
 rw [show ((0 + (0 + i):Nat):Int)=(i:Int) by omega,gV,fb]
 congr 3
 unfold ya
 rw [cw]
 refine cN λj _=>?_
 show 0 - (if ((j:Nat):Int)=(i:Int) then (1:Int) else 0)=if ((j:Nat):Int)=(i:Int) then (-1:Int) else 0
 split <;> rfl
theorem Qj {bx:List (Int × Int)} {g:List Int} (l:g.length=bx.length) (ob:∀ b∈bx,b.1<=b.2):(∀ j,j < bx.length->yW (zj bx) (yp g) j=g.getD j 0)/\yW (zj bx) (yp g) bx.length=zK g bx:=by
 rw [zSV]
 obtain ⟨h1,h2⟩:=Qi (n:=0) (p:=bx.length) 0 l (by omega) ob
 rw [gV] at h1 h2
 exact ⟨λj hj=>by have:=h1 j hj; rw [if_pos (by omega)] at this; exact this,h2⟩
theorem UG {g:List Int} {n j:Nat} {c:Int} (l:g.length=n) (h:j < n):(g++[c]).getD j 0=g.getD j 0:=by
 rw [cg,dm (by omega),cg]
theorem u7 {g:List Int} {n:Nat} {c:Int} (l:g.length=n):(g++[c]).getD n 0=c:=by
 rw [cg,dg (by omega),l,eD]
 rfl
theorem zMu {bx:List (Int × Int)} {g:List Int} {n:Nat} {c:Int} (lb:bx.length=n) (l:g.length=n) (ob:∀ b∈bx,b.1<=b.2) (h:zK g bx<=c):um (zj bx) (g++[c]) 1 (yp g) n=true:=by
 obtain ⟨h1,h2⟩:=Qj (l.trans lb.symm) ob
 rw [lb] at h1 h2
 refine zOM (by rw [cj,l]; rfl) (λj hj=>?_) ?_
 ·rw [h1 j hj,UG l hj]
 ·rw [h2,u7 l]; exact h
theorem zKZ {n p j:Nat} {g:List Int} {c:Int} (l:g.length=n) (h:j < n + p):(xv n p (g++[c])).getD j 0=if j < n then g.getD j 0 else 0:=by
 unfold xv
 rw [cX (by omega),cL (by omega),UG (n:=n + p) (by rw [cj,di,l]) h,cg]
 by_cases c:j < n
 ·rw [if_pos c,dm (by omega),cg]
 ·rw [if_neg c,dg (by omega),List.getElem?_replicate_of_lt (by omega)]
  rfl
theorem zIz {n p:Nat} {g:List Int} {c:Int} (l:g.length=n):(xv n p (g++[c])).getD (n + p) 0=c:=by
 unfold xv
 rw [u7 (by rw [cj,di,cE,cj]; omega),u7 l]
theorem zHX {n:Nat} {bs:List (Int × Int)} {rows:List (List Int)} {ns g:List Int} (ob:∀ b∈bs,b.1<=b.2) (lr:rows.length=ns.length) (lg:g.length=bs.length):(∀ j,j < n + bs.length->yW (vy n bs rows) (ns++yp g) j=yW (rows.map (xv n bs.length)) ns j + if n<=j then g.getD (j - n) 0 else 0)/\yW (vy n bs rows) (ns++yp g) (n + bs.length)=yW (rows.map (xv n bs.length)) ns (n + bs.length) + zK g bs:=by
 unfold vy
 have e:(bs.mapIdx (wD n bs.length)).flatten=(bs.mapIdx λi b=>wD n bs.length (0 + i) b).flatten:=by
  congr 1
  exact io.mpr λi hi=>by rw [gV]
 obtain ⟨h1,h2⟩:=Qi (n:=n) (p:=bs.length) 0 lg (by omega) ob
 rw [e]
 refine ⟨λj hj=>?_,?_⟩
 ·rw [XJ j (by rw [a_]; exact lr),h1 j hj,iN]
 ·rw [XJ _ (by rw [a_]; exact lr),h2]
theorem zN1 {ns:List Int} (h:∀ x∈ns,0<=x):(ns.map D.int).all uC=true:=cK.mpr λd hd=>by
 obtain ⟨x,hx,rfl⟩:=cr.mp hd
 exact decide_eq_true (h x hx)
theorem Qk {rows:List (List Int)} {tw ns:List Int} {n:Nat} {o:Int} (o0:0<=o) (l:ns.length=rows.length) (n0:∀ x∈ns,0<=x) (h:um rows tw o ns n=true):uU rows tw n (yk (o,ns))=true:=by
 show ((decide (0<=o) && (decide ((ns.map D.int).length=rows.length) && (ns.map D.int).all uC)) && um rows tw o ((ns.map D.int).map zv) n)=true
 rw [kH,h,zN1 n0,a_,decide_eq_true l,decide_eq_true o0]
 rfl
theorem Ql {α β:Type} {f:α->β}:∀ {l:List α} {p:α × β},p∈l.zip (l.map f)->∃ x,x∈l/\p=(x,f x)
 | [],_,h=>nomatch h
 | x :: l,p,h=>by
  rcases cu.mp h with rfl | h
  ·exact ⟨x,cq,rfl⟩
  ·obtain ⟨y,hy,e⟩:=Ql h
   exact ⟨y,cn _ hy,e⟩
theorem zQN {rows:List (List Int)} {n:Nat} {f:List Int->Int × List Int}:∀ {tws:List (List Int)},(∀ r∈tws,uU rows r n (yk (f r))=true)->jP rows tws n (vA (tws.map f))=true:=λ{tws} h=>by
 show (decide ((((tws.map f).map yk).length:Int)=(tws.length:Int)) && (tws.zip ((tws.map f).map yk)).all λp=>uU rows p.1 n p.2)=true
 rw [a_,a_,decide_eq_true rfl,eQ]
 refine cK.mpr λp hp=>?_
 rw [cw] at hp
 obtain ⟨r,hr,rfl⟩:=Ql hp
 exact h r hr
noncomputable def cM (ws:List Int) (m:MD) (p:Nat):List Int:=(cR p).map (zm ws m.push)
theorem UH (ws:List Int) (m:MD) (p:Nat):(cM ws m p).length=p:=by unfold cM; rw [a_,cI]
noncomputable def zs (k:Nat):List Int:=cv k 0
theorem XN (k:Nat):(zs k).length=k:=di ..
theorem Qm {k:Nat}:∀ x∈zs k,0<=x:=λx hx=>by rw [dX hx]; exact eF _
theorem UI {a b:List Int} (h:∀ x∈a,0<=x) (k:∀ x∈b,0<=x):∀ x∈a++b,0<=x:=λx hx=>(cZ.mp hx).elim (h x) (k x)
theorem zPR {a:Int} (h:0<=a):∀ x∈[a],0<=x:=λx hx=>by rw [cQ.mp hx]; exact h
structure Fx (n:Nat) (goal:List Int) (o:Int) (box:List (Int × Int)) (room aims:List (List Int)) (ws:List Int) (b tp:Int):Prop where
 ws:ws=goal.map (o * ·)
 tp:zK (goal.map (o * ·)) box + b<=tp
 sh:∃ B,o * (0 - B)<=b/\((room=[]/\aims=[goal++[B]])\/∃ t2,room=[goal++[t2]]/\zK goal box<=t2/\(aims=[goal++[B]]\/∃ t3,t2 < t3/\aims=[goal++[B],goal++[t3]]))
theorem zOy:∀ k:Nat,zs (2 * k)=yp (zs k)
 | 0=>rfl
 | k + 1=>by
  show cv (2 * k + 1 + 1) 0=max (0:Int) 0 :: max (0 - 0) 0 :: yp (zs k)
  rw [dr,dr,<- zOy k]
  rfl
theorem XO (k j:Nat):(zs k).getD j 0=0:=by
 unfold zs
 rw [cg,iw]
 split <;> rfl
theorem zQi:∀ bs:List (Int × Int),zK (zs bs.length) bs=0
 | []=>rfl
 | b :: bs=>by
  show max (0 * b.1) (0 * b.2) + zK (zs bs.length) bs=0
  rw [zQi bs,eN,eN]
  rfl
theorem zSa {α β:Type} {f:α->β} {g:α × β->Bool} {l:List α} (h:∀ x∈l,g (x,f x)=true):(l.zip (l.map f)).all g=true:=cK.mpr λp hp=>by
 obtain ⟨x,hx,rfl⟩:=Ql hp
 exact h x hx
theorem zPx {α β:Type} {f:α->β} (l:List α):decide (((l.map f).length:Int)=(l.length:Int))=true:=by rw [a_]; exact decide_eq_true rfl
theorem u8 (bx:List (Int × Int)):(zj bx).length=2 * bx.length:=by
 unfold zj
 rw [fD]
 have e:(bx.mapIdx (wA bx.length)).map dS=cv bx.length 2:=by
  refine fu (by simp) λi h1 h2=>?_
  simp [wA]
 rw [e]
 simp
 omega
section
variable {n:Nat} {bs:List (Int × Int)} {ms:List MD} {goal:List Int} {o st:Int} {box:List (Int × Int)} {room aims:List (List Int)} {ws:List Int} {b tp:Int}
theorem Fx.rm (F:Fx n goal o box room aims ws b tp):∀ r∈room,∃ t2,r=goal++[t2]/\room=[goal++[t2]]/\zK goal box<=t2:=λr hr=>by
 obtain ⟨B,_,⟨rfl,_⟩ | ⟨t2,rfl,h,_⟩⟩:=F.sh
 ·cases hr
 ·exact ⟨t2,cQ.mp hr,rfl,h⟩
end
theorem zOj {W s:Int} (h:0 < s):W<=(0 - (0 - W).fdiv s) * s:=by
 rw [dQ _ (Int.le_of_lt h),mh,eN]
 have:=iO (0 - W) (Int.ne_of_gt h)
 omega
theorem Qn {j:Nat}:∀ {us:List Int} {ls:List (List Int)},us.length=ls.length->((cR us.length).map λi=>us.getD i 0 * (ls.getD i []).getD j 0).sum=zm us ls j
 | [],[],_=>rfl
 | [],_ :: _,h=>nomatch h
 | _ :: _,[],h=>nomatch h
 | u :: us,v :: vs,h=>by
  rw [cJ,eW,cT,cw,iA]
  show u * v.getD j 0 + ((cR us.length).map λi=>us.getD i 0 * (vs.getD i []).getD j 0).sum=u * v.getD j 0 + zm us vs j
  rw [Qn (Nat.succ.inj h)]
theorem zH3 (x:Int):∀ xs:List Int,yp (xs++[x])=yp xs++[max x 0,max (0 - x) 0]
 | []=>rfl
 | y :: xs=>by show _ :: _ :: yp (xs++[x])=_; rw [zH3 x xs]; rfl
theorem XQ {e:Nat}:∀ {xs:List Int},(∀ x∈xs,Bd e x)->∀ y∈yp xs,Bd e y
 | [],_,_,h=>nomatch h
 | x :: xs,h,y,hy=>by
  have hx:=h x cq
  rcases cu.mp hy with rfl | hy
  ·exact XI hx vO
  rcases cu.mp hy with rfl | hy
  ·rw [fb]; exact XI hx.neg vO
  exact XQ (λz hz=>h z (cn _ hz)) y hy
noncomputable def IF (d:D) (ns:List Int):Prop:=IS d ns\/d=D.scr ns
theorem IF.seq {d:D} {ns:List Int} (h:IF d ns) {R:List D->Prop} (q:R (ns.map D.int)):uv d R:=by
 rcases h with (rfl | rfl) | rfl <;> exact q
theorem IF.zipL {d:D} {ns:List Int} {es:List D} (h:IF d ns) {R:List D->Prop} (q:R (dh y3 (ns.map D.int) es)):uS [d,.lst es] R:=by
 rcases h with (rfl | rfl) | rfl <;> exact q
theorem IF.ix {d:D} {ns:List Int} (h:IF d ns) {i:Nat} (hi:i < ns.length) {R:D->Prop} (q:R (.int (ns.getD i 0))):gw d (.int (i:Int)) R:=by
 rcases h with (rfl | rfl) | rfl <;> exact ⟨_,xE hi rfl,q⟩
noncomputable def UJ:FL:=λds R=>∃ (d:D) (ns:List Int),ds=[d]/\IF d ns/\ns.length<=100/\R (L (yp ns))
noncomputable abbrev ym (m:MD):D:=.tup [.frz (m.rows.map U),.frz (m.nexts.map D.scr),D.scr m.steer,.frz (m.push.map D.scr),D.scr m.add,.int m.div]
noncomputable abbrev wQ (n:Nat) (bs:List (Int × Int)) (ms:List MD) (u:Int):D:=.tup [.int (n:Int),.frz (bs.map zz),.frz (ms.map ym),.int u]
theorem y8 {α:Type} {f:α->D} {l:List α} {k:Nat} (z:α) (h:k < l.length):yx (l.map f) (k:Int)=some (f (l.getD k z)):=by
 rw [qq]
 unfold yx vp
 rw [if_pos (by omega),if_pos (by omega)]
 show iv f l[((k:Nat):Int).toNat]? = _
 rw [show ((k:Nat):Int).toNat=k by omega,ck h,cg,ck h]
 rfl
theorem wK {α:Type} {l:List α} {k:Nat} {z:α} (h:k < l.length):l.getD k z∈l:=by
 rw [cg,ck h]
 exact dN h
theorem zO0 {e f:Nat} {ws:List Int} {M:List (List Int)} (h:∀ x∈ws,Bd e x) (k:∀ r∈M,∀ x∈r,Bd f x) (j:Nat):Bd (e + f + ws.length) (zm ws M j):=by
 have b:∀ x∈(ws.zip M).map λq=>q.1 * q.2.getD j 0,Bd (e + f) x:=λx hx=>by
  obtain ⟨q,hq,rfl⟩:=cr.mp hx
  obtain ⟨h1,h2⟩:=c_ hq
  exact (h _ h1).mul (jg (k _ h2) j)
 have:=zOz b
 rw [a_,eA] at this
 exact this.mono (by omega)
noncomputable def za (l:List Int):List Int:=l.map λc=>0 - c
noncomputable def zh:List (Int × Int)->List (Int × Int)->Prop
 | [],[]=>True
 | a :: as,b :: bs=>(b.1<=a.1/\a.2<=b.2)/\zh as bs
 | _,_=>False
noncomputable def zt (bx:List (Int × Int)):Prop:=∀ b∈bx,b.1<=b.2
theorem zh.len:∀ {A B:List (Int × Int)},zh A B->A.length=B.length
 | [],[],_=>rfl
 | [],_ :: _,h=>h.elim
 | _ :: _,[],h=>h.elim
 | _ :: A,_ :: B,h=>congrArg (· + 1) (zh.len (A:=A) (B:=B) h.2)
theorem zh.refl:∀ A:List (Int × Int),zh A A
 | []=>trivial
 | _ :: A=>⟨⟨eF _,eF _⟩,zh.refl A⟩
theorem zh.trans:∀ {A B C:List (Int × Int)},zh A B->zh B C->zh A C
 | [],[],[],_,_=>trivial
 | _ :: A,_ :: B,_ :: C,h,k=>⟨⟨Int.le_trans k.1.1 h.1.1,Int.le_trans h.1.2 k.1.2⟩,zh.trans (A:=A) h.2 k.2⟩
 | [],_ :: _,_,h,_=>h.elim
 | _ :: _,[],_,h,_=>h.elim
 | [],[],_ :: _,_,k=>k.elim
 | _ :: _,_ :: _,[],_,k=>k.elim
theorem zh.at:∀ {A B:List (Int × Int)} {i:Nat},zh A B->i < A.length->(B.getD i (0,0)).1<=(A.getD i (0,0)).1/\(A.getD i (0,0)).2<=(B.getD i (0,0)).2
 | _ :: _,_ :: _,0,h,_=>h.1
 | _ :: A,_ :: B,i + 1,h,hi=>zh.at (A:=A) (B:=B) (i:=i) h.2 (Nat.lt_of_succ_lt_succ hi)
 | [],_,_,_,hi=>absurd hi (l' _)
 | _ :: _,[],_,h,_=>h.elim
theorem zOF:∀ {A B:List (Int × Int)},A.length=B.length->(∀ i,i < A.length->(B.getD i (0,0)).1<=(A.getD i (0,0)).1/\(A.getD i (0,0)).2<=(B.getD i (0,0)).2)->zh A B
 | [],[],_,_=>trivial
 | [],_ :: _,l,_=>nomatch l
 | _ :: _,[],l,_=>nomatch l
 | _ :: A,_ :: B,l,h=>⟨h 0 (iC _),zOF (Nat.succ.inj l) λi hi=>h (i + 1) (lU hi)⟩
theorem zPu {x a1 a2 b1 b2:Int} (h1:b1<=a1) (h2:a1<=a2) (h3:a2<=b2):max (x * a1) (x * a2)<=max (x * b1) (x * b2):=by
 by_cases c:0<=x
 ·have k1:=eS h2 c
  have k2:=eS h3 c
  omega
 ·have k1:=eT (show x<=0 by omega) h1
  have k2:=eT (show x<=0 by omega) h2
  omega
theorem UK:∀ {A B:List (Int × Int)} (ns:List Int),zh A B->zt A->zK ns A<=zK ns B
 | _,_,[],_,_=>eF _
 | [],[],_ :: _,_,_=>eF _
 | [],_ :: _,_ :: _,h,_=>h.elim
 | _ :: _,[],_ :: _,h,_=>h.elim
 | a :: A,b :: B,x :: ns,h,o=>by
  have ih:=UK (A:=A) (B:=B) ns h.2 λc hc=>o c (cn _ hc)
  have k:=zPu (x:=x) h.1.1 (o a cq) h.1.2
  show max (x * a.1) (x * a.2) + zK ns A<=max (x * b.1) (x * b.2) + zK ns B
  omega
theorem Qo:∀ {A:List (Int × Int)} (ns:List Int),zt A->0<=zK ns A + zK (za ns) A
 | _,[],_=>by cases ‹List (Int × Int)› <;> exact eF _
 | [],_ :: _,_=>eF _
 | a :: A,x :: ns,o=>by
  have ih:=Qo (A:=A) ns λc hc=>o c (cn _ hc)
  show 0<=max (x * a.1) (x * a.2) + zK ns A + (max ((0 - x) * a.1) ((0 - x) * a.2) + zK (za ns) A)
  rw [mh,mh,eN,eN]
  omega
noncomputable def gK (n:Nat) (bx:List (Int × Int)) (r:List Int):Bool:=decide (r.getD n 0 < 0 - zK (za (r.take n)) bx)
noncomputable def xF (n:Nat) (m:MD) (bx:List (Int × Int)):Bool:=m.rows.any (gK n bx)
noncomputable def xg (bs bx:List (Int × Int)) (m:MD) (i:Nat):Int:=0 - (0 - (zK (m.nexts.getD i []) bx + zK (m.push.getD i []) bs + m.add.getD i 0)).fdiv m.div
noncomputable def xm (bs bx:List (Int × Int)) (m:MD) (i:Nat):Int:=(m.add.getD i 0 - (zK (za (m.nexts.getD i [])) bx + zK (za (m.push.getD i [])) bs)).fdiv m.div
noncomputable def yY (n:Nat) (ms:List MD) (bx:List (Int × Int)):List MD:=ms.filter λm=>!(xF n m bx)
noncomputable def xG (n:Nat) (bs:List (Int × Int)) (ms:List MD) (bx:List (Int × Int)):List (Int × Int):=match yY n ms bx with
 | []=>bx
 | m :: l=>(cR n).map λi=>((l.map (xm bs bx · i)).foldl min (xm bs bx m i),(l.map (xg bs bx · i)).foldl max (xg bs bx m i))
theorem XR:∀ {xs:List Int} {v:Int},xs.foldl min v∈v :: xs/\∀ x∈v :: xs,xs.foldl min v<=x
 | [],v=>⟨cq,λx hx=>by rw [cQ.mp hx]; exact eF _⟩
 | y :: xs,v=>by
  obtain ⟨h1,h2⟩:=XR (xs:=xs) (v:=min v y)
  refine ⟨?_,λx hx=>?_⟩
  ·rcases cu.mp h1 with e | e
   ·show xs.foldl min (min v y)∈_
    rw [e]
    by_cases c:v<=y
    ·rw [mj c]; exact cq
    ·rw [lZ (by omega)]; exact cn _ cq
   ·exact cn _ (cn _ e)
  ·have k:=h2 (min v y) cq
   show xs.foldl min (min v y)<=x
   rcases cu.mp hx with rfl | hx
   ·omega
   ·rcases cu.mp hx with rfl | hx
    ·omega
    ·exact h2 x (cn _ hx)
theorem XS:∀ {xs:List Int} {v:Int},xs.foldl max v∈v :: xs/\∀ x∈v :: xs,x<=xs.foldl max v
 | [],v=>⟨cq,λx hx=>by rw [cQ.mp hx]; exact eF _⟩
 | y :: xs,v=>by
  obtain ⟨h1,h2⟩:=XS (xs:=xs) (v:=max v y)
  refine ⟨?_,λx hx=>?_⟩
  ·rcases cu.mp h1 with e | e
   ·show xs.foldl max (max v y)∈_
    rw [e]
    by_cases c:v<=y
    ·rw [fB c]; exact cn _ cq
    ·rw [fP (by omega)]; exact cq
   ·exact cn _ (cn _ e)
  ·have k:=h2 (max v y) cq
   show x<=xs.foldl max (max v y)
   rcases cu.mp hx with rfl | hx
   ·omega
   ·rcases cu.mp hx with rfl | hx
    ·omega
    ·exact h2 x (cn _ hx)
section
variable {n:Nat} {bs:List (Int × Int)} {ms:List MD} {A B:List (Int × Int)}
theorem UL (h:yY n ms B=[]):xG n bs ms B=B:=by unfold xG; rw [h]
theorem XT (h:yY n ms B≠[]) {i:Nat} (hi:i < n):(∀ m∈yY n ms B,((xG n bs ms B).getD i (0,0)).1<=xm bs B m i/\xg bs B m i<=((xG n bs ms B).getD i (0,0)).2)/\(∃ m∈yY n ms B,((xG n bs ms B).getD i (0,0)).1=xm bs B m i)/\∃ m∈yY n ms B,((xG n bs ms B).getD i (0,0)).2=xg bs B m i:=by
 unfold xG
 split
 ·rename_i e; exact absurd e h
 ·rename_i m l e
  rw [e,cg,cS,dj hi]
  obtain ⟨a1,a2⟩:=XR (xs:=l.map (xm bs B · i)) (v:=xm bs B m i)
  obtain ⟨b1,b2⟩:=XS (xs:=l.map (xg bs B · i)) (v:=xg bs B m i)
  have mm:∀ {f:MD->Int} {y:Int},y∈f m :: l.map f->∃ m'∈m :: l,y=f m':=λ{f y} hy=>by
   rcases cu.mp hy with rfl | hy
   ·exact ⟨m,cq,rfl⟩
   ·obtain ⟨m',hm',rfl⟩:=cr.mp hy
    exact ⟨m',cn _ hm',rfl⟩
  have mi:∀ {f:MD->Int} {m':MD},m'∈m :: l->f m'∈f m :: l.map f:=λ{f m'} h=>by
   rcases cu.mp h with rfl | h
   ·exact cq
   ·exact cn _ (cr.mpr ⟨m',h,rfl⟩)
  exact ⟨λm' h=>⟨a2 _ (mi (f:=(xm bs B · i)) h),b2 _ (mi (f:=(xg bs B · i)) h)⟩,mm (f:=(xm bs B · i)) a1,mm (f:=(xg bs B · i)) b1⟩
theorem u9 (lB:B.length=n):(xG n bs ms B).length=n:=by
 unfold xG
 split
 ·exact lB
 ·rw [a_,cI]
theorem zQT {m:MD} (s:zh A B) (o:zt A) (h:xF n m B=true):xF n m A=true:=by
 obtain ⟨r,hr,k⟩:=fo.mp h
 refine fo.mpr ⟨r,hr,?_⟩
 have k:=of_decide_eq_true k
 have:=UK (za (r.take n)) s o
 exact decide_eq_true (by omega)
theorem Qp (s:zh A B) (o:zt A) {m:MD} (h:m∈yY n ms A):m∈yY n ms B:=by
 obtain ⟨h1,h2⟩:=dq.mp h
 refine dq.mpr ⟨h1,?_⟩
 cases c:xF n m B with
 | false=>rfl
 | true=>rw [zQT s o c] at h2; cases h2
theorem zSC {a b d:Int} (d0:0 < d) (h:a<=b):a.fdiv d<=b.fdiv d:=by
 rw [dQ _ (by omega),dQ _ (by omega)]
 exact Int.ediv_le_ediv d0 h
theorem zN9 {m:MD} {i:Nat} (d1:1<=m.div) (s:zh A B) (o:zt A):xg bs A m i<=xg bs B m i/\xm bs B m i<=xm bs A m i:=by
 have h1:=UK (m.nexts.getD i []) s o
 have h2:=UK (za (m.nexts.getD i [])) s o
 have k1:=zSC (d:=m.div) (by omega) (show 0 - (zK (m.nexts.getD i []) B + zK (m.push.getD i []) bs + m.add.getD i 0)<=0 - (zK (m.nexts.getD i []) A + zK (m.push.getD i []) bs + m.add.getD i 0) by omega)
 have k2:=zSC (d:=m.div) (by omega) (show m.add.getD i 0 - (zK (za (m.nexts.getD i [])) B + zK (za (m.push.getD i [])) bs)<=m.add.getD i 0 - (zK (za (m.nexts.getD i [])) A + zK (za (m.push.getD i [])) bs) by omega)
 unfold xg xm
 omega
theorem zR2 (hd:∀ m∈ms,1<=m.div) (lA:A.length=n) (lB:B.length=n) (s:zh A B) (o:zt A) (h:yY n ms A≠[]):zh (xG n bs ms A) (xG n bs ms B):=by
 have hB:yY n ms B≠[]:=λz=>by
  cases e:yY n ms A with
  | nil=>exact h e
  | cons m l=>
   have:=Qp s o (m:=m) (by rw [e]; exact cq)
   rw [z] at this
   cases this
 refine zOF (by rw [u9 lA,u9 lB]) λi hi=>?_
 rw [u9 lA] at hi
 obtain ⟨_,⟨m1,h1,e1⟩,m2,h2,e2⟩:=XT (bs:=bs) h hi
 obtain ⟨a,_⟩:=XT (bs:=bs) hB hi
 have k1:=a m1 (Qp s o h1)
 have k2:=a m2 (Qp s o h2)
 have u1:=zN9 (bs:=bs) (i:=i) (hd m1 (dq.mp h1).1) s o
 have u2:=zN9 (bs:=bs) (i:=i) (hd m2 (dq.mp h2).1) s o
 rw [e1,e2]
 omega
theorem XU {m:MD} {i:Nat} (d1:1<=m.div) (o:zt B) (ob:zt bs):xm bs B m i<=xg bs B m i:=by
 have h1:=Qo (m.nexts.getD i []) o
 have h2:=Qo (m.push.getD i []) ob
 unfold xg xm
 have a:=zOj (W:=zK (m.nexts.getD i []) B + zK (m.push.getD i []) bs + m.add.getD i 0) (show 0 < m.div by omega)
 have b:(m.add.getD i 0 - (zK (za (m.nexts.getD i [])) B + zK (za (m.push.getD i [])) bs)).fdiv m.div * m.div<=m.add.getD i 0 - (zK (za (m.nexts.getD i [])) B + zK (za (m.push.getD i [])) bs):=by
  rw [dQ _ (by omega)]
  exact iO _ (by omega)
 exact Int.le_of_mul_le_mul_right (a:=m.div) (by omega) (by omega)
theorem zRS (o:zt B) {i:Nat} (hi:i < B.length):(B.getD i (0,0)).1<=(B.getD i (0,0)).2:=by
 rw [cg,ck hi]
 exact o _ (dN hi)
theorem zRR (h:∀ i,i < B.length->(B.getD i (0,0)).1<=(B.getD i (0,0)).2):zt B:=λb hb=>by
 obtain ⟨i,hi,rfl⟩:=hZ.mp hb
 have:=h i hi
 rw [cg,ck hi] at this
 exact this
theorem Qq (hd:∀ m∈ms,1<=m.div) (lB:B.length=n) (o:zt B) (ob:zt bs):zt (xG n bs ms B):=by
 by_cases h:yY n ms B=[]
 ·rw [UL h]; exact o
 refine zRR λi hi=>?_
 rw [u9 lB] at hi
 obtain ⟨a,⟨m1,h1,e1⟩,_⟩:=XT (bs:=bs) h hi
 have k:=a m1 h1
 have:=XU (bs:=bs) (i:=i) (hd m1 (dq.mp h1).1) o ob
 rw [e1]
 omega
theorem XV (hd:∀ m∈ms,1<=m.div) (lB:B.length=n) (o:zt B) (ob:zt bs) (h:zh (xG n bs ms B) B):zh (xG n bs ms (xG n bs ms B)) (xG n bs ms B):=by
 by_cases z:yY n ms (xG n bs ms B)=[]
 ·rw [UL z]; exact zh.refl _
 ·exact zR2 hd (u9 lB) lB h (Qq hd lB o ob) z
end
theorem Qr {r:List Int} {n:Nat} (h:r.length=n + 1):r.take n++[r.getD n 0]=r:=by
 rw [cg,ck (by omega)]
 show r.take n++[r[n]]=r
 rw [<- eG (by omega),cL (by omega)]
theorem Qs {n p:Nat}:∀ {rows:List (List Int)} (ns:List Int),(∀ r∈rows,r.length=n + 1)->(∀ j,j < n + p->yW (rows.map (xv n p)) ns j=if j < n then yW rows ns j else 0)/\yW (rows.map (xv n p)) ns (n + p)=yW rows ns n
 | [],ns,_=>⟨λj _=>by rw [f_,jz]; split <;> rfl,by rw [f_,jz,jz]⟩
 | _ :: _,[],_=>⟨λj _=>by rw [Zs,Zs]; split <;> rfl,by rw [Zs,Zs]⟩
 | r :: rows,x :: ns,h=>by
  obtain ⟨h1,h2⟩:=Qs (n:=n) (p:=p) (rows:=rows) ns λs hs=>h s (cn _ hs)
  have lr:=h r cq
  obtain ⟨g,c,rfl,lg⟩:∃ g c,r=g++[c]/\g.length=n:=⟨r.take n,r.getD n 0,(Qr lr).symm,by rw [cE]; omega⟩
  refine ⟨λj hj=>?_,?_⟩
  ·rw [cT,uO,uO,h1 j hj,zKZ lg hj]
   by_cases c:j < n
   ·rw [if_pos c,if_pos c,if_pos c,UG lg c]
   ·rw [if_neg c,if_neg c,if_neg c]; omega
  ·rw [cT,uO,uO,h2,zIz lg,u7 lg]
noncomputable def uF (n:Nat) (ws:List Int) (m:MD):List Int:=(cR n).map (zm ws m.nexts)
theorem XW (n:Nat) (ws:List Int) (m:MD):(uF n ws m).length=n:=by unfold uF; rw [a_,cI]
noncomputable def Qt (n p:Nat) (ws:List Int) (m:MD):Int × List Int:=(1,yp (uF n ws m)++zs m.rows.length++yp (cM ws m p))
theorem zPF {n:Nat} {bs B:List (Int × Int)} {ws:List Int} {b:Int} {m:MD} (lB:B.length=n) (oB:zt B) (ob:zt bs) (hB:∀ r∈zj B,r.length=n + 1) (h:zK (uF n ws m) B + zK (cM ws m bs.length) bs<=m.div * b - xB ws m.add):uU (vy n bs (zj B++m.rows)) (uB n bs.length ws b m) (n + bs.length) (yk (Qt n bs.length ws m))=true:=by
 have lc:=UH ws m bs.length
 have ls:=XW n ws m
 have l1:(zj B++m.rows).length=(yp (uF n ws m)++zs m.rows.length).length:=by rw [cj,cj,XN,vB,ls,u8,lB]
 refine Qk (by decide) (by rw [Sh.Jg,cj,vB,lc,l1]) (UI (UI (kg _) Qm) (kg _)) ?_
 obtain ⟨h1,h2⟩:=zHX (n:=n) ob l1 lc
 obtain ⟨w1,w2⟩:=Qs (n:=n) (p:=bs.length) (yp (uF n ws m)) hB
 obtain ⟨x1,x2⟩:=Qj (bx:=B) (g:=uF n ws m) (by rw [ls,lB]) oB
 rw [lB] at x1 x2
 have hw:∀ j,yW ((zj B++m.rows).map (xv n bs.length)) (yp (uF n ws m)++zs m.rows.length) j=yW ((zj B).map (xv n bs.length)) (yp (uF n ws m)) j:=λj=>by
  rw [cx,XJ j (by rw [a_,u8,vB,ls,lB]),zs,zQ8,fH]
 have lR:((cR n).map (zm ws m.nexts)).length=n:=by rw [a_,cI]
 refine zOM (by unfold uB; rw [cj,cj,lR,a_,cI]; rfl) (λj hj=>?_) ?_
 ·rw [h1 j hj,hw,w1 j hj]
  unfold uB
  rw [UG (n:=n + bs.length) (by rw [cj,lR,a_,cI]) hj,cg (l:=_++_)]
  by_cases c:j < n
  ·rw [if_pos c,if_neg (by omega),x1 j c,dm (by omega),<- cg,fH]
   rfl
  ·rw [if_neg c,if_pos (by omega),dg (by omega),lR,<- cg,e9]
   rfl
 ·rw [h2,hw,w2,x2]
  unfold uB
  rw [u7 (by rw [cj,lR,a_,cI])]
  exact h
noncomputable def jA (n p:Nat) (m:MD):Int × List Int:=(0,yp (za ((m.rows.getD 0 []).take n))++[1]++zs (2 * p))
theorem zSX {n:Nat} {bs B:List (Int × Int)} {tw:List Int} {m:MD} (lB:B.length=n) (oB:zt B) (ob:zt bs) (hB:∀ r∈zj B,r.length=n + 1) (r1:m.rows.length<=1) (hr:∀ r∈m.rows,r.length=n + 1) (h:xF n m B=true):uU (vy n bs (zj B++m.rows)) tw (n + bs.length) (yk (jA n bs.length m))=true:=by
 obtain ⟨r,hm,k⟩:=fo.mp h
 have k:=of_decide_eq_true k
 obtain ⟨r',er⟩:∃ r',m.rows=[r']:=by
  cases e:m.rows with
  | nil=>rw [e] at hm; cases hm
  | cons x l=>
   cases l with
   | nil=>exact ⟨x,rfl⟩
   | cons y l=>rw [e] at r1; exact absurd r1 (by show ¬ l.length + 1 + 1<=1; omega)
 rw [er] at hm
 obtain rfl:=cQ.mp hm
 have lr:=hr r (by rw [er]; exact cq)
 obtain ⟨g,c,rfl,lg⟩:∃ g c,r=g++[c]/\g.length=n:=⟨r.take n,r.getD n 0,(Qr lr).symm,by rw [cE]; omega⟩
 have eg:(g++[c]).take n=g:=by rw [cX (by omega),cL (by omega)]
 rw [u7 lg,eg] at k
 have e0:jA n bs.length m=(0,yp (za g)++[1]++zs (2 * bs.length)):=by
  unfold jA
  rw [er]
  show (0,yp (za ((g++[c]).take n))++[1]++_)=_
  rw [eg]
 have ln:(za g).length=n:=by unfold za; rw [a_]; exact lg
 have l0:(zs bs.length).length=bs.length:=XN _
 rw [e0,er,zOy]
 have l1:(zj B++[g++[c]]).length=(yp (za g)++[1]).length:=by rw [cj,cj,vB,ln,u8,lB]; rfl
 refine Qk (eF _) (by rw [Sh.Jg,cj,vB,XN,l1]) (UI (UI (kg _) (zPR (by decide))) (kg _)) ?_
 obtain ⟨h1,h2⟩:=zHX (n:=n) ob l1 l0
 obtain ⟨w1,w2⟩:=Qs (n:=n) (p:=bs.length) (yp (za g)) hB
 obtain ⟨x1,x2⟩:=Qj (bx:=B) (g:=za g) (by rw [ln,lB]) oB
 rw [lB] at x1 x2
 have hw:∀ j,yW ((zj B++[g++[c]]).map (xv n bs.length)) (yp (za g)++[1]) j=yW ((zj B).map (xv n bs.length)) (yp (za g)) j + (xv n bs.length (g++[c])).getD j 0:=λj=>by
  rw [cx,XJ j (by rw [a_,u8,vB,ln,lB]),show dG (xv n bs.length) [g++[c]]=[xv n bs.length (g++[c])] from rfl,XM,Int.mul_one]
 refine zQr (λj hj=>?_) ?_
 ·rw [h1 j hj,hw,w1 j hj,zKZ lg hj,XO]
  by_cases c:j < n
  ·have en:(za g).getD j 0=0 - g.getD j 0:=by
    unfold za
    rw [cg,cg,cS]
    cases g[j]? <;> rfl
   rw [if_pos c,if_pos c,x1 j c,en]
   split <;> omega
  ·rw [if_neg c,if_neg c]
   split <;> rfl
 ·rw [h2,hw,w2,x2,zIz lg,zQi]
  omega
theorem zOV {i j w:Nat} {y:Int}:∀ {n:Nat} {M:List (List Int)},M.length=n->i < n->zm (ya (i:Int) n y) M j=y * (M.getD i []).getD j 0:=λ{n M} lM hi=>by
 have key:∀ (k:Nat) (M:List (List Int)),zm ((cR M.length).map λ(a:Nat)=>if ((k + a:Nat):Int)=(i:Int) then y else 0) M j=if k<=i/\i < k + M.length then y * (M.getD (i - k) []).getD j 0 else 0:=by
  intro k M
  induction M generalizing k with
  | nil=>
   show zm [] [] j=_
   rw [zNF,if_neg (by show ¬ (k<=i/\i < k + 0); omega)]
  | cons r M ih=>
   rw [cJ,eW,cT,cw,Jf]
   have e:((λ(a:Nat)=>if ((k + a:Nat):Int)=(i:Int) then y else 0) ∘ mD)=λ(a:Nat)=>if ((k + 1 + a:Nat):Int)=(i:Int) then y else 0:=by
    funext a
    show (if ((k + (a + 1):Nat):Int)=(i:Int) then y else 0)=_
    rw [show k + (a + 1)=k + 1 + a by omega]
   rw [e,ih (k + 1),iN]
   by_cases c:k=i
   ·rw [if_pos (by omega),if_neg (by omega),if_pos (by omega),c,eD,fH]
    rfl
   ·rw [if_neg (by omega),eN,e9]
    by_cases d:k + 1<=i/\i < k + 1 + M.length
    ·rw [if_pos d,if_pos (by omega),show i - k=i - (k + 1) + 1 by omega,fE]
    ·rw [if_neg d,if_neg (by omega)]
 have:=key 0 M
 rw [if_pos (by omega),ij,lM] at this
 rw [<- this]
 unfold ya
 congr 1
 exact cN λa _=>by rw [gV]
theorem zPE {i:Nat} {y:Int} {n:Nat} {A:List Int} (lA:A.length=n) (hi:i < n):xB (ya (i:Int) n y) A=y * A.getD i 0:=by
 have key:∀ (k:Nat) (A:List Int),xB ((cR A.length).map λ(a:Nat)=>if ((k + a:Nat):Int)=(i:Int) then y else 0) A=if k<=i/\i < k + A.length then y * A.getD (i - k) 0 else 0:=by
  intro k A
  induction A generalizing k with
  | nil=>
   show (0:Int)=_
   rw [if_neg (by show ¬ (k<=i/\i < k + 0); omega)]
  | cons r A ih=>
   rw [cJ,eW,cT,cw]
   have e:((λ(a:Nat)=>if ((k + a:Nat):Int)=(i:Int) then y else 0) ∘ mD)=λ(a:Nat)=>if ((k + 1 + a:Nat):Int)=(i:Int) then y else 0:=by
    funext a
    show (if ((k + (a + 1):Nat):Int)=(i:Int) then y else 0)=_
    rw [show k + (a + 1)=k + 1 + a by omega]
   show (if ((k + 0:Nat):Int)=(i:Int) then y else 0) * r + xB _ A=_
   rw [e,ih (k + 1),iN]
   by_cases c:k=i
   ·rw [if_pos (by omega),if_neg (by omega),if_pos (by omega),c,eD,fH]
    rfl
   ·rw [if_neg (by omega),eN,e9]
    by_cases d:k + 1<=i/\i < k + 1 + A.length
    ·rw [if_pos d,if_pos (by omega),show i - k=i - (k + 1) + 1 by omega,fE]
    ·rw [if_neg d,if_neg (by omega)]
 have:=key 0 A
 rw [if_pos (by omega),ij,lA] at this
 rw [<- this]
 unfold ya
 congr 1
 exact cN λa _=>by rw [gV]
theorem XX {J:List (Int × Int)} {n:Nat} (lJ:J.length=n) {r:List Int} (h:r∈zj J):∃ i,i < n/\(r=ya (i:Int) n 1++[(J.getD i (0,0)).2]\/r=ya (i:Int) n (-1)++[0 - (J.getD i (0,0)).1]):=by
 obtain ⟨l,hl,hr⟩:=iE.mp h
 obtain ⟨i,hi,rfl⟩:=iM.mp hl
 have e:J.getD i (0,0)=J[i]:=by rw [cg,ck hi]; rfl
 refine ⟨i,by omega,?_⟩
 rw [e]
 unfold wA at hr
 rw [lJ] at hr
 rcases cu.mp hr with rfl | hr
 ·exact .inl rfl
 ·refine .inr ?_
  rw [cQ.mp hr]
  congr 1
  unfold ya
  rw [cw]
  refine cN λj _=>?_
  show 0 - (if ((j:Nat):Int)=(i:Int) then (1:Int) else 0)=if ((j:Nat):Int)=(i:Int) then (-1:Int) else 0
  split <;> rfl
theorem zQt {l:List Int} {w:Nat} (y:Int) (h:l.length=w):(cR w).map (λj=>y * l.getD j 0)=l.map (y * ·):=by
 refine fu (by rw [a_,a_,cI,h]) λj h1 h2=>?_
 rw [l5,l5,List.getElem_range,cg,ck (by rw [a_] at h2; exact h2)]
 rfl
theorem zRh (l:List Int):l.map ((1:Int) * ·)=l:=(cN λx _=>mf x).trans (e_ _)
theorem zRg (l:List Int):l.map ((-1:Int) * ·)=za l:=cN λx _=>by show -1 * x=0 - x; omega
section
variable {n:Nat} {bs B J:List (Int × Int)} {m:MD}
theorem zQe {i:Nat} {y:Int} (MO:wq m n bs.length) (hi:i < n):uF n (ya (i:Int) n y) m=(m.nexts.getD i []).map (y * ·)/\cM (ya (i:Int) n y) m bs.length=(m.push.getD i []).map (y * ·)/\xB (ya (i:Int) n y) m.add=y * m.add.getD i 0:=by
 have k1:i < m.nexts.length:=by rw [MO.nexts.1]; exact hi
 have k2:i < m.push.length:=by rw [MO.push.1]; exact hi
 refine ⟨?_,?_,zPE MO.add hi⟩
 ·unfold uF
  rw [show (cR n).map (zm (ya (i:Int) n y) m.nexts)=(cR n).map (λj=>y * (m.nexts.getD i []).getD j 0) from cN λj _=>zOV (w:=0) MO.nexts.1 hi]
  exact zQt y (MO.nexts.2 _ (wK k1))
 ·unfold cM
  rw [show (cR bs.length).map (zm (ya (i:Int) n y) m.push)=(cR bs.length).map (λj=>y * (m.push.getD i []).getD j 0) from cN λj _=>zOV (w:=0) MO.push.1 hi]
  exact zQt y (MO.push.2 _ (wK k2))
noncomputable def uG (n:Nat) (bs B:List (Int × Int)) (m:MD) (r:List Int):Int × List Int:=if xF n m B=true then jA n bs.length m else Qt n bs.length (r.take n) m
theorem zNf (MO:wq m n bs.length) (r1:m.rows.length<=1) (lB:B.length=n) (lJ:J.length=n) (oB:zt B) (ob:zt bs) (hB:∀ r∈zj B,r.length=n + 1) (h:xF n m B=false->∀ i,i < n->(J.getD i (0,0)).1<=xm bs B m i/\xg bs B m i<=(J.getD i (0,0)).2) {r:List Int} (hr:r∈zj J):uU (vy n bs (zj B++m.rows)) (uB n bs.length (r.take n) (r.getD n 0) m) (n + bs.length) (yk (uG n bs B m r))=true:=by
 unfold uG
 have d1:=MO.div
 cases c:xF n m B with
 | true=>rw [if_pos rfl]; exact zSX lB oB ob hB r1 MO.rows c
 | false=>
  rw [if_neg (by decide)]
  refine zPF lB oB ob hB ?_
  obtain ⟨i,hi,e⟩:=XX lJ hr
  obtain ⟨k1,k2⟩:=h c i hi
  have lu:∀ y:Int,(ya (i:Int) n y).length=n:=λy=>vx ..
  rcases e with rfl | rfl
  ·rw [cX (by rw [lu]; exact cD _),cL (by rw [lu]; exact cD _),u7 (lu 1)]
   obtain ⟨e1,e2,e3⟩:=zQe (y:=1) MO hi
   rw [e1,e2,e3,zRh,zRh]
   unfold xg at k2
   have a:=zOj (W:=zK (m.nexts.getD i []) B + zK (m.push.getD i []) bs + m.add.getD i 0) (show 0 < m.div by omega)
   have b:=g_ k2 (show 0<=m.div by omega)
   rw [ik m.div]
   omega
  ·rw [cX (by rw [lu]; exact cD _),cL (by rw [lu]; exact cD _),u7 (lu (-1))]
   obtain ⟨e1,e2,e3⟩:=zQe (y:=-1) MO hi
   rw [e1,e2,e3,zRg,zRg]
   unfold xm at k1
   have a:(m.add.getD i 0 - (zK (za (m.nexts.getD i [])) B + zK (za (m.push.getD i [])) bs)).fdiv m.div * m.div<=m.add.getD i 0 - (zK (za (m.nexts.getD i [])) B + zK (za (m.push.getD i [])) bs):=by
    rw [dQ _ (by omega)]
    exact iO _ (by omega)
   have b:=g_ k1 (show 0<=m.div by omega)
   rw [Int.mul_sub,lK,ik m.div]
   omega
end
noncomputable def xT (n:Nat) (bs:List (Int × Int)) (ms:List MD):Nat->List (Int × Int)->List (Int × Int)
 | 0,B=>B
 | k + 1,B=>xG n bs ms (xT n bs ms k B)
section
variable {n:Nat} {bs:List (Int × Int)} {ms:List MD} {B:List (Int × Int)} (hd:∀ m∈ms,1<=m.div) (lB:B.length=n) (oB:zt B) (ob:zt bs)
include hd lB oB ob
theorem kh:∀ k,(xT n bs ms k B).length=n/\zt (xT n bs ms k B)
 | 0=>⟨lB,oB⟩
 | k + 1=>⟨u9 (kh k).1,Qq hd (kh k).1 (kh k).2 ob⟩
theorem Qu (h:zh (xG n bs ms B) B):∀ k,zh (xT n bs ms (k + 1) B) (xT n bs ms k B)
 | 0=>h
 | k + 1=>XV hd (kh hd lB oB ob k).1 (kh hd lB oB ob k).2 ob (Qu h k)
theorem zRv (h:zh (xG n bs ms B) B) {i:Nat}:∀ j,zh (xT n bs ms (i + j) B) (xT n bs ms i B)
 | 0=>zh.refl _
 | j + 1=>(Qu hd lB oB ob h (i + j)).trans (zRv h j)
end
noncomputable def wC (n:Nat) (bs:List (Int × Int)) (ms:List MD) (B:List (Int × Int)) (K b k:Nat):List (Int × Int):=if k < K then xT n bs ms (k + 1) B else xT n bs ms b B
theorem XY {α β γ:Type}:∀ {l1:List α} {l2:List β} {l3:List γ} {p:α × (β × γ)},p∈l1.zip (l2.zip l3)->∃ k:Nat,l1[k]? = some p.1/\l2[k]? = some p.2.1/\l3[k]? = some p.2.2
 | [],_,_,_,h=>nomatch h
 | _ :: _,[],_,_,h=>nomatch h
 | _ :: _,_ :: _,[],_,h=>nomatch h
 | a :: l1,b :: l2,c :: l3,p,h=>by
  rcases cu.mp h with rfl | h
  ·exact ⟨0,rfl,rfl,rfl⟩
  ·obtain ⟨k,h1,h2,h3⟩:=XY h
   exact ⟨k + 1,h1,h2,h3⟩
section
variable {n:Nat} {bs:List (Int × Int)} {ms:List MD} {B:List (Int × Int)} {K b:Nat}
noncomputable def yP (n:Nat) (bs:List (Int × Int)) (ms:List MD) (B:List (Int × Int)) (K:Nat):List (List (Int × Int)):=(cR (K + 1)).map λk=>xT n bs ms k B
theorem zOv {k:Nat} {X:List (Int × Int)} (h:(yP n bs ms B K)[k]? = some X):k<=K/\X=xT n bs ms k B:=by
 unfold yP at h
 rw [cS] at h
 by_cases c:k < K + 1
 ·rw [dj c] at h
  cases h
  exact ⟨by omega,rfl⟩
 ·rw [eC (by rw [cI]; omega)] at h
  cases h
theorem zOw {k:Nat} {X:List (Int × Int)} (hb:b<=K) (h:((yP n bs ms B K).drop 1++[(yP n bs ms B K).getD b []])[k]? = some X) (hk:k<=K):X=wC n bs ms B K b k:=by
 have ll:(yP n bs ms B K).length=K + 1:=by unfold yP; rw [a_,cI]
 have gb:(yP n bs ms B K).getD b []=xT n bs ms b B:=by
  unfold yP
  rw [cg,cS,dj (by omega)]
  rfl
 unfold wC
 by_cases c:k < K
 ·rw [if_pos c]
  rw [dm (by rw [db,ll]; omega),List.getElem?_drop,Nat.add_comm] at h
  exact (zOv h).2
 ·rw [if_neg c]
  have e:k=K:=by omega
  subst e
  rw [dg (by rw [db,ll]; omega),db,ll,show k - (k + 1 - 1)=0 by omega,gb] at h
  cases h
  rfl
noncomputable def xQ (n:Nat) (bs:List (Int × Int)) (ms:List MD) (X J:List (Int × Int)):List (List (Int × List Int)):=ms.map λm=>(zj J).map (uG n bs X m)
theorem zPJ {X J:List (Int × Int)} (MO:∀ m∈ms,wq m n bs.length) (r1:∀ m∈ms,m.rows.length<=1) (lX:X.length=n) (lJ:J.length=n) (oX:zt X) (ob:zt bs) (hX:∀ r∈zj X,r.length=n + 1) (h:∀ m∈ms,xF n m X=false->∀ i,i < n->(J.getD i (0,0)).1<=xm bs X m i/\xg bs X m i<=(J.getD i (0,0)).2):kO n bs ms (zj X) (zj J) (wB (xQ n bs ms X J))=true:=by
 unfold xQ
 show (decide ((((ms.map λm=>(zj J).map (uG n bs X m)).map vA).length:Int)=(ms.length:Int)) && (ms.zip ((ms.map λm=>(zj J).map (uG n bs X m)).map vA)).all λp=>W7 n bs (zj X) (zj J) p.1 p.2)=true
 rw [cw,zPx,eQ]
 refine zSa λm hm=>?_
 show (decide (((((zj J).map (uG n bs X m)).map yk).length:Int)=((gG n bs.length m (zj J)).length:Int)) && ((gG n bs.length m (zj J)).zip (((zj J).map (uG n bs X m)).map yk)).all λp=>uU (vy n bs (zj X++m.rows)) p.1 (n + bs.length) p.2)=true
 unfold gG
 rw [a_,a_,a_,decide_eq_true rfl,eQ,cw]
 refine cK.mpr λp hp=>?_
 rw [List.zip_map'] at hp
 obtain ⟨r,hr,rfl⟩:=cr.mp hp
 exact zNf (MO m hm) (r1 m hm) lX lJ oX ob hX (h m hm) hr
theorem UM {X:List (Int × Int)} (lX:X.length=n):∀ r∈zj X,r.length=n + 1:=λr hr=>by
 obtain ⟨i,_,e⟩:=XX lX hr
 rcases e with rfl | rfl <;> rw [cj,vx] <;> rfl
noncomputable def yf (n:Nat) (g:List (List Int)):List (Int × List Int):=g.map λr=>(1,yp (r.take n))
theorem zOO {X:List (Int × Int)} {g:List (List Int)} (lX:X.length=n) (oX:zt X) (hg:∀ r∈g,r.length=n + 1/\zK (r.take n) X<=r.getD n 0):jP (zj X) g n (vA (yf n g))=true:=by
 unfold yf
 refine zQN λr hr=>?_
 obtain ⟨lr,ht⟩:=hg r hr
 have lt:(r.take n).length=n:=by rw [cE]; omega
 have:=zMu (bx:=X) (g:=r.take n) (c:=r.getD n 0) lX lt oX ht
 rw [Qr lr] at this
 exact Qk (by decide) (by rw [vB,u8,lX,lt]) (kg _) this
theorem zQR {A X:List (Int × Int)} (lA:A.length=n) (lX:X.length=n) (oA:zt A) (s:zh A X):∀ r∈zj X,r.length=n + 1/\zK (r.take n) A<=r.getD n 0:=λr hr=>by
 refine ⟨UM lX r hr,?_⟩
 obtain ⟨i,hi,e⟩:=XX lX hr
 have lu:∀ y:Int,(ya (i:Int) n y).length=n:=λy=>vx ..
 have k:=s.at (i:=i) (by omega)
 have key:∀ (y:Int) (A:List (Int × Int)) (q:Nat),zK ((cR A.length).map λ(a:Nat)=>if ((q + a:Nat):Int)=(i:Int) then y else 0) A=if q<=i/\i < q + A.length then max (y * (A.getD (i - q) (0,0)).1) (y * (A.getD (i - q) (0,0)).2) else 0:=by
  intro y A
  induction A with
  | nil=>intro q; show (0:Int)=_; rw [if_neg (by show ¬ (q<=i/\i < q + 0); omega)]
  | cons a A ih=>
   intro q
   rw [cJ,eW,cT,cw]
   have e:((λ(a:Nat)=>if ((q + a:Nat):Int)=(i:Int) then y else 0) ∘ mD)=λ(a:Nat)=>if ((q + 1 + a:Nat):Int)=(i:Int) then y else 0:=by
    funext a
    show (if ((q + (a + 1):Nat):Int)=(i:Int) then y else 0)=_
    rw [show q + (a + 1)=q + 1 + a by omega]
   rw [e]
   show max ((if ((q + 0:Nat):Int)=(i:Int) then y else 0) * a.1) ((if ((q + 0:Nat):Int)=(i:Int) then y else 0) * a.2) + zK _ A=_
   rw [ih (q + 1),iN]
   by_cases c:q=i
   ·rw [if_pos (by omega),if_neg (by omega),if_pos (by omega),c,eD,fH]
    rfl
   ·rw [if_neg (by omega),eN,eN]
    by_cases d:q + 1<=i/\i < q + 1 + A.length
    ·rw [if_pos d,if_pos (by omega),show i - q=i - (q + 1) + 1 by omega,fE]
     omega
    ·rw [if_neg d,if_neg (by omega)]
     rfl
 have zn:∀ y:Int,zK (ya (i:Int) n y) A=max (y * (A.getD i (0,0)).1) (y * (A.getD i (0,0)).2):=λy=>by
  have:=key y A 0
  rw [if_pos (by omega),ij,lA] at this
  rw [<- this]
  unfold ya
  congr 1
  exact cN λa _=>by rw [gV]
 have o:=zRS oA (i:=i) (by omega)
 rcases e with rfl | rfl
 ·rw [cX (by rw [lu]; exact cD _),cL (by rw [lu]; exact cD _),u7 (lu 1),zn]
  omega
 ·rw [cX (by rw [lu]; exact cD _),cL (by rw [lu]; exact cD _),u7 (lu (-1)),zn]
  omega
theorem XZ {I:List (Int × Int)} {g:List (List Int)} {t:Int} (MO:∀ m∈ms,wq m n bs.length) (r1:∀ m∈ms,m.rows.length<=1) (lB:B.length=n) (oB:zt B) (ob:zt bs) (lI:I.length=n) (oI:zt I) (sI:zh I B) (h:zh (xG n bs ms B) B) (hb:b<=K) (hg:∀ r∈g,r.length=n + 1/\∀ k,k<=K->zK (r.take n) (xT n bs ms k B)<=r.getD n 0):u5 n bs ms (zj I) g t ((yP n bs ms B K).map zj) (.int ((b:Nat):Int)) (vA (yf n (zj B))) (.lst ((cR (K + 1)).map λk=>wB (xQ n bs ms (xT n bs ms k B) (wC n bs ms B K b k)))) (.lst ((yP n bs ms B K).map λ_=>vA (yf n g)))=true:=by
 have hd:∀ m∈ms,1<=m.div:=λm hm=>(MO m hm).div
 have ll:(yP n bs ms B K).length=K + 1:=by unfold yP; rw [a_,cI]
 have ok:=kh hd lB oB ob
 have r0:((yP n bs ms B K).map zj).getD 0 []=zj B:=by
  unfold yP
  rw [cg,cS,cS,dj (by omega)]
  rfl
 show (if ((b:Nat):Int) < 0\/(((yP n bs ms B K).map zj).length:Int)<=((b:Nat):Int) then false else _)=true
 rw [if_neg (by rw [a_,ll]; omega),r0,zOO (g:=zj B) lI oI (zQR lI lB oI sI),eQ]
 have fol:kU n bs ms ((yP n bs ms B K).map zj) ((b:Nat):Int).toNat (.lst ((cR (K + 1)).map λk=>wB (xQ n bs ms (xT n bs ms k B) (wC n bs ms B K b k))))=true:=by
  show (decide (_=_) && _)=true
  rw [a_,cI,a_,ll,decide_eq_true rfl,eQ,d8]
  refine cK.mpr λp hp=>?_
  obtain ⟨k,h1,h2,h3⟩:=XY hp
  have em:((yP n bs ms B K).map zj).drop 1++[((yP n bs ms B K).map zj).getD b []]=((yP n bs ms B K).drop 1++[(yP n bs ms B K).getD b []]).map zj:=by
   rw [cx,fg,eE]
   congr 2
   rw [cg,cS,cg,ck (by omega)]
   rfl
  rw [em] at h2
  obtain ⟨X,hX,e1⟩:=u6 h1
  obtain ⟨J,hJ,e2⟩:=u6 h2
  obtain ⟨kK,rfl⟩:=zOv hX
  obtain rfl:=zOw hb hJ kK
  rw [cS,dj (by omega)] at h3
  rw [<- e1,<- e2,<- Option.some.inj h3]
  have lJ:(wC n bs ms B K b k).length=n:=by unfold wC; split <;> exact (ok _).1
  refine zPJ MO r1 (ok k).1 lJ (ok k).2 ob (UM (ok k).1) λm hm hbe i hi=>?_
  have hl:m∈yY n ms (xT n bs ms k B):=dq.mpr ⟨hm,by rw [hbe]; rfl⟩
  obtain ⟨a,_⟩:=XT (bs:=bs) (B:=xT n bs ms k B) (λz=>by rw [z] at hl; cases hl) hi
  have am:=a m hl
  unfold wC
  by_cases c:k < K
  ·rw [if_pos c]; exact am
  ·rw [if_neg c]
   have s:=(Qu hd lB oB ob h k).trans (by
    have:=zRv hd lB oB ob h (i:=b) (k - b)
    rw [show b + (k - b)=k by omega] at this
    exact this)
   have q:=s.at (i:=i) (by rw [show xT n bs ms (k + 1) B=xG n bs ms (xT n bs ms k B) from rfl,u9 (ok k).1]; exact hi)
   have q:((xT n bs ms b B).getD i (0,0)).1<=((xG n bs ms (xT n bs ms k B)).getD i (0,0)).1/\((xG n bs ms (xT n bs ms k B)).getD i (0,0)).2<=((xT n bs ms b B).getD i (0,0)).2:=q
   omega
 rw [fol,eQ]
 show (decide (_=_) && _)=true
 rw [a_,a_,decide_eq_true rfl,eQ]
 refine cK.mpr λp hp=>?_
 obtain ⟨m1,m2⟩:=c_ hp
 obtain ⟨X,hX,e1⟩:=cr.mp (dB m1)
 obtain ⟨_,_,e2⟩:=cr.mp (dB m2)
 obtain ⟨k,hk,rfl⟩:=cr.mp hX
 rw [<- e1,<- e2]
 exact zOO (ok k).1 (ok k).2 λr hr=>⟨(hg r hr).1,(hg r hr).2 k (by have:=du.mp hk; omega)⟩
end
structure qB (n w:Nat) (m:MD):Prop where
 ok:wq m n w
 nx:∀ r∈m.nexts,∀ x∈r,Bd 4 x
 ps:∀ r∈m.push,∀ x∈r,Bd 4 x
 ad:∀ x∈m.add,Bd 110 x
 st:∀ x∈m.steer,x=0
 dv:Bd 3 m.div
 r1:m.rows.length<=1
 rb:∀ r∈m.rows,(∀ x∈r.take n,Bd 4 x)/\∀ x∈r,Bd 110 x
theorem qB.mse {n w:Nat} {m:MD} (h:qB n w m):Qf 200 m:=⟨λr hr x hx=>(h.nx r hr x hx).mono,λx hx=>by rw [h.st x hx]; exact vO,λr hr x hx=>(h.ps r hr x hx).mono,λx hx=>(h.ad x hx).mono,h.dv.mono,λr hr x hx=>((h.rb r hr).2 x hx).mono,by have:=h.r1; omega⟩
noncomputable def fMd:FL:=λds R=>∃ (c:Int) (n w:Nat) (u:Int) (sp:Bool),ds=[.int c,.int (n:Int),.int (w:Int),.int u,.bool sp]/\1<=n/\n<=3/\w<=2/\1<=u/\Bd 100 u/\∀ m,qB n w m->R (XG m)
structure wa (n:Nat) (bs:List (Int × Int)) (ms:List MD) (u:Int):Prop where
 n1:1<=n
 n3:n<=3
 b2:bs.length<=2
 bb:∀ b∈bs,b.1<=b.2/\Bd 105 b.1/\Bd 105 b.2
 m1:1<=ms.length
 m3:ms.length<=3
 md:∀ m∈ms,qB n bs.length m
 u1:1<=u
 bu:Bd 100 u
theorem wa.ok {n:Nat} {bs:List (Int × Int)} {ms:List MD} {u:Int} (h:wa n bs ms u):wL n bs ms:=⟨h.n1,h.n3,λb hb=>(h.bb b hb).1,by have:=h.b2; omega,h.m1,by have:=h.m3; omega,λm hm=>(h.md m hm).ok⟩
theorem wa.cl {n:Nat} {bs:List (Int × Int)} {ms:List MD} {u:Int} (h:wa n bs ms u):kJ ms=true:=cK.mpr λm hm=>cK.mpr λx hx=>decide_eq_true ((h.md m hm).st x hx)
theorem wa.ths {n:Nat} {bs:List (Int × Int)} {ms:List MD} {u:Int} (h:wa n bs ms u):Y3 n bs ms:=⟨h.ok,λm hm=>(h.md m hm).mse.ms (by decide),λb hb=>⟨(h.bb b hb).2.1.mono,(h.bb b hb).2.2.mono⟩⟩
noncomputable def fTh:FL:=λds R=>∃ ns,ds=[.scr ns]/\∀ n bs ms u,wa n bs ms u->R (UE n bs ms u)
noncomputable def Xa:FL:=λds R=>∃ (d e:D) (ns:List Int) (bs:List (Int × Int)) (k:Nat),ds=[d,e]/\IF d ns/\(e=.lst (bs.map zz)\/e=.frz (bs.map zz))/\ns.length<=3/\(∀ x∈ns,Bd 10 x)/\k<=500/\(∀ b∈bs,Bd k b.1/\Bd k b.2)/\R (.int (zK ns bs))
theorem IF.zip2 {d e:D} {ns:List Int} {es:List D} (h:IF d ns) (k:e=.lst es\/e=.frz es) {R:List D->Prop} (q:R (dh y3 (ns.map D.int) es)):uS [d,e] R:=by
 rcases k with rfl | rfl
 ·exact h.zipL q
 ·rcases h with (rfl | rfl) | rfl <;> exact q
noncomputable abbrev kL (b:Bool) (ds:List D):D:=match b with
 | true=>.frz ds
 | false=>.lst ds
theorem zRr {b:Bool} {ds:List D} {R:List D->Prop} (q:R ds):uv (kL b ds) R:=by cases b <;> exact q
theorem zP0 {b:Bool} {ds:List D} {R:D->Prop} (q:R (.lst ds)):Jv [kL b ds] R:=by cases b <;> exact q
noncomputable abbrev jj (b:Bool) (m:MD):D:=.tup [.frz (m.rows.map U),.frz (m.nexts.map D.scr),kL b (m.steer.map D.int),.frz (m.push.map D.scr),D.scr m.add,.int m.div]
noncomputable abbrev zOt (b:Bool) (n:Nat) (bs:List (Int × Int)) (ms:List MD) (u:Int):D:=.tup [.int (n:Int),.frz (bs.map zz),kL b (ms.map (jj b)),.int u]
noncomputable def ww:D->List Int
 | .frz ds=>ds.map zv
 | _=>[]
theorem qC (ns:List Int):ww (D.scr ns)=ns:=kH ns
noncomputable def Qv (C CM:Addr):FL:=λds R=>∃ a n bs ms u,ds=[zOt a n bs ms u]/\wL n bs ms/\R (uA C CM n bs ms)
noncomputable abbrev zq (bx:List (Int × Int)):D:=.lst (bx.map zz)
structure xY (n e:Nat) (bx:List (Int × Int)):Prop where
 len:bx.length=n
 ord:zt bx
 bd:∀ b∈bx,Bd e b.1/\Bd e b.2
theorem xY.wid {n e f:Nat} {bx:List (Int × Int)} (h:xY n e bx) (k:e<=f):xY n f bx:=⟨h.len,h.ord,λb hb=>⟨(h.bd b hb).1.mono k,(h.bd b hb).2.mono k⟩⟩
theorem jk (l:List Int):(za l).length=l.length:=a_ ..
theorem kj {e:Nat} {l:List Int} (h:∀ x∈l,Bd e x):∀ x∈za l,Bd e x:=λx hx=>by
 obtain ⟨y,hy,rfl⟩:=cr.mp hx
 rw [fb]
 exact (h y hy).neg
noncomputable def Qw:FL:=λds R=>∃ m n w bx e,ds=[ym m,zq bx]/\qB n w m/\e<=400/\xY n e bx/\R (.bool (xF n m bx))
noncomputable def jm:D->MD
 | .tup [.frz a,.frz b,.frz c,.frz d,.frz e,.int f]=>⟨a.map yC,b.map ww,c.map zv,d.map ww,e.map zv,f⟩
 | _=>⟨[],[],[],[],[],0⟩
theorem zN8 (m:MD):jm (ym m)=m:=by
 show MD.mk ((m.rows.map U).map yC) ((m.nexts.map D.scr).map ww) ((m.steer.map D.int).map zv) ((m.push.map D.scr).map ww) ((m.add.map D.int).map zv) m.div=m
 rw [kH,kH,cw,cw,cw,j5 (f:=yC ∘ U) λx _=>jO x,j5 (f:=ww ∘ D.scr) λx _=>qC x,j5 (f:=ww ∘ D.scr) λx _=>qC x]
noncomputable def UN:Option Int->Int->Option Int
 | none,d=>some d
 | some x,d=>some (min x d)
noncomputable def UO:Option Int->Int->Option Int
 | none,d=>some d
 | some x,d=>some (max x d)
theorem zJK:∀ (l:List Int) (x:Int),l.foldl UN (some x)=some (l.foldl min x)
 | [],_=>rfl
 | d :: l,x=>zJK l (min x d)
theorem zJJ:∀ (l:List Int) (x:Int),l.foldl UO (some x)=some (l.foldl max x)
 | [],_=>rfl
 | d :: l,x=>zJJ l (max x d)
noncomputable def oI:Option Int->D
 | none=>.non
 | some x=>.int x
noncomputable def uW (bs bx:List (Int × Int)) (i:Nat) (l:List MD):Option Int:=(l.map (xm bs bx · i)).foldl UN none
noncomputable def jB (bs bx:List (Int × Int)) (i:Nat) (l:List MD):Option Int:=(l.map (xg bs bx · i)).foldl UO none
theorem zPv {bs bx:List (Int × Int)} {i:Nat} (l:List MD) (m:MD):uW bs bx i (l++[m])=UN (uW bs bx i l) (xm bs bx m i):=by unfold uW; rw [cx,ir]; rfl
theorem zP6 {bs bx:List (Int × Int)} {i:Nat} (l:List MD) (m:MD):jB bs bx i (l++[m])=UO (jB bs bx i l) (xg bs bx m i):=by unfold jB; rw [cx,ir]; rfl
noncomputable def jo:FL:=λds R=>∃ n bs ms u bx e,ds=[wQ n bs ms u,zq bx]/\wa n bs ms u/\105<=e/\e<=400/\xY n e bx/\R (zq (xG n bs ms bx))
theorem Xb {n:Nat} {bs:List (Int × Int)} {ms:List MD} {bx:List (Int × Int)} (h:yY n ms bx≠[]):(cR n).map (λi=>D.tup [oI (uW bs bx i (yY n ms bx)),oI (jB bs bx i (yY n ms bx))])=(xG n bs ms bx).map zz:=by
 unfold xG
 cases e:yY n ms bx with
 | nil=>exact absurd e h
 | cons m l=>
  show _=dG zz ((cR n).map _)
  rw [cw]
  refine cN λi _=>?_
  show D.tup [oI ((l.map (xm bs bx · i)).foldl UN (some (xm bs bx m i))),oI ((l.map (xg bs bx · i)).foldl UO (some (xg bs bx m i)))]=_
  rw [zJK,zJJ]
  rfl
theorem zQ9 (ms:List MD):(D.lst (ms.map ym)).pl 50=true:=cK.mpr λd hd=>by
 obtain ⟨m,_,rfl⟩:=cr.mp hd
 have hin:∀ (k:Nat) (r:List Int),(r.map D.int).all (D.pl (k + 1))=true:=λk r=>cK.mpr λd hd=>by
  obtain ⟨i,_,rfl⟩:=cr.mp hd
  rfl
 have rows:(m.rows.map U).all (D.pl 47)=true:=cK.mpr λd hd=>by
  obtain ⟨r,_,rfl⟩:=cr.mp hd
  exact hin 45 r
 have tabs:∀ t:List (List Int),(t.map D.scr).all (D.pl 47)=true:=λt=>cK.mpr λd hd=>by
  obtain ⟨r,_,rfl⟩:=cr.mp hd
  exact hin 45 r
 show ((m.rows.map U).all (D.pl 47) && ((m.nexts.map D.scr).all (D.pl 47) && ((m.steer.map D.int).all (D.pl 47) && ((m.push.map D.scr).all (D.pl 47) && ((m.add.map D.int).all (D.pl 47) && (true && true))))))=true
 rw [rows,tabs,hin 46,tabs,hin 46]
 rfl
theorem zQL {xs:List D}:eU (D.lst xs).py (D.lst []).py=decide (xs=[]):=by
 cases xs with
 | nil=>rfl
 | cons x l=>rw [decide_eq_false λz=>nomatch z]; rfl
theorem zR3 {n:Nat} {bs:List (Int × Int)} {ms:List MD} {u:Int} {bx:List (Int × Int)} {e:Nat} (T:wa n bs ms u) (h:xY n e bx) (he:105<=e):xY n (e + 20) (xG n bs ms bx):=by
 have b2:=T.b2
 have n3:=T.n3
 refine ⟨u9 h.len,Qq (λm hm=>(T.md m hm).ok.div) h.len h.ord λb hb=>(T.bb b hb).1,λb hb=>?_⟩
 by_cases z:yY n ms bx=[]
 ·rw [UL z] at hb
  exact ⟨(h.bd b hb).1.mono (by omega),(h.bd b hb).2.mono (by omega)⟩
 obtain ⟨i,hi,rfl⟩:=hZ.mp hb
 rw [u9 h.len] at hi
 obtain ⟨_,⟨m1,h1,e1⟩,m2,h2,e2⟩:=XT (bs:=bs) z hi
 have eg:(xG n bs ms bx).getD i (0,0)=(xG n bs ms bx)[i]:=by rw [cg,ck (by rw [u9 h.len]; exact hi)]; rfl
 rw [eg] at e1 e2
 have bb:∀ b∈bs,Bd 105 b.1/\Bd 105 b.2:=λb hb=>(T.bb b hb).2
 have key:∀ m∈ms,Bd (e + 20) (xm bs bx m i)/\Bd (e + 20) (xg bs bx m i):=λm hm=>by
  have M:=T.md m hm
  have k1:i < m.nexts.length:=by rw [M.ok.nexts.1]; exact hi
  have k2:i < m.push.length:=by rw [M.ok.push.1]; exact hi
  have ln:=M.ok.nexts.2 _ (wK (z:=[]) k1)
  have lp:=M.ok.push.2 _ (wK (z:=[]) k2)
  have BN:∀ x∈m.nexts.getD i [],Bd 4 x:=M.nx _ (wK k1)
  have BP:∀ x∈m.push.getD i [],Bd 4 x:=M.ps _ (wK k2)
  have ba:Bd (e + 8) (m.add.getD i 0):=(jg M.ad i).mono (by omega)
  have t1:Bd (e + 7) (zK (m.nexts.getD i []) bx):=(gJ BN h.bd).mono (by omega)
  have t2:Bd (e + 7) (zK (m.push.getD i []) bs):=(gJ BP bb).mono (by omega)
  have t3:Bd (e + 7) (zK (za (m.nexts.getD i [])) bx):=(gJ (kj BN) h.bd).mono (by rw [jk]; omega)
  have t4:Bd (e + 7) (zK (za (m.push.getD i [])) bs):=(gJ (kj BP) bb).mono (by rw [jk]; omega)
  unfold xm xg
  rw [fb,fb]
  exact ⟨(Bd.fdiv (ba.sub (t3.add t4)) _).mono (by omega),(Bd.fdiv ((t1.add t2).add ba).neg _).neg.mono (by omega)⟩
 rw [e1,e2]
 exact ⟨(key m1 (dq.mp h1).1).1,(key m2 (dq.mp h2).1).2⟩
noncomputable def wR (a b:List (Int × Int)):List (Int × Int):=(a.zip b).map λq=>(min q.1.1 q.2.1,max q.1.2 q.2.2)
noncomputable def Qx:FL:=λds R=>∃ a b:List (Int × Int),ds=[zq a,zq b]/\a.length<=3/\R (zq (wR a b))
noncomputable def qVP:D->(Int × Int) × (Int × Int)
 | .tup [.tup [.int a,.int b],.tup [.int c,.int d]]=>((a,b),(c,d))
 | _=>((0,0),(0,0))
theorem zQY (a b:List (Int × Int)):dh y3 (a.map zz) (b.map zz)=(a.zip b).map λq=>y3 (zz q.1) (zz q.2):=by
 rw [List.zipWith_map,List.zip,List.map_zipWith]
theorem zR6 {n e:Nat} {a b:List (Int × Int)} (A:xY n e a) (B:xY n e b):xY n e (wR a b):=by
 have la:=A.len
 have lb:=B.len
 have mem:∀ p∈wR a b,∃ x∈a,∃ y∈b,p=(min x.1 y.1,max x.2 y.2):=λp hp=>by
  obtain ⟨q,hq,rfl⟩:=cr.mp hp
  exact ⟨_,(c_ hq).1,_,(c_ hq).2,rfl⟩
 refine ⟨by unfold wR; rw [a_,eA]; omega,λp hp=>?_,λp hp=>?_⟩
 ·obtain ⟨x,hx,y,hy,rfl⟩:=mem p hp
  have:=A.ord x hx
  show min x.1 y.1<=max x.2 y.2
  omega
 ·obtain ⟨x,hx,y,hy,rfl⟩:=mem p hp
  refine ⟨?_,XI (A.bd x hx).2 (B.bd y hy).2⟩
  show Bd e (min x.1 y.1)
  rw [Int.min_def]
  split
  ·exact (A.bd x hx).1
  ·exact (B.bd y hy).1
theorem zR7:∀ {a b:List (Int × Int)},a.length=b.length->zh a (wR a b)
 | [],[],_=>True.intro
 | x :: a,y :: b,h=>⟨⟨by show min x.1 y.1<=x.1; omega,by show x.2<=max x.2 y.2; omega⟩,zR7 (Nat.succ.inj h)⟩
theorem zR5:∀ {a b:List (Int × Int)},a.length=b.length->wR a b=a->zh b a
 | [],[],_,_=>True.intro
 | x :: a,y :: b,h,e=>by
  have e:(min x.1 y.1,max x.2 y.2) :: wR a b=x :: a:=e
  obtain ⟨e1,e2⟩:=List.cons.inj e
  have h1:min x.1 y.1=x.1:=congrArg Prod.fst e1
  have h2:max x.2 y.2=x.2:=congrArg Prod.snd e1
  exact ⟨⟨by omega,by omega⟩,zR5 (Nat.succ.inj h) e2⟩
noncomputable def vn (n:Nat) (bs:List (Int × Int)) (ms:List MD):Nat->List (Int × Int)->List (Int × Int)
 | 0,B=>B
 | k + 1,B=>wR (vn n bs ms k B) (xG n bs ms (vn n bs ms k B))
section
variable {n:Nat} {bs:List (Int × Int)} {ms:List MD} {u:Int} {B:List (Int × Int)} (T:wa n bs ms u)
include T
theorem Xc (b:xY n 105 B):∀ k,xY n (105 + 20 * k) (vn n bs ms k B)/\zh B (vn n bs ms k B)
 | 0=>⟨b,zh.refl _⟩
 | k + 1=>by
  obtain ⟨h1,h2⟩:=Xc b k
  have h3:=zR3 T h1 (by omega)
  exact ⟨(zR6 (h1.wid (show _<=105 + 20 * k + 20 by omega)) h3).wid (by omega),h2.trans (zR7 (by rw [h1.len,h3.len]))⟩
theorem Qy {e:Nat} (e1:105<=e) (b:xY n e B):∀ k,xY n (e + 20 * k) (xT n bs ms k B)
 | 0=>b
 | k + 1=>(zR3 T (Qy e1 b k) (by omega)).wid (by omega)
end
noncomputable def zSL:FL:=λds R=>∃ n bs ms u bx,ds=[wQ n bs ms u,zq bx]/\wa n bs ms u/\xY n 105 bx/\R (zq (vn n bs ms 5 bx))
theorem zN0 {α:Type} {l:List α} {f:α->D} {k:Nat} (z:α) (h:l.length=k + 1):yx (l.map f) (-1)=some (f (l.getD k z)):=by
 rw [qq]
 unfold yx vp
 rw [if_neg (by decide),if_pos (by omega)]
 show iv f l[((-1:Int) + (l.length:Int)).toNat]? = _
 rw [show ((-1:Int) + (l.length:Int)).toNat=k by omega,ck (by omega),cg,ck (by omega)]
 rfl
noncomputable def wc (c:Int) (n:Nat) (u:Int):List (Int × Int):=vP ((yD c 8).getD 0 0) n u
noncomputable def kM (c:Int):Nat:=(((yD c 8).getD 1 0).fmod 4).toNat
noncomputable abbrev bM (c:Int) (n:Nat) (bs:List (Int × Int)) (ms:List MD) (u:Int):List (Int × Int):=vn n bs ms 5 (wc c n u)
theorem gL {c:Int} {n:Nat} {bs:List (Int × Int)} {ms:List MD} {u:Int} (T:wa n bs ms u):xY n 105 (wc c n u):=by
 have u1:=T.u1
 obtain ⟨h1,h2⟩:=zMT (c:=(yD c 8).getD 0 0) (n:=n) (u:=u) (by omega) T.bu
 exact ⟨h1,λb hb=>(h2 b hb).1,λb hb=>(h2 b hb).2⟩
theorem uX (c:Int):kM c<=3:=by
 have:=md ((yD c 8).getD 1 0) (show (0:Int) < 4 by decide)
 unfold kM
 omega
theorem ko {n K:Nat} {bs:List (Int × Int)} {ms:List MD} {B:List (Int × Int)}:(yP n bs ms B K).length=K + 1:=by unfold yP; rw [a_,cI]
theorem UP {n K k:Nat} {bs:List (Int × Int)} {ms:List MD} {B:List (Int × Int)} (h:k<=K):(yP n bs ms B K).getD k []=xT n bs ms k B:=by
 unfold yP
 rw [cg,cS,dj (by omega)]
 rfl
theorem Xd {n K:Nat} {bs:List (Int × Int)} {ms:List MD} {B:List (Int × Int)}:yP n bs ms B (K + 1)=yP n bs ms B K++[xT n bs ms (K + 1) B]:=by
 unfold yP
 rw [iP (n:=K + 1),cx]
 rfl
theorem UQ {c:Int} {n:Nat} {bs:List (Int × Int)} {ms:List MD} {u:Int} (T:wa n bs ms u):∀ b∈yP n bs ms (bM c n bs ms u) (kM c),xY n 280 b:=λb hb=>by
 obtain ⟨k,hk,rfl⟩:=cr.mp hb
 have:=du.mp hk
 have:=uX c
 exact (Qy T (by decide) (Xc T (gL T) 5).1 k).wid (by omega)
noncomputable def Qz:FL:=λds R=>∃ n bs ms u c,ds=[wQ n bs ms u,.int c]/\wa n bs ms u/\R (.tup [zq (wc c n u),.lst ((yP n bs ms (bM c n bs ms u) (kM c)).map zq)])
structure gM (n:Nat) (g:List (List Int)):Prop where
 l3:g.length<=3
 row:∀ r∈g,r.length=n + 1/\(∀ x∈r.take n,Bd 4 x)/\∀ x∈r,Bd 299 x
structure Q0 (n:Nat) (bxs:List (List (Int × Int))):Prop where
 l1:1<=bxs.length
 l4:bxs.length<=4
 bx:∀ b∈bxs,xY n 280 b
noncomputable def zQd:D->Int × Int
 | .tup [.int a,.int b]=>(a,b)
 | _=>(0,0)
noncomputable def Xe:D->List (Int × Int)
 | .lst ds=>ds.map zQd
 | _=>[]
theorem UR (b:List (Int × Int)):Xe (zq b)=b:=by
 show (b.map zz).map zQd=b
 rw [cw]
 exact e_ _
noncomputable def Xf:FL:=λds R=>∃ n bs ms u bxs c,ds=[wQ n bs ms u,.lst (bxs.map zq),.int c]/\wa n bs ms u/\Q0 n bxs/\∀ g,gM n g->R (Rm g)
theorem zSZ {n:Nat} {box:List (Int × Int)} {m:MD} (h:xF n m box=true):∃ r t,m.rows=r :: t:=by
 cases e:m.rows with
 | nil=>unfold xF at h; rw [e] at h; cases h
 | cons r t=>exact ⟨r,t,rfl⟩
noncomputable def Xg:FL:=λds R=>∃ n bs ms u m r box e,ds=[wQ n bs ms u,ym m,U r,zq box]/\wa n bs ms u/\qB n bs.length m/\r.length=n + 1/\(∀ x∈r.take n,Bd 4 x)/\e<=400/\xY n e box/\R (yk (uG n bs box m r))
noncomputable def Xh:FL:=λds R=>∃ bx n,ds=[zq bx]/\n<=3/\bx.length=n/\R (vA (yf n (zj bx)))
noncomputable def zSM:FL:=λds R=>∃ n bs ms u bx af,ds=[wQ n bs ms u,zq bx,zq af]/\wa n bs ms u/\xY n 280 bx/\xY n 280 af/\R (wB (xQ n bs ms bx af))
theorem kq {n:Nat} {bx:List (Int × Int)} (l:bx.length=n):∀ r∈zj bx,r.length=n + 1/\∀ x∈r.take n,Bd 4 x:=λr hr=>by
 obtain ⟨i,hi,e⟩:=XX l hr
 refine ⟨UM l r hr,λx hx=>?_⟩
 have u1:∀ y:Int,Bd 2 y->∀ x∈ya (i:Int) n y,Bd 4 x:=λy hy x hx=>(Qb (n:=n) (pl:=(i:Int)) (e:=2) (nu:=y) hy x hx).mono
 have tk:∀ (y z:Int),(ya (i:Int) n y++[z]).take n=ya (i:Int) n y:=λy z=>by
  have lu:=vx (i:Int) n y
  rw [cX (by omega),cL (by omega)]
 rcases e with rfl | rfl
 ·rw [tk] at hx; exact u1 1 Bd.lit x hx
 ·rw [tk] at hx; exact u1 (-1) Bd.lit x hx
noncomputable abbrev jp (rooms:List (List (List Int))) (BK A1 A2 A3:D):D:=.lst [vk rooms,BK,A1,A2,A3]
noncomputable abbrev qD (n:Nat) (bs:List (Int × Int)) (ms:List MD) (B:List (Int × Int)) (K b:Nat):D:=.lst ((cR (K + 1)).map λk=>wB (xQ n bs ms (xT n bs ms k B) (wC n bs ms B K b k)))
noncomputable abbrev kr (n:Nat) (bs:List (Int × Int)) (ms:List MD) (B:List (Int × Int)) (K:Nat) (g:List (List Int)):D:=.lst ((yP n bs ms B K).map λ_=>vA (yf n g))
noncomputable abbrev Xi (n:Nat) (bs:List (Int × Int)) (ms:List MD) (B:List (Int × Int)) (K b:Nat) (g:List (List Int)):D:=jp ((yP n bs ms B K).map zj) (.int ((b:Nat):Int)) (vA (yf n (zj B))) (qD n bs ms B K b) (kr n bs ms B K g)
noncomputable def yG (c:Int):Int:=(yD c 6).getD 0 0
noncomputable def zSI:FL:=λds R=>∃ n bs ms u c,ds=[wQ n bs ms u,.int c]/\wa n bs ms u/\∀ g t b,gM n g->0<=t->Bd 100 t->b<=kM (yG c)->R (.tup [zq (wc (yG c) n u),Rm g,.int t,Xi n bs ms (bM (yG c) n bs ms u) (kM (yG c)) b g])
theorem Xj {α:Type} {l:List α} {k:Nat} {z:α} (h:k < l.length):l[k]? = some (l.getD k z):=by rw [cg,ck h]; rfl
theorem Q1 (ws:List Int) (b:Int):D.tup (ws.map D.int++[D.int b])=U (ws++[b]):=by unfold U; rw [cx]; rfl
structure Wd (n:Nat) (bxs:List (List (Int × Int))) (g g':List (List Int)):Prop where
 sam:g'.map (·.take n)=g.map (·.take n)
 row:∀ r∈g',r.length=n + 1/\(∀ x∈r,Bd 299 x)/\∀ b∈bxs,zK (r.take n) b<=r.getD n 0
noncomputable def Xk:FL:=λds R=>∃ n g bxs,ds=[Rm g,.lst (bxs.map zq)]/\n<=3/\gM n g/\Q0 n bxs/\∀ g',Wd n bxs g g'->R (Rm g')
noncomputable def US:List Expr->List Int->Bool
 | [],[]=>true
 | .Constant (.int i) _ _ :: es,n :: ns=>(i == n) && US es ns
 | _,_=>false
theorem zJD {X:Cx}:∀ {es:List Expr} {ns:List Int},US es ns=true->PA X es (wE λ_ R=>R (ns.map D.int))
 | [],[],_=>zC
 | .Constant (.int i) _ _ :: es,n :: ns,h=>by
  have h:((i == n) && US es ns)=true:=h
  rw [dk] at h
  obtain rfl:=eq_of_beq h.1
  exact zB zD (zJD h.2)
theorem Q2 {X:Cx} {es:List Expr} {pos:Pos} {l:Expr} {ns:List Int} (h:Expr.List es pos=l) (hi:US es ns=true):PE X l (tP (YB λ_ R=>R (ns.map D.int))):=h ▸ xO (zJD hi)
theorem zOu {α:Type} {xs:List α} {lo hi:Option Int}:(∀ x∈zo xs lo hi,x∈xs)/\(zo xs lo hi).length<=xs.length:=by
 unfold zo
 exact ⟨λx hx=>dB (fj hx),by rw [cE,db]; omega⟩
noncomputable def Xl (n:Nat) (rooms:List (List (List Int))) (A1 A2 A3 e0 e1 e2 e3:D):Prop:=(Fw 5 e0/\(XB (n:Int) e0=false\/e0=vk [])/\e1=A1/\e2=A2/\e3=A3)\/(e0=vk rooms/\((e1=.non/\e2=A2/\e3=A3)\/(e1=A1/\e2=.non/\e3=A3)\/(e1=A1/\e2=A2/\e3=.non)))
noncomputable def zSK:FL:=λds R=>∃ n rooms BK A1 A2 A3 c,ds=[jp rooms BK A1 A2 A3,.int c]/\n<=3/\1<=rooms.length/\rooms.length<=4/\j8 n rooms/\(∀ r∈rooms,1<=r.length)/\∀ e0 e1 e2 e3,Xl n rooms A1 A2 A3 e0 e1 e2 e3->R (.lst [e0,BK,e1,e2,e3])
theorem Q3 {n:Nat} (n3:n<=3) {S:List (List Int)} (h:wZ S n):Fw 4 (Rm S):=kI (by have:=h.few; omega) λr hr=>by rw [(h.row r hr).1]; omega
theorem zPt {n:Nat} {r:List Int} (lr:r.length=n + 1) (n3:n<=3):∀ y∈[D.lst (r.map D.int),.tup (r.map D.int++[.int 0]),.tup ((r.drop 1).map D.int),.tup ((r.take n).map D.int++[.bool true]),.tup ((r.take n).map D.int++[.str "1"]),.non],Fw 3 y/\vN (n:Int) y=false:=λy hy=>by
 have nums:∀ {k:Nat} {l:List Int},∀ x∈l.map D.int,Fw (k + 1) x:=λx hx=>by
  obtain ⟨i,_,rfl⟩:=cr.mp hx
  exact .int i
 have sn:∀ {l:List Int} {z:D},l.length<=800->Fw 2 z->Fw 3 (.tup (l.map D.int++[z])):=λh hz=>.tup (by rw [cj,a_]; show _ + 1<=900; omega) λx hx=>(cZ.mp hx).elim (nums x) λhx=>by rw [cQ.mp hx]; exact hz
 have len:∀ {xs:List D},(xs.length:Int)≠(n:Int) + 1->vN (n:Int) (.tup xs)=false:=λ{xs} h=>by show (decide ((xs.length:Int)=(n:Int) + 1) && xs.all uT)=false; rw [decide_eq_false h]; rfl
 have lst:∀ {xs:List D} {z:D},uT z=false->vN (n:Int) (.tup (xs++[z]))=false:=λ{xs z} h=>by
  show (_ && (xs++[z]).all uT)=false
  rw [iQ]
  show (_ && (_ && (uT z && true)))=false
  rw [h,fZ,fk,fk]
 simp only [cu,cW,or_false] at hy
 rcases hy with rfl | rfl | rfl | rfl | rfl | rfl
 ·exact ⟨.lst (by rw [a_]; omega) nums,rfl⟩
 ·exact ⟨sn (by omega) (.int _),len (by rw [cj,a_,lr]; show ((n + 1 + 1:Nat):Int)≠_; omega)⟩
 ·exact ⟨.tup (by rw [a_,db]; omega) nums,len (by rw [a_,db,lr]; omega)⟩
 ·exact ⟨sn (by rw [cE]; omega) (.bool _),lst rfl⟩
 ·exact ⟨sn (by rw [cE]; omega) (.str _),lst rfl⟩
 ·exact ⟨.non,rfl⟩
theorem Q4 {k:Nat} {f:D->Bool} {X Y:List D} {z:D} (hX:∀ d∈X,Fw k d) (hY:∀ d∈Y,Fw k d) (l:X.length + Y.length<=800) (h:Fw k z) (hz:f z=false):Fw (k + 1) (.lst (X++[z]++Y))/\(X++[z]++Y).all f=false:=by
 refine ⟨.lst (by rw [cj,cj]; show _ + 1 + _<=900; omega) λd hd=>?_,?_⟩
 ·rcases cZ.mp hd with hd | hd
  ·rcases cZ.mp hd with hd | hd
   ·exact hX d hd
   ·rw [cQ.mp hd]; exact h
  ·exact hY d hd
 ·rw [iQ,iQ]
  show (_ && (f z && true) && _)=false
  rw [hz,fZ,fk,fZ]
noncomputable def gN (m:MD):MD:={ m with steer:=1 :: m.steer.drop 1 }
theorem zPH {m m':MD} (h:ym m=ym m'):m=m':=by
 have key:∀ {a b:List Int},D.scr a=D.scr b->a=b:=λ{a b} e=>by rw [<- qC a,e,qC]
 have ky2:∀ {u:List Int->D} {v:D->List Int},(∀ x,v (u x)=x)->∀ {a b:List (List Int)},a.map u=b.map u->a=b:=λ{u v} hv {a b} e=>by
  have:=congrArg (dG v) e
  rw [cw,cw,j5 (f:=v ∘ u) λx _=>hv x,j5 (f:=v ∘ u) λx _=>hv x] at this
  exact this
 cases m; cases m'
 injection h with h
 injection h with h1 h
 injection h with h2 h
 injection h with h3 h
 injection h with h4 h
 injection h with h5 h
 injection h with h6 h
 injection h1 with h1
 injection h2 with h2
 injection h4 with h4
 injection h6 with h6
 cases ky2 jO h1
 cases ky2 qC h2
 cases key h3
 cases ky2 qC h4
 cases key h5
 cases h6
 rfl
theorem zQ6 {f:MD->D} {g:MD->D}:∀ {ms:List MD} {es:List D},Paired (λd e=>∀ m∈ms,d=f m->e=g m) (ms.map f) es->es=ms.map g:=λ{ms es} h=>by
 have go:∀ {l:List MD} {es:List D},(∀ m∈l,m∈ms)->Paired (λd e=>∀ m∈ms,d=f m->e=g m) (l.map f) es->es=l.map g:=by
  intro l
  induction l with
  | nil=>intro es _ h; cases h; rfl
  | cons m l ih=>
   intro es hl h
   cases h with
   | cons h t=>
    rw [h m (hl m cq) rfl,ih (λx hx=>hl x (cn _ hx)) t]
    rfl
 exact go (λ_ h=>h) h
theorem zPq {n:Nat} {bs:List (Int × Int)} {ms:List MD} (O:wL n bs ms):wL n bs (ms.map gN)/\kJ (ms.map gN)=false:=by
 have n1:=O.n1
 refine ⟨⟨n1,O.n3,O.bok,O.b6,by rw [a_]; exact O.m1,by rw [a_]; exact O.m40,λx hx=>?_⟩,?_⟩
 ·obtain ⟨m,hm,rfl⟩:=cr.mp hx
  have MO:=O.mok m hm
  exact ⟨MO.rows,MO.few,MO.nexts,by show (m.steer.drop 1).length + 1=n; rw [db,MO.steer]; omega,MO.push,MO.add,MO.div,MO.n3,MO.p6⟩
 ·refine Bool.eq_false_iff.mpr λc=>?_
  have m1:=O.m1
  cases ms with
  | nil=>cases m1
  | cons m ms=>
   have k:=cK.mp (cK.mp c (gN m) cq) 1 cq
   cases k
noncomputable def zSJ:FL:=λds R=>∃ n bs ms u c p,ds=[wQ n bs ms u,c,p]/\wL n bs ms/\R (.bool true)
structure Em (H H':Hp):Prop where
 o:∀ a u,H a=some u->(∀ xs,u≠.lst xs)->H' a=some u
 l:∀ a xs,H a=some (.lst xs)->H' a=some (.lst xs)\/H' a=some (.lst [])
theorem Em.refl (H:Hp):Em H H:=⟨λ_ _ e _=>e,λ_ _ e=>.inl e⟩
theorem Em.trans {H H1 H2:Hp} (a:Em H H1) (b:Em H1 H2):Em H H2:=⟨λc u e n=>b.o c u (a.o c u e n) n,λc xs e=>(a.l c xs e).elim (b.l c xs) λz=>(b.l c [] z).elim .inr .inr⟩
theorem Em.new {H:Hp} {p:Addr} (n:H p=none) (o:HO):Em H (zY H p o):=⟨λa u e _=>(zc (xZ e n)).trans e,λa xs e=>.inl ((zc (xZ e n)).trans e)⟩
theorem Em.clear {H:Hp} {p:Addr} {xs:List V} (e:H p=some (.lst xs)):Em H (zY H p (.lst [])):=⟨λa u q n=>(zc λz=>by rw [z,e] at q; exact n xs (Option.some.inj q).symm).trans q,λa ys q=>by
 by_cases c:a=p
 ·rw [c]; exact .inr wS
 ·exact .inl ((zc c).trans q)⟩
theorem Q5 {H H':Hp} {k:Nat}:∀ {xs:List V} {ds:List D},yH H xs ds->(∀ d∈ds,∀ v,DV H v d->∃ d',DV H' v d'/\Fw k d')->∃ ds',yH H' xs ds'/\ds'.length=ds.length/\∀ d∈ds',Fw k d
 | _,_,.nil,_=>⟨[],.nil,rfl,λ_ h=>nomatch h⟩
 | _,_,.cons h t,g=>by
  obtain ⟨d',h1,h2⟩:=g _ cq _ h
  obtain ⟨ds',h3,h4,h5⟩:=Q5 t λd hd=>g d (cn _ hd)
  exact ⟨d' :: ds',.cons h1 h3,by rw [cJ,cJ,h4],λd hd=>(cu.mp hd).elim (λe=>e ▸ h2) (h5 d)⟩
theorem Q6 {H H':Hp} (m:Em H H') {k:Nat} {d:D} (f:Fw k d):∀ {v:V},DV H v d->∃ d',DV H' v d'/\Fw k d':=by
 induction f with
 | int i=>intro v h; cases h; exact ⟨_,.int i,.int i⟩
 | bool i=>intro v h; cases h; exact ⟨_,.bool i,.bool i⟩
 | non=>intro v h; cases h; exact ⟨_,.non,.non⟩
 | str i=>intro v h; cases h; exact ⟨_,.str i,.str i⟩
 | lst l _ ih=>
  intro v h
  obtain ⟨p,xs,rfl,e,hx⟩:=h.lst_inv
  rcases m.l p xs e with z | z
  ·obtain ⟨ds',h1,h2,h3⟩:=Q5 hx λd hd v hv=>ih d hd hv
   exact ⟨_,.lst z h1,.lst (by rw [h2]; exact l) h3⟩
  ·exact ⟨_,.lst z .nil,.lst (eO _) λ_ h=>nomatch h⟩
 | tup l _ ih=>
  intro v h
  obtain ⟨p,xs,rfl,e,hx⟩:=h.tup_inv
  obtain ⟨ds',h1,h2,h3⟩:=Q5 hx λd hd v hv=>ih d hd hv
  exact ⟨_,.tup (m.o p _ e λxs y=>nomatch y) h1,.tup (by rw [h2]; exact l) h3⟩
noncomputable def Xm:List V->Hp->VK->Prop:=λxs H Q=>∃ x p d,xs=[x,.ref p]/\H p=some (.tup [.ty "list",.ty "tuple"])/\DV H x d/\d.isObj=false/\Q (.bl (d.isLst || d.isTup)) H
theorem zMQ {X:Cx}:vD X (.builtin "isinstance") Xm:=by
 intro pins s σ H xs us Q I r h
 obtain ⟨x,p,d,rfl,hp,hd,no,q⟩:=h
 obtain ⟨u,v,rfl,ru,rv⟩:=gf r
 cases (show v=Value.ref p from rv)
 obtain ⟨_,its,rt,o,g,c1,n,c2⟩:=(show xa X.prog X.w H s.heap p (.tup [.ty "list",.ty "tuple"]) from I.hok p _ hp)
 obtain rfl:its=[.type "list",.type "tuple"]:=by
  cases rt with
  | cons r1 rt=>cases rt with
   | cons r2 rt=>cases rt; cases r1; cases r2; rfl
 obtain ⟨cls,dd,dt,sl⟩:=o
 cases c1
 cases c2
 have any:∀ {t:Value},cO X.K t (.type "list")=some d.isLst->cO X.K t (.type "tuple")=some d.isTup->iX X.K t [.type "list",.type "tuple"]=some (d.isLst || d.isTup):=λ{t} h1 h2=>by
  unfold iX
  rw [h1]
  cases d.isLst with
  | true=>rfl
  | false=>
   unfold iX
   rw [h2]
   cases d.isTup <;> rfl
 have fin:∀ tk,EP X pins σ Q (.bool (d.isLst || d.isTup)) { s with toks:=tk }:=λtk=>⟨.bl _,H,I.tok tk,rfl,q⟩
 obtain ⟨t,ty,_,_,k1,k2⟩:=kA (K:=X.K) hd no
 cases hd with
 | non=>cases ty; cases (show u=Value.none from ru); exact eJ lC I.kIn True.intro g (any k1 k2) (λz=>nomatch z) fin
 | bool y=>cases ty; cases (show u=Value.bool y from ru); exact eJ lD I.kIn True.intro g (any k1 k2) (λz=>nomatch z) fin
 | int i=>cases ty; obtain ⟨t,e⟩:=(show ∃ t,u=Value.int i t from ru); cases e; exact eJ lO I.kIn True.intro g (any k1 k2) (λz=>nomatch z) fin
 | str y=>cases ty; obtain ⟨t,e⟩:=(show ∃ t,u=Value.str y t from ru); cases e; exact eJ lQ I.kIn True.intro g (any k1 k2) (λz=>nomatch z) fin
 | @frz a ys es ea _=>
  obtain ⟨ob,ea⟩:=ea
  cases (show u=Value.ref a from ru)
  obtain ⟨_,_,_,n,_,h1⟩:=(show xa X.prog X.w H s.heap a (.frz ob (.lst ys)) from I.hok a _ ea)
  exact eJ fX I.kIn ⟨_,h1,rfl⟩ g (any (jG X.K .lst) (jF X.K .lst)) (λz=>nomatch z) fin
 | @lst a ys es ea _=>
  cases (show u=Value.ref a from ru)
  obtain ⟨_,_,n,_,h1⟩:=(show xa X.prog X.w H s.heap a (.lst ys) from I.hok a _ ea)
  exact eJ fX I.kIn ⟨_,h1,rfl⟩ g (any (jG X.K .lst) (jF X.K .lst)) (λz=>nomatch z) fin
 | @tup a ys es ea _=>
  cases (show u=Value.ref a from ru)
  obtain ⟨_,_,_,ob,h1,h2,_⟩:=(show xa X.prog X.w H s.heap a (.tup ys) from I.hok a _ ea)
  exact eJ i5 I.kIn ⟨ob,h1,h2⟩ g (any (jG X.K .tup) (jF X.K .tup)) (λz=>nomatch z) fin
 | obj=>cases no
noncomputable def gO (k:Nat):Sp:=λvs H Q _=>∃ (v:V) (d:D),vs=[v]/\DV H v d/\Fw k d/\∀ H',Em H H'->Q .non H'
theorem zMs:∀ vs H Q E,¬ gO 0 vs H Q E:=λ_ _ _ _ ⟨_,_,_,_,f,_⟩=>by cases f
section
variable {X:Cx} {st:Stmt} {sts:List Stmt} {p q:xH} {t:TS}
inductive ku (p:xH) (t:TS) (D0:yq) (σ:St) (H:Hp):Prop
 | mk (Z0:Addr->Prop) (H0:Hp) (Z:Addr->Prop) (Γ:List Sl) (M:List Sl->Prop) (E:yu Z0 H0 Z Γ σ H) (h:p { nx:=M,rt:=λd=>d=.bool true } Γ) (rt:∀ H',D0.rt (.bl true) H') (nx:∀ Z' Γ' σ' H',yu Z0 H0 Z' Γ' σ' H'->zM (zJ Z H) (zJ Z' H')->M Γ'->t D0 σ' H'):ku p t D0 σ H
theorem Q7 {t t':TS} (h:yS X sts t) (w:∀ D σ H,t' D σ H->t D σ H):yS X sts t':=λpins s σ H D I k=>h pins s σ H D I (w D σ H k)
theorem zK5 (h1:PS X st (yb p)) (h2:yS X sts t):yS X (st :: sts) (ku p t):=Q7 (vQ h1 h2) λD σ H ⟨Z0,H0,Z,Γ,M,E,h,rt,nx⟩=>
 ⟨Z0,H0,Z,Γ,{ nx:=M,rt:=λd=>d=.bool true },E,h,nx,λd v H' _ dv e=>by subst e; cases dv; exact rt H',λ_ _ _ _ _ _ z=>z.elim,λ_ _ _ _ _ _ z=>z.elim⟩
theorem zJC (h1:PS X st (yb p)) (h2:yS X sts (ku q t)):yS X (st :: sts) (ku (YY p q) t):=Q7 (vQ h1 h2) λD σ H ⟨Z0,H0,Z,Γ,M,E,h,rt,nx⟩=>
 ⟨Z0,H0,Z,Γ,{ nx:=q { nx:=M,rt:=λd=>d=.bool true },rt:=λd=>d=.bool true },E,h,λZ' Γ' σ' H' E' s' h'=>⟨Z0,H0,Z',Γ',M,E',h',rt,λZ2 Γ2 σ2 H2 E2 s2 m=>nx Z2 Γ2 σ2 H2 E2 (s'.trans s2) m⟩,λd v H' _ dv e=>by subst e; cases dv; exact rt H',λ_ _ _ _ _ _ z=>z.elim,λ_ _ _ _ _ _ z=>z.elim⟩
theorem Q8 (h1:PS X st (yb p)) (h2:yS X sts (ku q t)):yS X (st :: sts) (ku (zRN p q) t):=Q7 (vQ h1 h2) λD σ H ⟨Z0,H0,Z,Γ,M,E,⟨N,h,k⟩,rt,nx⟩=>
 ⟨Z0,H0,Z,Γ,{ nx:=N,rt:=λd=>d=.bool true },E,h,λZ' Γ' σ' H' E' s' h'=>⟨Z0,H0,Z',Γ',M,E',k Γ' h',rt,λZ2 Γ2 σ2 H2 E2 s2 m=>nx Z2 Γ2 σ2 H2 E2 (s'.trans s2) m⟩,λd v H' _ dv e=>by subst e; cases dv; exact rt H',λ_ _ _ _ _ _ z=>z.elim,λ_ _ _ _ _ _ z=>z.elim⟩
end
noncomputable def gP:List Sl->Bool
 | []=>true
 | .no :: t=>gP t
 | .sh _ :: t=>gP t
 | _=>false
theorem UT:∀ {Γ:List Sl} {i:Nat},gP Γ=true->slot Γ i=.no\/∃ d,slot Γ i=.sh d
 | [],_,_=>.inl rfl
 | .no :: _,0,_=>.inl rfl
 | .sh d :: _,0,_=>.inr ⟨d,rfl⟩
 | .no :: t,i + 1,h=>UT (Γ:=t) h
 | .sh _ :: t,i + 1,h=>UT (Γ:=t) h
theorem Q9 {Γ:List Sl} {i:Nat} {ds:List D} (h:gP Γ=true):slot Γ i≠.ow ds:=λe=>by rcases UT (i:=i) h with z | ⟨d,z⟩ <;> rw [z] at e <;> cases e
theorem zOL {Γ:List Sl} {i:Nat} {o c:Addr} {ns:List Str} {ds:List D} (h:gP Γ=true):slot Γ i≠.ob o c ns ds:=λe=>by rcases UT (i:=i) h with z | ⟨d,z⟩ <;> rw [z] at e <;> cases e
theorem UU {Z:Addr->Prop} {Γ:List Sl} {σ:St} {H:Hp} (E:zr Z Γ σ H) (h:gP Γ=true):yu Z H Z Γ σ H:=⟨E,λ_ z=>z,E.zd,Sm.refl _,λi ds l e=>absurd e (Q9 h),λi o c ns ds e=>absurd e (zOL h)⟩
noncomputable def KA:Sl->Sl
 | .sh d=>.sh (zT d)
 | _=>.no
theorem zKp:∀ {Γ:List Sl} {i:Nat} {d:D},slot (Γ.map KA) i=.sh d->∃ d0,slot Γ i=.sh d0/\d=zT d0
 | [],_,_,h=>nomatch h
 | .sh d :: _,0,_,h=>by cases h; exact ⟨d,rfl,rfl⟩
 | .no :: _,0,_,h=>nomatch h
 | .ow _ :: _,0,_,h=>nomatch h
 | .ob .. :: _,0,_,h=>nomatch h
 | _ :: t,i + 1,_,h=>zKp (Γ:=t) h
theorem gQ:∀ Γ:List Sl,gP (Γ.map KA)=true
 | []=>rfl
 | .sh _ :: t=>gQ t
 | .no :: t=>gQ t
 | .ow _ :: t=>gQ t
 | .ob .. :: t=>gQ t
theorem KB (hI:∀ H:Hp,yX.I H) {Z:Addr->Prop} {Γ:List Sl} {σ:St} {H H2:Hp} (E:zr Z Γ σ H) (f:Fz H H2):zr Z (Γ.map KA) σ H2 where
 sh:=λi d e=>by
  obtain ⟨d0,e0,rfl⟩:=zKp e
  obtain ⟨v,h1,h2⟩:=E.sh i d0 e0
  exact ⟨v,h1,h2.fz f⟩
 ow:=λi ds e=>absurd e (Q9 (gQ Γ))
 ob:=λi o c ns ds e=>absurd e (zOL (gQ Γ))
 ne:=λi j as bs l e=>absurd e (Q9 (gQ Γ))
 zd:=⟨λb hb=>by
  obtain ⟨u,e,n⟩:=E.zd.z b hb
  by_cases c:∃ xs,u=.lst xs
  ·obtain ⟨xs,rfl⟩:=c
   obtain ⟨o,q⟩:=f.l b xs e
   exact ⟨_,q,λ_ z=>nomatch z⟩
  ·exact ⟨u,(f.o b λxs z=>c ⟨xs,by rw [e] at z; exact Option.some.inj z⟩).trans e,n⟩,hI _⟩
 len:=by rw [a_]; exact E.len
theorem KC (hI:∀ H:Hp,yX.I H) {σ:St} {H:Hp} {Z:Addr->Prop} (zd:∀ b,Z b->∃ u,H b=some u/\∀ xs,u≠.tup xs):zr Z (cv σ.length .no) σ H:=by
 have no:∀ k i,slot (cv k .no) i=.no:=λk=>by
  induction k with
  | zero=>intro i; rfl
  | succ k ih=>intro i; cases i with
   | zero=>rfl
   | succ i=>exact ih i
 exact ⟨λi d e=>(by rw [no] at e; cases e),λi d e=>(by rw [no] at e; cases e),λi o c ns ds e=>(by rw [no] at e; cases e),λi j as bs l e=>(by rw [no] at e; cases e),⟨zd,hI _⟩,di ..⟩
theorem jq {Z:Addr->Prop} {Γ:List Sl} {σ:St} {H:Hp} (E:zr Z Γ σ H) {i:Nat} {v:V} {d:D} (hi:σ[i]? = some (some v)) (h:DV (zJ Z H) v d):zr Z (yJ Γ i (.sh d)) σ H:=by
 have:=E.set h i
 have e:σ.set i (some v)=σ:=by
  obtain ⟨hl,e⟩:=cH.mp hi
  rw [<- e]
  exact List.set_getElem_self hl
 rw [e] at this
 exact this
mutual
noncomputable def yV (l f:Bool):D->Bool
 | .lst ds=>l && zu l f ds
 | .frz ds=>f && zu l f ds
 | .tup ds=>zu l f ds
 | .obj _ _ ds=>zu l f ds
 | .int _=>true
 | .bool _=>true
 | .non=>true
 | .str _=>true
noncomputable def zu (l f:Bool):List D->Bool
 | []=>true
 | d :: ds=>yV l f d && zu l f ds
end
theorem Xn {l f:Bool}:∀ {ds:List D},(∀ d∈ds,yV l f d=true)->zu l f ds=true
 | [],_=>by rw [zu]
 | d :: ds,h=>by rw [zu,h d cq,Xn λx hx=>h x (cn _ hx)]; rfl
theorem DV.keep {l f:Bool} {H H':Hp} (kl:l=true->∀ a xs,H a=some (.lst xs)->H' a=some (.lst xs)) (kf:f=true->∀ a o xs,H a=some (.frz o (.lst xs))->H' a=some (.frz o (.lst xs))) (kt:∀ a xs,H a=some (.tup xs)->H' a=some (.tup xs)) (ki:∀ a c d fs,H a=some (.ins c d fs)->H' a=some (.ins c d fs)):∀ {v:V} {d:D},DV H v d->yV l f d=true->DV H' v d
 | _,_,.int i,_=>.int i
 | _,_,.bool b,_=>.bool b
 | _,_,.non,_=>.non
 | _,_,.str x,_=>.str x
 | _,_,.lst e h,k=>by
  rw [yV,dk] at k
  exact .lst (kl k.1 _ _ e) (go kl kf kt ki h k.2)
 | _,_,.frz ⟨o,e⟩ h,k=>by
  rw [yV,dk] at k
  exact .frz ⟨o,kf k.1 _ _ _ e⟩ (go kl kf kt ki h k.2)
 | _,_,.tup e h,k=>by
  rw [yV] at k
  exact .tup (kt _ _ e) (go kl kf kt ki h k)
 | _,_,.obj e q h,k=>by
  rw [yV] at k
  exact .obj (ki _ _ _ _ e) q (go kl kf kt ki h k)
where
 go {l f:Bool} {H H':Hp} (kl:l=true->∀ a xs,H a=some (.lst xs)->H' a=some (.lst xs)) (kf:f=true->∀ a o xs,H a=some (.frz o (.lst xs))->H' a=some (.frz o (.lst xs))) (kt:∀ a xs,H a=some (.tup xs)->H' a=some (.tup xs)) (ki:∀ a c d fs,H a=some (.ins c d fs)->H' a=some (.ins c d fs)):∀ {xs:List V} {ds:List D},Paired (DV H) xs ds->zu l f ds=true->Paired (DV H') xs ds
  | _,_,.nil,_=>.nil
  | _,_,.cons h t,k=>by
   rw [zu,dk] at k
   exact .cons (DV.keep kl kf kt ki h k.1) (go kl kf kt ki t k.2)
theorem Xo {l f:Bool} {H H':Hp} {v:V} {d:D} (h:DV H v d) (kl:l=true->∀ a xs,H a=some (.lst xs)->H' a=some (.lst xs)) (kf:f=true->∀ a o xs,H a=some (.frz o (.lst xs))->H' a=some (.frz o (.lst xs))) (kt:∀ a xs,H a=some (.tup xs)->H' a=some (.tup xs)) (ki:∀ a c d fs,H a=some (.ins c d fs)->H' a=some (.ins c d fs)) (k:yV l f d=true):DV H' v d:=DV.keep kl kf kt ki h k
theorem Fw.kd {k:Nat} {d:D} (h:Fw k d):yV true false d=true:=by
 induction h with
 | lst _ _ ih=>rw [yV,Xn ih]; rfl
 | tup _ _ ih=>rw [yV,Xn ih]
 | _=>rw [yV]
theorem UV (ns:List Int):yV false true (D.scr ns)=true:=by
 rw [yV,Xn λd hd=>?_]
 ·rfl
 ·obtain ⟨i,_,rfl⟩:=cr.mp hd
  rw [yV]
theorem kz {α:Type} {l f:Bool} {u:α->D} (h:∀ x,yV l f (u x)=true) (xs:List α):zu l f (xs.map u)=true:=Xn λd hd=>by
 obtain ⟨x,_,rfl⟩:=cr.mp hd
 exact h x
theorem KD {l f:Bool} (r:List Int):yV l f (U r)=true:=by
 rw [yV]
 exact kz (λi=>by rw [yV]) r
theorem zRq (n:Nat) (bs:List (Int × Int)) (ms:List MD) (u:Int):yV false true (wQ n bs ms u)=true:=by
 have kp:∀ b:Int × Int,yV false true (zz b)=true:=λb=>by simp [yV,zu]
 have km:∀ m:MD,yV false true (ym m)=true:=λm=>by
  have h1:=kz (l:=false) (f:=true) (u:=U) KD m.rows
  have h2:=kz (l:=false) (f:=true) (u:=D.scr) UV m.nexts
  have h3:=kz (l:=false) (f:=true) (u:=D.scr) UV m.push
  have h4:=UV m.steer
  have h5:=UV m.add
  rw [yV,zu,zu,zu,zu,zu,zu,zu,yV,h1,yV,h2,h4,yV,h3,h5,yV]
  rfl
 have h1:=kz (l:=false) (f:=true) kp bs
 have h2:=kz (l:=false) (f:=true) km ms
 rw [yV,zu,zu,zu,zu,zu,yV,yV,h1,yV,h2,yV]
 rfl
theorem KE (ns:List Int):(ns.map D.int).map zT=ns.map D.int:=by
 rw [cw]
 exact cN λi _=>by show zT (.int i)=_; rw [zT]
theorem gR (ns:List Int):zT (L ns)=D.scr ns:=by rw [zT,vU,KE]
theorem zR8 (ns:List Int):zT (D.scr ns)=D.scr ns:=by rw [zT,vU,KE]
theorem Xp (ns:List Int):zT (U ns)=U ns:=by rw [zT,vU,KE]
theorem k6 (t:List (List Int)):zT (Rm t)=.frz (t.map U):=by
 rw [zT,vU,cw]
 congr 1
 exact cN λr _=>Xp r
theorem UW (t:List (List Int)):zT (.frz (t.map U))=.frz (t.map U):=by
 rw [zT,vU,cw]
 congr 1
 exact cN λr _=>Xp r
theorem zSA (t:List (List Int)):zT (Tb t)=.frz (t.map D.scr):=by
 rw [zT,vU,cw]
 congr 1
 exact cN λr _=>gR r
theorem zP9 (n:Nat) (bs:List (Int × Int)) (ms:List MD) (u:Int):zT (UE n bs ms u)=wQ n bs ms u:=by
 have hp:(bs.map zz).map zT=bs.map zz:=by
  rw [cw]
  exact cN λb _=>by show zT (zz b)=_; rw [zT,ze,ze,ze,zT,zT]
 have hm:(ms.map XG).map zT=ms.map ym:=by
  rw [cw]
  refine cN λm _=>?_
  show zT (XG m)=_
  rw [zT,ze,ze,ze,ze,ze,ze,ze,k6,zSA,gR,zSA,gR,zT]
 rw [zT,ze,ze,ze,ze,ze,zT,zT,vU,hp,zT,vU,hm,zT]
theorem uH {H H2:Hp} (f:Fz H H2) {a:Addr} {u:HO} (e:H a=some u) (n:∀ xs,u≠.lst xs):H2 a=some u:=(f.o a λxs z=>by rw [e] at z; exact n xs (Option.some.inj z)).trans e
theorem UX {n:Nat} (n3:n<=3) {S:List (List Int)} (h:wZ S n):Fw 5 (Rm S):=kI (by have:=h.few; omega) λr hr=>by rw [(h.row r hr).1]; omega
theorem KF {X:Cx} {ss:List Stmt} {t:TS} (h:yS X ss t):yS X ss (λD σ H=>∃ T:Addr->Prop,(∀ a,T a->∀ o u,X.H₀ a≠some (.frz o u))/\t D σ (wJ T H)):=λpins s σ H D I ⟨T,nT,k⟩=>by
 have oth:∀ {a o},H a=some o->(∀ b xs,o≠.frz b (.lst xs))->wJ T H a=some o:=λe n=>(jf λb xs z=>by rw [e] at z; exact n b xs (Option.some.inj z)).trans e
 refine h pins s σ _ D (I.retold (λa n=>(jf λo xs z=>by rw [n] at z; cases z).trans n) (λb xs e=>oth e λ_ _ y=>nomatch y) (λb o u e=>(Yt λz=>nT b z o u e).trans (I.base.frzs b o u e)) (λb ps e=>oth e λ_ _ y=>nomatch y) λa u q=>?_) k
 by_cases c:T a/\∃ o xs,H a=some (.frz o (.lst xs))
 ·obtain ⟨c1,o,xs,e⟩:=c
  rw [gE c1 e] at q
  cases q
  exact (I.hok a _ e).2
 ·have n:wJ T H a=H a:=by
   by_cases d:T a
   ·exact jf λo xs e=>c ⟨d,o,xs,e⟩
   ·exact Yt d
  rw [n] at q
  exact (I.hok a u q).stay (λ_ _ _ z=>z) (λb z=>oth z λ_ _ y=>nomatch y) λb xs z=>oth z λ_ _ y=>nomatch y
noncomputable def Xq (C:Addr):FL:=λds R=>∃ n S A t c,ds=[Rm S,.frz (A.map U),.int t,.int c]/\n<=3/\wZ S n/\wZ A n/\R (xf C S A t)
structure C2 (H Hf J1 J1f J2:Hp) (h0 h1:Addr) (ys0 ys1:List V):Prop where
 f0:Fz H Hf
 s1:Sm Hf J1
 e0:J1 h0=some (.lst ys0)
 e1:J1 h1=some (.lst ys1)
 f1:Fz J1 J1f
 s2:Sm J1f J2
noncomputable abbrev TC (H:Hp) (h0 h1:Addr):Addr->Prop:=λa=>(∃ xs,H a=some (.lst xs))\/a=h0\/a=h1
noncomputable abbrev JC (H J2:Hp) (h0 h1:Addr):Hp:=zY (zY (wJ (TC H h0 h1) J2) h0 (.lst [])) h1 (.lst [])
section
variable {H Hf J1 J1f J2:Hp} {h0 h1:Addr} {ys0 ys1:List V} (c:C2 H Hf J1 J1f J2 h0 h1 ys0 ys1)
include c
theorem C2.frz {a:Addr} {ys:List V} (e:J1 a=some (.lst ys)):∃ o,J2 a=some (.frz o (.lst ys)):=by
 obtain ⟨o,q⟩:=c.f1.l a ys e
 exact ⟨o,c.s2.at q⟩
theorem C2.new {a:Addr} {ys:List V} (e:J1 a=some (.lst ys)):∀ o u,H a≠some (.frz o u):=λo u z=>by
 have q:=c.s1.at (uH c.f0 z λ_ y=>nomatch y)
 rw [e] at q
 cases q
theorem C2.ok:∀ a,TC H h0 h1 a->∀ o u,H a≠some (.frz o u):=λa z o u=>by
 rcases z with ⟨xs,z⟩ | rfl | rfl
 ·rw [z]; exact λy=>nomatch y
 ·exact c.new c.e0 o u
 ·exact c.new c.e1 o u
theorem C2.at0:wJ (TC H h0 h1) J2 h0=some (.lst ys0):=let ⟨_,q⟩:=c.frz c.e0; gE (.inr (.inl rfl)) q
theorem C2.at1:wJ (TC H h0 h1) J2 h1=some (.lst ys1):=let ⟨_,q⟩:=c.frz c.e1; gE (.inr (.inr rfl)) q
theorem C2.end {a:Addr} {u:HO} (e:J2 a=some u) (n:∀ o xs,u=.frz o (.lst xs)->¬ TC H h0 h1 a):JC H J2 h0 h1 a=some u:=by
 have q:wJ (TC H h0 h1) J2 a=some u:=by
  by_cases z:∃ o xs,u=.frz o (.lst xs)
  ·obtain ⟨o,xs,z⟩:=z
   exact (Yt (n o xs z)).trans e
  ·exact (jf λo xs y=>z ⟨o,xs,by rw [e] at y; exact Option.some.inj y⟩).trans e
 have k:∀ {h:Addr} {ys:List V},J1 h=some (.lst ys)->(h=h0\/h=h1)->a≠h:=λ{h ys} e1 hh z=>by
  obtain ⟨o,q2⟩:=c.frz e1
  rw [<- z,e] at q2
  exact n o ys (Option.some.inj q2) (.inr (by rw [z]; exact hh))
 exact (zc (k c.e1 (.inr rfl))).trans ((zc (k c.e0 (.inl rfl))).trans q)
theorem C2.sm (hI:∀ H:Hp,yX.I H):Sm H (JC H J2 h0 h1):=by
 refine ⟨λb o e n=>?_,λb o e n=>?_,λ_=>hI _⟩
 ·by_cases z:∃ xs,o=.lst xs
  ·obtain ⟨xs,rfl⟩:=z
   obtain ⟨ob,q⟩:=c.f0.l b xs e
   have q1:=c.s1.at q
   have q2:=c.s2.at (uH c.f1 q1 λ_ y=>nomatch y)
   have q3:wJ (TC H h0 h1) J2 b=some (.lst xs):=gE (.inl ⟨xs,e⟩) q2
   have k:∀ {h:Addr} {ys:List V},J1 h=some (.lst ys)->b≠h:=λ{h ys} e1 z=>by
    rw [<- z,q1] at e1
    cases e1
   exact (zc (k c.e1)).trans ((zc (k c.e0)).trans q3)
  ·have n2:∀ xs,o≠.lst xs:=λxs y=>z ⟨xs,y⟩
   have q1:=c.s1.at (uH c.f0 e n2) n
   refine c.end (c.s2.at (uH c.f1 q1 n2) n) λob xs y t=>?_
   rcases t with ⟨ys,t⟩ | rfl | rfl
   ·rw [e] at t; exact n2 ys (Option.some.inj t)
   ·rw [c.e0] at q1; exact n2 _ (Option.some.inj q1).symm
   ·rw [c.e1] at q1; exact n2 _ (Option.some.inj q1).symm
 ·have n2:∀ xs,o≠.lst xs:=λxs y=>by rw [y] at n; cases n
  obtain ⟨o1,q1,t1⟩:=c.s1.t b o (uH c.f0 e n2) n
  obtain ⟨o2,q2,t2⟩:=c.s2.t b o1 (uH c.f1 q1 λxs y=>by rw [y] at t1; cases t1) t1
  exact ⟨o2,c.end q2 (λob xs y=>by rw [y] at t2; cases t2),t2⟩
theorem C2.dv {Z Z2:Addr->Prop} (z:∀ b,Z b->Z2 b) {v:V} {d:D} (h:DV (zJ Z2 J2) v d) (k:yV true false d=true):DV (zJ Z (JC H J2 h0 h1)) v d:=
 Xo (l:=true) (f:=false) h (λ_ a xs e=>let ⟨e1,e2⟩:=vf e; xb (λy=>e1 (z _ y)) (c.end e2 λ_ _ y=>nomatch y)) (λy=>nomatch y) (λa xs e=>let ⟨e1,e2⟩:=vf e; xb (λy=>e1 (z _ y)) (c.end e2 λ_ _ y=>nomatch y)) (λa cc dd fs e=>let ⟨e1,e2⟩:=vf e; xb (λy=>e1 (z _ y)) (c.end e2 λ_ _ y=>nomatch y)) k
end
structure UY (s:Int × List Int):Prop where
 o:Bd 210 s.1
 l:s.2.length<=100
 b:∀ x∈s.2,Bd 210 x
noncomputable def KG (ss:List (Int × List Int)):Prop:=ss.length<=40/\∀ s∈ss,UY s
noncomputable def gS (t:List (List (Int × List Int))):Prop:=t.length<=40/\∀ ss∈t,KG ss
noncomputable def Sy (y:D):Prop:=(∃ i,y=.int i/\Bd 1000 i)\/y=.bool true
theorem Xr {o:Int} {ys:List D} (bo:Bd 1000 o) (l:ys.length<=900) (h:∀ y∈ys,Sy y):Fw 3 (.tup [.int o,.lst ys])/\Y2 (.tup [.int o,.lst ys]):=by
 refine ⟨.tup (by show 2<=900; decide) λd hd=>?_,λo' ys' e=>?_⟩
 ·rcases cu.mp hd with rfl | hd
  ·exact .int _
  ·rw [cQ.mp hd]
   refine .lst l λy hy=>?_
   rcases h y hy with ⟨i,rfl,_⟩ | rfl
   ·exact .int i
   ·exact .bool _
 ·cases e
  refine ⟨bo,λy hy=>?_⟩
  rcases h y hy with ⟨i,rfl,b⟩ | rfl
  ·exact b
  ·exact vO
theorem zQq {s:Int × List Int} (h:UY s):Fw 3 (yk s)/\Y2 (yk s):=Xr (h.o.mono) (by rw [a_]; have:=h.l; omega) λy hy=>by
 obtain ⟨i,hi,rfl⟩:=cr.mp hy
 exact .inl ⟨i,rfl,(h.b i hi).mono⟩
theorem Xs {k:Nat} {as:List D} (l:as.length<=900) (h:∀ a∈as,Fw 3 a/\Y2 a):Fw (k + 4) (.lst as)/\x9 (.lst as):=⟨.lst l λa ha=>(h a ha).1.mono (by omega),λas' e=>by cases e; exact λa ha=>(h a ha).2⟩
theorem KH {k:Nat} {ss:List (Int × List Int)} (h:KG ss):Fw (k + 4) (vA ss)/\x9 (vA ss):=Xs (by rw [a_]; have:=h.1; omega) λa ha=>by
 obtain ⟨s,hs,rfl⟩:=cr.mp ha
 exact zQq (h.2 s hs)
theorem zOJ {as:List D} (l:as.length<=900) (h:∀ a∈as,Fw 4 a/\x9 a):Fw 5 (.lst as)/\xc (.lst as):=⟨.lst l λa ha=>(h a ha).1,λas' e=>by cases e; exact λa ha=>(h a ha).2⟩
theorem zQO {t:List (List (Int × List Int))} (h:gS t):Fw 5 (wB t)/\xc (wB t):=zOJ (by rw [a_]; have:=h.1; omega) λa ha=>by
 obtain ⟨s,hs,rfl⟩:=cr.mp ha
 exact KH (k:=0) (h.2 s hs)
structure jr (n:Nat) (bs:List (Int × Int)) (ms:List MD) (ok:Bool) (S A:List (List Int)) (t b:Int) (e0 e1 e2 e3:D):Prop where
 f0:Fw 5 e0
 f1:Fw 5 e1
 f2:Fw 6 e2/\Fq 6 e2
 f3:Fw 5 e3
 alt:(XB (n:Int) e0=false/\ok=false)\/∃ rooms,e0=vk rooms/\j8 n rooms/\x9 e1/\j7 e2/\xc e3/\u5 n bs ms S A t rooms (.int b) e1 e2 e3=ok
theorem zSB {t:List (List (Int × List Int))} (h:gS t):Fq 5 (wB t):=.lst (by rw [a_]; have:=h.1; omega) λa ha=>by
 obtain ⟨ss,hs,rfl⟩:=cr.mp ha
 refine .lst (by rw [a_]; have:=(h.2 ss hs).1; omega) λa ha=>?_
 obtain ⟨s,hs2,rfl⟩:=cr.mp ha
 refine .tup (by show 2<=900; decide) λa ha=>?_
 rcases cu.mp ha with rfl | ha
 ·exact .int _
 ·rw [cQ.mp ha]
  refine .lst (by rw [a_]; have:=((h.2 ss hs).2 s hs2).l; omega) λy hy=>?_
  obtain ⟨i,_,rfl⟩:=cr.mp hy
  exact .int i
theorem Fq.fz {k:Nat} {d:D} (h:Fq k d):Fq k (zT d):=by
 have key:∀ {k:Nat} {ds:List D},(∀ d∈ds,Fq (k + 1) (zT d))->∀ d∈ds.map zT,Fq (k + 1) d:=λih e he=>by
  obtain ⟨d,hd,rfl⟩:=cr.mp he
  exact ih d hd
 induction h with
 | lst l _ ih=>rw [zT,vU]; exact .frz (by rw [a_]; exact l) (key ih)
 | frz l _ ih=>rw [zT,vU]; exact .frz (by rw [a_]; exact l) (key ih)
 | tup l _ ih=>rw [zT,vU]; exact .tup (by rw [a_]; exact l) (key ih)
 | int i=>rw [zT]; exact .int i
 | bool i=>rw [zT]; exact .bool i
 | non=>rw [zT]; exact .non
 | str i=>rw [zT]; exact .str i
theorem KI {o:Int} {ns:List Int} (h:Bd 210 o) (l:ns.length<=100) (b:∀ x∈ns,Bd 210 x):UY (o,ns):=⟨h,l,b⟩
theorem KJ:Bd 210 (1:Int):=(Bd.lit (i:=1) (n:=1)).mono
theorem bz_ {k:Nat}:∀ x∈zs k,Bd 210 x:=λx hx=>by rw [dX hx]; exact vO
theorem UZ {a b:List Int} (h:∀ x∈a,Bd 210 x) (k:∀ x∈b,Bd 210 x):∀ x∈a++b,Bd 210 x:=λx hx=>(cZ.mp hx).elim (h x) (k x)
section
variable {n:Nat} {bs:List (Int × Int)} {ms:List MD} {u:Int} (T:wa n bs ms u)
include T
theorem Xu {X:List (Int × Int)} {m:MD} {r:List Int} (hm:m∈ms) (lr:r.length=n + 1) (br:∀ x∈r.take n,Bd 4 x):UY (uG n bs X m r):=by
 have n3:=T.n3
 have b2:=T.b2
 have M:=T.md m hm
 have r1:=M.r1
 have lt:(r.take n).length<=3:=by rw [cE]; omega
 unfold uG
 split
 ·refine KI vO (by rw [cj,cj,vB,jk,XN,cE]; show _ + 1 + _<=100; omega) (UZ (UZ (XQ (kj λx hx=>?_)) λx hx=>by rw [cQ.mp hx]; exact KJ) bz_)
  cases er:m.rows with
  | nil=>rw [er] at hx; cases n <;> cases hx
  | cons r0 l=>rw [er] at hx; exact ((M.rb r0 (by rw [er]; exact cq)).1 x hx).mono
 ·have k1:∀ x∈uF n (r.take n) m,Bd 210 x:=λx hx=>by
   obtain ⟨j,_,rfl⟩:=cr.mp hx
   exact (zO0 br M.nx j).mono (by omega)
  have k2:∀ x∈cM (r.take n) m bs.length,Bd 210 x:=λx hx=>by
   obtain ⟨j,_,rfl⟩:=cr.mp hx
   exact (zO0 br M.ps j).mono (by omega)
  exact KI KJ (by rw [cj,cj,vB,vB,XW,UH,XN]; omega) (UZ (UZ (XQ k1) bz_) (XQ k2))
theorem zRL {X Y:List (Int × Int)} (lY:Y.length=n):gS (xQ n bs ms X Y):=by
 have n3:=T.n3
 have m3:=T.m3
 refine ⟨by unfold xQ; rw [a_]; omega,λss hs=>?_⟩
 obtain ⟨m,hm,rfl⟩:=cr.mp hs
 refine ⟨by rw [a_,u8]; omega,λs hs=>?_⟩
 obtain ⟨r,hr,rfl⟩:=cr.mp hs
 exact Xu T hm (kq lY r hr).1 (kq lY r hr).2
omit T in
theorem zRK {g:List (List Int)} (n3:n<=3) (l:g.length<=40) (h:∀ r∈g,∀ x∈r.take n,Bd 4 x):KG (yf n g):=⟨by unfold yf; rw [a_]; exact l,λs hs=>by
 obtain ⟨r,hr,rfl⟩:=cr.mp hs
 exact KI KJ (by rw [vB,cE]; omega) (XQ λx hx=>(h r hr x hx).mono)⟩
omit T in
theorem zOx {e:Nat} {X:List (Int × Int)} (n3:n<=3) (h:xY n e X) (he:e<=290):wZ (zj X) n:=by
 refine ⟨λr hr=>⟨UM h.len r hr,λx hx=>?_⟩,by rw [u8,h.len]; omega⟩
 obtain ⟨i,hi,e⟩:=XX h.len hr
 have k:=h.bd _ (wK (z:=(0,0)) (show i < X.length by rw [h.len]; exact hi))
 have u1:∀ y:Int,Bd 2 y->∀ x∈ya (i:Int) n y,Bd 300 x:=λy hy x hx=>(Qb (n:=n) (pl:=(i:Int)) (e:=2) (nu:=y) hy x hx).mono
 rcases e with rfl | rfl <;> rcases cZ.mp hx with hx | hx
 ·exact u1 1 Bd.lit x hx
 ·rw [cQ.mp hx]; exact k.2.mono (by omega)
 ·exact u1 (-1) Bd.lit x hx
 ·rw [cQ.mp hx,fb]; exact k.1.neg.mono (by omega)
theorem KL {B:List (Int × Int)} {K:Nat} (hB:∀ b∈yP n bs ms B K,xY n 280 b) (K3:K<=3):j8 n ((yP n bs ms B K).map zj):=⟨λr hr=>by
 obtain ⟨b,hb,rfl⟩:=cr.mp hr
 exact zOx T.n3 (hB b hb) (by decide),by rw [a_,ko]; omega⟩
theorem zRJ {B:List (Int × Int)} {K b:Nat} {g:List (List Int)} (hB:∀ b∈yP n bs ms B K,xY n 280 b) (K3:K<=3) (hb:b<=K) (G:gM n g):(Fw 5 (vk ((yP n bs ms B K).map zj))/\Fw 5 (vA (yf n (zj B)))/\(Fw 6 (qD n bs ms B K b)/\Fq 6 (qD n bs ms B K b))/\Fw 5 (kr n bs ms B K g))/\x9 (vA (yf n (zj B)))/\j7 (qD n bs ms B K b)/\xc (kr n bs ms B K g):=by
 have n3:=T.n3
 have lx:(yP n bs ms B K).length=K + 1:=ko
 have it:∀ k,k<=K->xY n 280 (xT n bs ms k B):=λk hk=>hB _ (cr.mpr ⟨k,du.mpr (by omega),rfl⟩)
 have B0:xY n 280 B:=it 0 (eO _)
 have RS:=KL T hB K3
 have k1:=KH (k:=1) (zRK n3 (g:=zj B) (by rw [u8,B0.len]; omega) λr hr=>(kq B0.len r hr).2)
 have k2:Fw 6 (qD n bs ms B K b)/\j7 (qD n bs ms B K b):=by
  have key:∀ a∈(cR (K + 1)).map λk=>wB (xQ n bs ms (xT n bs ms k B) (wC n bs ms B K b k)),Fw 5 a/\xc a:=λa ha=>by
   obtain ⟨k,hk,rfl⟩:=cr.mp ha
   exact zQO (zRL T (by unfold wC; split <;> exact (it _ (by omega)).len))
  exact ⟨.lst (by rw [a_,cI]; omega) λa ha=>(key a ha).1,λas e=>by cases e; exact λa ha=>(key a ha).2⟩
 have k4:Fq 6 (qD n bs ms B K b):=.lst (by rw [a_,cI]; omega) λa ha=>by
  obtain ⟨k,hk,rfl⟩:=cr.mp ha
  exact zSB (zRL T (by unfold wC; split <;> exact (it _ (by omega)).len))
 have k3:Fw 5 (kr n bs ms B K g)/\xc (kr n bs ms B K g):=zOJ (by rw [a_]; omega) λa ha=>by
  obtain ⟨_,_,rfl⟩:=cr.mp ha
  exact KH (k:=0) (zRK n3 (by have:=G.l3; omega) λr hr=>(G.row r hr).2.1)
 exact ⟨⟨.lst (by rw [a_,a_]; omega) λd hd=>by
  obtain ⟨r,hr,rfl⟩:=cr.mp hd
  exact Q3 n3 (RS.rm r hr),k1.1,⟨k2.1,k4⟩,k3.1⟩,k1.2,k2.2,k3.2⟩
end
theorem zPZ {n:Nat} {bs:List (Int × Int)} {ms:List MD} {u c t:Int} {b:Nat} {g g':List (List Int)} (T:wa n bs ms u) (hh:wR (bM c n bs ms u) (xG n bs ms (bM c n bs ms u))=bM c n bs ms u) (hb:b<=kM c) (G:gM n g) (W:Wd n (yP n bs ms (bM c n bs ms u) (kM c)) g g'):jr n bs ms true (zj (wc c n u)) g' t ((b:Nat):Int) (vk ((yP n bs ms (bM c n bs ms u) (kM c)).map zj)) (vA (yf n (zj (bM c n bs ms u)))) (qD n bs ms (bM c n bs ms u) (kM c) b) (kr n bs ms (bM c n bs ms u) (kM c) g):=by
 obtain ⟨⟨p0,p1,p2,p3⟩,q1,q2,q3⟩:=zRJ T (UQ T) (uX c) hb G
 obtain ⟨BB,sI⟩:=Xc T (gL (c:=c) T) 5
 have I:=gL (c:=c) T
 have e:yf n g=yf n g':=by
  have:=congrArg (dG λw=>((1:Int),yp w)) W.sam
  rw [cw,cw] at this
  exact this.symm
 refine ⟨p0,p1,p2,p3,.inr ⟨_,rfl,KL T (UQ T) (uX c),q1,q2,q3,?_⟩⟩
 show u5 _ _ _ _ _ _ _ _ _ _ (.lst ((yP n bs ms (bM c n bs ms u) (kM c)).map λ_=>vA (yf n g)))=true
 rw [e]
 exact XZ (λm hm=>(T.md m hm).ok) (λm hm=>(T.md m hm).r1) BB.len BB.ord (λb hb=>(T.bb b hb).1) I.len I.ord sI (zR5 (by rw [u9 BB.len,BB.len]) hh) hb λr hr=>⟨(W.row r hr).1,λk hk=>(W.row r hr).2.2 _ (cr.mpr ⟨k,du.mpr (by omega),rfl⟩)⟩
theorem zPa {n:Nat} {bs:List (Int × Int)} {ms:List MD} {S A:List (List Int)} {t b:Int} {rooms:List (List (List Int))} {A1 A2 A3 e0 e1 e2 e3:D} (P:(Fw 5 (vk rooms)/\Fw 5 A1/\(Fw 6 A2/\Fq 6 A2)/\Fw 5 A3)/\x9 A1/\j7 A2/\xc A3) (RS:j8 n rooms) (b0:0<=b) (h:Xl n rooms A1 A2 A3 e0 e1 e2 e3):jr n bs ms false S A t b e0 e1 e2 e3:=by
 obtain ⟨⟨p0,p1,p2,p3⟩,q1,q2,q3⟩:=P
 rcases h with ⟨f0,alt,rfl,rfl,rfl⟩ | ⟨rfl,h⟩
 ·refine ⟨f0,p1,p2,p3,?_⟩
  rcases alt with h | rfl
  ·exact .inl ⟨h,rfl⟩
  ·exact .inr ⟨[],rfl,⟨λ_ h=>(nomatch h),eO _⟩,q1,q2,q3,if_pos (.inr b0)⟩
 have nS:x9 .non:=λ_ z=>nomatch z
 have nL:xc .non:=λ_ z=>nomatch z
 have nLL:j7 .non:=λ_ z=>nomatch z
 have fin:∀ {e1 e2 e3:D},Fw 5 e1->Fw 6 e2/\Fq 6 e2->Fw 5 e3->x9 e1->j7 e2->xc e3->(jP S (rooms.getD 0 []) n e1 && (kU n bs ms rooms b.toNat e2 && Y9 n rooms (min b t).toNat A e3))=false->jr n bs ms false S A t b (vk rooms) e1 e2 e3:=λh1 h2 h3 k1 k2 k3 z=>⟨p0,h1,h2,h3,.inr ⟨rooms,rfl,RS,k1,k2,k3,by
  show (if _ then false else _)=false
  rw [z]
  split <;> rfl⟩⟩
 rcases h with ⟨rfl,rfl,rfl⟩ | ⟨rfl,rfl,rfl⟩ | ⟨rfl,rfl,rfl⟩
 ·exact fin .non p2 p3 nS q2 q3 rfl
 ·exact fin p1 ⟨.non,.non⟩ p3 q1 nLL q3 (by show (_ && (false && _))=false; rw [fZ,fk])
 ·exact fin p1 p2 .non q1 q2 nL (by show (_ && (_ && false))=false; rw [fk,fk])
theorem Xv {n:Nat} {bxs:List (List (Int × Int))} {g g':List (List Int)} (G:gM n g) (W:Wd n bxs g g'):wZ g' n:=⟨λr hr=>⟨(W.row r hr).1,λx hx=>((W.row r hr).2.1 x hx).mono⟩,by
 have:=congrArg dS W.sam
 rw [a_,a_] at this
 have:=G.l3
 omega⟩
section
variable {J1 J1f J2 J2f J4 J4f J6:Hp}
noncomputable abbrev T1 (J1:Hp):Addr->Prop:=λa=>∃ xs,J1 a=some (.lst xs)
noncomputable abbrev T3 (J2 J4:Hp):Addr->Prop:=λa=>(∃ xs,J2 a=some (.lst xs))\/∃ xs,J4 a=some (.lst xs)
structure Ch (J1 J1f J2 J2f J4 J4f:Hp):Prop where
 f2:Fz J1 J1f
 s2:Sm J1f J2
 f3:Fz J2 J2f
 s4:Sm J2f J4
 f5:Fz J4 J4f
noncomputable def Kp (u:HO):Prop:=uq u=false/\∀ xs,u≠.lst xs
theorem Xw {o:Obj} {xs:List V}:Kp (.frz o (.lst xs)):=⟨rfl,λ_ z=>nomatch z⟩
theorem Xx {xs:List V}:Kp (.tup xs):=⟨rfl,λ_ z=>nomatch z⟩
theorem Xy {c d:Addr} {fs:List (Str × V)}:Kp (.ins c d fs):=⟨rfl,λ_ z=>nomatch z⟩
section
variable (c:Ch J1 J1f J2 J2f J4 J4f)
include c
theorem Ch.k4 {a:Addr} {u:HO} (k:Kp u) (e:J2 a=some u):J4 a=some u/\J4f a=some u:=
 have q:=c.s4.at (uH c.f3 e k.2) k.1
 ⟨q,uH c.f5 q k.2⟩
theorem Ch.k2 {a:Addr} {u:HO} (k:Kp u) (e:J1 a=some u):J2 a=some u:=c.s2.at (uH c.f2 e k.2) k.1
theorem Ch.l1 {a:Addr} {xs:List V} (e:J1 a=some (.lst xs)):∃ o,J2 a=some (.frz o (.lst xs))/\J4 a=some (.frz o (.lst xs))/\J4f a=some (.frz o (.lst xs)):=by
 obtain ⟨o,q⟩:=c.f2.l a xs e
 have h2:=c.s2.at q
 exact ⟨o,h2,c.k4 Xw h2⟩
theorem Ch.l2 {a:Addr} {xs:List V} (e:J2 a=some (.lst xs)):∃ o,J4f a=some (.frz o (.lst xs)):=by
 obtain ⟨o,q⟩:=c.f3.l a xs e
 exact ⟨o,uH c.f5 (c.s4.at q) λ_ z=>nomatch z⟩
theorem Ch.parts {v:V} {d:D} {k:Nat} (h:DV (zJ (λ_=>False) J1) v d) (f:Fw k d):DV (wJ (T1 J1) J4f) v d:=
 Xo (l:=true) (f:=false) h (λ_ a xs e=>by
  have e:=zl _ _ e
  obtain ⟨o,_,_,q⟩:=c.l1 e
  exact gE ⟨xs,e⟩ q) (λz=>nomatch z) (λa xs e=>by
  have q:=(c.k4 Xx (c.k2 Xx (zl _ _ e))).2
  exact (jf λo ys z=>by rw [q] at z; cases z).trans q) (λa cc dd fs e=>by
  have q:=(c.k4 Xy (c.k2 Xy (zl _ _ e))).2
  exact (jf λo ys z=>by rw [q] at z; cases z).trans q) f.kd
variable (em:Em (wJ (T1 J1) J4f) J6)
include em
theorem Ch.six {a:Addr} {u:HO} (e:J4f a=some u) (k:∀ xs,u≠.lst xs) (n:(∃ o xs,u=.frz o (.lst xs))->¬ T1 J1 a):J6 a=some u:=by
 refine em.o a u ?_ k
 by_cases z:∃ o xs,u=.frz o (.lst xs)
 ·exact (Yt (n z)).trans e
 ·exact (jf λo xs y=>z ⟨o,xs,by rw [e] at y; exact Option.some.inj y⟩).trans e
theorem Ch.ten {a:Addr} {u:HO} (e:J4f a=some u) (k:∀ xs,u≠.lst xs) (n:∀ o xs,u≠.frz o (.lst xs)):wJ (T3 J2 J4) J6 a=some u:=by
 have q:=c.six em e k λ⟨o,xs,z⟩=>absurd z (n o xs)
 exact (jf λo xs z=>by rw [q] at z; exact n o xs (Option.some.inj z)).trans q
theorem Ch.paper {v:V} {d:D} (h:DV (zJ (λ_=>False) J2) v d) (f:yV true false d=true):DV (zJ (λ_=>False) (wJ (T3 J2 J4) J6)) v d:=
 Xo (l:=true) (f:=false) h (λ_ a xs e=>by
  have e:=zl _ _ e
  obtain ⟨o,q⟩:=c.l2 e
  refine xb (λz=>z) (gE (.inl ⟨xs,e⟩) (c.six em q (λ_ z=>nomatch z) λ_ ⟨ys,z⟩=>?_))
  obtain ⟨o',q',_⟩:=c.l1 z
  rw [q'] at e; cases e) (λz=>nomatch z) (λa xs e=>xb (λz=>z) (c.ten em (c.k4 Xx (zl _ _ e)).2 (λ_ z=>nomatch z) λ_ _ z=>nomatch z)) (λa cc dd fs e=>xb (λz=>z) (c.ten em (c.k4 Xy (zl _ _ e)).2 (λ_ z=>nomatch z) λ_ _ z=>nomatch z)) f
theorem Ch.claim {v:V} {d:D} (h:DV (zJ (λ_=>False) J4) v d) (f:yV true false d=true):DV (zJ (λ_=>False) (wJ (T3 J2 J4) J6)) v d:=
 Xo (l:=true) (f:=false) h (λ_ a xs e=>by
  have e:=zl _ _ e
  obtain ⟨o,q⟩:=c.f5.l a xs e
  refine xb (λz=>z) (gE (.inr ⟨xs,e⟩) (c.six em q (λ_ z=>nomatch z) λ_ ⟨ys,z⟩=>?_))
  obtain ⟨o',_,q',_⟩:=c.l1 z
  rw [q'] at e; cases e) (λz=>nomatch z) (λa xs e=>xb (λz=>z) (c.ten em (uH c.f5 (zl _ _ e) λ_ z=>nomatch z) (λ_ z=>nomatch z) λ_ _ z=>nomatch z)) (λa cc dd fs e=>xb (λz=>z) (c.ten em (uH c.f5 (zl _ _ e) λ_ z=>nomatch z) (λ_ z=>nomatch z) λ_ _ z=>nomatch z)) f
theorem Ch.spec {v:V} {d:D} (h:DV (zJ (λ_=>False) J1) v d) (f:yV false true d=true):DV (zJ (λ_=>False) (wJ (T3 J2 J4) J6)) v d:=
 Xo (l:=false) (f:=true) h (λz=>nomatch z) (λ_ a o xs e=>by
  have e:=zl _ _ e
  have k2:=c.k2 Xw e
  have k4:=c.k4 Xw k2
  refine xb (λz=>z) ((Yt λz=>?_).trans (c.six em k4.2 (λ_ z=>nomatch z) λ_ ⟨ys,z⟩=>by rw [e] at z; cases z))
  rcases z with ⟨ys,z⟩ | ⟨ys,z⟩
  ·rw [k2] at z; cases z
  ·rw [k4.1] at z; cases z) (λa xs e=>xb (λz=>z) (c.ten em (c.k4 Xx (c.k2 Xx (zl _ _ e))).2 (λ_ z=>nomatch z) λ_ _ z=>nomatch z)) (λa cc dd fs e=>xb (λz=>z) (c.ten em (c.k4 Xy (c.k2 Xy (zl _ _ e))).2 (λ_ z=>nomatch z) λ_ _ z=>nomatch z)) f
end
end
noncomputable def Ua:Sp:=λvs H Q _=>∃ (a:Addr) (o:Obj) (ns:List Int),vs=[.ref a]/\H a=some (.frz o (.lst (ns.map V.int)))/\(∀ b u,H b=some u->∃ o xs,u=.frz o (.lst xs))/\∀ H',Q (.bl true) H'
theorem zOq:∀ xs ys:List (List Int),dY (wP (xs.map U)) (wP (ys.map U))=decide (xs=ys)
 | [],[]=>rfl
 | [],_ :: _=>rfl
 | _ :: _,[]=>rfl
 | x :: xs,y :: ys=>by
  show (eU (U x).py (U y).py && dY (wP (xs.map U)) (wP (ys.map U)))=_
  rw [zOq xs ys]
  have:eU (U x).py (U y).py=decide (x=y):=by
   show dY (wP (x.map D.int)) (wP (y.map D.int))=_
   rw [Z5,Z5]
   exact JX x y
  rw [this,eI,dk,decide_eq_true_iff,decide_eq_true_iff,decide_eq_true_iff,List.cons.injEq]
theorem zSQ (a b:List (Int × Int)):eU (zq a).py (zq b).py=decide (a=b):=by
 have:=zOq (a.map λx=>[x.1,x.2]) (b.map λx=>[x.1,x.2])
 rw [cw,cw] at this
 refine Eq.trans (show _=dY (wP (a.map ((λx=>U x) ∘ λx=>[x.1,x.2]))) (wP (b.map ((λx=>U x) ∘ λx=>[x.1,x.2]))) from rfl) (this.trans ?_)
 rw [eI,decide_eq_true_iff,decide_eq_true_iff]
 constructor
 ·intro h
  have inj:∀ {a b:List (Int × Int)},a.map (λx=>[x.1,x.2])=b.map (λx=>[x.1,x.2])->a=b:=λ{a}=>by
   induction a with
   | nil=>intro b h; cases b with | nil=>rfl | cons=>cases h
   | cons x a ih=>
    intro b h
    cases b with
    | nil=>cases h
    | cons y b=>
     rw [cT,cT] at h
     injection h with h1 h2
     injection h1 with h3 h4
     injection h4 with h5 h6
     rw [ih h2,Prod.ext h3 h5]
  exact inj h
 ·intro h; rw [h]
theorem zOh (bs:List (Int × Int)):(bs.map zz).map zT=bs.map zz:=by
 rw [cw]
 exact cN λb _=>by show zT (zz b)=_; rw [zT,ze,ze,ze,zT,zT]
theorem Xz (bs:List (Int × Int)):zT (zq bs)=.frz (bs.map zz):=by rw [zT,vU,zOh]
theorem zR9 (bs:List (Int × Int)):zT (.frz (bs.map zz))=.frz (bs.map zz):=by rw [zT,vU,zOh]
theorem zRA (bx:List (Int × Int)):(zq bx).pl 50=true:=cK.mpr λd hd=>by
 obtain ⟨b,_,rfl⟩:=cr.mp hd
 rfl
section
variable {P:Program} {w:World} {K:b_} {mg:Str->Option Value} {base:Heap}
noncomputable abbrev KM:Stmt:=zn 7
theorem zIK:zb ["thing"] ["thing"] (zR KM):=.a
noncomputable abbrev KN:Stmt:=zn 9
theorem zDx:zb ["value","count"] ["value","count"] (zR KN):=.a
noncomputable abbrev KO:Stmt:=zn 10
theorem zE8:zb ["value","tall","wide"] ["value","tall","wide"] (zR KO):=.a
noncomputable abbrev KP:Stmt:=zn 11
theorem KQ:zb ["value","depth"] ["value","depth"] (zR KP):=.a
noncomputable abbrev KR:Stmt:=zn 12
theorem zKu:zb ["place","wide","number"] ["place","wide","number"] (zR KR):=.a
noncomputable abbrev KS:Stmt:=zn 13
theorem zHZ:zb ["factor","numbers"] ["factor","numbers"] (zR KS):=.a
noncomputable abbrev KT:Stmt:=zn 15
theorem zHa:zb ["numbers","others"] ["numbers","others"] (zR KT):=.a
noncomputable abbrev KU:Stmt:=zn 16
theorem zFB:zb ["numbers","lists","wide"] ["numbers","lists","wide"] (zR KU):=.a
noncomputable abbrev KW:Stmt:=zn 22
theorem zHd:zb ["value","many"] ["value","many"] (zR KW):=.a
noncomputable abbrev KY:Stmt:=zn 23
theorem zGC:zb ["value","many"] ["value","many"] (zR KY):=.a
noncomputable abbrev KZ:Stmt:=zn 24
theorem zKv:zb ["place","many","number","bound"] ["place","many","number","bound"] (zR KZ):=.a
noncomputable abbrev Ka:Stmt:=qO (zn 38) 0
theorem zEq:zb ["self","rows","nexts","steer","push","add","divisor"] ["self","rows","nexts","steer","push","add","divisor"] (zR Ka):=.a
noncomputable abbrev Kb:Stmt:=zn 41
theorem zJx:zb ["value"] ["value"] (zR Kb):=.a
noncomputable abbrev Kc:Stmt:=zn 42
theorem zJy:zb ["value","many","wide"] ["value","many","wide"] (zR Kc):=.a
noncomputable abbrev Ke:Stmt:=zn 40
theorem Kf:zb ["many","pushes","modes"] ["many","pushes","modes"] (zR Ke):=.a
noncomputable abbrev Kg:Stmt:=qO (zn 39) 0
theorem zEJ:zb ["self","many","pushes","modes"] ["self","many","pushes","modes"] (zR Kg):=.a
noncomputable abbrev Kh:Stmt:=qO (zn 39) 1
theorem zFC:zb ["self"] ["self"] (zR Kh):=.a
noncomputable abbrev Ki:Stmt:=qO (zn 39) 2
theorem zF0:zb ["self"] ["self"] (zR Ki):=.a
noncomputable abbrev Kj:Stmt:=zn 43
theorem zDF:zb ["mode"] ["mode"] (zR Kj):=.a
noncomputable abbrev Kk:Stmt:=qO (zn 39) 3
theorem zCX:zb ["self"] ["self"] (zR Kk):=.a
noncomputable abbrev Ub:Stmt:=zn 44
theorem zDz:zb ["thing"] ["thing"] (zR Ub):=.a
noncomputable abbrev Kl:Stmt:=zn 27
theorem jt:zb ["thing","rows","pushes","wide","noughts","told","place","push"] ["thing","rows"] (zR Kl):=.a
noncomputable abbrev Km:Stmt:=zn 28
theorem Kn:zb ["thing","mode","row","numbers","ahead"] ["thing","mode","row"] (zR Km):=.a
noncomputable abbrev Ko:Stmt:=zn 30
theorem zMz:zb ["rows","numbers","many"] ["rows","numbers","many"] (zR Ko):=.a
noncomputable abbrev Kq:Stmt:=zn 31
theorem zE9:zb ["value"] ["value"] (zR Kq):=.a
noncomputable abbrev Kr:Stmt:=zn 32
theorem zD0:zb ["value","count"] ["value","count"] (zR Kr):=.a
noncomputable abbrev Ks:Stmt:=zn 33
theorem Uc:zb ["rows","target","shares","total","wanted"] ["rows","target","shares"] (zR Ks):=.a
noncomputable abbrev Kt:Stmt:=zn 50
theorem zGf:zb ["value","count"] ["value","count"] (zR Kt):=.a
noncomputable abbrev Ku:Stmt:=zn 51
theorem zDy:zb ["rows","targets","shares"] ["rows","targets","shares"] (zR Ku):=.a
noncomputable abbrev Kv:Stmt:=zn 58
theorem zDt:zb ["thing","mode","room","behind","shares"] ["thing","mode","room","behind","shares"] (zR Kv):=.a
noncomputable abbrev Kw:Stmt:=zn 57
theorem Kx:zb ["thing","room","behind","steps","modes"] ["thing","room","behind","steps"] (zR Kw):=.a
noncomputable abbrev Ky:Stmt:=qO (zn 19) 0
theorem zDf:zb ["self","start","rows","turn"] ["self","start","rows","turn"] (zR Ky):=.a
noncomputable abbrev Kz:Stmt:=qO (zn 47) 0
theorem zEK:zb ["self","rooms","back","starts","steps","stays"] ["self","rooms","back","starts","steps","stays"] (zR Kz):=.a
noncomputable abbrev K0:Stmt:=zn 52
theorem zE6:zb ["claim","many"] ["claim","many"] (zR K0):=.a
noncomputable abbrev K1:Stmt:=zn 55
theorem zEj:zb ["value","many"] ["value","many"] (zR K1):=.a
noncomputable abbrev K2:Stmt:=zn 56
theorem K4:zb ["thing","paper","following"] ["thing","paper"] (zR K2):=.a
noncomputable abbrev K5:Stmt:=zn 59
theorem K6:zb ["claim","paper","first"] ["claim","paper"] (zR K5):=.a
noncomputable abbrev K7:Stmt:=zn 54
theorem zEp:zb ["thing","claim","paper"] ["thing","claim","paper"] (zR K7):=.a
noncomputable abbrev Ud:Stmt:=zn 49
theorem zGB:zb ["thing","claim","paper"] ["thing","claim","paper"] (zR Ud):=.a
noncomputable abbrev K8:Stmt:=zn 68
theorem zHc:zb ["_law_script","_law_k"] ["_law_script","_law_k"] (zR K8):=.a
noncomputable abbrev K9:Stmt:=zn 69
theorem qF:zb ["_law_cell","_law_many","_law_found","_law_rest","_law_k","_law_number_here"] ["_law_cell","_law_many"] (zR K9):=.a
noncomputable abbrev zEN:Stmt:=zn 70
theorem zIJ:zb ["_law_x","_law_far"] ["_law_x","_law_far"] (zR zEN):=.a
noncomputable abbrev zIP:Stmt:=zn 74
theorem X0:zb ["_law_cell","_law_many","_law_unit","_law_xs","_law_box_here","_law_i","_law_low"] ["_law_cell","_law_many","_law_unit"] (zR zIP):=.a
noncomputable abbrev zGj:Stmt:=zn 75
theorem k7:zb ["_law_box_here","_law_rows_here","_law_i","_law_ones"] ["_law_box_here"] (zR zGj):=.a
noncomputable abbrev zIO:Stmt:=zn 76
theorem X1:zb ["_law_numbers","_law_box_here","_law_found","_law_number_here","_law_bounds"] ["_law_numbers","_law_box_here"] (zR zIO):=.a
noncomputable abbrev zGm:Stmt:=zn 71
theorem uY:zb ["_law_cell","_law_many","_law_wide","_law_unit","_law_split","_law_xs","_law_divisor","_law_nexts","_law_push","_law_i","_law_add","_law_rows_here","_law_row"] ["_law_cell","_law_many","_law_wide","_law_unit","_law_split"] (zR zGm):=.a
noncomputable abbrev zFD:Stmt:=zn 72
theorem jC:zb ["_law_script","_law_first","_law_second","_law_unit","_law_many","_law_pushes","_law_k","_law_x","_law_modes","_law_cell"] ["_law_script"] (zR zFD):=.a
noncomputable abbrev zGq:Stmt:=zn 81
theorem Ue:zb ["_law_numbers","_law_found","_law_number_here"] ["_law_numbers"] (zR zGq):=.a
noncomputable abbrev zGn:Stmt:=zn 73
theorem vo:zb ["_law_spec","_law_many","_law_pushes","_law_modes","_law_unit","_law_some","_law_rows_here","_law_nexts","_law_steer","_law_push","_law_add","_law_divisor","_law_lists"] ["_law_spec"] (zR zGn):=.a
noncomputable abbrev zEO:Stmt:=zn 77
theorem zDd:zb ["_law_mode_here","_law_box_here","_law_row"] ["_law_mode_here","_law_box_here"] (zR zEO):=.a
noncomputable abbrev zFF:Stmt:=zn 78
theorem xn:zb ["_law_spec","_law_box_here","_law_many","_law_pushes","_law_modes","_law_unit","_law_found","_law_j","_law_low","_law_high","_law_rows_here","_law_nexts","_law_steer","_law_push","_law_add","_law_divisor","_law_up","_law_down"] ["_law_spec","_law_box_here"] (zR zFF):=.a
noncomputable abbrev zGp:Stmt:=zn 79
theorem zHb:zb ["_law_one","_law_other"] ["_law_one","_law_other"] (zR zGp):=.a
noncomputable abbrev zGo:Stmt:=zn 80
theorem zE7:zb ["_law_spec","_law_box_here","_law_turn"] ["_law_spec","_law_box_here"] (zR zGo):=.a
noncomputable abbrev zFH:Stmt:=zn 85
theorem X2:zb ["_law_spec","_law_cell","_law_xs","_law_inner","_law_boxes_here","_law_k"] ["_law_spec","_law_cell"] (zR zFH):=.a
noncomputable abbrev zCl:Stmt:=zn 86
theorem ju:zb ["_law_spec","_law_boxes_here","_law_cell","_law_xs","_law_rows_here","_law_k","_law_numbers","_law_bound"] ["_law_spec","_law_boxes_here","_law_cell"] (zR zCl):=.a
noncomputable abbrev zCO:Stmt:=zn 82
theorem uf:zb ["_law_spec","_law_mode_here","_law_row","_law_box_here","_law_rows_here","_law_nexts","_law_steer","_law_push","_law_add","_law_divisor","_law_steps","_law_pushed"] ["_law_spec","_law_mode_here","_law_row","_law_box_here"] (zR zCO):=.a
noncomputable abbrev zC5:Stmt:=zn 83
theorem Uf:zb ["_law_spec","_law_box_here","_law_after","_law_found","_law_mode_here"] ["_law_spec","_law_box_here","_law_after"] (zR zC5):=.a
noncomputable abbrev zCm:Stmt:=zn 84
theorem zCM:zb ["_law_box_here","_law_some","_law_row"] ["_law_box_here"] (zR zCm):=.a
noncomputable abbrev zFE:Stmt:=zn 87
theorem vV:zb ["_law_spec","_law_cell","_law_xs","_law_inner","_law_boxes_here","_law_back","_law_turn","_law_asked","_law_rows_here","_law_after","_law_steps","_law_stays","_law_rooms"] ["_law_spec","_law_cell"] (zR zFE):=.a
noncomputable abbrev zC4:Stmt:=zn 92
theorem X3:zb ["_law_rows_here","_law_boxes_here","_law_found","_law_row","_law_bound"] ["_law_rows_here","_law_boxes_here"] (zR zC4):=.a
noncomputable abbrev Ug:Stmt:=zn 88
theorem ug:zb ["_law_parts_here","_law_cell","_law_rooms","_law_back","_law_starts","_law_steps","_law_stays","_law_at","_law_row","_law_bad","_law_room","_law_some","_law_which"] ["_law_parts_here","_law_cell"] (zR Ug):=.a
noncomputable abbrev zGk:Stmt:=zn 91
theorem X4:zb ["_law_spec","_law_claim_here","_law_paper","_law_modes","_law_found"] ["_law_spec","_law_claim_here","_law_paper"] (zR zGk):=.a
noncomputable abbrev zDg:Stmt:=zn 89
theorem zEi:zb ["_law_thing_here","_law_one"] ["_law_thing_here"] (zR zDg):=.a
noncomputable abbrev zFG:Stmt:=zn 90
theorem Uh:zb ["_law_start","_law_rows_here","_law_turn","_law_cell","_law_handed","_law_claim_here"] ["_law_start","_law_rows_here","_law_turn","_law_cell"] (zR zFG):=.a
noncomputable abbrev k8:Stmt:=zn 93
theorem uI:zb ["_law_script","_law_spec","_law_cell","_law_inner","_law_rows_here","_law_turn","_law_parts_here","_law_box_here","_law_boxes_here","_law_paper","_law_claim_here","_law_found"] ["_law_script"] (zR k8):=.a
variable {aClaim aSettles aComes ah ai aPaper aRooms aFalls:Addr} (TClaim:yi K mg "Claim" aClaim) (AClaim:zMd K aClaim) (TSettles:yi K mg "Settles" aSettles) (ASettles:zIE K aSettles) (TComes:yi K mg "Comes" aComes) (AComes:zMc K aComes) (aa:yi K mg "Mode" ah) (ac:zO4 K ah) (ae:yi K mg "Thing" ai) (ag:zMY K ai) (TPaper:yi K mg "Paper" aPaper) (APaper:zMa K aPaper) (TRooms:yi K mg "Rooms" aRooms) (ARooms:zMZ K aRooms) (TFalls:yi K mg "Falls" aFalls) (AFalls:zMb K aFalls) (Y:qZ K aRooms aPaper aSettles aClaim) {k:Nat} {f:Addr} {fd:FuncData} (B:Bl mg)
include TClaim AClaim TSettles ASettles TComes AComes aa ac ae ag TPaper APaper TRooms ARooms TFalls AFalls Y B
theorem zIe (F:zg K "is_whole" "is_whole" KM f fd):zE P w K mg base zU (k + 1) f fd ["thing"] (zG (gF)):=by
 refine yI F zIK λ_ _ _ _ _ _ hr=>⟨_,(zN (zV (wg (yL (xh vG rfl B.isinstance_ xq (zf (zA 0) (zf (wm (v:=.ty "int") (u:=.type "int") rfl B.int_ JP rfl) yK))) (vT zRx)) (vh (zQ1 (yL (xh vG rfl B.isinstance_ xq (zf (zA 0) (zf (wm (v:=.ty "bool") (u:=.type "bool") rfl B.bool_ zGT rfl) yK))) (vT zJN))))))),λds R h=>?_⟩
 obtain ⟨d,rfl,o,q⟩:=h
 refine ⟨o,λc=>⟨o,bR q ?_⟩,λc=>bR q ?_⟩
 ·unfold uT; rw [c]; rfl
 ·unfold uT; rw [c]; rfl
theorem zG6 (F:zg K "is_numbers" "is_numbers" KN f fd) (ak:Fn P w K mg base "is_whole" ["thing"] k (zG (gF))):zE P w K mg base zU (k + 1) f fd ["value","count"] (zG (QS)):=by
 refine yI F zDx λ_ _ _ _ _ _ hr=>⟨_,(zN (zV (wg (yL (xh vG rfl B.isinstance_ xq (zf (zA 0) (zf (wm (v:=.ty "list") (u:=.type "list") rfl B.list_ xr rfl) yK))) (vT je)) (wg (uc hr.units (yB xL xP rfl B.len_ xM (zB (zA 0) zC)) (zA 1)) (vh (yB (va rfl) vi rfl B.all_ vb (zB (yg (own:=["number"]) (caps:=[]) (yN zDx) rfl rfl yR (yj (zA 0)) (λ_ _ _ _=>(zy 0 (yA ["number"]))) (λ_ _ _ _=>(zQ ak hr rfl (zB (zA 0) zC)))) zC))))))),λds R h=>?_⟩
 obtain ⟨d,n,k,rfl,f,q⟩:=h
 refine ⟨f.no,λc=>?_,λc=>bR q ?_⟩
 ·obtain ⟨es,rfl,le,j,rfl,hj⟩:=f.lst_inv c
  refine ⟨λc2=>?_,λc2=>bR q ?_⟩
  ·refine zi.bool uT (by omega) (λd m=>⟨d,rfl,(hj d m).no,rfl⟩) ⟨_,rfl,bR q ?_⟩
   show (decide _ && _)=_
   rw [c2,v7]
   rfl
  ·show (decide _ && _)=_
   rw [c2]
   rfl
 ·cases d <;> first | rfl | cases c
theorem zIf (F:zg K "is_table" "is_table" KO f fd) (aA:Fn P w K mg base "is_numbers" ["value","count"] k (zG (QS))):zE P w K mg base zU (k + 1) f fd ["value","tall","wide"] (zG (Yv)):=by
 refine yI F zE8 λ_ _ _ _ _ _ hr=>⟨_,(zN (zV (wg (yL (xh vG rfl B.isinstance_ xq (zf (zA 0) (zf (wm (v:=.ty "list") (u:=.type "list") rfl B.list_ xr rfl) yK))) (vT je)) (wg (uc hr.units (yB xL xP rfl B.len_ xM (zB (zA 0) zC)) (zA 1)) (vh (yB (va rfl) vi rfl B.all_ vb (zB (yg (own:=["part"]) (caps:=[(2,"wide")]) (yN zE8) rfl rfl yR (yj (zA 0)) (λ_ _ _ _=>(zy 0 (yA ["part","wide"]))) (λ_ _ _ _=>(zQ aA hr rfl (zB (zA 0) (zB (zA 1) zC))))) zC))))))),λds R h=>?_⟩
 obtain ⟨d,h,w,k,rfl,f,q⟩:=h
 refine ⟨f.no,λc=>?_,λc=>bR q ?_⟩
 ·obtain ⟨es,rfl,le,j,rfl,hj⟩:=f.lst_inv c
  refine ⟨λc2=>?_,λc2=>bR q ?_⟩
  ·refine zi.bool (W1 w) (by omega) (λd m=>⟨d,w,j,rfl,hj d m,rfl⟩) ⟨_,rfl,bR q ?_⟩
   show (decide _ && _)=_
   rw [c2,v7]
   rfl
  ·show (decide _ && _)=_
   rw [c2]
   rfl
 ·cases d <;> first | rfl | cases c
theorem k9 {dv:Value} {j:Nat} (F:xN K "copied" "copied" KP f fd dv) (aj:uL P w K mg base "copied" ["value","depth"] k (zG (j6 j)) (.int 5)):zE P w K mg base zU (k + 1) f fd ["value","depth"] (zG (j6 (j + 1))):=by
 refine Yq F KQ λ_ _ _ _ _ _ hr=>⟨_,(zH (ye (jK hr.units (zA 1) zD) (zN (zV (zA 0))) yd)
  (zH (ye (yo (yL (xh vG rfl B.isinstance_ xq (zf (zA 0) (zf (wm (v:=.ty "list") (u:=.type "list") rfl B.list_ xr rfl) yK))) (vT je))) (zN (zV (yg (own:=["part"]) (caps:=[(1,"depth")]) (yN KQ) rfl rfl yR (yj (zA 0)) (λ_ _ _ _=>(zy 0 (yA ["part","depth"]))) (λ_ _ _ _=>(zQ aj.fn hr rfl (zB (zA 0) (zB (wt (zA 1) zD) zC))))))) yd)
  (zH (ye (yo (yL (xh vG rfl B.isinstance_ xq (zf (zA 0) (zf (wm (v:=.ty "tuple") (u:=.type "tuple") rfl B.tuple_ vc rfl) yK))) (vT Wt))) (zN (zV (xk jE jL rfl B.tuple_ vc (zB (yg (own:=["part"]) (caps:=[(1,"depth")]) (yN KQ) rfl rfl yR (yj (zA 0)) (λ_ _ _ _=>(zy 0 (yA ["part","depth"]))) (λ_ _ _ _=>(zQ aj.fn hr rfl (zB (zA 0) (zB (wt (zA 1) zD) zC))))) zC)))) yd)
  (zN (zV (zA 0)))))),λds R h=>?_⟩
 obtain ⟨d,n,rfl,f,jn,q⟩:=h
 refine ⟨λc=>?_,λc=>?_⟩
 ·have c:n=0:=of_decide_eq_true c
  have j0:j=0:=by omega
  subst j0
  cases f <;> rw [y4] at q <;> exact q
 have go:∀ {k:Nat} {ds:List D} {R:D->Prop},j=k + 1->ds.length<=900->(∀ d∈ds,Fq (k + 1) d)->R (.lst (wu ds))->zi ds (λd S=>j6 j [d,.int (n - 1)] S) R:=λ{k ds R} e le h q=>zi.map y4 (by omega) (λd m=>⟨d,_,rfl,by rw [e]; exact h d m,by omega,rfl⟩) (by rw [<- kG]; exact q)
 refine ⟨f.no,λc=>?_,λc=>?_⟩
 ·cases f with
  | lst l h=>rw [y4] at q; exact go rfl l h q
  | frz l h=>rw [y4] at q; exact go rfl l h q
  | _=>cases c
 refine ⟨f.no,λc2=>?_,λc2=>?_⟩
 ·cases f with
  | tup l h=>rw [y4] at q; exact go rfl l h q
  | _=>cases c2
 ·cases f with
  | lst l h=>cases c
  | frz l h=>cases c
  | tup l h=>cases c2
  | _=>rw [y4] at q; exact q
theorem zPr {dv:Value} (F:xN K "unit" "unit" KR f fd dv):zE P w K mg base zU (k + 1) f fd ["place","wide","number"] (zG (zSD)):=by
 refine Yq F zKu λ_ _ _ _ _ _ hr=>⟨_,(zN (zV (yg (own:=["other"]) (caps:=[(0,"place"),(2,"number")]) (yN zKu) rfl rfl yR (xz rfl B.range_ (zB (zA 1) zC)) (λ_ _ _ _=>(zy 0 (yA ["other","place","number"]))) (λ_ _ _ _=>(zM8 (jK hr.units (zA 0) (zA 1)) (zA 2) zD))))),λds R h=>?_⟩
 obtain ⟨p,w,n,rfl,w0,w1,q⟩:=h
 refine ⟨by omega,by omega,zi.rng0 (λi=>.int (if (i:Int)=p then n else 0)) (by omega) (λk hk=>?_) ?_⟩
 ·refine ⟨λc=>?_,λc=>?_⟩
  ·show D.int n=_
   rw [if_pos (of_decide_eq_true c)]
  ·show D.int 0=_
   rw [if_neg (of_decide_eq_false c)]
 ·unfold ya L at q
  rw [cw] at q
  exact q
theorem zLU (F:zg K "scaled" "scaled" KS f fd):zE P w K mg base zU (k + 1) f fd ["factor","numbers"] (zG (zL4)):=by
 refine yI F zHZ λ_ _ _ _ _ _ hr=>⟨_,(zN (zV (yg (own:=["number"]) (caps:=[(0,"factor")]) (yN zHZ) rfl rfl yR (yj (zA 1)) (λ_ _ _ _=>(zy 0 (yA ["number","factor"]))) (λ_ _ _ _=>(xV (zA 1) (zA 0)))))),λds R h=>?_⟩
 obtain ⟨f,d,ns,rfl,h,l,bf,bn,q⟩:=h
 exact h.seq (zi.int _ (by omega) (λn hn=>⟨bf.mono,(bn n hn).mono,rfl⟩) q)
theorem zLV (F:zg K "paired" "paired" KT f fd):zE P w K mg base zU (k + 1) f fd ["numbers","others"] (zG (zL5)):=by
 refine yI F zHa λ_ _ _ _ _ _ hr=>⟨_,(zN (zV (yB (WS rfl) Wl rfl B.sum_ WR (zB (yg (own:=["number","other"]) (caps:=[]) (yN zHa) rfl rfl (qt (vj (vj qv))) (qu rfl B.zip_ (zB (zA 0) (zB (zA 1) zC))) (λ_ _ _ _=>(w6 rfl (yF 0 (yA ["number","other"]) (yF 1 (yA ["number","other"]) w4)))) (λ_ _ _ _=>(xV (zA 0) (zA 1)))) zC)))),λds R h=>?_⟩
 obtain ⟨d,e,ns,os,rfl,h,k,l,bn,bo,q⟩:=h
 refine h.zip k (Yy (λq=>q.1 * q.2) (by rw [eA]; omega) (λp hp=>⟨(bn _ (c_ hp).1).mono,(bo _ (c_ hp).2).mono,rfl⟩) ⟨_,rfl,?_⟩)
 rw [zI5]
 exact q
theorem zIh (F:zg K "added_up" "added_up" KU f fd):zE P w K mg base zU (k + 1) f fd ["numbers","lists","wide"] (zG (QT)):=by
 refine yI F zFB λ_ _ _ _ _ _ hr=>⟨_,(zN (zV (yg (own:=["place"]) (caps:=[(0,"numbers"),(1,"lists")]) (yN zFB) rfl rfl yR (xz rfl B.range_ (zB (zA 2) zC)) (λ_ _ _ _=>(zy 0 (yA ["place","numbers","lists"]))) (λ_ _ _ _=>(yB (WS rfl) Wl rfl B.sum_ WR (zB (yg (own:=["number","part"]) (caps:=[(0,"place")]) W0 rfl rfl (qt (vj (vj qv))) (qu rfl B.zip_ (zB (zA 1) (zB (zA 2) zC))) (λ_ _ _ _=>(w6 rfl (yF 0 (yA ["number","part","place"]) (yF 1 (yA ["number","part","place"]) w4)))) (λ_ _ _ _=>(xV (zA 0) (zP (zA 1) (zA 2))))) zC)))))),λds R h=>?_⟩
 obtain ⟨d,e,ns,ls,w,rfl,h,k,lw,ln,bn,bl,q⟩:=h
 refine ⟨by omega,by omega,?_⟩
 rw [show ((w:Nat):Int).toNat=w by omega]
 refine zi.rng0 (λj=>.int (zm ns ls j)) (by omega) (λj hj=>?_) (by unfold L at q; rw [cw] at q; exact q)
 refine h.zipT k λu hu=>wv (λq=>y3 (.int q.1) (u q.2)) v2 (Yz hu) (λq=>.int (q.1 * q.2.getD j 0)) (by rw [eA]; omega) (λq hq=>?_) ⟨(ns.zip ls).map λq=>q.1 * q.2.getD j 0,by rw [cw]; rfl,rfl⟩
 have hb:=bl q.2 (c_ hq).2
 rcases hu with rfl | rfl
 all_goals exact ⟨_,xE (j:=j) (by omega) (by omega),(bn _ (c_ hq).1).mono,(jg hb.2 j).mono,rfl⟩
theorem zLd (F:zg K "is_row" "is_row" KW f fd) (ak:Fn P w K mg base "is_whole" ["thing"] k (zG (gF))):zE P w K mg base zU (k + 1) f fd ["value","many"] (zG (Yx)):=by
 refine yI F zHd λ_ _ _ _ _ _ hr=>⟨_,(zN (zV (wg (yL (xh vG rfl B.isinstance_ xq (zf (zA 0) (zf (wm (v:=.ty "tuple") (u:=.type "tuple") rfl B.tuple_ vc rfl) yK))) (vT Wt)) (wg (uc hr.units (yB xL xP rfl B.len_ xM (zB (zA 0) zC)) (zx (zA 1) zD)) (vh (yB (va rfl) vi rfl B.all_ vb (zB (yg (own:=["number"]) (caps:=[]) (yN zHd) rfl rfl yR (yj (zA 0)) (λ_ _ _ _=>(zy 0 (yA ["number"]))) (λ_ _ _ _=>(zQ ak hr rfl (zB (zA 0) zC)))) zC))))))),λds R h=>?_⟩
 obtain ⟨d,n,k,rfl,f,q⟩:=h
 refine ⟨f.no,λc=>?_,λc=>bR q ?_⟩
 ·obtain ⟨es,rfl,le,j,rfl,hj⟩:=f.tup_inv c
  refine ⟨λc2=>?_,λc2=>bR q ?_⟩
  ·refine zi.bool uT (by omega) (λd m=>⟨d,rfl,(hj d m).no,rfl⟩) ⟨_,rfl,bR q ?_⟩
   show (decide _ && _)=_
   rw [c2,v7]
   rfl
  ·show (decide _ && _)=_
   rw [c2]
   rfl
 ·cases d <;> first | rfl | cases c
theorem zKA (F:zg K "is_room" "is_room" KY f fd) (aN:Fn P w K mg base "is_row" ["value","many"] k (zG (Yx))):zE P w K mg base zU (k + 1) f fd ["value","many"] (zG (W2)):=by
 refine yI F zGC λ_ _ _ _ _ _ hr=>⟨_,(zN (zV (wg (yL (xh vG rfl B.isinstance_ xq (zf (zA 0) (zf (wm (v:=.ty "list") (u:=.type "list") rfl B.list_ xr rfl) yK))) (vT je)) (vh (yB (va rfl) vi rfl B.all_ vb (zB (yg (own:=["row"]) (caps:=[(1,"many")]) (yN zGC) rfl rfl yR (yj (zA 0)) (λ_ _ _ _=>(zy 0 (yA ["row","many"]))) (λ_ _ _ _=>(zQ aN hr rfl (zB (zA 0) (zB (zA 1) zC))))) zC)))))),λds R h=>?_⟩
 obtain ⟨d,n,k,rfl,f,q⟩:=h
 refine ⟨f.no,λc=>?_,λc=>bR q ?_⟩
 ·obtain ⟨es,rfl,le,j,rfl,hj⟩:=f.lst_inv c
  refine zi.bool (vN n) (by omega) (λd m=>⟨d,n,j,rfl,hj d m,rfl⟩) ⟨_,rfl,bR q ?_⟩
  rw [v7]
  rfl
 ·cases d <;> first | rfl | cases c
theorem zLT (F:zg K "single" "single" KZ f fd) (aO:uL P w K mg base "unit" ["place","wide","number"] k (zG (zSD)) (.int 1)):zE P w K mg base zU (k + 1) f fd ["place","many","number","bound"] (zG (zL2)):=by
 refine yI F zKv λ_ _ _ _ _ _ hr=>⟨_,(zN (zV (zx (xk jE jL rfl B.tuple_ vc (zB (zQ aO.fn hr rfl (zB (zA 0) (zB (zA 1) (zB (zA 2) zC)))) zC)) (wU (zB (zA 3) zC))))),λds R h=>?_⟩
 obtain ⟨p,w,n,b,rfl,w0,w1,q⟩:=h
 refine ⟨p,w,n,rfl,w0,w1,k0,by rw [a_,vx]; show _ + 1<=1000; omega,?_⟩
 unfold U at q
 rw [cx] at q
 exact q
theorem zEu (F:zg K "__init__" "Mode.__init__" Ka f fd) (aj:uL P w K mg base "copied" ["value","depth"] k (zG (j6 6)) (.int 5)):zE P w K mg base zU (k + 1) f fd ["self","rows","nexts","steer","push","add","divisor"] (vM ah (zOn ah)):=by
 refine QI F zEq (λds R h=>by obtain ⟨r,n,s,p,a,d,rfl,_⟩:=h; rfl) λcdv A outer s H E hr=>⟨_,(zH (yM (vE (yO 0) (uy (.int 5) (λ_=>.int 5) aj hr rfl (zB (zA 1) zC)) rfl) vL)
  (zH (yM (vE (yO 0) (uy (.int 5) (λ_=>.int 5) aj hr rfl (zB (zA 2) zC)) rfl) vL)
  (zH (yM (vE (yO 0) (uy (.int 5) (λ_=>.int 5) aj hr rfl (zB (zA 3) zC)) rfl) vL)
  (zH (yM (vE (yO 0) (uy (.int 5) (λ_=>.int 5) aj hr rfl (zB (zA 4) zC)) rfl) vL)
  (zH (yM (vE (yO 0) (uy (.int 5) (λ_=>.int 5) aj hr rfl (zB (zA 5) zC)) rfl) vL)
  (zN (yM (vE (yO 0) (zA 6) rfl) vL))))))),λo ds R h=>?_⟩
 obtain ⟨r,n,s,p,a,d,rfl,f1,f2,f3,f4,f5,q⟩:=h
 rw [<- f1.cp.2,<- f2.cp.2,<- f3.cp.2,<- f4.cp.2,<- f5.cp.2] at q
 refine ⟨r,5,rfl,f1.cp.1,by decide,⟨aa.cl,ac.n_rows⟩,by decide +kernel,by decide,rfl,?_⟩
 refine ⟨n,5,rfl,f2.cp.1,by decide,⟨aa.cl,ac.n_nexts⟩,by decide +kernel,by decide,rfl,?_⟩
 refine ⟨s,5,rfl,f3.cp.1,by decide,⟨aa.cl,ac.n_steer⟩,by decide +kernel,by decide,rfl,?_⟩
 refine ⟨p,5,rfl,f4.cp.1,by decide,⟨aa.cl,ac.n_push⟩,by decide +kernel,by decide,rfl,?_⟩
 refine ⟨a,5,rfl,f5.cp.1,by decide,⟨aa.cl,ac.n_add⟩,by decide +kernel,by decide,rfl,?_⟩
 exact ⟨⟨aa.cl,ac.n_divisor⟩,by decide +kernel,by decide,rfl,rfl,q⟩
theorem zKB (F:zg K "is_push" "is_push" Kb f fd) (ak:Fn P w K mg base "is_whole" ["thing"] k (zG (gF))):zE P w K mg base zU (k + 1) f fd ["value"] (zG (zL9)):=by
 refine yI F zJx λ_ _ _ _ _ _ hr=>⟨_,(zH (ye (PW.pt (wz (xS (yo (yL (xh vG rfl B.isinstance_ xq (zf (zA 0) (zf (wm (v:=.ty "tuple") (u:=.type "tuple") rfl B.tuple_ vc rfl) yK))) (vT Wt)))) (vR (Jm hr.units (yB xL xP rfl B.len_ xM (zB (zA 0) zC)) zD)))) (zN (zV xj)) yd)
  (zN (zV (wg (zQ ak hr rfl (zB (zP (zA 0) zD) zC)) (wg (zQ ak hr rfl (zB (zP (zA 0) zD) zC)) (vh (zQ2 (zP (zA 0) zD) (zP (zA 0) zD)))))))),λds R h=>?_⟩
 obtain ⟨b,rfl,h,q⟩:=h
 refine ⟨rfl,wF rfl (wF rfl ?_)⟩
 refine ⟨_,rfl,_,rfl,rfl,wT rfl ?_⟩
 refine ⟨_,rfl,_,rfl,rfl,wT rfl ?_⟩
 exact ⟨_,rfl,_,rfl,bR q (decide_eq_true h).symm⟩
theorem zKC (F:zg K "is_mode" "is_mode" Kc f fd) (aw:Fn P w K mg base "is_room" ["value","many"] k (zG (W2))) (aK:Fn P w K mg base "is_table" ["value","tall","wide"] k (zG (Yv))) (aA:Fn P w K mg base "is_numbers" ["value","count"] k (zG (QS))) (ak:Fn P w K mg base "is_whole" ["thing"] k (zG (gF))):zE P w K mg base zU (k + 1) f fd ["value","many","wide"] (zG (zMA ah)):=by
 refine yI F zJy λ_ _ _ _ _ _ hr=>⟨_,(zH (ye (PW.pt (wz (xS (yo (yL (xh qX rfl B.isinstance_ xq (zf (zA 0) (zf (qW aa rfl) yK))) gA))) (vR (xS (yo (zQ aw hr rfl (zB (yU K (zA 0) rfl) (zB (zA 1) zC)))))))) (zN (zV xj)) yd)
  (zH (ye (PW.pt (wz (xS (yo (zQ aK hr rfl (zB (yU K (zA 0) rfl) (zB (zA 1) (zB (zA 1) zC)))))) (vR (xS (yo (zQ aK hr rfl (zB (yU K (zA 0) rfl) (zB (zA 1) (zB (zA 2) zC))))))))) (zN (zV xj)) yd)
  (zH (ye (PW.pt (wz (xS (yo (zQ aA hr rfl (zB (yU K (zA 0) rfl) (zB (zA 1) zC))))) (vR (xS (yo (zQ aA hr rfl (zB (yU K (zA 0) rfl) (zB (zA 1) zC)))))))) (zN (zV xj)) yd)
  (zN (zV (wg (zQ ak hr rfl (zB (yU K (zA 0) rfl) zC)) (vh (zQ3 (yU K (zA 0) rfl) zD)))))))),λds R h=>?_⟩
 obtain ⟨m,n,p,rfl,h,q⟩:=h
 have n3:=h.n3
 have p6:=h.p6
 refine ⟨⟨_,_,aa⟩,_,Jc,wF rfl ?_⟩
 refine ⟨⟨aa.cl,ac.n_rows⟩,_,rfl,_,_,3,rfl,kI h.few (λr hr=>by rw [h.rows r hr]; omega),wF (by rw [W5 λr hr=>by rw [h.rows r hr]; rfl]; rfl) ?_⟩
 refine ⟨⟨aa.cl,ac.n_nexts⟩,_,rfl,_,_,_,3,rfl,W4 (by rw [h.nexts.1]; omega) (λr hr=>by rw [h.nexts.2 r hr]; omega),wF (by rw [zOC (by rw [h.nexts.1]) (λr hr=>by rw [h.nexts.2 r hr])]; rfl) ?_⟩
 refine ⟨⟨aa.cl,ac.n_push⟩,_,rfl,_,_,_,3,rfl,W4 (by rw [h.push.1]; omega) (λr hr=>by rw [h.push.2 r hr]; omega),wF (by rw [zOC (by rw [h.push.1]) (λr hr=>by rw [h.push.2 r hr])]; rfl) ?_⟩
 refine ⟨⟨aa.cl,ac.n_steer⟩,_,rfl,_,_,2,rfl,uz (by rw [h.steer]; omega),wF (by rw [QU (by rw [h.steer])]; rfl) ?_⟩
 refine ⟨⟨aa.cl,ac.n_add⟩,_,rfl,_,_,2,rfl,uz (by rw [h.add]; omega),wF (by rw [QU (by rw [h.add])]; rfl) ?_⟩
 refine ⟨⟨aa.cl,ac.n_divisor⟩,_,rfl,_,rfl,rfl,wT rfl ?_⟩
 exact ⟨⟨aa.cl,ac.n_divisor⟩,_,rfl,bR q (decide_eq_true h.div).symm⟩
theorem zIg (F:zg K "is_sound" "is_sound" Ke f fd) (ak:Fn P w K mg base "is_whole" ["thing"] k (zG (gF))) (aP:Fn P w K mg base "is_push" ["value"] k (zG (zL9))) (aQ:Fn P w K mg base "is_mode" ["value","many","wide"] k (zG (zMA ah))):zE P w K mg base zU (k + 1) f fd ["many","pushes","modes"] (zG (zJU ah)):=by
 refine yI F Kf λ_ _ _ _ _ _ hr=>⟨_,(zH (ye (PW.pt (wz (xS (yo (zQ ak hr rfl (zB (zA 0) zC)))) (wz (Wi (zA 0) zD) (vR (Z7 (zA 0) (Jj rfl B.MOST_NUMBERS_)))))) (zN (zV xj)) yd)
  (zH (ye (PW.pt (wz (xS (yo (yL (xh vG rfl B.isinstance_ xq (zf (zA 1) (zf (wm (v:=.ty "list") (u:=.type "list") rfl B.list_ xr rfl) yK))) (vT je)))) (vR (xS (yo (yB (va rfl) vi rfl B.all_ vb (zB (yg (own:=["push"]) (caps:=[]) (yN Kf) rfl rfl yR (yj (zA 1)) (λ_ _ _ _=>(zy 0 (yA ["push"]))) (λ_ _ _ _=>(zQ aP hr rfl (zB (zA 0) zC)))) zC))))))) (zN (zV xj)) yd)
  (zH (ye (PW.pt (wz (xS (yo (yL (xh vG rfl B.isinstance_ xq (zf (zA 2) (zf (wm (v:=.ty "list") (u:=.type "list") rfl B.list_ xr rfl) yK))) (vT je)))) (vR (jK hr.units (yB xL xP rfl B.len_ xM (zB (zA 2) zC)) zD)))) (zN (zV xj)) yd)
  (zN (zV (yB (va rfl) vi rfl B.all_ vb (zB (yg (own:=["mode"]) (caps:=[(0,"many"),(1,"pushes")]) (yN Kf) rfl rfl yR (yj (zA 2)) (λ_ _ _ _=>(zy 0 (yA ["mode","many","pushes"]))) (λ_ _ _ _=>(zQ aQ hr rfl (zB (zA 0) (zB (zA 1) (zB (yB xL xP rfl B.len_ xM (zB (zA 2) zC)) zC)))))) zC))))))),λds R h=>?_⟩
 obtain ⟨n,bs,ms,rfl,h,q⟩:=h
 have n1:=h.n1
 have n3:=h.n3
 have m40:=h.m40
 have m1:=h.m1
 have b6:=h.b6
 refine ⟨_,rfl,rfl,wF rfl (wF (decide_eq_false (by omega)) (wF (decide_eq_false (by omega)) ?_))⟩
 refine ⟨rfl,wF rfl ?_⟩
 refine wv zz Y1 (λ_=>rfl) (λ_=>.bool true) (by omega) (λb hb=>⟨b,rfl,h.bok b hb,rfl⟩) ⟨bs.map λ_=>true,by rw [cw]; rfl,?_⟩
 rw [show (bs.map λ_=>true).all id=true from cK.mpr λx hx=>by obtain ⟨_,_,rfl⟩:=cr.mp hx; rfl]
 refine wF rfl ?_
 refine ⟨rfl,wF rfl (wF (decide_eq_false (by rw [a_]; omega)) ?_)⟩
 refine wv (v8 ah) xu (QX _) (λ_=>.bool true) (by omega) (λm hm=>⟨m,n,bs.length,by rw [a_],h.mok m hm,rfl⟩) ⟨ms.map λ_=>true,by rw [cw]; rfl,bR q ?_⟩
 exact (cK.mpr λx hx=>by obtain ⟨_,_,rfl⟩:=cr.mp hx; rfl).symm
theorem zEX (F:zg K "__init__" "Thing.__init__" Kg f fd) (aR:Fn P w K mg base "is_sound" ["many","pushes","modes"] k (zG (zJU ah))):zE P w K mg base zU (k + 1) f fd ["self","many","pushes","modes"] (vM ai (zL1 ai ah)):=by
 refine QI F zEJ (λds R h=>by obtain ⟨n,bs,ms,rfl,_⟩:=h; rfl) λcdv A outer s H E hr=>⟨_,(zH (ye (xS (yo (zQ aR hr rfl (zB (zA 1) (zB (zA 2) (zB (zA 3) zC)))))) (zN QA) yd)
  (zH (ye (PW.pt (wz (Z7 (yB xL xP rfl B.len_ xM (zB (zA 2) zC)) (Jj rfl B.MOST_PUSHES_)) (vR (Z7 (yB xL xP rfl B.len_ xM (zB (zA 3) zC)) (Jj rfl B.MOST_MODES_))))) (zN QA) yd)
  (zH (yM (vE (yO 0) (zA 1) rfl) vL)
  (zH (yM (vE (yO 0) (xk vq vz rfl B.list_ xr (zB (zA 2) zC)) rfl) vL)
  (zN (yM (vE (yO 0) (xk vq vz rfl B.list_ xr (zB (zA 3) zC)) rfl) vL)))))),λo ds R h=>?_⟩
 obtain ⟨n,bs,ms,rfl,h,q⟩:=h
 have m40:=h.m40
 have b6:=h.b6
 refine ⟨n,bs,ms,rfl,h,wF rfl ?_⟩
 refine wF (decide_eq_false (by rw [a_]; omega)) (wF (decide_eq_false (by rw [a_]; omega)) ?_)
 refine ⟨⟨ae.cl,ag.n_many⟩,by decide +kernel,by decide,rfl,?_⟩
 refine ⟨⟨ae.cl,ag.n_kept_pushes⟩,by decide +kernel,by decide,rfl,?_⟩
 exact ⟨⟨ae.cl,ag.n_kept_modes⟩,by decide +kernel,by decide,rfl,rfl,q⟩
theorem zFX (F:zg K "pushes" "Thing.pushes" Kh f fd):zE P w K mg base zU (k + 1) f fd ["self"] (zG (QV ai ah)):=by
 refine yI F zFC λ_ _ _ _ _ _ hr=>⟨_,(zN (zV (xk vq vz rfl B.list_ xr (zB (yU K (zA 0) rfl) zC)))),λds R h=>?_⟩
 obtain ⟨n,bs,ms,rfl,q⟩:=h
 exact ⟨⟨ae.cl,ag.n_kept_pushes⟩,_,rfl,q⟩
theorem zF5 (F:zg K "modes" "Thing.modes" Ki f fd):zE P w K mg base zU (k + 1) f fd ["self"] (zG (zOm ai ah)):=by
 refine yI F zF0 λ_ _ _ _ _ _ hr=>⟨_,(zN (zV (xk vq vz rfl B.list_ xr (zB (yU K (zA 0) rfl) zC)))),λds R h=>?_⟩
 obtain ⟨n,bs,ms,rfl,q⟩:=h
 exact ⟨⟨ae.cl,ag.n_kept_modes⟩,_,rfl,q⟩
theorem zFV (F:zg K "is_unsteered" "is_unsteered" Kj f fd):zE P w K mg base zU (k + 1) f fd ["mode"] (zG (zGM ah)):=by
 refine yI F zDF λ_ _ _ _ _ _ hr=>⟨_,(zN (zV (yB (va rfl) vi rfl B.all_ vb (zB (yg (own:=["number"]) (caps:=[]) (yN zDF) rfl rfl yR (yj (yU K (zA 0) rfl)) (λ_ _ _ _=>(zy 0 (yA ["number"]))) (λ_ _ _ _=>(uc hr.units (zA 0) zD))) zC)))),λds R h=>?_⟩
 obtain ⟨m,rfl,h,q⟩:=h
 refine ⟨⟨aa.cl,ac.n_steer⟩,_,rfl,?_⟩
 refine zSU (λx=>decide (x=0)) (by omega) (λn hn=>rfl) ⟨_,rfl,bR q ?_⟩
 rw [v7]
theorem zD8 (F:zg K "is_closed" "Thing.is_closed" Kk f fd) (aS:Fn P w K mg base "is_unsteered" ["mode"] k (zG (zGM ah))):zE P w K mg base zU (k + 1) f fd ["self"] (zG (QW ai ah)):=by
 refine yI F zCX λ_ _ _ _ _ _ hr=>⟨_,(zN (zV (yB (va rfl) vi rfl B.all_ vb (zB (yg (own:=["mode"]) (caps:=[]) (yN zCX) rfl rfl yR (yj (yU K (zA 0) rfl)) (λ_ _ _ _=>(zy 0 (yA ["mode"]))) (λ_ _ _ _=>(zQ aS hr rfl (zB (zA 0) zC)))) zC)))),λds R h=>?_⟩
 obtain ⟨n,bs,ms,rfl,h,q⟩:=h
 refine ⟨⟨ae.cl,ag.n_kept_modes⟩,_,rfl,?_⟩
 have m40:=h.m40
 refine wv (v8 ah) xu (QX _) (λm=>.bool (m.steer.all λx=>decide (x=0))) (by omega) (λm hm=>⟨m,rfl,by have:=(h.mok m hm).steer; have:=h.n3; omega,rfl⟩) ⟨ms.map λm=>m.steer.all λx=>decide (x=0),by rw [cw]; rfl,bR q ?_⟩
 rw [v7]
 rfl
theorem zG9 (F:zg K "ask_closed" "ask_closed" Ub f fd) (aD:uo P w K mg base ai "is_closed" ["self"] k (zG (QW ai ah))):zE P w K mg base zU (k + 1) f fd ["thing"] (zG (zGO ai ah)):=by
 refine yI F zDz λ_ _ _ _ _ _ hr=>⟨_,(zN (ye (xS (yo (Ye aD ae hr (zA 0)))) (zN QA) yd)),λds R h=>?_⟩
 obtain ⟨n,bs,ms,rfl,h,c,q⟩:=h
 exact ⟨rfl,by decide +kernel,n,bs,ms,rfl,h,wF (by rw [c]; rfl) q⟩
theorem zIa (F:zg K "standing" "standing" Kl f fd) (aE:uo P w K mg base ai "pushes" ["self"] k (zG (QV ai ah))) (aL:Fn P w K mg base "single" ["place","many","number","bound"] k (zG (zL2))):zE P w K mg base zU (k + 1) f fd ["thing","rows"] (zG (zHv ai ah)):=by
 refine yI F jt λ_ _ _ _ _ _ hr=>⟨_,(zH (zw 2 jt.nd (Ye aE ae hr (zA 0)))
  (zH (zw 3 jt.nd (zx (yU K (zA 0) rfl) (yB xL xP rfl B.len_ xM (zB (zA 2) zC))))
  (zH (zw 4 jt.nd (xk jE jL rfl B.tuple_ vc (zB (yg (own:=["push"]) (caps:=[]) (yN jt) rfl rfl yR (yj (zA 2)) (λ_ _ _ _=>(zy 0 (yA ["push"]))) (λ_ _ _ _=>zD)) zC)))
  (zH (ux 5 true jt.nd rfl rfl (own:=["row"]) (caps:=[(4,"noughts")]) (yN jt) rfl rfl yR (yj (zA 1)) (λ_ _ _ _=>(zy 0 (yA ["row","noughts"]))) (λ_ _ _ _=>(zx (zx (wH (zA 0) xx (xy (wG zD))) (zA 1)) (wU (zB (zP (zA 0) (wG zD)) zC)))) rfl)
  (zH (wj PassesOwn.never rfl (zK3 rfl B.enumerate_ (zB (zA 2) zC) (yU K (zA 0) rfl)) (w6 rfl (yF 6 jt.nd (yF 7 jt.nd w4))) (zH (yM (xX (wW cB cF cG yZ (yO 5) (zf (zQ aL hr rfl (zB (zA 6) (zB (zA 3) (zB zD (zB (zP (zA 7) zD) zC))))) yK))) wY)
   (zN (yM (xX (wW cB cF cG yZ (yO 5) (zf (zQ aL hr rfl (zB (zA 6) (zB (zA 3) (zB (wG zD) (zB (wG (zP (zA 7) zD)) zC))))) yK))) wY))))
  (zN (vK 5 (zV (zA 5))))))))),λds R h=>?_⟩
 obtain ⟨n,bs,ms,rows,rfl,n3,b6,hr0,l9,q⟩:=h
 have hp:(dG zz bs).length=bs.length:=a_ ..
 refine ⟨rfl,by decide +kernel,n,bs,ms,rfl,?_⟩
 refine ⟨⟨ae.cl,ag.n_many⟩,_,rfl,?_⟩
 refine wv zz Y1 (λ_=>rfl) (λ_=>.int 0) (by omega) (λb hb=>rfl) ?_
 refine wv U yC jO (λr=>U (xv n bs.length r)) (by omega) (λr hr=>?_) ?_
 ·have lr:=hr0 r hr
  refine ⟨by rw [w8 lr,a_,a_,cE]; omega,_,kR lr,k0,by rw [w8 lr,cj,a_,a_,cE]; show _ + 1<=1000; omega,?_⟩
  rw [w8 lr]
  unfold xv U
  rw [cx,cx,fQ,List.map_const']
  rfl
 refine ⟨⟨ae.cl,ag.n_many⟩,_,rfl,by omega,by omega,?_⟩
 rw [show ((n:Nat):Int).toNat=n by omega]
 refine ⟨λk Γ=>∃ s6 s7,Γ=[.sh (uA ai ah n bs ms),.sh (Rm rows),.sh (.lst (bs.map zz)),.sh (.int ((n:Int) + ((bs.map zz).length:Int))),.sh (.tup (bs.map λ_=>.int 0)),.ow ((rows.map (xv n bs.length)++((bs.mapIdx (wD n bs.length)).take k).flatten).map U),s6,s7],⟨_,_,by rw [List.take_zero,List.flatten_nil,dF,cw]; rfl⟩,?_,?_⟩
 ·rintro k d Γ' hk ⟨s6,s7,rfl⟩
  obtain ⟨d',hd',rfl⟩:=QL hk
  rw [cS] at hd'
  cases hb:bs[k]? with
  | none=>rw [hb] at hd'; cases hd'
  | some b=>
  rw [hb] at hd'
  cases hd'
  have kl:k < bs.length:=(cH.mp hb).1
  have hx:(bs.mapIdx (wD n bs.length))[k]? = some (wD n bs.length k b):=by rw [iS,hb]; rfl
  have ll:((bs.mapIdx (wD n bs.length)).take k).flatten.length=2 * k:=by
   rw [fD]
   have e:((bs.mapIdx (wD n bs.length)).take k).map dS=cv k 2:=by
    refine fu (by simp; omega) λi h1 h2=>?_
    simp [wD]
   rw [e]
   simp
   omega
  have lw:((rows.map (xv n bs.length)++((bs.mapIdx (wD n bs.length)).take k).flatten).map U).length=rows.length + 2 * k:=by rw [a_,cj,a_,ll]
  have e:((rows.map (xv n bs.length)++((bs.mapIdx (wD n bs.length)).take (k + 1)).flatten).map U)=((rows.map (xv n bs.length)++((bs.mapIdx (wD n bs.length)).take k).flatten).map U)++[U (ya ((n + k:Nat):Int) ((n:Int) + ((bs.map zz).length:Int)).toNat 1++[b.2])]++[U (ya ((n + k:Nat):Int) ((n:Int) + ((bs.map zz).length:Int)).toNat (-1)++[-b.1])]:=by
   rw [zPB hx,<- d_,cx,hp,show ((n:Int) + (bs.length:Int)).toNat=n + bs.length by omega,d_]
   rfl
  refine ⟨_,rfl,_,_,_,_,rfl,by omega,by omega,by omega,?_⟩
  refine ⟨_,rfl,_,_,_,_,rfl,by omega,by omega,by rw [cj]; show _ + 1 < 1000; omega,?_⟩
  refine ⟨.sh (.int ((n + k:Nat):Int)),.sh (zz b),?_⟩
  rw [e]
  rfl
 ·rintro Γ' ⟨s6,s7,rfl⟩
  rw [QK,hp,cL (by rw [k_]; omega)]
  exact q
theorem zNS (F:zg K "reach" "reach" Km f fd) (aB:Fn P w K mg base "added_up" ["numbers","lists","wide"] k (zG (QT))) (aE:uo P w K mg base ai "pushes" ["self"] k (zG (QV ai ah))) (aT:Fn P w K mg base "paired" ["numbers","others"] k (zG (zL5))):zE P w K mg base zU (k + 1) f fd ["thing","mode","row"] (zG (zOl ai ah)):=by
 refine yI F Kn λ_ _ _ _ _ _ hr=>⟨_,(zH (zw 3 Kn.nd (wH (zA 2) xx (xy (wG zD))))
  (zH (zw 4 Kn.nd (zx (zQ aB hr rfl (zB (zA 3) (zB (yU K (zA 1) rfl) (zB (yU K (zA 0) rfl) zC)))) (zQ aB hr rfl (zB (zA 3) (zB (yU K (zA 1) rfl) (zB (yB xL xP rfl B.len_ xM (zB (Ye aE ae hr (zA 0)) zC)) zC))))))
  (zN (zV (zx (xk jE jL rfl B.tuple_ vc (zB (zA 4) zC)) (wU (zB (wt (xV (yU K (zA 1) rfl) (zP (zA 2) (wG zD))) (zQ aT hr rfl (zB (zA 3) (zB (yU K (zA 1) rfl) zC)))) zC))))))),λds R h=>?_⟩
 obtain ⟨n,bs,ms,m,r,rfl,n3,b6,MO,MB,lr,br,q⟩:=h
 have lt:(r.take n).length=n:=by rw [cE]; omega
 have bt:∀ x∈r.take n,Bd 9000 x:=λx hx=>br x (fj hx)
 have hp:(dG zz bs).length=bs.length:=a_ ..
 refine ⟨⟨aa.cl,ac.n_nexts⟩,_,rfl,⟨ae.cl,ag.n_many⟩,_,rfl,_,_,r.take n,m.nexts,n,rfl,.inr (by rw [w8 lr]),.inl rfl,by omega,by omega,bt,λx hx=>⟨by rw [MO.nexts.2 x hx]; omega,MB.nexts x hx⟩,?_⟩
 refine ⟨⟨aa.cl,ac.n_push⟩,_,rfl,rfl,by decide +kernel,n,bs,ms,rfl,_,_,r.take n,m.push,bs.length,by rw [hp],.inr (by rw [w8 lr]),.inl rfl,by omega,by omega,bt,λx hx=>⟨by rw [MO.push.2 x hx]; omega,MB.push x hx⟩,?_⟩
 refine ⟨by rw [a_,a_,a_,a_,cI,cI]; omega,?_⟩
 refine ⟨⟨aa.cl,ac.n_divisor⟩,_,rfl,_,kR lr,MB.div.mono,(jg br n).mono,⟨aa.cl,ac.n_add⟩,_,rfl,_,_,r.take n,m.add,rfl,.inr (by rw [w8 lr]),.inl rfl,by omega,bt,MB.add,k0,?_,?_⟩
 ·rw [cj,a_,a_,a_,a_,cI,cI]
  show _ + 1<=1000
  omega
 ·unfold uB U at q
  rw [cx,cx] at q
  exact q
theorem zNX (F:zg K "added" "added" Ko f fd) (aB:Fn P w K mg base "added_up" ["numbers","lists","wide"] k (zG (QT))):zE P w K mg base zU (k + 1) f fd ["rows","numbers","many"] (zG (zOp)):=by
 refine yI F zMz λ_ _ _ _ _ _ hr=>⟨_,(zN (zV (xk jE jL rfl B.tuple_ vc (zB (zQ aB hr rfl (zB (zA 1) (zB (zA 0) (zB (zx (zA 2) zD) zC)))) zC)))),λds R h=>?_⟩
 obtain ⟨rows,d,ns,n,rfl,h,n8,l9,bn,br,q⟩:=h
 exact ⟨_,_,ns,rows,n + 1,rfl,h,.inr rfl,by omega,l9,bn,br,q⟩
theorem zFW (F:zg K "is_from_0_on" "is_from_0_on" Kq f fd) (ak:Fn P w K mg base "is_whole" ["thing"] k (zG (gF))):zE P w K mg base zU (k + 1) f fd ["value"] (zG (W8)):=by
 refine yI F zE9 λ_ _ _ _ _ _ hr=>⟨_,(zN (zV (wg (zQ ak hr rfl (zB (zA 0) zC)) (vh (zQ3 (zA 0) zD))))),λds R h=>?_⟩
 obtain ⟨d,rfl,o,q⟩:=h
 refine ⟨d,rfl,o,w2 (λc=>?_) (λc=>bR q ?_)⟩
 ·obtain ⟨i,rfl⟩:=zKa c
  exact q
 ·cases d <;> first | rfl | cases c
theorem zHA (F:zg K "are_shares" "are_shares" Kr f fd) (ax:Fn P w K mg base "is_from_0_on" ["value"] k (zG (W8))):zE P w K mg base zU (k + 1) f fd ["value","count"] (zG (zL3)):=by
 refine yI F zD0 λ_ _ _ _ _ _ hr=>⟨_,(zH (ye (PW.pt (wz (xS (yo (yL (xh vG rfl B.isinstance_ xq (zf (zA 0) (zf (wm (v:=.ty "tuple") (u:=.type "tuple") rfl B.tuple_ vc rfl) yK))) (vT Wt)))) (vR (Jm hr.units (yB xL xP rfl B.len_ xM (zB (zA 0) zC)) zD)))) (zN (zV xj)) yd)
  (zH (ye (PW.pt (wz (xS (yo (zQ ax hr rfl (zB (zP (zA 0) zD) zC)))) (wz (xS (yo (yL (xh vG rfl B.isinstance_ xq (zf (zP (zA 0) zD) (zf (wm (v:=.ty "list") (u:=.type "list") rfl B.list_ xr rfl) yK))) (vT je)))) (vR (Jm hr.units (yB xL xP rfl B.len_ xM (zB (zP (zA 0) zD) zC)) (zA 1)))))) (zN (zV xj)) yd)
  (zN (zV (yB (va rfl) vi rfl B.all_ vb (zB (yg (own:=["number"]) (caps:=[]) (yN zD0) rfl rfl yR (yj (zP (zA 0) zD)) (λ_ _ _ _=>(zy 0 (yA ["number"]))) (λ_ _ _ _=>(zQ ax hr rfl (zB (zA 0) zC)))) zC)))))),λds R h=>?_⟩
 obtain ⟨d,c,k,rfl,f,q⟩:=h
 refine ⟨f.no,w2 (λc1=>wT rfl (bR q ?_)) λc1=>?_⟩
 ·cases d <;> first | rfl | cases c1
 obtain ⟨es,rfl,le,j,rfl,hj⟩:=f.tup_inv (by cases z:d.isTup with | true=>rfl | false=>rw [z] at c1; cases c1)
 refine w2 (λc2=>bR q ?_) λc2=>?_
 ·match es,c2 with
  | [],_=>rfl
  | [_],_=>rfl
  | [_,_],c2=>cases c2
  | _ :: y :: _ :: _,_=>cases y <;> rfl
 obtain ⟨x,y,rfl⟩:∃ x y,es=[x,y]:=by
  match es,c2 with
  | [x,y],_=>exact ⟨x,y,rfl⟩
  | [],c2=>cases c2
  | [_],c2=>cases c2
  | _ :: _ :: _ :: _,c2=>
   have c2:(!decide (((_:Nat):Int)=2))=false:=c2
   rw [lf,decide_eq_true_iff] at c2
   simp at c2
   omega
 have fx:=hj x cq
 have fy:=hj y (cn _ cq)
 refine ⟨x,rfl,x,rfl,fx.no,w2 (λc3=>wT rfl (bR q ?_)) λc3=>?_⟩
 ·cases y <;> first | rfl | (show (uC x && _)=false; rw [show uC x=false by cases z:uC x with | false=>rfl | true=>rw [z] at c3; cases c3]; rfl)
 have c3:uC x=true:=by cases z:uC x with | true=>rfl | false=>rw [z] at c3; cases c3
 refine ⟨y,rfl,fy.no,w2 (λc4=>wT rfl (bR q ?_)) λc4=>?_⟩
 ·cases y <;> first | rfl | cases c4
 obtain ⟨ys,rfl,ly,i,rfl,hi⟩:=fy.lst_inv (by cases z:y.isLst with | true=>rfl | false=>rw [z] at c4; cases c4)
 have key:x8 c (.tup [x,.lst ys])=(decide (ys.length=c) && ys.all uC):=by
  show (uC x && _)=_
  rw [c3]
  rfl
 rw [key] at q
 refine ⟨_,rfl,w2 (λc5=>bR q ?_) λc5=>?_⟩
 ·have c5:(!decide ((ys.length:Int)=(c:Int)))=true:=c5
  rw [lG,decide_eq_false_iff_not] at c5
  rw [decide_eq_false (by omega)]
  rfl
 have c5:(!decide ((ys.length:Int)=(c:Int)))=false:=c5
 rw [lf,decide_eq_true_iff] at c5
 refine ⟨_,rfl,zi.bool uC (by omega) (λd m=>⟨d,rfl,(hi d m).no,rfl⟩) ⟨_,rfl,bR q ?_⟩⟩
 rw [v7,decide_eq_true (by omega)]
 rfl
theorem zNR (F:zg K "shows" "shows" Ks f fd) (aU:Fn P w K mg base "are_shares" ["value","count"] k (zG (zL3))) (aV:Fn P w K mg base "added" ["rows","numbers","many"] k (zG (zOp))) (aW:Fn P w K mg base "scaled" ["factor","numbers"] k (zG (zL4))):zE P w K mg base zU (k + 1) f fd ["rows","target","shares"] (zG (zOk)):=by
 refine yI F Uc λ_ _ _ _ _ _ hr=>⟨_,(zH (ye (xS (yo (zQ aU hr rfl (zB (zA 2) (zB (yB xL xP rfl B.len_ xM (zB (zA 0) zC)) zC))))) (zN (zV xj)) yd)
  (zH (zw 3 Uc.nd (zQ aV hr rfl (zB (zA 0) (zB (zP (zA 2) zD) (zB (wt (yB xL xP rfl B.len_ xM (zB (zA 1) zC)) zD) zC)))))
  (zH (ye (jK hr.units (zP (zA 2) zD) zD) (zN (zV (wg (yB (va rfl) vi rfl B.all_ vb (zB (yg (own:=["number"]) (caps:=[]) (yN Uc) rfl rfl yR (yj (wH (zA 3) xx (xy (wG zD)))) (λ_ _ _ _=>(zy 0 (yA ["number"]))) (λ_ _ _ _=>(uc hr.units (zA 0) zD))) zC)) (vh (Zz (zP (zA 3) (wG zD)) zD))))) yd)
  (zH (zw 4 Uc.nd (zQ aW hr rfl (zB (zP (zA 2) zD) (zB (zA 1) zC))))
  (zN (zV (wg (uc hr.units (xk vq vz rfl B.list_ xr (zB (wH (zA 3) xx (xy (wG zD))) zC)) (wH (zA 4) xx (xy (wG zD)))) (vh (zQ2 (zP (zA 3) (wG zD)) (zP (zA 4) (wG zD))))))))))),λds R h=>?_⟩
 obtain ⟨rows,tw,n,d,k,rfl,lt,bt,RW,f,sb,q⟩:=h
 have lr:(dG U rows).length=rows.length:=a_ ..
 have ltw:(dG D.int tw).length=n + 1:=by rw [a_]; exact lt
 have nar:=RW.nar
 have fewr:=RW.few
 refine ⟨d,rows.length,k,by rw [lr],f,w2 (λc1=>bR q ?_) λc1=>?_⟩
 ·exact zMv (by cases z:x8 rows.length d with | false=>rfl | true=>rw [z] at c1; cases c1)
 have c1:x8 rows.length d=true:=by cases z:x8 rows.length d with | true=>rfl | false=>rw [z] at c1; cases c1
 obtain ⟨o,ns,rfl,o0,ln,n0⟩:=zMw c1
 rw [zKs c1] at q
 obtain ⟨bo,bn⟩:=sb o _ rfl
 have bn:∀ x∈ns,Bd 1000 x:=λx hx=>bn (.int x) (cr.mpr ⟨x,hx,rfl⟩)
 have tot:(cR (n + 1)).map (zm ns rows)=(cR n).map (zm ns rows)++[zm ns rows n]:=by rw [iP,cx]; rfl
 have e1:(cR n).map (yW rows ns)=(cR n).map (zm ns rows):=cN λj _=>QY rows ns j
 unfold um at q
 rw [e1,QY] at q
 refine ⟨_,rfl,rows,_,ns,n,by rw [ltw]; show [Rm rows,L ns,D.int (((n + 1:Nat):Int) - 1)]=_; rw [show ((n + 1:Nat):Int) - 1=(n:Int) by omega],.inl rfl,by omega,by omega,λx hx=>(bn x hx).mono,λr hr=>⟨by rw [(RW.row r hr).1]; omega,λx hx=>((RW.row r hr).2 x hx).mono⟩,?_⟩
 rw [tot]
 refine ⟨_,rfl,w2 (λc2=>?_) λc2=>?_⟩
 ·rw [if_pos (of_decide_eq_true c2)] at q
  refine zi.cast (Qc _ _) (zSU (λx=>decide (x=0)) (by rw [a_,cI]; omega) (λx hx=>rfl) ⟨_,rfl,w2 (λc3=>?_) λc3=>bR q ?_⟩)
  ·refine ⟨_,zMW _ _,bR q ?_⟩
   rw [v7] at c3
   rw [c3]
   rfl
  ·rw [v7] at c3
   rw [c3]
   rfl
 ·rw [if_neg (of_decide_eq_false c2)] at q
  have lsc:(tw.map (o * ·)).length=n + 1:=by rw [a_]; exact lt
  have ets:(tw.map (o * ·)).take n=(tw.take n).map (o * ·):=(mw ..).symm
  refine ⟨_,rfl,o,_,tw,rfl,.inr rfl,by omega,bo.mono,λx hx=>(bt x hx).mono,?_⟩
  refine ⟨by rw [Qc]; exact Y5 _,by rw [w8 lsc]; exact Y5 _,w2 (λc3=>?_) λc3=>bR q ?_⟩
  all_goals rw [Qc,w8 lsc,Z6,ets] at c3
  ·refine ⟨_,zMW _ _,_,kR lsc,bR q ?_⟩
   rw [c3]
   rw [show (tw.map (o * ·)).getD n 0=o * tw.getD n 0 by
    rw [cg,cS,ck (by omega),cg,ck (by omega)]; rfl]
   rfl
  ·rw [c3]
   rfl
theorem zG7 (F:zg K "is_list_of" "is_list_of" Kt f fd):zE P w K mg base zU (k + 1) f fd ["value","count"] (zG (Y6)):=by
 refine yI F zGf λ_ _ _ _ _ _ hr=>⟨_,(zN (zV (wg (yL (xh vG rfl B.isinstance_ xq (zf (zA 0) (zf (wm (v:=.ty "list") (u:=.type "list") rfl B.list_ xr rfl) yK))) (vT je)) (vh (uc hr.units (yB xL xP rfl B.len_ xM (zB (zA 0) zC)) (zA 1)))))),λds R h=>?_⟩
 obtain ⟨d,c,k,rfl,f,q⟩:=h
 refine ⟨f.no,w2 (λc1=>?_) λc1=>bR q ?_⟩
 ·obtain ⟨es,rfl,le,j,rfl,hj⟩:=f.lst_inv c1
  exact q
 ·cases d <;> first | rfl | cases c1
theorem zG8 (F:zg K "each_shown" "each_shown" Ku f fd) (aq:Fn P w K mg base "is_list_of" ["value","count"] k (zG (Y6))) (aX:Fn P w K mg base "shows" ["rows","target","shares"] k (zG (zOk))):zE P w K mg base zU (k + 1) f fd ["rows","targets","shares"] (zG (W9)):=by
 refine yI F zDy λ_ _ _ _ _ _ hr=>⟨_,(zH (ye (xS (yo (zQ aq hr rfl (zB (zA 2) (zB (yB xL xP rfl B.len_ xM (zB (zA 1) zC)) zC))))) (zN (zV xj)) yd)
  (zN (zV (yB (va rfl) vi rfl B.all_ vb (zB (yg (own:=["target","part"]) (caps:=[(0,"rows")]) (yN zDy) rfl rfl (qt (vj (vj qv))) (qu rfl B.zip_ (zB (zA 1) (zB (zA 2) zC))) (λ_ _ _ _=>(w6 rfl (yF 0 (yA ["target","part","rows"]) (yF 1 (yA ["target","part","rows"]) w4)))) (λ_ _ _ _=>(zQ aX hr rfl (zB (zA 2) (zB (zA 0) (zB (zA 1) zC)))))) zC))))),λds R h=>?_⟩
 obtain ⟨rows,tws,n,d,k,rfl,RW,RT,f,sb,q⟩:=h
 have lt:(dG U tws).length=tws.length:=a_ ..
 have fewt:=RT.few
 refine ⟨d,_,k,rfl,f,w2 (λc1=>bR q ?_) λc1=>?_⟩
 ·rw [lt] at c1
  exact zNr (kS c1)
 rw [lt] at c1
 obtain ⟨as,rfl,la⟩:=W6 (kT c1)
 obtain ⟨es,e1,le,j,rfl,hj⟩:=f.lst_inv rfl
 cases e1
 have sb:=sb as rfl
 refine Qd U yC jO (λt a=>uU rows t n a) (by omega) (λt a hm=>?_) ⟨_,rfl,bR q ?_⟩
 ·have h1:=(c_ hm).1
  have h2:=(c_ hm).2
  exact ⟨rows,t,n,a,j,rfl,(RT.row t h1).1,(RT.row t h1).2,RW,hj a h2,sb a h2,rfl⟩
 ·show (decide _ && _)=_
  rw [decide_eq_true la,v7]
  rfl
theorem zG5 (F:zg K "mode_leads" "mode_leads" Kv f fd) (ay:Fn P w K mg base "each_shown" ["rows","targets","shares"] k (zG (W9))) (aY:Fn P w K mg base "reach" ["thing","mode","row"] k (zG (zOl ai ah))) (aZ:Fn P w K mg base "standing" ["thing","rows"] k (zG (zHv ai ah))):zE P w K mg base zU (k + 1) f fd ["thing","mode","room","behind","shares"] (zG (zL8 ai ah)):=by
 refine yI F zDt λ_ _ _ _ _ _ hr=>⟨_,(zN (zV (zQ ay hr rfl (zB (zQ aZ hr rfl (zB (zA 0) (zB (zx (zA 2) (yU K (zA 1) rfl)) zC))) (zB (yg (own:=["row"]) (caps:=[(0,"thing"),(1,"mode")]) (yN zDt) rfl rfl yR (yj (zA 3)) (λ_ _ _ _=>(zy 0 (yA ["row","thing","mode"]))) (λ_ _ _ _=>(zQ aY hr rfl (zB (zA 1) (zB (zA 2) (zB (zA 0) zC)))))) (zB (zA 4) zC)))))),λds R h=>?_⟩
 obtain ⟨n,bs,ms,m,room,behind,d,k,rfl,TS,MO,MSm,R1,R2,f,sb,q⟩:=h
 have n1:=TS.ok.n1
 have n3:=TS.ok.n3
 have b6:=TS.ok.b6
 have f1:=R1.few
 have f2:=R2.few
 have f3:=MSm.few
 have hrl:∀ r∈room++m.rows,r.length=n + 1/\∀ x∈r,Bd 1000 x:=λr hr=>by
  rcases cZ.mp hr with hr | hr
  ·exact ⟨(R1.row r hr).1,λx hx=>((R1.row r hr).2 x hx).mono⟩
  ·exact ⟨MO.rows r hr,λx hx=>(MSm.rows r hr x hx).mono⟩
 refine ⟨⟨aa.cl,ac.n_rows⟩,_,rfl,by rw [a_,a_]; omega,n,bs,ms,room++m.rows,by rw [RmA],n3,b6,λr hr=>(hrl r hr).1,by rw [cj]; omega,?_⟩
 refine wv U yC jO (λr=>U (uB n bs.length (r.take n) (r.getD n 0) m)) (by omega) (λr hr=>?_) ?_
 ·exact ⟨n,bs,ms,m,r,rfl,n3,b6,MO,MSm.mbd,(R2.row r hr).1,λx hx=>((R2.row r hr).2 x hx).mono,rfl⟩
 have RW2:ve (gG n bs.length m behind) (n + bs.length):=by
  refine ⟨λr hr=>?_,by unfold gG; rw [a_]; omega,by omega⟩
  obtain ⟨r0,h0,rfl⟩:=cr.mp hr
  obtain ⟨lr,br⟩:=R2.row r0 h0
  exact ⟨zK0 ..,λx hx=>(zM2 MSm (by rw [cE]; omega) (λy hy=>(br y (fj hy)).mono) (QZ br n).mono x hx).mono⟩
 exact ⟨_,gG n bs.length m behind,n + bs.length,d,k,by rw [RmM (λr:List Int=>uB n bs.length (r.take n) (r.getD n 0) m)]; rfl,zMr hrl (by rw [cj]; omega) n3 b6 TS.bs,RW2,f,sb,q⟩
theorem zNT (F:zg K "leads" "leads" Kw f fd) (bc:uo P w K mg base ai "modes" ["self"] k (zG (zOm ai ah))) (aq:Fn P w K mg base "is_list_of" ["value","count"] k (zG (Y6))) (be:Fn P w K mg base "mode_leads" ["thing","mode","room","behind","shares"] k (zG (zL8 ai ah))):zE P w K mg base zU (k + 1) f fd ["thing","room","behind","steps"] (zG (zOo ai ah)):=by
 refine yI F Kx λ_ _ _ _ _ _ hr=>⟨_,(zH (zw 4 Kx.nd (Ye bc ae hr (zA 0)))
  (zH (ye (xS (yo (zQ aq hr rfl (zB (zA 3) (zB (yB xL xP rfl B.len_ xM (zB (zA 4) zC)) zC))))) (zN (zV xj)) yd)
  (zN (zV (yB (va rfl) vi rfl B.all_ vb (zB (yg (own:=["mode","shares"]) (caps:=[(0,"thing"),(1,"room"),(2,"behind")]) (yN Kx) rfl rfl (qt (vj (vj qv))) (qu rfl B.zip_ (zB (zA 4) (zB (zA 3) zC))) (λ_ _ _ _=>(w6 rfl (yF 0 (yA ["mode","shares","thing","room","behind"]) (yF 1 (yA ["mode","shares","thing","room","behind"]) w4)))) (λ_ _ _ _=>(zQ be hr rfl (zB (zA 2) (zB (zA 0) (zB (zA 3) (zB (zA 4) (zB (zA 1) zC)))))))) zC)))))),λds R h=>?_⟩
 obtain ⟨n,bs,ms,room,behind,d,k,rfl,TS,R1,R2,f,sb,q⟩:=h
 have m40:=TS.ok.m40
 have lm:(dG (v8 ah) ms).length=ms.length:=a_ ..
 refine ⟨rfl,by decide +kernel,n,bs,ms,rfl,?_⟩
 refine ⟨d,_,k,rfl,f,w2 (λc1=>bR q ?_) λc1=>?_⟩
 ·rw [lm] at c1
  exact zLq (kS c1)
 rw [lm] at c1
 obtain ⟨as,rfl,la⟩:=W6 (kT c1)
 obtain ⟨es,e1,le,j,rfl,hj⟩:=f.lst_inv rfl
 cases e1
 have sb:=sb as rfl
 refine Qd (v8 ah) xu (QX _) (λm a=>W7 n bs room behind m a) (by omega) (λm a hm=>?_) ⟨_,rfl,bR q ?_⟩
 ·have h1:=(c_ hm).1
  have h2:=(c_ hm).2
  exact ⟨n,bs,ms,m,room,behind,a,j,rfl,TS,TS.ok.mok m h1,TS.ms m h1,R1,R2,hj a h2,sb a h2,rfl⟩
 ·show (decide _ && _)=_
  rw [decide_eq_true la,v7]
  rfl
theorem zDm {dv:Value} (F:xN K "__init__" "Settles.__init__" Ky f fd dv) (aj:uL P w K mg base "copied" ["value","depth"] k (zG (j6 6)) (.int 5)):zE P w K mg base zU (k + 1) f fd ["self","start","rows","turn"] (vM aSettles (zSG aSettles)):=by
 refine QJ F zDf (λds R h=>by obtain ⟨s,g,t,rfl,_⟩:=h; rfl) λcdv A outer s H E hr=>⟨_,(zH (yM (vE (yO 0) (uy (.int 5) (λ_=>.int 5) aj hr rfl (zB (zA 1) zC)) rfl) vL)
  (zH (yM (vE (yO 0) (uy (.int 5) (λ_=>.int 5) aj hr rfl (zB (zA 2) zC)) rfl) vL)
  (zN (yM (vE (yO 0) (zA 3) rfl) vL)))),λo ds R h=>?_⟩
 obtain ⟨s,g,t,rfl,f1,f2,q⟩:=h
 refine ⟨s,5,rfl,f1,by decide,⟨TSettles.cl,ASettles.n_start⟩,by decide +kernel,by decide,rfl,?_⟩
 refine ⟨g,5,rfl,f2,by decide,⟨TSettles.cl,ASettles.n_rows⟩,by decide +kernel,by decide,rfl,?_⟩
 exact ⟨⟨TSettles.cl,ASettles.n_turn⟩,by decide +kernel,by decide,rfl,rfl,q⟩
theorem zEY (F:zg K "__init__" "Rooms.__init__" Kz f fd) (aj:uL P w K mg base "copied" ["value","depth"] k (zG (j6 6)) (.int 5)):zE P w K mg base zU (k + 1) f fd ["self","rooms","back","starts","steps","stays"] (vM aRooms (zSH aRooms)):=by
 refine QI F zEK (λds R h=>by obtain ⟨a,b,c,d,e,rfl,_⟩:=h; rfl) λcdv A outer s H E hr=>⟨_,(zH (yM (vE (yO 0) (uy (.int 5) (λ_=>.int 5) aj hr rfl (zB (zA 1) zC)) rfl) vL)
  (zH (yM (vE (yO 0) (zA 2) rfl) vL)
  (zH (yM (vE (yO 0) (uy (.int 5) (λ_=>.int 5) aj hr rfl (zB (zA 3) zC)) rfl) vL)
  (zH (yM (vE (yO 0) (uy (.int 5) (λ_=>.int 5) aj hr rfl (zB (zA 4) zC)) rfl) vL)
  (zN (yM (vE (yO 0) (uy (.int 5) (λ_=>.int 5) aj hr rfl (zB (zA 5) zC)) rfl) vL)))))),λo ds R h=>?_⟩
 obtain ⟨a,b,c,d,e,rfl,f1,f3,f4,f5,q⟩:=h
 refine ⟨a,5,rfl,f1,by decide,⟨TRooms.cl,ARooms.n_rooms⟩,by decide +kernel,by decide,rfl,?_⟩
 refine ⟨⟨TRooms.cl,ARooms.n_back⟩,by decide +kernel,by decide,rfl,?_⟩
 refine ⟨c,5,rfl,f3,by decide,⟨TRooms.cl,ARooms.n_starts⟩,by decide +kernel,by decide,rfl,?_⟩
 refine ⟨d,5,rfl,f4,by decide,⟨TRooms.cl,ARooms.n_steps⟩,by decide +kernel,by decide,rfl,?_⟩
 exact ⟨e,5,rfl,f5,by decide,⟨TRooms.cl,ARooms.n_stays⟩,by decide +kernel,by decide,rfl,rfl,q⟩
theorem zFR (F:zg K "settles_over" "settles_over" K0 f fd) (ax:Fn P w K mg base "is_from_0_on" ["value"] k (zG (W8))) (aw:Fn P w K mg base "is_room" ["value","many"] k (zG (W2))):zE P w K mg base zU (k + 1) f fd ["claim","many"] (zG (zSF aSettles)):=by
 refine yI F zE6 λ_ _ _ _ _ _ hr=>⟨_,(zN (zV (wg (zQ aw hr rfl (zB (yU K (zA 0) rfl) (zB (zA 1) zC))) (wg (zQ aw hr rfl (zB (yU K (zA 0) rfl) (zB (zA 1) zC))) (vh (zQ ax hr rfl (zB (yU K (zA 0) rfl) zC))))))),λds R h=>?_⟩
 obtain ⟨s,g,t,n,rfl,n3,RS,RG,t0,q⟩:=h
 refine ⟨⟨TSettles.cl,ASettles.n_start⟩,_,rfl,_,_,3,rfl,kI (by have:=RS.few; omega) (λr hr=>by rw [(RS.row r hr).1]; omega),wT (by rw [W5 λr hr=>by rw [(RS.row r hr).1]; rfl]) ?_⟩
 refine ⟨⟨TSettles.cl,ASettles.n_rows⟩,_,rfl,_,_,3,rfl,kI (by have:=RG.few; omega) (λr hr=>by rw [(RG.row r hr).1]; omega),wT (by rw [W5 λr hr=>by rw [(RG.row r hr).1]; rfl]) ?_⟩
 exact ⟨⟨TSettles.cl,ASettles.n_turn⟩,_,rfl,_,rfl,rfl,bR q (decide_eq_true t0).symm⟩
theorem zHk (F:zg K "are_rooms" "are_rooms" K1 f fd) (aw:Fn P w K mg base "is_room" ["value","many"] k (zG (W2))):zE P w K mg base zU (k + 1) f fd ["value","many"] (zG (zSO)):=by
 refine yI F zEj λ_ _ _ _ _ _ hr=>⟨_,(zN (zV (wg (yL (xh vG rfl B.isinstance_ xq (zf (zA 0) (zf (wm (v:=.ty "list") (u:=.type "list") rfl B.list_ xr rfl) yK))) (vT je)) (vh (yB (va rfl) vi rfl B.all_ vb (zB (yg (own:=["room"]) (caps:=[(1,"many")]) (yN zEj) rfl rfl yR (yj (zA 0)) (λ_ _ _ _=>(zy 0 (yA ["room","many"]))) (λ_ _ _ _=>(zQ aw hr rfl (zB (zA 0) (zB (zA 1) zC))))) zC)))))),λds R h=>?_⟩
 obtain ⟨d,n,k,rfl,f,q⟩:=h
 refine ⟨f.no,w2 (λc=>?_) λc=>bR q ?_⟩
 ·obtain ⟨es,rfl,le,i,e1,hj⟩:=f.lst_inv c
  exact zi.bool (kF n) (by omega) (λd m=>⟨d,n,i,rfl,hj d m,rfl⟩) ⟨_,rfl,bR q (by rw [v7]; rfl)⟩
 ·cases f with
  | lst l h=>cases c
  | _=>rfl
theorem zFS (F:zg K "rooms_follow" "rooms_follow" K2 f fd) (aq:Fn P w K mg base "is_list_of" ["value","count"] k (zG (Y6))) (bg:Fn P w K mg base "leads" ["thing","room","behind","steps"] k (zG (zOo ai ah))):zE P w K mg base zU (k + 1) f fd ["thing","paper"] (zG (zMB ai ah aRooms)):=by
 refine yI F K4 λ_ _ _ _ _ _ hr=>⟨_,(zH (ye (xS (yo (zQ aq hr rfl (zB (yU K (zA 1) rfl) (zB (yB xL xP rfl B.len_ xM (zB (yU K (zA 1) rfl) zC)) zC))))) (zN (zV xj)) yd)
  (zH (zw 2 K4.nd (zx (wH (yU K (zA 1) rfl) (xy zD) xx) (xO (zB (zP (yU K (zA 1) rfl) (yU K (zA 1) rfl)) zC))))
  (zN (zV (yB (va rfl) vi rfl B.all_ vb (zB (yg (own:=["room","behind","steps"]) (caps:=[(0,"thing")]) (yN K4) rfl rfl (qt (vj (vj (vj qv)))) (zM5 rfl B.zip_ (zB (yU K (zA 1) rfl) (zB (zA 2) (zB (yU K (zA 1) rfl) zC)))) (λ_ _ _ _=>(w6 rfl (yF 0 (yA ["room","behind","steps","thing"]) (yF 1 (yA ["room","behind","steps","thing"]) (yF 2 (yA ["room","behind","steps","thing"]) w4))))) (λ_ _ _ _=>(zQ bg hr rfl (zB (zA 3) (zB (zA 0) (zB (zA 1) (zB (zA 2) zC))))))) zC)))))),λds R h=>?_⟩
 obtain ⟨n,bs,ms,rooms,b,A1,A2,A3,k,rfl,TS,RR,b0,bl,F2,B2,q⟩:=h
 have few:=RR.few
 have lm:(dG Rm rooms).length=rooms.length:=a_ ..
 refine ⟨⟨TRooms.cl,ARooms.n_steps⟩,_,rfl,⟨TRooms.cl,ARooms.n_rooms⟩,_,rfl,A2,_,k,rfl,F2,w2 (λc1=>bR q (zKM (by rw [lm] at c1; exact kS c1))) λc1=>?_⟩
 rw [lm] at c1
 obtain ⟨as,rfl,la⟩:=W6 (kT c1)
 obtain ⟨es,e1,le,j,rfl,hj⟩:=F2.lst_inv rfl
 cases e1
 have B2:=B2 as rfl
 have ef:D.lst (zo (rooms.map Rm) (some 1) none++[Rm (rooms.getD b.toNat [])])=vk (rooms.drop 1++[rooms.getD b.toNat []]):=by
  unfold vk
  rw [kX (by decide),cx,fg]
  rfl
 have hf:∀ r∈rooms.drop 1++[rooms.getD b.toNat []],wZ r n:=λr hr=>by
  rcases cZ.mp hr with hr | hr
  ·exact RR.rm r (dB hr)
  ·rw [cQ.mp hr]
   exact RR.rm _ (zRj (by omega))
 refine ⟨⟨TRooms.cl,ARooms.n_rooms⟩,_,rfl,⟨TRooms.cl,ARooms.n_rooms⟩,_,rfl,⟨TRooms.cl,ARooms.n_back⟩,_,rfl,_,XA b0 bl,k0,by rw [kX (by decide),db,lm]; show _ + 1<=1000; omega,?_⟩
 rw [ef]
 refine ⟨⟨TRooms.cl,ARooms.n_rooms⟩,_,rfl,⟨TRooms.cl,ARooms.n_steps⟩,_,rfl,?_⟩
 refine zi.cast (zN3 Rm Rm rooms (rooms.drop 1++[rooms.getD b.toNat []]) as) (wv (λp:List (List Int) × List (List Int) × D=>Yn (Rm p.1) (Rm p.2.1) p.2.2) (λd=>match d with | .tup [x,y,z]=>(kW x,kW y,z) | _=>([],[],.non)) (λp=>by show (kW (Rm p.1),kW (Rm p.2.1),p.2.2)=p; rw [Qe,Qe]) (λp=>.bool (kO n bs ms p.1 p.2.1 p.2.2)) (by rw [eA]; omega) (λp hp=>?_) ⟨(rooms.zip ((rooms.drop 1++[rooms.getD b.toNat []]).zip as)).map λp=>kO n bs ms p.1 p.2.1 p.2.2,by rw [cw]; rfl,bR q ?_⟩)
 ·have h1:=(c_ hp).1
  have h2:=c_ (c_ hp).2
  exact ⟨n,bs,ms,p.1,p.2.1,p.2.2,j,rfl,TS,RR.rm _ h1,hf _ h2.1,hj _ h2.2,B2 _ h2.2,rfl⟩
 ·rw [v7]
  show (decide _ && _)=_
  rw [decide_eq_true la]
  rfl
theorem zG4 (F:zg K "rooms_stay" "rooms_stay" K5 f fd) (aq:Fn P w K mg base "is_list_of" ["value","count"] k (zG (Y6))) (ay:Fn P w K mg base "each_shown" ["rows","targets","shares"] k (zG (W9))):zE P w K mg base zU (k + 1) f fd ["claim","paper"] (zG (zSE aSettles aRooms)):=by
 refine yI F K6 λ_ _ _ _ _ _ hr=>⟨_,(zH (ye (xS (yo (zQ aq hr rfl (zB (yU K (zA 1) rfl) (zB (yB xL xP rfl B.len_ xM (zB (yU K (zA 1) rfl) zC)) zC))))) (zN (zV xj)) yd)
  (zH (zw 2 K6.nd (yB (zH0 rfl) zMR rfl B.min_ zH4 (zB (yU K (zA 1) rfl) (zB (yU K (zA 0) rfl) zC))))
  (zN (zV (yB (va rfl) vi rfl B.all_ vb (zB (yg (own:=["room","shares"]) (caps:=[(0,"claim")]) (yN K6) rfl rfl (qt (vj (vj qv))) (qu rfl B.zip_ (zB (wH (yU K (zA 1) rfl) (xy (zA 2)) xx) (zB (wH (yU K (zA 1) rfl) (xy (zA 2)) xx) zC))) (λ_ _ _ _=>(w6 rfl (yF 0 (yA ["room","shares","claim"]) (yF 1 (yA ["room","shares","claim"]) w4)))) (λ_ _ _ _=>(zQ ay hr rfl (zB (zA 0) (zB (yU K (zA 2) rfl) (zB (zA 1) zC)))))) zC)))))),λds R h=>?_⟩
 obtain ⟨n,s,g,t,rooms,b,A1,A2,A3,k,rfl,n3,RR,RG,t0,b0,F3,B3,q⟩:=h
 have few:=RR.few
 have lm:(dG Rm rooms).length=rooms.length:=a_ ..
 refine ⟨⟨TRooms.cl,ARooms.n_stays⟩,_,rfl,⟨TRooms.cl,ARooms.n_rooms⟩,_,rfl,A3,_,k,rfl,F3,w2 (λc1=>bR q (zMq (by rw [lm] at c1; exact kS c1))) λc1=>?_⟩
 rw [lm] at c1
 obtain ⟨as,rfl,la⟩:=W6 (kT c1)
 obtain ⟨es,e1,le,j,rfl,hj⟩:=F3.lst_inv rfl
 cases e1
 have B3:=B3 as rfl
 have m0:0<=min b t:=by omega
 refine ⟨⟨TRooms.cl,ARooms.n_back⟩,_,rfl,⟨TSettles.cl,ASettles.n_turn⟩,_,rfl,⟨TRooms.cl,ARooms.n_rooms⟩,_,rfl,⟨TRooms.cl,ARooms.n_stays⟩,_,rfl,?_⟩
 refine zi.cast (ds':=dh y3 ((rooms.drop (min b t).toNat).map Rm) (as.drop (min b t).toNat)) (by rw [kX m0,kX m0,<- fg]) (Qd Rm kW Qe (λr a=>jP r g n a) (by rw [db]; omega) (λr a hm=>?_) ⟨_,rfl,bR q ?_⟩)
 ·have h1:=dB (c_ hm).1
  have h2:=dB (c_ hm).2
  exact ⟨⟨TSettles.cl,ASettles.n_rows⟩,_,rfl,r,g,n,a,j,rfl,(RR.rm r h1).rw n3,RG.rw n3,hj a h2,B3 a h2,rfl⟩
 ·rw [v7]
  show (decide _ && _)=_
  rw [decide_eq_true la]
  rfl
theorem zEs (F:zg K "lets_rooms_by" "lets_rooms_by" K7 f fd) (bh:Fn P w K mg base "are_rooms" ["value","many"] k (zG (zSO))) (bi:Fn P w K mg base "settles_over" ["claim","many"] k (zG (zSF aSettles))) (ax:Fn P w K mg base "is_from_0_on" ["value"] k (zG (W8))) (ay:Fn P w K mg base "each_shown" ["rows","targets","shares"] k (zG (W9))) (bj:Fn P w K mg base "rooms_stay" ["claim","paper"] k (zG (zSE aSettles aRooms))) (bp:Fn P w K mg base "rooms_follow" ["thing","paper"] k (zG (zMB ai ah aRooms))):zE P w K mg base zU (k + 1) f fd ["thing","claim","paper"] (zG (UB ai ah aSettles aRooms)):=by
 refine yI F zEp λ_ _ _ _ _ _ hr=>⟨_,(zH (ye (PW.pt (wz (xS (yo (zQ bi hr rfl (zB (zA 1) (zB (yU K (zA 0) rfl) zC))))) (vR (xS (yo (zQ bh hr rfl (zB (yU K (zA 2) rfl) (zB (yU K (zA 0) rfl) zC)))))))) (zN (zV xj)) yd)
  (zH (ye (PW.pt (wz (xS (yo (zQ ax hr rfl (zB (yU K (zA 2) rfl) zC)))) (vR (Wj (yU K (zA 2) rfl) (yB xL xP rfl B.len_ xM (zB (yU K (zA 2) rfl) zC)))))) (zN (zV xj)) yd)
  (zH (ye (xS (yo (zQ ay hr rfl (zB (yU K (zA 1) rfl) (zB (zP (yU K (zA 2) rfl) zD) (zB (yU K (zA 2) rfl) zC)))))) (zN (zV xj)) yd)
  (zN (zV (wg (zQ bp hr rfl (zB (zA 0) (zB (zA 2) zC))) (vh (zQ bj hr rfl (zB (zA 1) (zB (zA 2) zC)))))))))),λds R h=>?_⟩
 obtain ⟨n,bs,ms,s,g,t,d0,BK,A1,A2,A3,k,rfl,TS,RS,RG,t0,F0,cl,alt⟩:=h
 have n3:=TS.ok.n3
 rcases alt with ⟨hb,q⟩ | ⟨rooms,rfl,RR,bo,F1,F2,F3,B1,B2,B3,q⟩
 ·exact ⟨⟨ae.cl,ag.n_many⟩,_,rfl,s,g,t,n,rfl,n3,RS,RG,t0,wF rfl ⟨⟨TRooms.cl,ARooms.n_rooms⟩,_,rfl,⟨ae.cl,ag.n_many⟩,_,rfl,d0,_,k,rfl,F0,wT (by rw [hb]; rfl) q⟩⟩
 have lm:(dG Rm rooms).length=rooms.length:=a_ ..
 refine ⟨⟨ae.cl,ag.n_many⟩,_,rfl,s,g,t,n,rfl,n3,RS,RG,t0,wF rfl ?_⟩
 refine ⟨⟨TRooms.cl,ARooms.n_rooms⟩,_,rfl,⟨ae.cl,ag.n_many⟩,_,rfl,_,_,k,rfl,F0,wF (by rw [zM1 RR]; rfl) ?_⟩
 refine ⟨⟨TRooms.cl,ARooms.n_back⟩,_,rfl,BK,rfl,bo,w2 (λc1=>wT rfl (bR q ?_)) λc1=>?_⟩
 ·have c1:=kS c1
  cases BK with
  | int b=>exact if_pos (.inl (by have:=of_decide_eq_false c1; omega))
  | _=>rfl
 obtain ⟨b,rfl,b0⟩:∃ b,BK=.int b/\0<=b:=by
  have c1:=kT c1
  cases BK with
  | int b=>exact ⟨b,rfl,of_decide_eq_true c1⟩
  | _=>cases c1
 refine ⟨⟨TRooms.cl,ARooms.n_back⟩,_,rfl,⟨TRooms.cl,ARooms.n_rooms⟩,_,rfl,w2 (λc2=>bR q (if_pos (.inr (by have:=of_decide_eq_true c2; omega)))) λc2=>?_⟩
 have bl:b < (rooms.length:Int):=by have:=of_decide_eq_false c2; omega
 have z:u5 n bs ms s g t rooms (.int b) A1 A2 A3=(jP s (rooms.getD 0 []) n A1 && (kU n bs ms rooms b.toNat A2 && Y9 n rooms (min b t).toNat g A3)):=if_neg (by omega)
 rw [z] at q
 refine ⟨⟨TSettles.cl,ASettles.n_start⟩,_,rfl,⟨TRooms.cl,ARooms.n_rooms⟩,_,rfl,_,XA (b:=0) (by decide) (by omega),⟨TRooms.cl,ARooms.n_starts⟩,_,rfl,s,rooms.getD 0 [],n,A1,k,rfl,RS.rw n3,(RR.rm _ (zRj (by omega))).rw n3,F1,B1,w2 (λc3=>bR q (by rw [kS c3]; rfl)) λc3=>?_⟩
 rw [kT c3] at q
 refine ⟨n,bs,ms,rooms,b,A1,A2,A3,k,rfl,TS,RR,b0,bl,F2,B2,w2 (λc4=>?_) λc4=>bR q (by rw [c4]; rfl)⟩
 rw [c4] at q
 exact ⟨n,s,g,t,rooms,b,A1,A2,A3,k,rfl,n3,RR,RG,t0,b0,F3,B3,q⟩
theorem zJ4 (F:zg K "lets_by" "lets_by" Ud f fd) (bA:Fn P w K mg base "ask_closed" ["thing"] k (zG (zGO ai ah))) (bB:Fn P w K mg base "lets_rooms_by" ["thing","claim","paper"] k (zG (UB ai ah aSettles aRooms))) (bC:Fn P w K mg base "lets_fall_by" ["thing","claim","paper"] k (zG fNo)):zE P w K mg base zU (k + 1) f fd ["thing","claim","paper"] (zG (UB ai ah aSettles aRooms)):=by
 refine yI F zGB λ_ _ _ _ _ _ hr=>⟨_,(zH (zM4 (zQ bA hr rfl (zB (zA 0) zC)))
  (zH (ye (PW.pt (Jq (yo (yL (xh qX rfl B.isinstance_ xq (zf (zA 1) (zf (qW TSettles rfl) yK))) gA)) (Jp (yo (yL (xh qX rfl B.isinstance_ xq (zf (zA 2) (zf (qW TRooms rfl) yK))) gA))))) (zN (zV (zQ bB hr rfl (zB (zA 0) (zB (zA 1) (zB (zA 2) zC)))))) yd)
  (zH (ye (PW.pt (Jq (yo (yL (xh qX rfl B.isinstance_ xq (zf (zA 1) (zf (qW TComes rfl) yK))) gA)) (Jp (yo (yL (xh qX rfl B.isinstance_ xq (zf (zA 2) (zf (qW TFalls rfl) yK))) gA))))) (zN (zV (zQ bC hr rfl (zB (zA 0) (zB (zA 1) (zB (zA 2) zC)))))) yd)
  (zN (zV xj))))),λds R h=>?_⟩
 obtain ⟨n,bs,ms,s,g,t,d0,BK,A1,A2,A3,k,rfl,TS,RS,RG,t0,F0,cl,alt⟩:=h
 refine ⟨n,bs,ms,rfl,TS.ok,cl,?_⟩
 refine ⟨⟨_,_,TSettles⟩,_,Jc,wT rfl ?_⟩
 refine ⟨⟨_,_,TRooms⟩,_,Jc,wT rfl ?_⟩
 exact ⟨n,bs,ms,s,g,t,d0,BK,A1,A2,A3,k,rfl,TS,RS,RG,t0,F0,cl,alt⟩
theorem zF2 {cC:Addr} (Z:Er K mg cC) (F:zg K "ask_closed" "ask_closed" Ub f fd) (aD:uo P w K mg base ai "is_closed" ["self"] k (zG (QW ai ah))):zE P w K mg base (xi P w) (k + 1) f fd ["thing"] (j4 (XC ai ah cC 0)):=by
 refine F.okX zDz (zKm λC ds h=>by cases h with | mk n bs ms es e l=>rw [e,cJ,l]; rfl) λcdv A outer s H vs Q E hr h=>⟨_,vQ (ZH (xS (yo (Ye aD ae hr (zA 0)))) (vQ (zNC (C:=cC) (E:=E) (λ_ _ _ _ _ _ _ _ I mx qx=>zJ1 I mx qx) Z.excC rfl Z.mgC rfl (zB zOR zC)) gX) gX) gX,?_⟩
 obtain ⟨Z0,ds,C,zd,hv,⟨n,bs,ms,es,rfl,l,h,cl,rfl⟩,q⟩:=h
 refine Yo (Wz (N:=["thing"]) (ps:=["thing"]) zd hv (by rw [cJ,l]; rfl)) ?_ ?_ q
 ·exact ⟨rfl,by decide +kernel,n,bs,ms,rfl,h,(by show (!_)=true; rw [cl]; rfl)⟩
 ·show 1<=1000
  decide
theorem zIZ {cC:Addr} (F:zg K "lets_by" "lets_by" Ud f fd) (x_ask_closed:jy P w K mg base "ask_closed" ["thing"] k (j4 (XC ai ah cC 0))):zE P w K mg base (xi P w) (k + 1) f fd ["thing","claim","paper"] (j4 (XC ai ah cC 2)):=by
 refine F.okX zGB (zKm λC ds h=>by cases h with | mk n bs ms es e l=>rw [e,cJ,l]; rfl) λcdv A outer s H vs Q E hr h=>?_
 obtain ⟨Z0,ds,C,zd,hv,⟨n,bs,ms,es,rfl,l,h,cl,rfl⟩,q⟩:=h
 exact ⟨_,vQ (xX (zNO x_ask_closed hr rfl (zB (zA 0) zC))) zNB,zO8 (Wz (N:=["thing","claim","paper"]) (ps:=["thing","claim","paper"]) zd hv (by rw [cJ,l]; rfl)) ⟨n,bs,ms,[],rfl,rfl,h,cl,rfl⟩ q⟩
theorem zHj (F:zg K "_law_cell_at" "_law_cell_at" K8 f fd):zE P w K mg base zU (k + 1) f fd ["_law_script","_law_k"] (zG (UF)):=by
 refine yI F zHc λ_ _ _ _ _ _ hr=>⟨_,(zH (ye (Wi (zA 1) (yB xL xP rfl B.len_ xM (zB (zA 0) zC))) (zN (zV (zP (zA 0) (zA 1)))) yd)
  (zN (zV zD))),λds R h=>?_⟩
 obtain ⟨ns,k,rfl,h0,q⟩:=h
 obtain ⟨j,rfl⟩:=dZ h0
 rw [d8] at q
 refine w2 (λc=>?_) λc=>?_
 ·have c:j < ns.length:=by have:=of_decide_eq_true c; rw [a_] at this; omega
  exact ⟨_,xE (j:=j) c rfl,q⟩
 ·have c:ns.length<=j:=by have:=of_decide_eq_false c; rw [a_] at this; omega
  rw [cg,eC c] at q
  exact q
theorem zIb (F:zg K "_law_stream" "_law_stream" K9 f fd):zE P w K mg base zU (k + 1) f fd ["_law_cell","_law_many"] (zG (qA)):=by
 refine yI F qF λ_ _ _ _ _ _ hr=>⟨_,(zH (vS 2 qF.nd rfl (Or.inl rfl) zC)
  (zH (ye (Wj (zA 0) (jc zD zD)) (zH (zw 3 qF.nd (wt (zA 0) (jc zD zD)))
   (zH (wj PassesOwn.never rfl (xz rfl B.range_ (zB (zA 1) zC)) (zy 4 qF.nd) (zH (yM (xX (wW cB cF cG yZ (yO 2) (zf (xW (zA 3) (jc zD zD)) yK))) wY)
    (zN (zw 3 qF.nd (vg (zA 3) (jc zD zD))))))
   (zN (vK 2 (zV (zA 2)))))) yd)
  (zH (zw 5 qF.nd (zx (xW (zA 0) (zx (jc zD zD) zD)) zD))
  (zH (wj PassesOwn.never rfl (xz rfl B.range_ (zB (zx (zA 1) zD) zC)) (zy 4 qF.nd) (zH (zw 5 qF.nd (xW (zx (zx (xV (zA 5) (zA 5)) (xV zD (zA 5))) (zA 4)) (zx (jc zD zD) zD)))
   (zN (yM (xX (wW cB cF cG yZ (yO 2) (zf (zA 5) yK))) wY))))
  (zN (vK 2 (zV (wH (zA 2) (xy zD) xx)))))))),λds R h=>?_⟩
 obtain ⟨c,n,rfl,n1,q⟩:=h
 have b45:Bd 150 ji:=Bd.lit
 have p45:(0:Int) < ji:=by decide
 have b18:Bd 60 uV:=Bd.lit
 have p18:(0:Int) < uV:=by decide
 unfold yD at q
 refine ⟨k0,⟨by decide,by decide,by decide⟩,w2 (λc1=>?_) λc1=>?_⟩
 ·rw [if_pos (of_decide_eq_true c1)] at q
  refine ⟨⟨by decide,by decide,by decide⟩,by omega,by omega,?_⟩
  rw [show ((n:Nat):Int).toNat=n by omega]
  refine ⟨λk Γ=>∃ (xs:List Int) (r:Int) (s4:Sl),Γ=[.sh (.int c),.sh (.int (n:Int)),.ow (xs.map D.int),.sh (.int r),s4,.no]/\xs.length=k/\xs++gH r (n - k)=gH (c - (10:Int) ^ (30:Int).toNat) n,⟨[],_,.no,rfl,rfl,rfl⟩,?_,?_⟩
  ·rintro k d Γ' hk ⟨xs,r,s4,rfl,lx,hx⟩
   obtain ⟨kn,rfl⟩:=uR hk
   refine ⟨⟨by decide,by decide,by decide⟩,by decide,by rw [a_]; omega,?_⟩
   refine ⟨⟨by decide,by decide,by decide⟩,by decide,b45.mono,?_⟩
   refine ⟨xs++[r.fmod ji],r.fdiv ji,.sh (.int (k:Int)),?_,by rw [cj,lx]; rfl,?_⟩
   ·rw [cx]
    rfl
   ·rw [<- hx,show n - k=(n - (k + 1)) + 1 by omega,d_]
    rfl
  ·rintro Γ' ⟨xs,r,s4,rfl,lx,hx⟩
   rw [ue,eD] at hx
   rw [<- hx,show gH r 0=[] from rfl,dF] at q
   exact q
 ·rw [if_neg (of_decide_eq_false c1)] at q
  refine ⟨⟨by decide,by decide,by decide⟩,by decide,?_⟩
  have m0:=md c p18
  have bm:Bd 60 (c.fmod uV):=uD b18 p18
  refine ⟨by omega,by omega,?_⟩
  rw [show ((n:Int) + 2).toNat=n + 2 by omega]
  refine ⟨λk Γ=>∃ (xs:List Int) (r:Int) (s4:Sl),Γ=[.sh (.int c),.sh (.int (n:Int)),.ow (xs.map D.int),.no,s4,.sh (.int r)]/\xs.length=k/\Bd 70 r/\xs++gI r (k:Int) (n + 2 - k)=gI (c.fmod uV + 48271) 0 (n + 2),⟨[],_,.no,rfl,rfl,((bm.mono (show 60<=65 by decide)).add ((Bd.lit (i:=48271) (n:=16)).mono (show 16<=65 by decide))).mono,rfl⟩,?_,?_⟩
  ·rintro k d Γ' hk ⟨xs,r,s4,rfl,lx,br,hx⟩
   obtain ⟨kn,rfl⟩:=uR hk
   refine ⟨br.mono,br.mono,(Bd.lit (i:=48271) (n:=16)).mono,br.mono,⟨by decide,by decide,by decide⟩,by decide,by rw [a_]; omega,?_⟩
   refine ⟨xs++[(r * r + 48271 * r + (k:Int)).fmod uV],(r * r + 48271 * r + (k:Int)).fmod uV,.sh (.int (k:Int)),?_,?_,(uD b18 p18).mono,?_⟩
   ·rw [cx]
    rfl
   ·rw [cj,lx]; rfl
   ·rw [<- hx,show n + 2 - k=(n + 2 - (k + 1)) + 1 by omega,d_]
    rfl
  ·rintro Γ' ⟨xs,r,s4,rfl,lx,br,hx⟩
   rw [ue,eD] at hx
   rw [<- hx,show gI r ((n + 2:Nat):Int) 0=[] from rfl,dF] at q
   have e:zo (xs.map D.int) (some 2) none=(xs.drop 2).map D.int:=by rw [show (2:Int)=((2:Nat):Int) from rfl,UC,fg]
   unfold L at q
   rw [<- e] at q
   exact q
theorem zIc (F:zg K "_law_number" "_law_number" zEN f fd):zE P w K mg base zU (k + 1) f fd ["_law_x","_law_far"] (zG (XH)):=by
 refine yI F zIJ λ_ _ _ _ _ _ hr=>⟨_,(zN (zV (wt (xW (zA 0) (zx (xV zD (zA 1)) zD)) (zA 1)))),λds R h=>?_⟩
 obtain ⟨x,far,rfl,f0,bf,q⟩:=h
 exact ⟨(Bd.lit (i:=2) (n:=2)).mono,bf.mono,by omega,q⟩
theorem zNW (F:zg K "_law_box" "_law_box" zIP f fd) (al:Fn P w K mg base "_law_stream" ["_law_cell","_law_many"] k (zG (qA))) (ap:Fn P w K mg base "_law_number" ["_law_x","_law_far"] k (zG (XH))):zE P w K mg base zU (k + 1) f fd ["_law_cell","_law_many","_law_unit"] (zG (zSN)):=by
 refine yI F X0 λ_ _ _ _ _ _ hr=>⟨_,(zH (zw 3 X0.nd (zQ al hr rfl (zB (zA 0) (zB (xV zD (zA 1)) zC))))
  (zH (vS 4 X0.nd rfl (Or.inl rfl) zC)
  (zH (wj PassesOwn.never rfl (xz rfl B.range_ (zB (zA 1) zC)) (zy 5 X0.nd) (zH (zw 6 X0.nd (xV (zQ ap hr rfl (zB (zP (zA 3) (xV zD (zA 5))) (zB zD zC))) (zA 2)))
   (zN (yM (xX (wW cB cF cG yZ (yO 4) (zf (wU (zB (zA 6) (zB (zx (zx (zA 6) (xV (xW (zP (zA 3) (zx (xV zD (zA 5)) zD)) zD) (zA 2))) (xW (vg (zP (zA 3) (zx (xV zD (zA 5)) zD)) zD) zD)) zC))) yK))) wY))))
  (zN (vK 4 (zV (zA 4))))))),λds R h=>?_⟩
 obtain ⟨c,n,u,rfl,n3,u0,bu,q⟩:=h
 have b2:Bd 2 (2:Int):=Bd.lit
 obtain ⟨lx,_⟩:=kY c (2 * n)
 refine ⟨b2.mono,(XD n3).mono,c,2 * n,by rw [show ((2 * n:Nat):Int)=2 * (n:Int) by omega],by omega,?_⟩
 refine ⟨k0,by omega,by omega,?_⟩
 rw [show ((n:Nat):Int).toNat=n by omega]
 refine ⟨λk Γ=>∃ (s5 s6:Sl),Γ=[.sh (.int c),.sh (.int (n:Int)),.sh (.int u),.sh (L (yD c (2 * n))),.ow (((vP c n u).take k).map zz),s5,s6],⟨.no,.no,rfl⟩,?_,?_⟩
 ·rintro k d Γ' hk ⟨s5,s6,rfl⟩
  obtain ⟨kn,rfl⟩:=uR hk
  have bk:Bd 2 (k:Int):=XD (by omega)
  refine ⟨b2.mono,bk.mono,_,xE (j:=2 * k) (by omega) (by omega),_,3,rfl,by decide,(Bd.lit (i:=3) (n:=2)).mono,?_⟩
  have by2:Bd 2 (y6 ((yD c (2 * n)).getD (2 * k) 0) 3):=zO1 (f:=3) Bd.lit (by have:=md ((yD c (2 * n)).getD (2 * k) 0) (show (0:Int) < 2 * 3 + 1 by decide); unfold y6; omega) (by have:=md ((yD c (2 * n)).getD (2 * k) 0) (show (0:Int) < 2 * 3 + 1 by decide); unfold y6; omega)
  refine ⟨by2.mono,bu.mono,?_⟩
  refine ⟨b2.mono,bk.mono,_,xE (j:=2 * k + 1) (by omega) (by omega),by decide,(Bd.mono (n:=3) (uD Bd.lit (by decide)) (by decide)),bu.mono,b2.mono,bk.mono,_,xE (j:=2 * k + 1) (by omega) (by omega),by decide,(Bd.lit (i:=4) (n:=3)).mono,by decide,k0,by rw [a_,cE]; omega,.sh (.int (k:Int)),.sh (.int (y6 ((yD c (2 * n)).getD (2 * k) 0) 3 * u)),?_⟩
  have hg:(vP c n u)[k]? = some (y6 ((yD c (2 * n)).getD (2 * k) 0) 3 * u,y6 ((yD c (2 * n)).getD (2 * k) 0) 3 * u + ((yD c (2 * n)).getD (2 * k + 1) 0).fmod 4 * u + (((yD c (2 * n)).getD (2 * k + 1) 0).fdiv 4).fmod 2):=by
   unfold vP
   rw [cS,dj kn]
   rfl
  rw [uN hg,cx]
  rfl
 ·rintro Γ' ⟨s5,s6,rfl⟩
  rw [ue,cL (by rw [(zMT u0 bu).1]; exact cD _)]
  exact q
theorem zLW (F:zg K "_law_rows" "_law_rows" zGj f fd):zE P w K mg base zU (k + 1) f fd ["_law_box_here"] (zG (ka)):=by
 refine yI F k7 λ_ _ _ _ _ _ hr=>⟨_,(zH (vS 1 k7.nd rfl (Or.inl rfl) zC)
  (zH (wj PassesOwn.never rfl (xz rfl B.range_ (zB (yB xL xP rfl B.len_ xM (zB (zA 0) zC)) zC)) (zy 2 k7.nd) (zH (ux 3 false k7.nd rfl rfl (own:=["_law_j"]) (caps:=[(2,"_law_i")]) (yN k7) rfl rfl yR (xz rfl B.range_ (zB (yB xL xP rfl B.len_ xM (zB (zA 0) zC)) zC)) (λ_ _ _ _=>(zy 0 (yA ["_law_j","_law_i"]))) (λ_ _ _ _=>(xk zH2 zMS rfl B.int_ JP (zB (uc hr.units (zA 0) (zA 1)) zC))) rfl)
   (zH (yM (xX (wW cB cF cG yZ (yO 1) (zf (xk jE jL rfl B.tuple_ vc (zB (zx (zA 3) (xO (zB (zP (zP (zA 0) (zA 2)) zD) zC))) zC)) yK))) wY)
   (zN (yM (xX (wW cB cF cG yZ (yO 1) (zf (xk jE jL rfl B.tuple_ vc (zB (zx (yg (own:=["_law_one"]) (caps:=[]) (yN k7) rfl rfl yR (yj (zA 3)) (λ_ _ _ _=>(zy 0 (yA ["_law_one"]))) (λ_ _ _ _=>(wt zD (zA 0)))) (xO (zB (wt zD (zP (zP (zA 0) (zA 2)) zD)) zC))) zC)) yK))) wY)))))
  (zN (vK 1 (zV (zA 1)))))),λds R h=>?_⟩
 obtain ⟨d0,bs,rfl,hd,l1,q⟩:=h
 have lp:(dG zz bs).length=bs.length:=a_ ..
 refine ⟨k0,hd.len ⟨by omega,by omega,?_⟩⟩
 rw [show ((dS (dG zz bs):Nat):Int).toNat=bs.length by omega]
 refine ⟨λk Γ=>∃ (s2 s3:Sl),Γ=[.sh d0,.ow ((((bs.mapIdx (wA bs.length)).take k).flatten).map U),s2,s3],⟨.no,.no,rfl⟩,?_,?_⟩
 ·rintro k d Γ' hk ⟨s2,s3,rfl⟩
  obtain ⟨kn,rfl⟩:=uR hk
  have hx:(bs.mapIdx (wA bs.length))[k]? = some (wA bs.length k bs[k]):=by rw [iS,ck kn]; rfl
  have ll:((bs.mapIdx (wA bs.length)).take k).flatten.length=2 * k:=by
   rw [fD]
   have e:((bs.mapIdx (wA bs.length)).take k).map dS=cv k 2:=by
    refine fu (by simp; omega) λi h1 h2=>?_
    simp [wA]
   rw [e]
   simp
   omega
  refine hd.len ⟨by omega,by omega,?_⟩
  rw [show ((dS (dG zz bs):Nat):Int).toNat=bs.length by omega]
  refine zi.rng0 (λj=>.int (if (j:Int)=(k:Int) then 1 else 0)) (by omega) (λj hj=>by show D.int _=_; rw [zR0]) ?_
  have eu:(cR bs.length).map (λj:Nat=>D.int (if (j:Int)=(k:Int) then 1 else 0))=(ya (k:Int) bs.length 1).map D.int:=by unfold ya; rw [cw]; rfl
  rw [eu]
  refine hd.ix ⟨_,zJQ kn rfl,_,rfl,k0,by rw [a_,vx]; show _ + 1<=1000; omega,by rw [a_]; omega,?_⟩
  refine zi.int (λx=>0 - x) (by rw [vx]; omega) (λx hx=>rfl) ?_
  refine hd.ix ⟨_,zJQ kn rfl,_,rfl,k0,by rw [a_,a_,vx]; show _ + 1<=1000; omega,by rw [cj,a_]; show _ + 1 < 1000; omega,?_⟩
  refine ⟨.sh (.int (k:Int)),.sh (L (ya (k:Int) bs.length 1)),?_⟩
  rw [zMn hx,cx]
  unfold wA
  rw [cT,cT,f_,U,U,cx,cx,<- List.append_cons]
  rfl
 ·rintro Γ' ⟨s2,s3,rfl⟩
  rw [ue,cL (by rw [k_]; omega)]
  exact q
theorem zNU (F:zg K "_law_top" "_law_top" zIO f fd):zE P w K mg base zU (k + 1) f fd ["_law_numbers","_law_box_here"] (zG (Xa)):=by
 refine yI F X1 λ_ _ _ _ _ _ hr=>⟨_,(zH (zw 2 X1.nd zD)
  (zH (wj PassesOwn.never rfl (qu rfl B.zip_ (zB (zA 0) (zB (zA 1) zC))) (w6 rfl (yF 3 X1.nd (yF 4 X1.nd w4))) (zN (zw 2 X1.nd (zx (zA 2) (yB (ZU rfl) YK rfl B.max_ qQ (zB (xV (zA 3) (zP (zA 4) zD)) (zB (xV (zA 3) (zP (zA 4) zD)) zC)))))))
  (zN (zV (zA 2))))),λds R h=>?_⟩
 obtain ⟨d,e,ns,bs,ee,rfl,h,hk,l3,bn,e5,bb,q⟩:=h
 refine h.zip2 hk ?_
 refine ⟨λk Γ=>∃ (s3 s4:Sl),Γ=[.sh d,.sh e,.sh (.int (zK (ns.take k) (bs.take k))),s3,s4],⟨.no,.no,rfl⟩,?_,?_⟩
 ·rintro k d' Γ' hk ⟨s3,s4,rfl⟩
  obtain ⟨x1,b1,h1,h2,rfl⟩:=J3 _ hk
  obtain ⟨x,hx,rfl⟩:=u6 h1
  obtain ⟨b,hb,rfl⟩:=u6 h2
  have hx':=bn x (cY hx)
  have hb':=bb b (cY hb)
  have kx:=(cH.mp hx).1
  have kb:=(cH.mp hb).1
  refine ⟨_,rfl,hx'.mono,hb'.1.mono (by omega),_,rfl,hx'.mono,hb'.2.mono (by omega),.sh (.int x),.sh (zz b),?_⟩
  rw [uN hx,uN hb,zI4 (by rw [cE,cE]; omega)]
  rfl
 ·rintro Γ' ⟨s3,s4,rfl⟩
  rw [iZ,a_,a_,zI3]
  exact q
theorem zLY (F:zg K "_law_mode" "_law_mode" zGm f fd) (al:Fn P w K mg base "_law_stream" ["_law_cell","_law_many"] k (zG (qA))) (ap:Fn P w K mg base "_law_number" ["_law_x","_law_far"] k (zG (XH))):zE P w K mg base zU (k + 1) f fd ["_law_cell","_law_many","_law_wide","_law_unit","_law_split"] (zG (fMd)):=by
 refine yI F uY λ_ _ _ _ _ _ hr=>⟨_,(zH (zw 5 uY.nd (zQ (uE zOG al) hr rfl (zB (zA 0) (zB zD zC))))
  (zH (zw 6 uY.nd (zx zD (xW (zP (zA 5) zD) zD)))
  (zH (vS 7 uY.nd rfl (Or.inl rfl) zC)
  (zH (vS 8 uY.nd rfl (Or.inl rfl) zC)
  (zH (wj PassesOwn.never rfl (xz rfl B.range_ (zB (zA 1) zC)) (zy 9 uY.nd) (zH (yM (xX (wW cB cF cG yZ (yO 7) (zf (yg (own:=["_law_j"]) (caps:=[(5,"_law_xs"),(6,"_law_divisor"),(9,"_law_i")]) (yN uY) rfl rfl yR (xz rfl B.range_ (zB (zA 1) zC)) (λ_ _ _ _=>(zy 0 (yA ["_law_j","_law_xs","_law_divisor","_law_i"]))) (λ_ _ _ _=>(zQ (uE kZ ap) hr rfl (zB (zP (zA 1) (zx (zx zD (xV zD (zA 3))) (zA 0))) (zB (zP (xO (zB zD (zB (wt (zA 2) zD) zC))) (xk zH2 zMS rfl B.int_ JP (zB (uc hr.units (zA 3) (zA 0)) zC))) zC))))) yK))) wY)
   (zN (yM (xX (wW cB cF cG yZ (yO 8) (zf (yg (own:=["_law_j"]) (caps:=[(5,"_law_xs"),(9,"_law_i")]) (yN uY) rfl rfl yR (xz rfl B.range_ (zB (zA 2) zC)) (λ_ _ _ _=>(zy 0 (yA ["_law_j","_law_xs","_law_i"]))) (λ_ _ _ _=>(zQ (uE kZ ap) hr rfl (zB (zP (zA 1) (zx (zx zD (xV zD (zA 2))) (zA 0))) (zB zD zC))))) yK))) wY))))
  (zH (ux 10 false uY.nd rfl rfl (own:=["_law_i"]) (caps:=[(3,"_law_unit"),(5,"_law_xs")]) (yN uY) rfl rfl yR (xz rfl B.range_ (zB (zA 1) zC)) (λ_ _ _ _=>(zy 0 (yA ["_law_i","_law_unit","_law_xs"]))) (λ_ _ _ _=>(xV (zQ (uE kZ ap) hr rfl (zB (zP (zA 2) (zx zD (zA 0))) (zB zD zC))) (xW (zP (zA 2) zD) (zA 1)))) rfl)
  (zH (vS 11 uY.nd rfl (Or.inl rfl) zC)
  (Ws (ye (yo (zA 4)) (zH (ux 12 false uY.nd rfl rfl (own:=["_law_i"]) (caps:=[(5,"_law_xs")]) (yN uY) rfl rfl yR (xz rfl B.range_ (zB (zA 1) zC)) (λ_ _ _ _=>(zy 0 (yA ["_law_i","_law_xs"]))) (λ_ _ _ _=>(zQ (uE kZ ap) hr rfl (zB (zP (zA 1) (zx zD (zA 0))) (zB zD zC)))) rfl)
   (zN (yM (xX (wW cB cF cG yZ (yO 11) (zf (xk jE jL rfl B.tuple_ vc (zB (zx (zA 12) (xO (zB (xV (zQ (uE kZ ap) hr rfl (zB (zP (zA 5) zD) (zB zD zC))) (zA 3)) zC))) zC)) yK))) wY))) yd)
  (zN (vK 7 (vK 8 (vK 11 (zV (wU (zB (zA 11) (zB (zA 7) (zB (xV (xO (zB zD zC)) (zA 1)) (zB (zA 8) (zB (zA 10) (zB (zA 6) zC)))))))))))))))))))),λds R h=>?_⟩
 obtain ⟨c,n,w,u,sp,rfl,n1,n3,wb,u1,bu,q⟩:=h
 refine ⟨c,24,rfl,by decide,λxs lx hx=>?_⟩
 refine vm (by decide) (by omega) λx0 _=>⟨by decide,?_⟩
 have d0:=md x0 (show (0:Int) < 4 by decide)
 obtain ⟨dv,hdv⟩:∃ dv,dv=2 + x0.fmod 4:=⟨_,rfl⟩
 have dv1:2<=dv:=by omega
 have dv5:dv<=5:=by omega
 have bdv:Bd 3 dv:=jQ (f:=7) (by decide) (by omega) (by omega)
 refine ⟨k0,k0,by omega,by omega,?_⟩
 rw [show ((n:Nat):Int).toNat=n by omega]
 refine ⟨λk Γ=>∃ (N P:List (List Int)) (s9:Sl),Γ=[.sh (.int c),.sh (.int (n:Int)),.sh (.int (w:Int)),.sh (.int u),.sh (.bool sp),.sh (L xs),.sh (.int dv),.ow (N.map L),.ow (P.map L),s9,.no,.no,.no]/\N.length=k/\P.length=k/\(∀ r∈N,r.length=n/\∀ x∈r,Bd 4 x)/\∀ r∈P,r.length=w/\∀ x∈r,Bd 4 x,⟨[],[],.no,by rw [hdv]; rfl,rfl,rfl,λ_ h=>(nomatch h),λ_ h=>(nomatch h)⟩,?_,?_⟩
 ·rintro k d Γ' hk ⟨N,P,s9,rfl,lN,lP,hN,hP⟩
  obtain ⟨kn,rfl⟩:=uR hk
  have bk:Bd 2 (k:Int):=XD (by omega)
  refine ⟨by omega,by omega,?_⟩
  rw [show ((n:Nat):Int).toNat=n by omega]
  refine zi.nums (λx=>Bd 4 x) (by omega) (λj hj=>?_) λns ln hn=>?_
  ·refine ⟨(Bd.lit (i:=3) (n:=2)).mono,bk.mono,vm (by omega) (by omega) λx1 _=>⟨k0,j9 (by split <;> decide) (by show _ < (2:Int); split <;> decide) λz hz=>?_⟩⟩
   obtain ⟨f,rfl,f1,f4⟩:∃ f,z=.int f/\1<=f/\f<=4:=by
    simp only [cu,cW,or_false] at hz
    rcases hz with rfl | rfl
    ·exact ⟨_,rfl,by decide,by decide⟩
    ·exact ⟨_,rfl,by omega,by omega⟩
   exact ⟨_,f,rfl,by omega,Bd.mono (n:=3) (jQ (f:=7) (by decide) (by omega) (by omega)) (by decide),λy y1 y2=>⟨y,rfl,jQ (f:=15) (by decide) (by omega) (by omega)⟩⟩
  refine ⟨by rw [a_]; omega,by omega,by omega,?_⟩
  rw [show ((w:Nat):Int).toNat=w by omega]
  refine zi.nums (λx=>Bd 4 x) (by omega) (λj hj=>?_) λps lps hps=>?_
  ·exact ⟨(Bd.lit (i:=2) (n:=2)).mono,bk.mono,vm (by omega) (by omega) λx1 _=>⟨_,2,rfl,by decide,(Bd.lit (i:=2) (n:=2)).mono,λy y1 y2=>⟨y,rfl,jQ (f:=15) (by decide) (by omega) (by omega)⟩⟩⟩
  refine ⟨by rw [a_]; omega,N++[ns],P++[ps],.sh (.int (k:Int)),by rw [cx,cx]; rfl,by rw [cj,lN]; rfl,by rw [cj,lP]; rfl,jh hN ⟨ln,hn⟩,jh hP ⟨lps,hps⟩⟩
 rintro Γ' ⟨N,P,s9,rfl,lN,lP,hN,hP⟩
 rw [ue] at lN lP
 refine ⟨by omega,by omega,?_⟩
 rw [show ((n:Nat):Int).toNat=n by omega]
 refine zi.nums (λx=>Bd 110 x) (by omega) (λi hi=>?_) λad lad had=>?_
 ·refine vm (by omega) (by omega) λx1 _=>⟨_,2,rfl,by decide,(Bd.lit (i:=2) (n:=2)).mono,λy y1 y2=>vm (by decide) (by omega) λx2 _=>⟨by omega,?_⟩⟩
  have by2:Bd 2 y:=jQ (f:=3) (by decide) (by omega) (by omega)
  have bm:Bd 100 (x2.fmod u):=uD bu (by omega)
  exact ⟨by2.mono,bm.mono,_,rfl,(by2.mul bm).mono⟩
 refine ⟨k0,λΓ=>∃ (rows:List (List Int)) (s12:Sl),Γ=[.sh (.int c),.sh (.int (n:Int)),.sh (.int (w:Int)),.sh (.int u),.sh (.bool sp),.sh (L xs),.sh (.int dv),.ow (N.map L),.ow (P.map L),s9,.sh (L ad),.ow (rows.map U),s12]/\rows.length<=1/\∀ r∈rows,r.length=n + 1/\(∀ x∈r.take n,Bd 4 x)/\∀ x∈r,Bd 110 x,w2 (λc1=>?_) λc1=>⟨[],_,rfl,by decide,λ_ h=>nomatch h⟩,?_⟩
 ·refine ⟨by omega,by omega,?_⟩
  rw [show ((n:Nat):Int).toNat=n by omega]
  refine zi.nums (λx=>Bd 2 x) (by omega) (λi hi=>?_) λrw_ lrw hrw=>?_
  ·exact vm (by omega) (by omega) λx3 _=>⟨_,1,rfl,by decide,(Bd.lit (i:=1) (n:=1)).mono,λy y1 y2=>⟨y,rfl,jQ (f:=3) (by decide) (by omega) (by omega)⟩⟩
  refine vm (by decide) (by omega) λx4 _=>⟨_,3,rfl,by decide,(Bd.lit (i:=3) (n:=2)).mono,λy y1 y2=>?_⟩
  have by3:Bd 3 y:=jQ (f:=7) (by decide) (by omega) (by omega)
  refine ⟨by3.mono,bu.mono,k0,by rw [a_]; show _ + 1<=1000; omega,by decide,[rw_++[y * u]],.sh (L rw_),?_,by show 1<=1; decide,λr hr=>?_⟩
  ·rw [cT,f_,U,cx]
   rfl
  ·rw [cQ.mp hr]
   exact ⟨by rw [cj,lrw]; rfl,λx hx=>by
    rw [cX (by omega),cL (by omega)] at hx
    exact (hrw x hx).mono,jh (λx hx=>(hrw x hx).mono) ((by3.mul bu).mono)⟩
 rintro Γ' ⟨rows,s12,rfl,lr,hr⟩
 have rep:D.lst (cv n (D.int 0))=L (cv n 0):=by unfold L; rw [fQ]
 refine ⟨k0,by omega,by omega,?_⟩
 rw [show ((n:Nat):Int).toNat=n by omega,rep]
 exact ⟨k0,q ⟨rows,N,cv n 0,P,ad,dv⟩ ⟨⟨λr h=>(hr r h).1,by show rows.length<=900; omega,⟨lN,λr h=>(hN r h).1⟩,di ..,⟨lP,λr h=>(hP r h).1⟩,lad,by show 1<=dv; omega,n3,by omega⟩,λr h=>(hN r h).2,λr h=>(hP r h).2,had,λx hx=>dX hx,bdv,lr,λr h=>(hr r h).2⟩⟩
theorem zJ5 (F:zg K "_law_thing" "_law_thing" zFD f fd) (ar:Fn P w K mg base "_law_cell_at" ["_law_script","_law_k"] k (zG (UF))) (bE:Fn P w K mg base "_law_mode" ["_law_cell","_law_many","_law_wide","_law_unit","_law_split"] k (zG (fMd))):zE P w K mg base zU (k + 1) f fd ["_law_script"] (zG (fTh)):=by
 refine yI F jC λ_ _ _ _ _ _ hr=>⟨_,(zH (zw 1 jC.nd (zQ (uE Qg ar) hr rfl (zB (zA 0) (zB zD zC))))
  (zH (zw 2 jC.nd (zQ (uE Qg ar) hr rfl (zB (zA 0) (zB zD zC))))
  (zH (zw 3 jC.nd (zx zD (xW (vg (zA 1) zD) (zP (xO (zB zD (zB zD (zB (jc zD zD) (zB (jc zD zD) zC))))) (xW (zA 1) zD)))))
  (zH (zw 4 jC.nd (zP (xO (zB zD (zB zD (zB zD (zB zD (zB zD (zB zD zC))))))) (xW (zA 2) zD)))
  (zH (vS 5 jC.nd rfl (Or.inl rfl) zC)
  (zH (wj PassesOwn.never rfl (xz rfl B.range_ (zB (xW (vg (zA 2) zD) zD) zC)) (zy 6 jC.nd) (zH (zw 7 jC.nd (vg (zA 2) (zx zD (xV zD (zA 6)))))
   (zN (yM (xX (wW cB cF cG yZ (yO 5) (zf (wU (zB (wt zD (xV (xW (zA 7) zD) (zA 3))) (zB (xV (xW (vg (zA 7) zD) zD) (zA 3)) zC))) yK))) wY))))
  (zH (vS 8 jC.nd rfl (Or.inl rfl) zC)
  (zH (vK 5 (wj PassesOwn.never rfl (xz rfl B.range_ (zB (zx zD (xW (vg (zA 2) zD) zD)) zC)) (zy 6 jC.nd) (zH (zw 9 jC.nd (zx (zQ (uE Qg ar) hr rfl (zB (zA 0) (zB (zx zD (zA 6)) zC))) (zA 6)))
   (zN (yM (xX (wW cB cF cG yZ (yO 8) (zf (zQ bE hr rfl (zB (zA 9) (zB (zA 4) (zB (yB xL xP rfl B.len_ xM (zB (zA 5) zC)) (zB (zA 3) (zB (uc hr.units (xW (vg (zA 2) zD) zD) zD) zC)))))) yK))) wY)))))
  (zN (vK 8 (zV (wU (zB (zA 4) (zB (zA 5) (zB (zA 8) (zB (zA 3) zC)))))))))))))))),λds R h=>?_⟩
 obtain ⟨ns,rfl,q⟩:=h
 refine ⟨ns,0,rfl,by decide,λfirst=>⟨ns,1,rfl,by decide,λsecond=>?_⟩⟩
 have key:∀ x∈[D.int 3,D.int 9,D.int (10 ^ (15:Int).toNat),D.int (10 ^ (30:Int).toNat)],uw (λv=>1<=v/\Bd 100 v) x:=λx hx=>by
  simp only [cu,cW,or_false] at hx
  rcases hx with rfl | rfl | rfl | rfl <;> exact ⟨_,rfl,by decide,Bd.lit⟩
 have f4:=md first (show (0:Int) < 4 by decide)
 refine ⟨by decide,(Bd.lit (i:=4) (n:=3)).mono,⟨by decide,by decide,by decide⟩,⟨by decide,by decide,by decide⟩,k0,by decide,j9 f4.1 (by show first.fmod 4 < 4; omega) λx hxk=>?_⟩
 obtain ⟨v,rfl,v1,bv⟩:=key x hxk
 have fv:=md (first.fdiv 4) (show (0:Int) < v by omega)
 obtain ⟨u,hu⟩:∃ u,u=1 + (first.fdiv 4).fmod v:=⟨_,rfl⟩
 have u1:1<=u:=by omega
 have bu:Bd 100 u:=bv.of_le (by omega)
 refine ⟨by omega,?_⟩
 have s6:=md second (show (0:Int) < 6 by decide)
 refine ⟨k0,by decide,j9 s6.1 (by show second.fmod 6 < 6; omega) λz hz=>?_⟩
 obtain ⟨n,rfl,n1,n3⟩:∃ n:Nat,z=.int (n:Int)/\1<=n/\n<=3:=by
  simp only [cu,cW,or_false] at hz
  rcases hz with rfl | rfl | rfl | rfl | rfl | rfl
  ·exact ⟨1,rfl,by decide,by decide⟩
  ·exact ⟨2,rfl,by decide,by decide⟩
  ·exact ⟨2,rfl,by decide,by decide⟩
  ·exact ⟨1,rfl,by decide,by decide⟩
  ·exact ⟨3,rfl,by decide,by decide⟩
  ·exact ⟨2,rfl,by decide,by decide⟩
 have p3:=md (second.fdiv 6) (show (0:Int) < 3 by decide)
 refine ⟨k0,by decide,(Bd.lit (i:=6) (n:=3)).mono,by decide,by omega,by omega,?_⟩
 refine ⟨λk Γ=>∃ (bs:List (Int × Int)) (s6 s7:Sl),Γ=[.sh (.scr ns),.sh (.int first),.sh (.int second),.sh (.int u),.sh (.int (n:Int)),.ow (bs.map zz),s6,s7,.no,.no]/\bs.length=k/\∀ b∈bs,b.1<=b.2/\Bd 105 b.1/\Bd 105 b.2,⟨[],.no,.no,by rw [hu]; rfl,rfl,λ_ h=>nomatch h⟩,?_,?_⟩
 ·rintro k d Γ' hk ⟨bs,s6,s7,rfl,lb,hb⟩
  obtain ⟨kn,rfl⟩:=uR hk
  have bk:Bd 2 (k:Int):=XD (by omega)
  refine ⟨(Bd.lit (i:=11) (n:=4)).mono,bk.mono,by omega,Bd.mono (n:=10) (jQ (f:=1000) (by decide) (by omega) (by omega)) (by decide),?_⟩
  obtain ⟨x,hx⟩:∃ x,x=second.fdiv (18 + 11 * (k:Int)):=⟨_,rfl⟩
  have a1:=md x (show (0:Int) < 3 by decide)
  have a2:=md (x.fdiv 3) (show (0:Int) < 3 by decide)
  rw [<- hx]
  have g1:0<=x.fmod 3 * u:=iW a1.1 (by omega)
  have g2:0<=(x.fdiv 3).fmod 3 * u:=iW a2.1 (by omega)
  have c1:Bd 102 (x.fmod 3 * u):=(uD (n:=2) Bd.lit (by decide)).mul bu
  have c2:Bd 102 ((x.fdiv 3).fmod 3 * u):=(uD (n:=2) Bd.lit (by decide)).mul bu
  refine ⟨by decide,Bd.mono (n:=2) (uD Bd.lit (by decide)) (by decide),bu.mono,by decide,(Bd.lit (i:=3) (n:=2)).mono,by decide,Bd.mono (n:=2) (uD Bd.lit (by decide)) (by decide),bu.mono,k0,by rw [a_]; omega,?_⟩
  exact ⟨bs++[(0 - x.fmod 3 * u,(x.fdiv 3).fmod 3 * u)],.sh (.int (k:Int)),.sh (.int x),by rw [cx]; rfl,by rw [cj,lb]; rfl,jh hb ⟨by show 0 - x.fmod 3 * u<=(x.fdiv 3).fmod 3 * u; omega,by rw [fb]; exact c1.neg.mono,c2.mono⟩⟩
 rintro Γ' ⟨bs,s6,s7,rfl,lb,hb⟩
 rw [ue] at lb
 have lm:(dG zz bs).length=bs.length:=a_ ..
 have p4:=md (second.fdiv 54) (show (0:Int) < 3 by decide)
 refine ⟨k0,by decide,(Bd.lit (i:=54) (n:=6)).mono,by decide,by omega,by omega,?_⟩
 refine ⟨λk Γ=>∃ (ms:List MD) (s6 s9:Sl),Γ=[.sh (.scr ns),.sh (.int first),.sh (.int second),.sh (.int u),.sh (.int (n:Int)),.sh (.lst (bs.map zz)),s6,s7,.ow (ms.map XG),s9]/\ms.length=k/\∀ m∈ms,qB n bs.length m,⟨[],_,.no,rfl,rfl,λ_ h=>nomatch h⟩,?_,?_⟩
 ·rintro k d Γ' hk ⟨ms,s6,s9,rfl,lms,hms⟩
  obtain ⟨kn,rfl⟩:=uR hk
  refine ⟨ns,2 + (k:Int),rfl,by omega,λcc=>?_⟩
  refine ⟨by decide,(Bd.lit (i:=162) (n:=8)).mono,by decide,cc + (k:Int),n,bs.length,u,_,by rw [<- lm],n1,n3,by omega,u1,bu,λm hm=>⟨by rw [a_]; omega,ms++[m],.sh (.int (k:Int)),.sh (.int (cc + (k:Int))),by rw [cx]; rfl,by rw [cj,lms]; rfl,jh hms hm⟩⟩
 rintro Γ' ⟨ms,s6,s9,rfl,lms,hms⟩
 rw [ue] at lms
 exact ⟨k0,q n bs ms u ⟨n1,n3,by omega,hb,by omega,by omega,hms,u1,bu⟩⟩
theorem zLc (F:zg K "_law_both" "_law_both" zGq f fd):zE P w K mg base zU (k + 1) f fd ["_law_numbers"] (zG (UJ)):=by
 refine yI F Ue λ_ _ _ _ _ _ hr=>⟨_,(zH (zw 1 Ue.nd (xO zC))
  (zH (wj PassesOwn.never rfl (yj (zA 0)) (zy 2 Ue.nd) (zN (zw 1 Ue.nd (zx (zA 1) (xO (zB (yB (ZU rfl) YK rfl B.max_ qQ (zB (zA 2) (zB zD zC))) (zB (yB (ZU rfl) YK rfl B.max_ qQ (zB (wt zD (zA 2)) (zB zD zC))) zC)))))))
  (zN (zV (zA 1))))),λds R h=>?_⟩
 obtain ⟨d,ns,rfl,h,l3,q⟩:=h
 refine ⟨k0,h.seq ?_⟩
 refine ⟨λk Γ=>∃ (s2:Sl),Γ=[.sh d,.sh (L (yp (ns.take k))),s2],⟨.no,rfl⟩,?_,?_⟩
 ·rintro k d' Γ' hk ⟨s2,rfl⟩
  have kl:=(cH.mp hk).1
  rw [a_] at kl
  obtain ⟨x,hx,rfl⟩:=u6 hk
  refine ⟨k0,by rw [a_,vB,cE]; show _ + 2<=1000; omega,?_⟩
  refine ⟨.sh (.int x),?_⟩
  rw [uN hx,zH3,zSe]
  rfl
 ·rintro Γ' ⟨s2,rfl⟩
  rw [a_,eR]
  exact q
theorem zLZ (F:zg K "_law_made" "_law_made" zGn f fd) (bF:jH P w K mg base ah ["self","rows","nexts","steer","push","add","divisor"] k (vM ah (zOn ah))) (bG:jH P w K mg base ai ["self","many","pushes","modes"] k (vM ai (zL1 ai ah))):zE P w K mg base zU (k + 1 + 1) f fd ["_law_spec"] (zG (Qv ai ah)):=by
 refine yI F vo λ_ _ _ _ _ _ hr=>⟨_,(zH (qz (zA 0) (w6 rfl (yF 1 vo.nd (yF 2 vo.nd (yF 3 vo.nd (yF 4 vo.nd w4))))))
  (zH (vS 5 vo.nd rfl (Or.inl rfl) zC)
  (zH (wj PassesOwn.never rfl (yj (zA 3)) (w6 rfl (yF 6 vo.nd (yF 7 vo.nd (yF 8 vo.nd (yF 9 vo.nd (yF 10 vo.nd (yF 11 vo.nd w4))))))) (zH (ux 12 false vo.nd rfl rfl (own:=["_law_one"]) (caps:=[]) (yN vo) rfl rfl yR (yj (zA 7)) (λ_ _ _ _=>(zy 0 (yA ["_law_one"]))) (λ_ _ _ _=>(xk vq vz rfl B.list_ xr (zB (zA 0) zC))) rfl)
   (zN (yM (xX (wW cB cF cG yZ (yO 5) (zf (Wv bF aa hr rfl (zB (xk vq vz rfl B.list_ xr (zB (zA 6) zC)) (zB (zA 12) (zB (xk vq vz rfl B.list_ xr (zB (zA 8) zC)) (zB (yg (own:=["_law_one"]) (caps:=[]) (yN vo) rfl rfl yR (yj (zA 9)) (λ_ _ _ _=>(zy 0 (yA ["_law_one"]))) (λ_ _ _ _=>(xk vq vz rfl B.list_ xr (zB (zA 0) zC)))) (zB (xk vq vz rfl B.list_ xr (zB (zA 10) zC)) (zB (zA 11) zC))))))) yK))) wY))))
  (zN (vK 5 (zV (Wv bG ae hr rfl (zB (zA 1) (zB (xk vq vz rfl B.list_ xr (zB (zA 2) zC)) (zB (zA 5) zC)))))))))),λds R h=>?_⟩
 obtain ⟨a,n,bs,ms,u,rfl,TO,q⟩:=h
 have m40:=TO.m40
 have n3:=TO.n3
 have b6:=TO.b6
 refine ⟨k0,zRr ?_⟩
 refine ⟨λk Γ=>∃ s6 s7 s8 s9 s10 s11 s12:Sl,Γ=[.sh (zOt a n bs ms u),.sh (.int (n:Int)),.sh (.frz (bs.map zz)),.sh (kL a (ms.map (jj a))),.sh (.int u),.ow ((ms.take k).map (v8 ah)),s6,s7,s8,s9,s10,s11,s12],⟨_,_,_,_,_,_,_,rfl⟩,?_,?_⟩
 ·rintro k d Γ' hk ⟨s6,s7,s8,s9,s10,s11,s12,rfl⟩
  obtain ⟨m,hk2,rfl⟩:=u6 hk
  have kl:=(cH.mp hk2).1
  have o:=TO.mok m (cY hk2)
  refine wv D.scr ww qC L (by rw [o.nexts.1]; omega) (λr hr=>rfl) ?_
  refine zP0 ?_
  refine wv D.scr ww qC L (by rw [o.push.1]; omega) (λr hr=>rfl) ?_
  refine ⟨_,_,_,_,_,_,rfl,kI o.few (λr hr=>by rw [o.rows r hr]; omega),W4 (by rw [o.nexts.1]; omega) (λr hr=>by rw [o.nexts.2 r hr]; omega),uz (by rw [o.steer]; omega),W4 (by rw [o.push.1]; omega) (λr hr=>by rw [o.push.2 r hr]; omega),uz (by rw [o.add]; omega),by rw [a_,cE]; omega,?_⟩
  refine ⟨.sh (.frz (m.rows.map U)),.sh (.frz (m.nexts.map D.scr)),.sh (kL a (m.steer.map D.int)),.sh (.frz (m.push.map D.scr)),.sh (D.scr m.add),.sh (.int m.div),.sh (Tb m.nexts),?_⟩
  rw [uN hk2,cx]
  rfl
 ·rintro Γ' ⟨s6,s7,s8,s9,s10,s11,s12,rfl⟩
  rw [a_,eR]
  exact ⟨n,bs,ms,rfl,TO,q⟩
theorem zId (F:zg K "_law_beyond" "_law_beyond" zEO f fd) (ao:Fn P w K mg base "_law_top" ["_law_numbers","_law_box_here"] k (zG (Xa))):zE P w K mg base zU (k + 1) f fd ["_law_mode_here","_law_box_here"] (zG (Qw)):=by
 refine yI F zDd λ_ _ _ _ _ _ hr=>⟨_,(zH (wj PassesOwn.never rfl (yj (zP (zA 0) zD)) (zy 2 zDd.nd) (zN (ye (Z7 (wt zD (zQ ao hr rfl (zB (yg (own:=["_law_c"]) (caps:=[]) (yN zDd) rfl rfl yR (yj (wH (zA 2) xx (xy (wG zD)))) (λ_ _ _ _=>(zy 0 (yA ["_law_c"]))) (λ_ _ _ _=>(wt zD (zA 0)))) (zB (zA 1) zC)))) (zP (zA 2) (wG zD))) (zN (zV xj)) yd)))
  (zN (zV xj))),λds R h=>?_⟩
 obtain ⟨m,n,w,box,ee,rfl,M1,e4,BX,q⟩:=h
 have r1:=M1.r1
 have n3:=M1.ok.n3
 refine ⟨_,rfl,?_⟩
 refine ⟨λk Γ=>∃ s2,Γ=[.sh (ym m),.sh (zq box),s2]/\(m.rows.take k).any (gK n box)=false,⟨.no,rfl,rfl⟩,?_,?_⟩
 ·rintro k d Γ' hk ⟨s2,rfl,ha⟩
  obtain ⟨r,hr,rfl⟩:=u6 hk
  have hm:=cY hr
  have lr:=M1.ok.rows r hm
  refine zi.cast (w8 lr) (zi.int (λx=>0 - x) (by rw [cE]; omega) (λx hx=>rfl) ⟨_,_,za (r.take n),box,ee,rfl,.inl (.inl rfl),.inl rfl,by rw [jk,cE]; omega,λx hx=>(kj (λx hx=>(M1.rb r hm).1 x hx) x hx).mono,by omega,BX.bd,_,kR lr,w2 (λc=>bR q ?_) λc=>⟨_,rfl,?_⟩⟩)
  ·exact fo.mpr ⟨r,hm,c⟩
  ·rw [uN hr,List.any_append,ha,mr,List.any_nil,show gK n box r=false from c]
   rfl
 ·rintro Γ' ⟨s2,rfl,ha⟩
  rw [a_,cL (cD _)] at ha
  exact bR q ha
theorem zJ7 (F:zg K "_law_image" "_law_image" zFF f fd) (aF:Fn P w K mg base "_law_beyond" ["_law_mode_here","_law_box_here"] k (zG (Qw))) (ao:Fn P w K mg base "_law_top" ["_law_numbers","_law_box_here"] k (zG (Xa))):zE P w K mg base zU (k + 1) f fd ["_law_spec","_law_box_here"] (zG (jo)):=by
 refine yI F xn λ_ _ _ _ _ _ hr=>⟨_,(zH (qz (zA 0) (w6 rfl (yF 2 xn.nd (yF 3 xn.nd (yF 4 xn.nd (yF 5 xn.nd w4))))))
  (zH (zHg 4 false xn.nd rfl rfl (own:=["_law_mode_here"]) (caps:=[(1,"_law_box_here")]) (yN xn) rfl rfl yR (yj (zA 4)) (λ_ _ _ _=>(zy 0 (yA ["_law_mode_here","_law_box_here"]))) (λ_ _ _ _=>(xS (yo (zQ aF hr rfl (zB (zA 0) (zB (zA 1) zC)))))) (λ_ _ _ _=>(zA 0)) rfl)
  (zH (vS 6 xn.nd rfl (Or.inl rfl) zC)
  (zH (wj PassesOwn.never rfl (xz rfl B.range_ (zB (zA 2) zC)) (zy 7 xn.nd) (zH (zw 8 xn.nd jJ)
   (zH (zw 9 xn.nd jJ)
   (zH (wj PassesOwn.never rfl (yj (zA 4)) (w6 rfl (yF 10 xn.nd (yF 11 xn.nd (yF 12 xn.nd (yF 13 xn.nd (yF 14 xn.nd (yF 15 xn.nd w4))))))) (zH (zw 16 xn.nd (zx (zx (zQ ao hr rfl (zB (zP (zA 11) (zA 7)) (zB (zA 1) zC))) (zQ ao hr rfl (zB (zP (zA 13) (zA 7)) (zB (zA 3) zC)))) (zP (zA 14) (zA 7))))
    (zH (zw 16 xn.nd (wt zD (vg (wt zD (zA 16)) (zA 15))))
    (zH (zw 17 xn.nd (zQ ao hr rfl (zB (yg (own:=["_law_c"]) (caps:=[]) (yN xn) rfl rfl yR (yj (zP (zA 11) (zA 7))) (λ_ _ _ _=>(zy 0 (yA ["_law_c"]))) (λ_ _ _ _=>(wt zD (zA 0)))) (zB (zA 1) zC))))
    (zH (zw 17 xn.nd (zx (zA 17) (zQ ao hr rfl (zB (yg (own:=["_law_c"]) (caps:=[]) (yN xn) rfl rfl yR (yj (zP (zA 13) (zA 7))) (λ_ _ _ _=>(zy 0 (yA ["_law_c"]))) (λ_ _ _ _=>(wt zD (zA 0)))) (zB (zA 3) zC)))))
    (zH (zw 17 xn.nd (vg (wt (zP (zA 14) (zA 7)) (zA 17)) (zA 15)))
    (Ws (ye (PW.pt (wz (zK2 (zA 9) jJ) (vR (Z7 (zA 16) (zA 9))))) (zN (zw 9 xn.nd (zA 16))) yd)
    (zN (ye (PW.pt (wz (zK2 (zA 8) jJ) (vR (Wi (zA 17) (zA 8))))) (zN (zw 8 xn.nd (zA 17))) yd)))))))))
   (zN (yM (xX (wW cB cF cG yZ (yO 6) (zf (wU (zB (zA 8) (zB (zA 9) zC))) yK))) wY))))))
  (zH (ye (jK hr.units (zA 4) (xO zC)) (zN (zV (zA 1))) yd)
  (zN (vK 6 (zV (zA 6))))))))),λds R h=>?_⟩
 obtain ⟨n,bs,ms,u,box,ee,rfl,T,e1,e2,BX,q⟩:=h
 have n3:=T.n3
 have b2:=T.b2
 have m3:=T.m3
 have lbx:=BX.len
 have lm:(dG ym ms).length=ms.length:=a_ ..
 refine kB.keep (λd=>!(xF n (jm d) box)) (by omega) (λd hd=>?_) (λd hd=>?_) ?_
 ·obtain ⟨m,hm,rfl⟩:=cr.mp hd
  rw [zN8]
  exact ⟨m,n,bs.length,box,ee,rfl,T.md m hm,by omega,BX,rfl⟩
 ·obtain ⟨m,hm,rfl⟩:=cr.mp hd
  exact rfl
 rw [show (ms.map ym).filter (λd=>!(xF n (jm d) box))=(yY n ms box).map ym by
  rw [List.filter_map]
  unfold yY
  congr 1
  refine List.filter_congr λm _=>?_
  show (!(xF n (jm (ym m)) box))=_
  rw [zN8]]
 have sub:∀ m∈yY n ms box,qB n bs.length m:=λm hm=>T.md m (dq.mp hm).1
 refine ⟨k0,by omega,by omega,?_⟩
 rw [show ((n:Nat):Int).toNat=n by omega]
 refine ⟨λk Γ=>∃ (s7 s8 s9 s10 s11 s12 s13 s14 s15 s16 s17:Sl),Γ=[.sh (wQ n bs ms u),.sh (zq box),.sh (.int (n:Int)),.sh (.frz (bs.map zz)),.sh (.lst ((yY n ms box).map ym)),.sh (.int u),.ow ((cR k).map λi=>D.tup [oI (uW bs box i (yY n ms box)),oI (jB bs box i (yY n ms box))]),s7,s8,s9,s10,s11,s12,s13,s14,s15,s16,s17],⟨.no,.no,.no,.no,.no,.no,.no,.no,.no,.no,.no,rfl⟩,?_,?_⟩
 ·rintro k d Γ' hk ⟨s7,s8,s9,s10,s11,s12,s13,s14,s15,s16,s17,rfl⟩
  obtain ⟨kn,rfl⟩:=uR hk
  refine ⟨λi Γ=>∃ (s10 s11 s12 s13 s14 s15 s16 s17:Sl),Γ=[.sh (wQ n bs ms u),.sh (zq box),.sh (.int (n:Int)),.sh (.frz (bs.map zz)),.sh (.lst ((yY n ms box).map ym)),.sh (.int u),.ow ((cR k).map λi=>D.tup [oI (uW bs box i (yY n ms box)),oI (jB bs box i (yY n ms box))]),.sh (.int (k:Int)),.sh (oI (uW bs box k ((yY n ms box).take i))),.sh (oI (jB bs box k ((yY n ms box).take i))),s10,s11,s12,s13,s14,s15,s16,s17],⟨_,_,_,_,_,_,_,_,rfl⟩,?_,?_⟩
  ·rintro i d Γ' hi2 ⟨s10,s11,s12,s13,s14,s15,s16,s17,rfl⟩
   obtain ⟨m,hm,rfl⟩:=u6 hi2
   have M:=sub m (cY hm)
   have k1:k < m.nexts.length:=by rw [M.ok.nexts.1]; exact kn
   have k2:k < m.push.length:=by rw [M.ok.push.1]; exact kn
   have ln:=M.ok.nexts.2 _ (wK (z:=[]) k1)
   have lp:=M.ok.push.2 _ (wK (z:=[]) k2)
   have BN:∀ x∈m.nexts.getD k [],Bd 4 x:=M.nx _ (wK k1)
   have BP:∀ x∈m.push.getD k [],Bd 4 x:=M.ps _ (wK k2)
   have dz:m.div≠0:=by have:=M.ok.div; omega
   have bb:∀ b∈bs,Bd 105 b.1/\Bd 105 b.2:=λb hb=>(T.bb b hb).2
   refine ⟨_,y8 [] k1,_,_,_,box,ee,rfl,.inr rfl,.inl rfl,by omega,λx hx=>(BN x hx).mono,by omega,BX.bd,?_⟩
   refine ⟨_,y8 [] k2,_,_,_,bs,105,rfl,.inr rfl,.inr rfl,by omega,λx hx=>(BP x hx).mono,by decide,bb,?_⟩
   refine ⟨_,xE (j:=k) (by rw [M.ok.add]; exact kn) rfl,dz,M.dv.mono,?_⟩
   refine ⟨_,y8 [] k1,zi.int (λx=>0 - x) (by omega) (λx hx=>rfl) ⟨_,_,za _,box,ee,rfl,.inl (.inl rfl),.inl rfl,by rw [jk]; omega,λx hx=>(kj BN x hx).mono,by omega,BX.bd,?_⟩⟩
   refine ⟨_,y8 [] k2,zi.int (λx=>0 - x) (by omega) (λx hx=>rfl) ⟨_,_,za _,bs,105,rfl,.inl (.inl rfl),.inr rfl,by rw [jk]; omega,λx hx=>(kj BP x hx).mono,by decide,bb,?_⟩⟩
   refine ⟨_,xE (j:=k) (by rw [M.ok.add]; exact kn) rfl,dz,M.dv.mono,?_⟩
   refine ⟨λΓ=>Γ=[.sh (wQ n bs ms u),.sh (zq box),.sh (.int (n:Int)),.sh (.frz (bs.map zz)),.sh (.lst ((yY n ms box).map ym)),.sh (.int u),.ow ((cR k).map λi=>D.tup [oI (uW bs box i (yY n ms box)),oI (jB bs box i (yY n ms box))]),.sh (.int (k:Int)),.sh (oI (uW bs box k ((yY n ms box).take i))),.sh (oI (jB bs box k ((yY n ms box).take (i + 1)))),.sh (.frz (m.rows.map U)),.sh (.frz (m.nexts.map D.scr)),.sh (D.scr m.steer),.sh (.frz (m.push.map D.scr)),.sh (D.scr m.add),.sh (.int m.div),.sh (.int (xg bs box m k)),.sh (.int (xm bs box m k))],?_,?_⟩
   ·rw [uN hm,zP6]
    cases jB bs box k ((yY n ms box).take i) with
    | none=>exact wT rfl (wT rfl rfl)
    | some y=>
     refine wF rfl (w2 (λc=>?_) λc=>?_)
     ·show _=[_,_,_,_,_,_,_,_,_,Sl.sh (.int (max y (xg bs box m k))),_,_,_,_,_,_,_,_]
      rw [fB (by have:=of_decide_eq_true c; unfold xg; omega)]
      rfl
     ·show _=[_,_,_,_,_,_,_,_,_,Sl.sh (.int (max y (xg bs box m k))),_,_,_,_,_,_,_,_]
      rw [fP (by have:=of_decide_eq_false c; unfold xg; omega)]
      rfl
   rintro Γ' rfl
   have el:=zPv (bs:=bs) (bx:=box) (i:=k) ((yY n ms box).take i) m
   rw [<- uN hm] at el
   cases e0:uW bs box k ((yY n ms box).take i) with
   | none=>
    rw [e0] at el
    exact wT rfl (wT rfl ⟨_,_,_,_,_,_,_,_,by rw [el] <;> rfl⟩)
   | some y=>
    rw [e0] at el
    refine wF rfl (w2 (λc=>?_) λc=>?_)
    ·have el:uW bs box k ((yY n ms box).take (i + 1))=some (xm bs box m k):=el.trans (congrArg some (lZ (by have c:xm bs box m k < y:=of_decide_eq_true c; omega)))
     exact ⟨_,_,_,_,_,_,_,_,by rw [el] <;> rfl⟩
    ·have el:uW bs box k ((yY n ms box).take (i + 1))=some y:=el.trans (congrArg some (mj (by have c:¬ xm bs box m k < y:=of_decide_eq_false c; omega)))
     exact ⟨_,_,_,_,_,_,_,_,by rw [el] <;> rfl⟩
  ·rintro Γ' ⟨s10,s11,s12,s13,s14,s15,s16,s17,rfl⟩
   rw [a_,cL (cD _)]
   refine ⟨k0,by rw [a_,cI]; omega,.sh (.int (k:Int)),.sh (oI (uW bs box k (yY n ms box))),.sh (oI (jB bs box k (yY n ms box))),s10,s11,s12,s13,s14,s15,s16,s17,?_⟩
   rw [iP,cx]
   rfl
 rintro Γ' ⟨s7,s8,s9,s10,s11,s12,s13,s14,s15,s16,s17,rfl⟩
 rw [ue]
 refine ⟨k0,zQ9 _,rfl,w2 (λc=>?_) λc=>?_⟩ <;> rw [zQL] at c
 ·have z:yY n ms box=[]:=List.map_eq_nil_iff.mp (of_decide_eq_true c)
  rw [UL z] at q
  exact q
 ·have z:yY n ms box≠[]:=λy=>of_decide_eq_false c (by rw [y]; rfl)
  rw [Xb z]
  exact q
theorem zLb (F:zg K "_law_hull" "_law_hull" zGp f fd):zE P w K mg base zU (k + 1) f fd ["_law_one","_law_other"] (zG (Qx)):=by
 refine yI F zHb λ_ _ _ _ _ _ hr=>⟨_,(zN (zV (yg (own:=["_law_a","_law_b"]) (caps:=[]) (yN zHb) rfl rfl (qt (vj (vj qv))) (qu rfl B.zip_ (zB (zA 0) (zB (zA 1) zC))) (λ_ _ _ _=>(w6 rfl (yF 0 (yA ["_law_a","_law_b"]) (yF 1 (yA ["_law_a","_law_b"]) w4)))) (λ_ _ _ _=>(wU (zB (yB (zH0 rfl) zMR rfl B.min_ zH4 (zB (zP (zA 0) zD) (zB (zP (zA 1) zD) zC))) (zB (yB (ZU rfl) YK rfl B.max_ qQ (zB (zP (zA 0) zD) (zB (zP (zA 1) zD) zC))) zC))))))),λds R h=>?_⟩
 obtain ⟨a,b,rfl,l3,q⟩:=h
 show zi (dh y3 (a.map zz) (b.map zz)) _ _
 rw [zQY]
 refine wv (λq:(Int × Int) × (Int × Int)=>y3 (zz q.1) (zz q.2)) qVP (λ_=>rfl) (λq=>zz (min q.1.1 q.2.1,max q.1.2 q.2.2)) (by rw [eA]; omega) (λq hq=>⟨_,rfl,_,rfl,_,rfl,_,rfl,k0,rfl⟩) ?_
 unfold wR zq at q
 rw [cw] at q
 exact q
theorem zLa (F:zg K "_law_kept" "_law_kept" zGo f fd) (aG:Fn P w K mg base "_law_hull" ["_law_one","_law_other"] k (zG (Qx))) (az:Fn P w K mg base "_law_image" ["_law_spec","_law_box_here"] k (zG (jo))):zE P w K mg base zU (k + 1) f fd ["_law_spec","_law_box_here"] (zG (zSL)):=by
 refine yI F zE7 λ_ _ _ _ _ _ hr=>⟨_,(zH (wj PassesOwn.never rfl (xz rfl B.range_ (zB zD zC)) (zy 2 zE7.nd) (zN (zw 1 zE7.nd (zQ aG hr rfl (zB (zA 1) (zB (zQ az hr rfl (zB (zA 0) (zB (zA 1) zC))) zC))))))
  (zN (zV (zA 1)))),λds R h=>?_⟩
 obtain ⟨n,bs,ms,u,box,rfl,T,BX,q⟩:=h
 refine ⟨by decide,by decide,?_⟩
 refine ⟨λk Γ=>∃ s2,Γ=[.sh (wQ n bs ms u),.sh (zq (vn n bs ms k box)),s2],⟨.no,rfl⟩,?_,?_⟩
 ·rintro k d Γ' hk ⟨s2,rfl⟩
  obtain ⟨kn,rfl⟩:=uR hk
  have B:=(Xc T BX k).1
  exact ⟨n,bs,ms,u,_,105 + 20 * k,rfl,T,by omega,by omega,B,_,_,rfl,by rw [B.len]; exact T.n3,_,rfl⟩
 ·rintro Γ' ⟨s2,rfl⟩
  exact q
theorem zJ9 (F:zg K "_law_boxes" "_law_boxes" zFH f fd) (al:Fn P w K mg base "_law_stream" ["_law_cell","_law_many"] k (zG (qA))) (bH:Fn P w K mg base "_law_box" ["_law_cell","_law_many","_law_unit"] k (zG (zSN))) (bI:Fn P w K mg base "_law_kept" ["_law_spec","_law_box_here"] k (zG (zSL))) (az:Fn P w K mg base "_law_image" ["_law_spec","_law_box_here"] k (zG (jo))):zE P w K mg base zU (k + 1) f fd ["_law_spec","_law_cell"] (zG (Qz)):=by
 refine yI F X2 λ_ _ _ _ _ _ hr=>⟨_,(zH (zw 2 X2.nd (zQ al hr rfl (zB (zA 1) (zB zD zC))))
  (zH (zw 3 X2.nd (zQ bH hr rfl (zB (zP (zA 2) zD) (zB (zP (zA 0) zD) (zB (zP (zA 0) zD) zC)))))
  (zH (vS 4 X2.nd rfl (Or.inl rfl) (zB (zQ bI hr rfl (zB (zA 0) (zB (zA 3) zC))) zC))
  (zH (wj PassesOwn.never rfl (xz rfl B.range_ (zB (xW (zP (zA 2) zD) zD) zC)) (zy 5 X2.nd) (zN (yM (xX (wW cB cF cG yZ (yO 4) (zf (zQ az hr rfl (zB (zA 0) (zB (zOS 4 (wG zD) (λ_ _=>rfl)) zC))) yK))) wY)))
  (zN (vK 4 (zV (wU (zB (zA 3) (zB (zA 4) zC)))))))))),λds R h=>?_⟩
 obtain ⟨n,bs,ms,u,c,rfl,T,q⟩:=h
 have n3:=T.n3
 have u1:=T.u1
 obtain ⟨lx,_⟩:=kY c 8
 have K3:=uX c
 have eK:(((yD c 8).getD 1 0).fmod 4)=((kM c:Nat):Int):=by
  have:=md ((yD c 8).getD 1 0) (show (0:Int) < 4 by decide)
  unfold kM
  omega
 refine ⟨c,8,rfl,by decide,_,xE (j:=0) (by omega) rfl,_,rfl,_,rfl,_,n,u,rfl,n3,by omega,T.bu,?_⟩
 refine ⟨n,bs,ms,u,wc c n u,rfl,T,gL T,k0,_,xE (j:=1) (by omega) rfl,by decide,?_⟩
 have B1:=(Xc T (gL (c:=c) T) 5).1
 show _<=_/\_
 rw [eK]
 refine ⟨by omega,by omega,?_⟩
 rw [show ((kM c:Nat):Int).toNat=kM c by omega]
 refine ⟨λk Γ=>∃ s5,Γ=[.sh (wQ n bs ms u),.sh (.int c),.sh (L (yD c 8)),.sh (zq (wc c n u)),.ow ((yP n bs ms (bM c n bs ms u) k).map zq),s5],⟨.no,rfl⟩,?_,?_⟩
 ·rintro k d Γ' hk ⟨s5,rfl⟩
  obtain ⟨kn,rfl⟩:=uR hk
  refine ⟨_,zN0 [] ko,?_⟩
  rw [UP (cD k)]
  refine ⟨n,bs,ms,u,_,205 + 20 * k,rfl,T,by omega,by omega,Qy T (by decide) B1 k,by rw [a_,ko]; omega,.sh (.int (k:Int)),?_⟩
  rw [Xd,cx]
  rfl
 ·rintro Γ' ⟨s5,rfl⟩
  rw [ue]
  exact ⟨k0,q⟩
theorem zFT (F:zg K "_law_claim_rows" "_law_claim_rows" zCl f fd) (al:Fn P w K mg base "_law_stream" ["_law_cell","_law_many"] k (zG (qA))) (ap:Fn P w K mg base "_law_number" ["_law_x","_law_far"] k (zG (XH))) (ao:Fn P w K mg base "_law_top" ["_law_numbers","_law_box_here"] k (zG (Xa))):zE P w K mg base zU (k + 1) f fd ["_law_spec","_law_boxes_here","_law_cell"] (zG (Xf)):=by
 refine yI F ju λ_ _ _ _ _ _ hr=>⟨_,(zH (zw 3 ju.nd (zQ (uE zOG al) hr rfl (zB (zA 2) (zB zD zC))))
  (zH (vS 4 ju.nd rfl (Or.inl rfl) zC)
  (zH (wj PassesOwn.never rfl (xz rfl B.range_ (zB (zP (xO (zB zD (zB zD (zB zD (zB zD zC))))) (xW (zP (zA 3) zD) zD)) zC)) (zy 5 ju.nd) (zH (zw 6 ju.nd (yg (own:=["_law_j"]) (caps:=[(3,"_law_xs"),(5,"_law_k")]) (yN ju) rfl rfl yR (xz rfl B.range_ (zB (zP (zA 0) zD) zC)) (λ_ _ _ _=>(zy 0 (yA ["_law_j","_law_xs","_law_k"]))) (λ_ _ _ _=>(zQ (uE kZ ap) hr rfl (zB (zP (zA 1) (zx (zx zD (xV zD (zA 2))) (zA 0))) (zB zD zC))))))
   (zH (zw 7 ju.nd (yB (zH1 rfl) zJf rfl B.max_ qQ (zB (yg (own:=["_law_box_here"]) (caps:=[(6,"_law_numbers")]) (yN ju) rfl rfl yR (yj (zA 1)) (λ_ _ _ _=>(zy 0 (yA ["_law_box_here","_law_numbers"]))) (λ_ _ _ _=>(zQ ao hr rfl (zB (zA 1) (zB (zA 0) zC))))) zC)))
   (zH (zw 7 ju.nd (zx (zA 7) (zP (xO (zB zD (zB zD (zB (zP (zA 0) zD) (zB (wG zD) zC))))) (xW (vg (zP (zA 3) zD) zD) zD))))
   (zN (yM (xX (wW cB cF cG yZ (yO 4) (zf (xk jE jL rfl B.tuple_ vc (zB (zx (zA 6) (xO (zB (zA 7) zC))) zC)) yK))) wY))))))
  (zN (vK 4 (zV (zA 4))))))),λds R h=>?_⟩
 obtain ⟨n,bs,ms,u,bxs,c,rfl,T,BB,q⟩:=h
 have n3:=T.n3
 have l1:=BB.l1
 have l4:=BB.l4
 refine ⟨c,12,rfl,by decide,λxs lx hx=>⟨k0,?_⟩⟩
 refine ⟨k0,vm (by decide) (by omega) λx0 _=>⟨by decide,j9 (md x0 (by decide)).1 (by have:=md x0 (show (0:Int) < 4 by decide); show x0.fmod 4 < 4; omega) λz hz=>?_⟩⟩
 obtain ⟨h,rfl,h3⟩:∃ h:Nat,z=.int (h:Int)/\h<=3:=by
  simp only [cu,cW,or_false] at hz
  rcases hz with rfl | rfl | rfl | rfl
  ·exact ⟨1,rfl,by decide⟩
  ·exact ⟨2,rfl,by decide⟩
  ·exact ⟨3,rfl,by decide⟩
  ·exact ⟨0,rfl,by decide⟩
 refine ⟨by omega,by omega,?_⟩
 rw [show ((h:Nat):Int).toNat=h by omega]
 refine ⟨λk Γ=>∃ (g:List (List Int)) (s5 s6 s7:Sl),Γ=[.sh (wQ n bs ms u),.sh (.lst (bxs.map zq)),.sh (.int c),.sh (L xs),.ow (g.map U),s5,s6,s7]/\g.length=k/\∀ r∈g,r.length=n + 1/\(∀ x∈r.take n,Bd 4 x)/\∀ x∈r,Bd 299 x,⟨[],.no,.no,.no,rfl,rfl,λ_ h=>nomatch h⟩,?_,?_⟩
 ·rintro k d Γ' hk ⟨g,s5,s6,s7,rfl,lg,hg⟩
  obtain ⟨kn,rfl⟩:=uR hk
  have bk:Bd 2 (k:Int):=XD (by omega)
  refine ⟨_,rfl,by omega,by omega,?_⟩
  rw [show ((n:Nat):Int).toNat=n by omega]
  refine zi.nums (λx=>Bd 2 x) (by omega) (λj hj=>⟨(Bd.lit (i:=3) (n:=2)).mono,bk.mono,vm (by omega) (by omega) λx1 _=>⟨_,2,rfl,by decide,(Bd.lit (i:=2) (n:=2)).mono,λy y1 y2=>⟨y,rfl,jQ (f:=3) (by decide) (by omega) (by omega)⟩⟩⟩) λnu lnu hnu=>?_
  refine wv zq Xe UR (λb=>.int (zK nu b)) (by omega) (λb hb=>⟨_,_,nu,b,280,rfl,.inl (.inl rfl),.inl rfl,by omega,λx hx=>(hnu x hx).mono,by decide,(BB.bx b hb).bd,rfl⟩) ⟨bxs.map (zK nu),by rw [cw]; rfl,by rw [a_]; omega,λM hM _=>?_⟩
  have bM:Bd 290 M:=by
   obtain ⟨b,hb,rfl⟩:=cr.mp hM
   exact (gJ hnu (BB.bx b hb).bd).mono (by omega)
  refine ⟨_,rfl,k0,vm (by decide) (by omega) λx2 _=>⟨by decide,(Bd.lit (i:=4) (n:=3)).mono,by decide,j9 (md _ (by decide)).1 (by have:=md (x2.fdiv 4) (show (0:Int) < 4 by decide); show (x2.fdiv 4).fmod 4 < 4; omega) λz hz=>?_⟩⟩
  obtain ⟨v,rfl,bv⟩:uw (Bd 290) z:=by
   simp only [cu,cW,or_false] at hz
   rcases hz with rfl | rfl | rfl | rfl
   ·exact ⟨_,rfl,vO⟩
   ·exact ⟨_,rfl,vO⟩
   ·exact ⟨_,rfl,T.bu.mono⟩
   ·exact ⟨_,rfl,(Bd.lit (i:=-1) (n:=1)).mono⟩
  refine ⟨k0,by rw [a_]; show _ + 1<=1000; omega,by rw [a_]; omega,g++[nu++[M + v]],.sh (.int (k:Int)),.sh (L nu),.sh (.int (M + v)),?_,by rw [cj,lg]; rfl,jh hg ⟨by rw [cj,lnu]; rfl,λx hx=>by
   rw [cX (by omega),cL (by omega)] at hx
   exact (hnu x hx).mono,jh (λx hx=>(hnu x hx).mono) ((bM.add bv).mono)⟩⟩
  rw [cx,cT,f_,U,cx]
  rfl
 ·rintro Γ' ⟨g,s5,s6,s7,rfl,lg,hg⟩
  rw [ue] at lg
  exact q g ⟨by omega,hg⟩
theorem zEt (F:zg K "_law_step_shares" "_law_step_shares" zCO f fd) (aF:Fn P w K mg base "_law_beyond" ["_law_mode_here","_law_box_here"] k (zG (Qw))) (au:Fn P w K mg base "_law_both" ["_law_numbers"] k (zG (UJ))):zE P w K mg base zU (k + 1) f fd ["_law_spec","_law_mode_here","_law_row","_law_box_here"] (zG (Xg)):=by
 refine yI F uf λ_ _ _ _ _ _ hr=>⟨_,(zH (qz (zA 1) (w6 rfl (yF 4 uf.nd (yF 5 uf.nd (yF 6 uf.nd (yF 7 uf.nd (yF 8 uf.nd (yF 9 uf.nd w4))))))))
  (zH (ye (yo (zQ aF hr rfl (zB (zA 1) (zB (zA 3) zC)))) (zN (zV (wU (zB zD (zB (zx (zx (zQ au hr rfl (zB (yg (own:=["_law_c"]) (caps:=[]) (yN uf) rfl rfl yR (yj (wH (zP (zA 4) zD) xx (xy (wG zD)))) (λ_ _ _ _=>(zy 0 (yA ["_law_c"]))) (λ_ _ _ _=>(wt zD (zA 0)))) zC)) (xO (zB zD zC))) (xV (xO (zB zD zC)) (xV zD (yB xL xP rfl B.len_ xM (zB (zP (zA 0) zD) zC))))) zC))))) yd)
  (zH (ux 10 false uf.nd rfl rfl (own:=["_law_j"]) (caps:=[(0,"_law_spec"),(2,"_law_row"),(5,"_law_nexts")]) (yN uf) rfl rfl yR (xz rfl B.range_ (zB (zP (zA 0) zD) zC)) (λ_ _ _ _=>(zy 0 (yA ["_law_j","_law_spec","_law_row","_law_nexts"]))) (λ_ _ _ _=>(yB (WS rfl) Wl rfl B.sum_ WR (zB (yg (own:=["_law_i"]) (caps:=[(0,"_law_j"),(2,"_law_row"),(3,"_law_nexts")]) W0 rfl rfl yR (xz rfl B.range_ (zB (zP (zA 1) zD) zC)) (λ_ _ _ _=>(zy 0 (yA ["_law_i","_law_j","_law_row","_law_nexts"]))) (λ_ _ _ _=>(xV (zP (zA 2) (zA 0)) (zP (zP (zA 3) (zA 0)) (zA 1))))) zC))) rfl)
  (zH (ux 11 false uf.nd rfl rfl (own:=["_law_j"]) (caps:=[(0,"_law_spec"),(2,"_law_row"),(7,"_law_push")]) (yN uf) rfl rfl yR (xz rfl B.range_ (zB (yB xL xP rfl B.len_ xM (zB (zP (zA 0) zD) zC)) zC)) (λ_ _ _ _=>(zy 0 (yA ["_law_j","_law_spec","_law_row","_law_push"]))) (λ_ _ _ _=>(yB (WS rfl) Wl rfl B.sum_ WR (zB (yg (own:=["_law_i"]) (caps:=[(0,"_law_j"),(2,"_law_row"),(3,"_law_push")]) W0 rfl rfl yR (xz rfl B.range_ (zB (zP (zA 1) zD) zC)) (λ_ _ _ _=>(zy 0 (yA ["_law_i","_law_j","_law_row","_law_push"]))) (λ_ _ _ _=>(xV (zP (zA 2) (zA 0)) (zP (zP (zA 3) (zA 0)) (zA 1))))) zC))) rfl)
  (zN (zV (wU (zB zD (zB (zx (zx (zQ au hr rfl (zB (zA 10) zC)) (xV (xO (zB zD zC)) (yB xL xP rfl B.len_ xM (zB (zA 4) zC)))) (zQ au hr rfl (zB (zA 11) zC))) zC))))))))),λds R h=>?_⟩
 obtain ⟨n,bs,ms,u,m,r,box,ee,rfl,T,M,lr,br,e4,BX,q⟩:=h
 have n3:=T.n3
 have b2:=T.b2
 have lb:(dG zz bs).length=bs.length:=a_ ..
 have lR:(dG U m.rows).length=m.rows.length:=a_ ..
 have r1:=M.r1
 unfold uG at q
 refine ⟨m,n,bs.length,box,ee,rfl,M,e4,BX,w2 (λc=>?_) λc=>?_⟩
 ·rw [if_pos c] at q
  obtain ⟨r0,t,er⟩:=zSZ c
  have hm:r0∈m.rows:=by rw [er]; exact cq
  have l0:=M.ok.rows r0 hm
  have e0:m.rows.getD 0 []=r0:=by rw [er]; rfl
  refine ⟨U r0,by have h:=y8 (f:=U) (l:=m.rows) (k:=0) [] (by rw [er]; exact Nat.succ_pos _); rw [e0] at h; exact h,?_⟩
  have lt:(r0.take n).length=n:=by rw [cE]; omega
  refine zi.cast (w8 l0) (zi.int (λx=>0 - x) (by omega) (λx hx=>rfl) ⟨_,za (r0.take n),rfl,.inl (.inl rfl),by rw [jk]; omega,?_⟩)
  have rep:cv (2 * (bs.length:Int)).toNat (D.int 0)=(zs (2 * bs.length)).map D.int:=by unfold zs; rw [fQ,show (2 * (bs.length:Int)).toNat=2 * bs.length by omega]
  refine ⟨k0,by rw [a_,vB,jk]; show _ + 1<=1000; omega,k0,_,rfl,(Bd.lit (i:=2) (n:=2)).mono,Bd.mono (n:=4) (jQ (f:=15) (by decide) (by omega) (by omega)) (by decide),by omega,by omega,?_⟩
  rw [lb,rep]
  refine ⟨by rw [cj,a_,a_,vB,jk]; show _ + 1 + (zs _).length<=1000; unfold zs; rw [di]; omega,k0,?_⟩
  unfold jA yk L at q
  rw [e0,cx,cx] at q
  exact q
 rw [if_neg (by rw [show xF n m box=false from c]; decide)] at q
 have lw:(r.take n).length=n:=by rw [cE]; omega
 have gi:∀ i,i < n->r.getD i 0=(r.take n).getD i 0:=λi hi=>by rw [cg,cg,i_,if_pos hi]
 refine ⟨_,rfl,by omega,by omega,?_⟩
 rw [show ((n:Nat):Int).toNat=n by omega]
 refine zi.rng0 (λj=>.int (zm (r.take n) m.nexts j)) (by omega) (λj hj=>?_) ?_
 ·refine ⟨_,rfl,by omega,by omega,?_⟩
  rw [show ((n:Nat):Int).toNat=n by omega]
  refine zi.rng0 (λi=>.int ((r.take n).getD i 0 * (m.nexts.getD i []).getD j 0)) (by omega) (λi hi=>?_) ⟨(cR n).map λi=>(r.take n).getD i 0 * (m.nexts.getD i []).getD j 0,by rw [cw]; rfl,?_⟩
  ·have k2:i < m.nexts.length:=by rw [M.ok.nexts.1]; exact hi
   have b1:Bd 4 (r.getD i 0):=by rw [gi i hi]; exact jg br i
   exact ⟨_,xE (j:=i) (by omega) rfl,_,y8 [] k2,_,xE (j:=j) (by rw [M.ok.nexts.2 _ (wK k2)]; exact hj) rfl,b1.mono,(jg (M.nx _ (wK k2)) j).mono,by rw [gi i hi]⟩
  ·show D.int _=D.int _
   rw [<- Qn (by rw [lw,M.ok.nexts.1]),lw]
 refine ⟨_,rfl,by omega,by omega,?_⟩
 rw [show ((dS (dG zz bs):Nat):Int).toNat=bs.length by omega]
 refine zi.rng0 (λj=>.int (zm (r.take n) m.push j)) (by omega) (λj hj=>?_) ?_
 ·refine ⟨_,rfl,by omega,by omega,?_⟩
  rw [show ((n:Nat):Int).toNat=n by omega]
  refine zi.rng0 (λi=>.int ((r.take n).getD i 0 * (m.push.getD i []).getD j 0)) (by omega) (λi hi=>?_) ⟨(cR n).map λi=>(r.take n).getD i 0 * (m.push.getD i []).getD j 0,by rw [cw]; rfl,?_⟩
  ·have k2:i < m.push.length:=by rw [M.ok.push.1]; exact hi
   have b1:Bd 4 (r.getD i 0):=by rw [gi i hi]; exact jg br i
   exact ⟨_,xE (j:=i) (by omega) rfl,_,y8 [] k2,_,xE (j:=j) (by rw [M.ok.push.2 _ (wK k2)]; exact hj) rfl,b1.mono,(jg (M.ps _ (wK k2)) j).mono,by rw [gi i hi]⟩
  ·show D.int _=D.int _
   rw [<- Qn (by rw [lw,M.ok.push.1]),lw]
 refine ⟨_,uF n (r.take n) m,rfl,.inl (.inl (by unfold uF L; rw [cw]; rfl)),by rw [XW]; omega,?_⟩
 have rep:cv ((m.rows.length:Nat):Int).toNat (D.int 0)=(zs m.rows.length).map D.int:=by unfold zs; rw [fQ,d8]
 refine ⟨k0,by omega,by omega,?_⟩
 rw [lR,rep]
 have lz:(zs m.rows.length).length=m.rows.length:=by unfold zs; rw [di]
 refine ⟨by rw [a_,a_,vB,XW]; omega,_,cM (r.take n) m bs.length,rfl,.inl (.inl (by unfold cM L; rw [cw]; rfl)),by rw [UH]; omega,?_⟩
 refine ⟨by rw [cj,a_,a_,a_,vB,vB,XW,UH]; omega,k0,?_⟩
 unfold Qt yk L at q
 rw [cx,cx] at q
 exact q
theorem zF4 (F:zg K "_law_box_steps" "_law_box_steps" zC5 f fd) (av:Fn P w K mg base "_law_rows" ["_law_box_here"] k (zG (ka))) (bJ:Fn P w K mg base "_law_step_shares" ["_law_spec","_law_mode_here","_law_row","_law_box_here"] k (zG (Xg))):zE P w K mg base zU (k + 1) f fd ["_law_spec","_law_box_here","_law_after"] (zG (zSM)):=by
 refine yI F Uf λ_ _ _ _ _ _ hr=>⟨_,(zH (vS 3 Uf.nd rfl (Or.inl rfl) zC)
  (zH (wj PassesOwn.never rfl (yj (zP (zA 0) zD)) (zy 4 Uf.nd) (zN (yM (xX (wW cB cF cG yZ (yO 3) (zf (yg (own:=["_law_row"]) (caps:=[(0,"_law_spec"),(1,"_law_box_here"),(4,"_law_mode_here")]) (yN Uf) rfl rfl yR (yj (zQ (uE Qh av) hr rfl (zB (zA 2) zC))) (λ_ _ _ _=>(zy 0 (yA ["_law_row","_law_spec","_law_box_here","_law_mode_here"]))) (λ_ _ _ _=>(zQ bJ hr rfl (zB (zA 1) (zB (zA 3) (zB (zA 0) (zB (zA 2) zC))))))) yK))) wY)))
  (zN (vK 3 (zV (zA 3)))))),λds R h=>?_⟩
 obtain ⟨n,bs,ms,u,bx,af,rfl,T,B,A,q⟩:=h
 have n3:=T.n3
 have m3:=T.m3
 have la:=A.len
 refine ⟨k0,_,rfl,?_⟩
 refine ⟨λk Γ=>∃ s4,Γ=[.sh (wQ n bs ms u),.sh (zq bx),.sh (zq af),.ow ((xQ n bs (ms.take k) bx af).map vA),s4],⟨.no,rfl⟩,?_,?_⟩
 ·rintro k d Γ' hk ⟨s4,rfl⟩
  obtain ⟨m,hm,rfl⟩:=u6 hk
  have kl:=(cH.mp hm).1
  refine ⟨af,rfl,by omega,?_⟩
  refine wv U yC jO (λr=>yk (uG n bs bx m r)) (by rw [u8]; omega) (λr hr=>⟨n,bs,ms,u,m,r,bx,280,rfl,T,T.md m (cY hm),(kq la r hr).1,(kq la r hr).2,by decide,B,rfl⟩) ?_
  refine ⟨by unfold xQ; rw [a_,a_,cE]; omega,.sh (ym m),?_⟩
  rw [uN hm]
  unfold xQ
  rw [cx,cx,eE,eE]
  show _=[_,_,_,Sl.ow (_++[D.lst (((zj af).map (uG n bs bx m)).map yk)]),_]
  rw [cw (f:=uG n bs bx m)]
  rfl
 ·rintro Γ' ⟨s4,rfl⟩
  rw [a_,eR]
  exact q
theorem zFU (F:zg K "_law_box_starts" "_law_box_starts" zCm f fd) (av:Fn P w K mg base "_law_rows" ["_law_box_here"] k (zG (ka))) (au:Fn P w K mg base "_law_both" ["_law_numbers"] k (zG (UJ))):zE P w K mg base zU (k + 1) f fd ["_law_box_here"] (zG (Xh)):=by
 refine yI F zCM λ_ _ _ _ _ _ hr=>⟨_,(zH (vS 1 zCM.nd rfl (Or.inl rfl) zC)
  (zH (wj PassesOwn.never rfl (yj (zQ (uE Qh av) hr rfl (zB (zA 0) zC))) (zy 2 zCM.nd) (zN (yM (xX (wW cB cF cG yZ (yO 1) (zf (wU (zB zD (zB (zQ au hr rfl (zB (wH (zA 2) xx (xy (wG zD))) zC)) zC))) yK))) wY)))
  (zN (vK 1 (zV (zA 1)))))),λds R h=>?_⟩
 obtain ⟨bx,n,rfl,n3,lb,q⟩:=h
 refine ⟨k0,bx,rfl,by omega,?_⟩
 refine ⟨λk Γ=>∃ s2,Γ=[.sh (zq bx),.ow ((yf n ((zj bx).take k)).map yk),s2],⟨.no,rfl⟩,?_,?_⟩
 ·rintro k d Γ' hk ⟨s2,rfl⟩
  obtain ⟨r,hr,rfl⟩:=u6 hk
  have kl:=(cH.mp hr).1
  rw [u8] at kl
  have lr:=(kq lb r (cY hr)).1
  refine ⟨_,r.take n,rfl,.inl (.inr (by rw [w8 lr])),by rw [cE]; omega,k0,by unfold yf; rw [a_,a_,cE]; omega,.sh (U r),?_⟩
  rw [uN hr]
  unfold yf
  rw [cx,cx]
  rfl
 ·rintro Γ' ⟨s2,rfl⟩
  rw [a_,eR]
  exact q
theorem zJ6 (F:zg K "_law_parts" "_law_parts" zFE f fd) (al:Fn P w K mg base "_law_stream" ["_law_cell","_law_many"] k (zG (qA))) (aH:Fn P w K mg base "_law_boxes" ["_law_spec","_law_cell"] k (zG (Qz))) (bK:Fn P w K mg base "_law_claim_rows" ["_law_spec","_law_boxes_here","_law_cell"] k (zG (Xf))) (bL:Fn P w K mg base "_law_box_steps" ["_law_spec","_law_box_here","_law_after"] k (zG (zSM))) (au:Fn P w K mg base "_law_both" ["_law_numbers"] k (zG (UJ))) (av:Fn P w K mg base "_law_rows" ["_law_box_here"] k (zG (ka))) (bN:Fn P w K mg base "_law_box_starts" ["_law_box_here"] k (zG (Xh))):zE P w K mg base zU (k + 1) f fd ["_law_spec","_law_cell"] (zG (zSI)):=by
 refine yI F vV λ_ _ _ _ _ _ hr=>⟨_,(zH (zw 2 vV.nd (zQ al hr rfl (zB (zA 1) (zB zD zC))))
  (zH (qz (zQ aH hr rfl (zB (zA 0) (zB (zP (zA 2) zD) zC))) (w6 rfl (yF 3 vV.nd (yF 4 vV.nd w4))))
  (zH (zw 5 vV.nd (xW (zP (zA 2) zD) (yB xL xP rfl B.len_ xM (zB (zA 4) zC))))
  (Ws (zw 6 vV.nd (zP (xO (zB zD (zB (xW (zP (zA 2) zD) zD) (zB (xW (zP (zA 2) zD) (jc zD zD)) zC)))) (xW (zP (zA 2) zD) zD)))
  (zH (zHg 7 false vV.nd rfl rfl (own:=["_law_k"]) (caps:=[(4,"_law_boxes_here"),(5,"_law_back"),(6,"_law_turn")]) (yN vV) rfl rfl yR (xz rfl B.range_ (zB (yB xL xP rfl B.len_ xM (zB (zA 4) zC)) zC)) (λ_ _ _ _=>(zy 0 (yA ["_law_k","_law_boxes_here","_law_back","_law_turn"]))) (λ_ _ _ _=>(PW.pt (wz (Wj (zA 0) (zA 2)) (vR (Wj (zA 0) (zA 3)))))) (λ_ _ _ _=>(zP (zA 1) (zA 0))) rfl)
  (zH (zw 8 vV.nd (zQ bK hr rfl (zB (zA 0) (zB (zA 7) (zB (zP (zA 2) zD) zC)))))
  (zH (zw 9 vV.nd (zx (wH (zA 4) (xy zD) xx) (xO (zB (zP (zA 4) (zA 5)) zC))))
  (zH (ux 10 false vV.nd rfl rfl (own:=["_law_k"]) (caps:=[(0,"_law_spec"),(4,"_law_boxes_here"),(9,"_law_after")]) (yN vV) rfl rfl yR (xz rfl B.range_ (zB (yB xL xP rfl B.len_ xM (zB (zA 4) zC)) zC)) (λ_ _ _ _=>(zy 0 (yA ["_law_k","_law_spec","_law_boxes_here","_law_after"]))) (λ_ _ _ _=>(zQ bL hr rfl (zB (zA 1) (zB (zP (zA 2) (zA 0)) (zB (zP (zA 3) (zA 0)) zC))))) rfl)
  (zH (ux 11 false vV.nd rfl rfl (own:=["_law_box_here"]) (caps:=[(8,"_law_rows_here")]) (yN vV) rfl rfl yR (yj (zA 4)) (λ_ _ _ _=>(zy 0 (yA ["_law_box_here","_law_rows_here"]))) (λ_ _ _ _=>(yg (own:=["_law_row"]) (caps:=[]) W0 rfl rfl yR (yj (zA 1)) (λ_ _ _ _=>(zy 0 (yA ["_law_row"]))) (λ_ _ _ _=>(wU (zB zD (zB (zQ au hr rfl (zB (wH (zA 0) xx (xy (wG zD))) zC)) zC)))))) rfl)
  (zH (ux 12 false vV.nd rfl rfl (own:=["_law_box_here"]) (caps:=[]) (yN vV) rfl rfl yR (yj (zA 4)) (λ_ _ _ _=>(zy 0 (yA ["_law_box_here"]))) (λ_ _ _ _=>(zQ (uE Qh av) hr rfl (zB (zA 0) zC))) rfl)
  (zN (zV (wU (zB (zA 3) (zB (zA 8) (zB (zA 6) (zB (xO (zB (zA 12) (zB (zA 5) (zB (zQ bN hr rfl (zB (zP (zA 4) zD) zC)) (zB (zA 10) (zB (zA 11) zC)))))) zC))))))))))))))))),λds R h=>?_⟩
 obtain ⟨n,bs,ms,u,c,rfl,T,q⟩:=h
 have n3:=T.n3
 obtain ⟨lx,_⟩:=kY c 6
 refine ⟨c,6,rfl,by decide,_,xE (j:=0) (by omega) rfl,n,bs,ms,u,yG c,rfl,T,?_⟩
 obtain ⟨xs,ex⟩:∃ xs,xs=yD c 6:=⟨_,rfl⟩
 rw [<- ex] at lx |-
 have K3:=uX (yG c)
 obtain ⟨inner,ei⟩:∃ x,x=wc (yG c) n u:=⟨_,rfl⟩
 obtain ⟨bxs,eb⟩:∃ x,x=yP n bs ms (bM (yG c) n bs ms u) (kM (yG c)):=⟨_,rfl⟩
 have lbx:bxs.length=kM (yG c) + 1:=by rw [eb,ko]
 rw [<- ei,<- eb]
 have BB:Q0 n bxs:=⟨by omega,by omega,by rw [eb]; exact UQ T⟩
 have l1:=BB.l1
 have l4:=BB.l4
 have lbm:(dG zq bxs).length=bxs.length:=a_ ..
 refine vm (by decide) (by omega) λx1 _=>⟨by omega,?_⟩
 have mb:=md x1 (show (0:Int) < ((dG zq bxs).length:Int) by omega)
 refine ⟨λΓ=>∃ back t:Int,Γ=[.sh (wQ n bs ms u),.sh (.int c),.sh (L xs),.sh (zq inner),.sh (.lst (bxs.map zq)),.sh (.int back),.sh (.int t),.no,.no,.no,.no,.no,.no]/\0<=back/\back < (bxs.length:Int)/\0<=t/\Bd 100 t,?_,?_⟩
 ·refine vm (by decide) (by omega) λx2 h2=>⟨by decide,vm (by decide) (by omega) λx3 h3=>⟨⟨by decide,by decide,by decide⟩,by decide,k0,vm (by decide) (by omega) λx4 _=>⟨by decide,j9 (md _ (by decide)).1 (by have:=md x4 (show (0:Int) < 3 by decide); show x4.fmod 3 < 3; omega) λz hz=>?_⟩⟩⟩
  obtain ⟨t,rfl,t0,bt⟩:∃ t,z=.int t/\0<=t/\Bd 100 t:=by
   simp only [cu,cW,or_false] at hz
   rcases hz with rfl | rfl | rfl
   ·exact ⟨_,rfl,by decide,vO⟩
   ·exact ⟨_,rfl,(md x2 (by decide)).1,(uD (n:=3) Bd.lit (by decide)).mono⟩
   ·exact ⟨_,rfl,(md x3 (by decide)).1,(uD (n:=100) Bd.lit (by decide)).mono⟩
  exact ⟨x1.fmod ((dG zq bxs).length:Int),t,rfl,mb.1,by omega,t0,bt⟩
 rintro Γ' ⟨back,t,rfl,b0,bl,t0,bt⟩
 clear mb
 obtain ⟨bk,rfl⟩:=dZ b0
 have bkl:bk < bxs.length:=by omega
 refine ⟨by omega,by omega,?_⟩
 rw [show ((dS (dG zq bxs):Nat):Int).toNat=bxs.length by omega]
 refine kB.mk (by rw [ue]; omega) (λd=>decide ((bk:Int)<=zv d) || decide (t<=zv d)) (λ_ e=>∃ b∈bxs,e=zq b) (λd hd=>?_) (λd hd _=>?_) λes pe=>?_
 ·obtain ⟨j,hj⟩:=iR.mp hd
  obtain ⟨jl,rfl⟩:=uR hj
  refine w2 (λc=>?_) λc=>?_
  ·show true=(_ || _)
   rw [show decide ((bk:Int)<=zv (.int (j:Int)))=true from c]
   rfl
  ·show _=(_ || _)
   rw [show decide ((bk:Int)<=zv (.int (j:Int)))=false from c]
   rfl
 ·obtain ⟨j,hj⟩:=iR.mp hd
  obtain ⟨jl,rfl⟩:=uR hj
  exact ⟨_,y8 [] jl,_,wK jl,rfl⟩
 obtain ⟨as,rfl,has⟩:∃ as:List (List (Int × Int)),es=as.map zq/\∀ b∈as,b∈bxs:=by
  have key:∀ {ds es:List D},Paired (λ_ e=>∃ b∈bxs,e=zq b) ds es->∃ as:List (List (Int × Int)),es=as.map zq/\∀ b∈as,b∈bxs:=λ{ds es} p=>by
   induction p with
   | nil=>exact ⟨[],rfl,λ_ h=>nomatch h⟩
   | cons h _ ih=>
    obtain ⟨b,hb,rfl⟩:=h
    obtain ⟨as,rfl,ha⟩:=ih
    exact ⟨b :: as,rfl,λy hy=>(cu.mp hy).elim (λz=>z ▸ hb) (ha y)⟩
  exact key pe
 have la:=Paired.length pe
 rw [a_] at la
 have la1:1<=as.length:=by
  rw [<- la]
  refine List.length_pos_of_mem (a:=.int ((bxs.length - 1:Nat):Int)) (dq.mpr ⟨?_,?_⟩)
  ·exact cr.mpr ⟨bxs.length - 1,du.mpr (by omega),rfl⟩
  ·show (decide ((bk:Int)<=((bxs.length - 1:Nat):Int)) || _)=true
   rw [decide_eq_true (by omega)]
   rfl
 have la4:as.length<=4:=by
  have:=iL (λd=>decide ((bk:Int)<=zv d) || decide (t<=zv d)) (rng0 bxs.length)
  rw [ue] at this
  omega
 refine vm (by decide) (by omega) λx5 _=>⟨n,bs,ms,u,as,x5,rfl,T,⟨la1,la4,λb hb=>BB.bx b (has b hb)⟩,λg G1=>?_⟩
 have laf:(bxs.drop 1++[bxs.getD bk []]).length=bxs.length:=by rw [cj,db]; show _ + 1=_; omega
 have haf:∀ b∈bxs.drop 1++[bxs.getD bk []],xY n 280 b:=λb hb=>by
  rcases cZ.mp hb with hb | hb
  ·exact BB.bx b (dB hb)
  ·rw [cQ.mp hb]; exact BB.bx _ (wK bkl)
 have ef:D.lst (zo (bxs.map zq) (some 1) none++[zq (bxs.getD bk [])])=.lst ((bxs.drop 1++[bxs.getD bk []]).map zq):=by
  rw [kX (by decide),cx,fg]
  rfl
 refine ⟨_,y8 [] bkl,k0,by rw [kX (by decide),db,lbm]; show _ + 1<=1000; omega,?_⟩
 rw [ef]
 refine ⟨by omega,by omega,?_⟩
 rw [show ((dS (dG zq bxs):Nat):Int).toNat=bxs.length by omega]
 refine zi.rng0 (λk=>wB (xQ n bs ms (bxs.getD k []) ((bxs.drop 1++[bxs.getD bk []]).getD k []))) (by omega) (λk hk=>⟨_,y8 [] hk,_,y8 [] (by omega),n,bs,ms,u,_,_,rfl,T,BB.bx _ (wK hk),haf _ (wK (by omega)),rfl⟩) ?_
 have l3:=G1.l3
 refine wv zq Xe UR (λ_=>vA (yf n g)) (by omega) (λb _=>?_) ?_
 ·refine wv U yC jO (λr=>yk (1,yp (r.take n))) (by omega) (λr hr=>?_) (by show D.lst _=D.lst _; unfold yf; rw [cw]; rfl)
  have lr:=(G1.row r hr).1
  exact ⟨_,r.take n,rfl,.inl (.inr (by rw [w8 lr])),by rw [cE]; omega,k0,rfl⟩
 refine wv zq Xe UR (λb=>Rm (zj b)) (by omega) (λb hb=>⟨b,rfl,by rw [(BB.bx b hb).len]; omega,rfl⟩) ?_
 have e4:(cR bxs.length).map (λk=>wB (xQ n bs ms (bxs.getD k []) ((bxs.drop 1++[bxs.getD bk []]).getD k [])))=(cR (kM (yG c) + 1)).map λk=>wB (xQ n bs ms (xT n bs ms k (bM (yG c) n bs ms u)) (wC n bs ms (bM (yG c) n bs ms u) (kM (yG c)) bk k)):=by
  rw [lbx]
  refine cN λk hk=>?_
  have hk:=du.mp hk
  have ha:(bxs.drop 1++[bxs.getD bk []])[k]? = some ((bxs.drop 1++[bxs.getD bk []]).getD k []):=Xj (by omega)
  rw [eb] at ha
  have hb:=zOw (by omega) ha (by omega)
  rw [eb,hb,UP (by omega)]
 have b0:bxs.getD 0 []=bM (yG c) n bs ms u:=by rw [eb,UP (by omega)]; rfl
 refine ⟨_,y8 (k:=0) [] (by omega),_,n,rfl,n3,(BB.bx _ (wK (by omega))).len,k0,k0,?_⟩
 have:=q g t bk G1 t0 bt (by omega)
 rw [e4,b0,eb,ei]
 unfold Xi jp vk at this
 rw [cw] at this
 exact this
theorem zF3 (F:zg K "_law_wide_rows" "_law_wide_rows" zC4 f fd) (ao:Fn P w K mg base "_law_top" ["_law_numbers","_law_box_here"] k (zG (Xa))):zE P w K mg base zU (k + 1) f fd ["_law_rows_here","_law_boxes_here"] (zG (Xk)):=by
 refine yI F X3 λ_ _ _ _ _ _ hr=>⟨_,(zH (vS 2 X3.nd rfl (Or.inl rfl) zC)
  (zH (wj PassesOwn.never rfl (yj (zA 0)) (zy 3 X3.nd) (zH (zw 4 X3.nd (yB (zH1 rfl) zJf rfl B.max_ qQ (zB (yg (own:=["_law_box_here"]) (caps:=[(3,"_law_row")]) (yN X3) rfl rfl yR (yj (zA 1)) (λ_ _ _ _=>(zy 0 (yA ["_law_box_here","_law_row"]))) (λ_ _ _ _=>(zQ ao hr rfl (zB (wH (zA 1) xx (xy (wG zD))) (zB (zA 0) zC))))) zC)))
   (zN (yM (xX (wW cB cF cG yZ (yO 2) (zf (zx (wH (zA 3) xx (xy (wG zD))) (wU (zB (yB (ZU rfl) YK rfl B.max_ qQ (zB (zA 4) (zB (zP (zA 3) (wG zD)) zC))) zC))) yK))) wY))))
  (zN (vK 2 (zV (zA 2)))))),λds R h=>?_⟩
 obtain ⟨n,g,bxs,rfl,n3,G1,BB,q⟩:=h
 have l1:=BB.l1
 have l4:=BB.l4
 have l3:=G1.l3
 refine ⟨k0,?_⟩
 refine ⟨λk Γ=>∃ (g':List (List Int)) (s3 s4:Sl),Γ=[.sh (Rm g),.sh (.lst (bxs.map zq)),.ow (g'.map U),s3,s4]/\Wd n bxs (g.take k) g',⟨[],.no,.no,rfl,rfl,λ_ h=>nomatch h⟩,?_,?_⟩
 ·rintro k d Γ' hk ⟨g',s3,s4,rfl,W⟩
  obtain ⟨r,hr,rfl⟩:=u6 hk
  have kl:=(cH.mp hr).1
  obtain ⟨lr,br,ba⟩:=G1.row r (cY hr)
  have lt:(r.take n).length=n:=by rw [cE]; omega
  have lg:g'.length<=3:=by
   have:=congrArg dS W.sam
   rw [a_,a_,cE] at this
   omega
  refine wv zq Xe UR (λb=>.int (zK (r.take n) b)) (by omega) (λb hb=>⟨_,_,r.take n,b,280,rfl,.inl (.inr (by rw [w8 lr])),.inl rfl,by omega,λx hx=>(br x hx).mono,by decide,(BB.bx b hb).bd,rfl⟩) ⟨bxs.map (zK (r.take n)),by rw [cw]; rfl,by rw [a_]; omega,λM hM hle=>?_⟩
  have bM:Bd 290 M:=by
   obtain ⟨b,hb,rfl⟩:=cr.mp hM
   exact (gJ br (BB.bx b hb).bd).mono (by omega)
  have bl:Bd 299 (r.getD n 0):=jg ba n
  refine ⟨_,kR lr,k0,?_⟩
  rw [w8 lr]
  refine ⟨by rw [a_]; show _ + 1<=1000; omega,by rw [a_]; omega,g'++[r.take n++[max M (r.getD n 0)]],.sh (U r),.sh (.int M),?_,?_⟩
  ·rw [cx,eE,<- Q1]
   rfl
  ·have tn:(r.take n++[max M (r.getD n 0)]).take n=r.take n:=by rw [cX (by omega),cL (by omega)]
   refine ⟨by rw [uN hr,cx,cx,W.sam,eE,eE,tn],jh W.row ⟨by rw [cj,lt]; rfl,jh (λx hx=>(br x hx).mono) (XI bM.mono bl),λb hb=>?_⟩⟩
   rw [tn,u7 lt]
   have:=hle _ (cr.mpr ⟨b,hb,rfl⟩)
   omega
 ·rintro Γ' ⟨g',s3,s4,rfl,W⟩
  rw [a_,eR] at W
  exact q g' W
theorem zNV (F:zg K "_law_odd" "_law_odd" Ug f fd):zE P w K mg base zU (k + 1) f fd ["_law_parts_here","_law_cell"] (zG (zSK)):=by
 refine yI F ug λ_ _ _ _ _ _ hr=>?_
 conv in (xU Ug)=>whnf
 generalize hL1:(Expr.List [(Expr.Constant (Const.int 0) 0 ⟨426,18,426,19⟩),(Expr.Constant (Const.int 1) 0 ⟨426,21,426,22⟩),(Expr.Constant (Const.int 2) 0 ⟨426,24,426,25⟩),(Expr.Constant (Const.int 3) 0 ⟨426,27,426,28⟩),(Expr.Constant (Const.int 4) 0 ⟨426,30,426,31⟩),(Expr.Constant (Const.int 4) 0 ⟨426,33,426,34⟩),(Expr.Constant (Const.int 4) 0 ⟨426,36,426,37⟩),(Expr.Constant (Const.int 4) 0 ⟨426,39,426,40⟩),(Expr.Constant (Const.int 4) 0 ⟨426,42,426,43⟩),(Expr.Constant (Const.int 4) 0 ⟨426,45,426,46⟩),(Expr.Constant (Const.int 5) 0 ⟨426,48,426,49⟩),(Expr.Constant (Const.int 6) 0 ⟨426,51,426,52⟩),(Expr.Constant (Const.int 7) 0 ⟨426,54,426,55⟩)] ⟨426,17,426,56⟩)=l1
 have pl1:∀ {X:Cx},PE X l1 _:=Q2 hL1 (ns:=[0,1,2,3,4,4,4,4,4,4,5,6,7]) rfl
 refine ⟨_,(zH (qz (zA 0) (w6 rfl (yF 2 ug.nd (yF 3 ug.nd (yF 4 ug.nd (yF 5 ug.nd (yF 6 ug.nd w4)))))))
  (zH (zw 7 ug.nd (xW (vg (zA 1) zD) (yB xL xP rfl B.len_ xM (zB (zA 2) zC))))
  (zH (zw 8 ug.nd (zP (zP (zA 2) (zA 7)) zD))
  (zH (zw 9 ug.nd (xO (zB (xk vq vz rfl B.list_ xr (zB (zA 8) zC)) (zB (zx (zA 8) (wU (zB zD zC))) (zB (wH (zA 8) (xy zD) xx) (zB (zx (wH (zA 8) xx (xy (wG zD))) (wU (zB xj zC))) (zB (zx (wH (zA 8) xx (xy (wG zD))) (wU (zB zOR zC))) (zB jJ zC))))))))
  (zH (zw 10 ug.nd (zx (xO (zB (zP (zA 9) (xW (vg (zA 1) zD) zD)) zC)) (wH (zP (zA 2) (zA 7)) (xy zD) xx)))
  (zH (vS 11 ug.nd rfl (Or.inl rfl) (zB (xO zC) (zB jJ (zB (xk jE jL rfl B.tuple_ vc (zB (zA 2) zC)) zC))))
  (zH (yM (xX (wW cB cF cG yZ (yO 11) (zf (zx (zx (wH (zA 2) xx (xy (zA 7))) (xO (zB jJ zC))) (wH (zA 2) (xy (zx (zA 7) zD)) xx)) yK))) wY)
  (Ws (yM (xX (wW cB cF cG yZ (yO 11) (zf (zx (zx (wH (zA 2) xx (xy (zA 7))) (xO (zB (zA 10) zC))) (wH (zA 2) (xy (zx (zA 7) zD)) xx)) yK))) wY)
  (zH (zw 12 ug.nd (zP pl1 (xW (zA 1) zD)))
  (zH (ye (Wi (zA 12) zD) (zN (zV (xO (zB (zOS 11 (zA 12) (λ_ _=>rfl)) (zB (zA 3) (zB (zA 4) (zB (zA 5) (zB (zA 6) zC)))))))) yd)
  (zH (ye (jK hr.units (zA 12) zD) (zN (zV (xO (zB (zA 2) (zB (zA 3) (zB jJ (zB (zA 5) (zB (zA 6) zC)))))))) yd)
  (zH (ye (jK hr.units (zA 12) zD) (zN (zV (xO (zB (zA 2) (zB (zA 3) (zB (zA 4) (zB jJ (zB (zA 6) zC)))))))) yd)
  (zN (zV (xO (zB (zA 2) (zB (zA 3) (zB (zA 4) (zB (zA 5) (zB jJ zC)))))))))))))))))))),λds R h=>?_⟩
 obtain ⟨n,rooms,BK,A1,A2,A3,c,rfl,n3,l1,l4,RS,ne,q⟩:=h
 have ll:(rooms.map Rm).length=rooms.length:=a_ ..
 have ma:=md (c.fdiv 13) (show (0:Int) < (rooms.length:Int) by omega)
 have mb:=md (c.fdiv 52) (show (0:Int) < 6 by decide)
 have mc:=md c (show (0:Int) < 13 by decide)
 obtain ⟨j,ej⟩:=dZ ma.1
 have jl:j < rooms.length:=by omega
 have hj:=RS.rm _ (wK (z:=[]) jl)
 obtain ⟨r,t,er⟩:∃ r t,rooms.getD j []=r :: t:=by
  have:=ne _ (wK (z:=[]) jl)
  cases h:rooms.getD j [] with
  | nil=>rw [h] at this; cases this
  | cons r t=>exact ⟨r,t,rfl⟩
 have lr:r.length=n + 1:=(hj.row r (by rw [er]; exact cq)).1
 have few:=hj.few
 rw [er,cJ] at few
 have l9:(r.map D.int).length=n + 1:=by rw [a_]; exact lr
 have hin:∀ {lo hi:Option Int},∀ d∈zo (rooms.map Rm) lo hi,Fw 4 d:=λd hd=>by
  obtain ⟨x,hx,rfl⟩:=cr.mp (zOu.1 d hd)
  exact Q3 n3 (RS.rm x hx)
 have jx:∀ {lo hi:Option Int},(zo (rooms.map Rm) lo hi).length<=4:=λ{lo hi}=>by
  have:=(zOu (xs:=rooms.map Rm) (lo:=lo) (hi:=hi)).2
  omega
 have ef:zo (r.map D.int) (some 1) none=(r.drop 1).map D.int:=by rw [show (1:Int)=((1:Nat):Int) from rfl,UC,fg]
 have eg:zo ((r :: t).map U) (some 1) none=t.map U:=by rw [show (1:Int)=((1:Nat):Int) from rfl,UC]; rfl
 refine ⟨by decide,(Bd.lit (i:=13) (n:=5)).mono,by rw [ll]; omega,?_⟩
 rw [ll,ej]
 refine ⟨_,y8 [] jl,?_⟩
 rw [er]
 refine ⟨U r,by unfold yx vp; rw [if_pos (by decide),if_pos (by rw [a_]; show (0:Int) < ((t.length + 1:Nat):Int); omega)]; rfl,?_⟩
 refine ⟨k0,by rw [l9]; show _ + 1<=1000; omega,k0,by rw [w8 lr,a_,cE]; show _ + 1<=1000; omega,k0,by rw [w8 lr,a_,cE]; show _ + 1<=1000; omega,k0,?_⟩
 rw [w8 lr,ef]
 refine ⟨by decide,(Bd.lit (i:=52) (n:=7)).mono,by decide,j9 mb.1 mb.2 λz hz=>⟨k0,_,y8 [] jl,?_⟩⟩
 rw [er]
 obtain ⟨fz,bz⟩:=zPt lr n3 z hz
 obtain ⟨rm,erm⟩:∃ rm,rm=D.lst ([z]++t.map U):=⟨_,rfl⟩
 refine ⟨by rw [eg,a_]; show 1 + _<=1000; omega,k0,?_⟩
 rw [eg,<- erm]
 have lA:∀ y:D,(zo (rooms.map Rm) none (some ((j:Nat):Int))).length + [y].length<=1000:=λy=>by have:=jx (lo:=none) (hi:=some ((j:Nat):Int)); show _ + 1<=1000; omega
 have lB:∀ y:D,(zo (rooms.map Rm) none (some ((j:Nat):Int))++[y]).length + (zo (rooms.map Rm) (some ((j:Nat) + 1:Int)) none).length<=1000:=λy=>by have h1:=jx (lo:=none) (hi:=some ((j:Nat):Int)); have h2:=jx (lo:=some ((j:Nat) + 1:Int)) (hi:=none); rw [cj]; show _ + 1 + _<=1000; omega
 refine ⟨k0,k0,lA _,lB _,k0,?_⟩
 obtain ⟨s3,e3⟩:∃ s3,s3=D.lst (zo (rooms.map Rm) none (some ((j:Nat):Int))++[.non]++zo (rooms.map Rm) (some ((j:Nat) + 1:Int)) none):=⟨_,rfl⟩
 obtain ⟨s4,e4⟩:∃ s4,s4=D.lst (zo (rooms.map Rm) none (some ((j:Nat):Int))++[rm]++zo (rooms.map Rm) (some ((j:Nat) + 1:Int)) none):=⟨_,rfl⟩
 refine ⟨λΓ=>∃ s9,Γ=[.sh (jp rooms BK A1 A2 A3),.sh (.int c),.sh (vk rooms),.sh BK,.sh A1,.sh A2,.sh A3,.sh (.int (j:Int)),.sh (U r),s9,.sh rm,.ow [.lst [],.non,.tup (rooms.map Rm),s3,s4],.no],⟨k0,lA _,lB _,k0,_,by rw [e3,e4] <;> rfl⟩,?_⟩
 rintro Γ' ⟨s9,rfl⟩
 have l44:(zo (rooms.map Rm) none (some ((j:Nat):Int))).length + (zo (rooms.map Rm) (some ((j:Nat) + 1:Int)) none).length<=800:=by have h1:=jx (lo:=none) (hi:=some ((j:Nat):Int)); have h2:=jx (lo:=some ((j:Nat) + 1:Int)) (hi:=none); omega
 have hs3:=Q4 (k:=4) (f:=kF (n:Int)) hin hin l44 (.non:Fw 4 .non) rfl
 have hrm:=Q4 (k:=3) (f:=vN (n:Int)) (X:=[]) (Y:=t.map U) (λ_ h=>nomatch h) (λd hd=>by
  obtain ⟨x,hx,rfl⟩:=cr.mp hd
  exact Y0 (by rw [(hj.row x (by rw [er]; exact cn _ hx)).1]; omega)) (by rw [a_]; show 0 + _<=800; omega) fz bz
 have hs4:=Q4 (k:=4) (f:=kF (n:Int)) (z:=rm) hin hin l44 (by rw [erm]; exact hrm.1) (by rw [erm]; exact hrm.2)
 refine ⟨k0,by decide,j9 mc.1 mc.2 λy hy=>?_⟩
 obtain ⟨a,rfl,ha⟩:∃ a:Int,y=.int a/\(a=0\/a=1\/a=2\/a=3\/a=4\/a=5\/a=6\/a=7):=by
  obtain ⟨a,ha,rfl⟩:=cr.mp hy
  refine ⟨a,rfl,?_⟩
  simp only [cu,cW,or_false] at ha
  omega
 rcases ha with rfl | rfl | rfl | rfl | rfl | rfl | rfl | rfl
 ·exact wT rfl ⟨_,rfl,k0,q _ _ _ _ (.inl ⟨.lst (eO _) λ_ h=>(nomatch h),.inr rfl,rfl,rfl,rfl⟩)⟩
 ·exact wT rfl ⟨_,rfl,k0,q _ _ _ _ (.inl ⟨.non,.inl rfl,rfl,rfl,rfl⟩)⟩
 ·exact wT rfl ⟨_,rfl,k0,q _ _ _ _ (.inl ⟨.tup (by rw [ll]; omega) λd hd=>by
   obtain ⟨x,hx,rfl⟩:=cr.mp hd
   exact Q3 n3 (RS.rm x hx),.inl rfl,rfl,rfl,rfl⟩)⟩
 ·exact wT rfl ⟨_,rfl,k0,q _ _ _ _ (.inl ⟨e3 ▸ hs3.1,.inl (by rw [e3]; exact hs3.2),rfl,rfl,rfl⟩)⟩
 ·exact wT rfl ⟨_,rfl,k0,q _ _ _ _ (.inl ⟨e4 ▸ hs4.1,.inl (by rw [e4]; exact hs4.2),rfl,rfl,rfl⟩)⟩
 ·exact wF rfl (wT rfl ⟨k0,q _ _ _ _ (.inr ⟨rfl,.inl ⟨rfl,rfl,rfl⟩⟩)⟩)
 ·exact wF rfl (wF rfl (wT rfl ⟨k0,q _ _ _ _ (.inr ⟨rfl,.inr (.inl ⟨rfl,rfl,rfl⟩)⟩)⟩))
 ·exact wF rfl (wF rfl (wF rfl ⟨k0,q _ _ _ _ (.inr ⟨rfl,.inr (.inr ⟨rfl,rfl,rfl⟩)⟩)⟩))
theorem zLX {cC:Addr} (Z:Er K mg cC) (F:zg K "_law_open" "_law_open" zGk f fd) (x_lets_by:jy P w K mg base "lets_by" ["thing","claim","paper"] k (j4 (XC ai ah cC 2))) (aI:Fn P w K mg base "_law_made" ["_law_spec"] k (zG (Qv ai ah))):zE P w K mg base zU (k + 1) f fd ["_law_spec","_law_claim_here","_law_paper"] (zG (zSJ)):=by
 refine yI F X4 λ_ _ _ _ _ _ hr=>⟨_,(zH (ux 3 false X4.nd rfl rfl (own:=["_law_mode_here"]) (caps:=[]) (yN X4) rfl rfl yR (yj (zP (zA 0) zD)) (λ_ _ _ _=>(zy 0 (yA ["_law_mode_here"]))) (λ_ _ _ _=>(wU (zB (zP (zA 0) zD) (zB (zP (zA 0) zD) (zB (zx (xO (zB zD zC)) (zK6 (zP (zA 0) zD) (xy zD) xx)) (zB (zP (zA 0) zD) (zB (zP (zA 0) zD) (zB (zP (zA 0) zD) zC)))))))) rfl)
  (zH (zw 4 X4.nd xj)
  (zH (yM (zPQ rfl Z.mgC rfl rfl rfl (zK8 (zNA (zLD x_lets_by hr rfl (zB (zQ aI hr rfl (zB (wU (zB (zP (zA 0) zD) (zB (zP (zA 0) zD) (zB (zA 3) (zB (zP (zA 0) zD) zC))))) zC)) (zB (zA 1) (zB (zA 2) zC))))) zM9) (λ_=>(zN (zw 4 X4.nd xj)))) zO9)
  (zN (zV (zA 4)))))),λds R h=>?_⟩
 obtain ⟨n,bs,ms,u,c,p,rfl,TO,q⟩:=h
 have m40:=TO.m40
 have n3:=TO.n3
 refine ⟨_,rfl,zi.at (λd e=>∀ m∈ms,d=ym m->e=jj false (gN m)) (by rw [a_]; omega) (λd hd=>?_) λes pe=>?_⟩
 ·obtain ⟨m,hm,rfl⟩:=cr.mp hd
  have o:=TO.mok m hm
  have ls:=o.steer
  have ec:zo (m.steer.map D.int) (some 1) none=(m.steer.drop 1).map D.int:=by rw [show (1:Int)=((1:Nat):Int) from rfl,UC,fg]
  refine ⟨_,rfl,_,rfl,k0,_,rfl,by rw [ec,a_,db]; show 1 + _<=1000; omega,_,rfl,_,rfl,_,rfl,k0,λm' hm' e'=>?_⟩
  rw [<- zPH e',ec]
  rfl
 ·have ee:es=(ms.map gN).map (jj false):=by
   rw [cw]
   exact zQ6 pe
  rw [ee]
  obtain ⟨ok,cl⟩:=zPq TO
  exact ⟨_,rfl,_,rfl,_,rfl,k0,false,n,bs,ms.map gN,u,rfl,ok,cC,⟨n,bs,ms.map gN,[c,p],rfl,rfl,ok,cl,rfl⟩,Z.cc,q⟩
theorem gT {d0:Nat} (F:zg K "_law_emptied" "_law_emptied" zDg f fd) (aJ:Fn P w K mg base "_law_emptied" ["_law_thing_here"] k (gO d0)):zE P w K mg base zU (k + 1) f fd ["_law_thing_here"] (gO (d0 + 1)):=by
 refine F.ok zEi (λvs H Q E h=>?_) (λcdv A outer s H vs Q E hr h=>?_)
 ·obtain ⟨_,_,rfl,_⟩:=h
  rfl
 obtain ⟨v,d,rfl,hv,f,q⟩:=h
 refine ⟨_,(vQ (ZH (Ur (xh zMQ rfl B.isinstance_ xq (zf (yO 0) (zf (zOY (zf (wm (v:=.ty "list") (u:=.type "list") rfl B.list_ xr rfl) (zf (wm (v:=.ty "tuple") (u:=.type "tuple") rfl B.tuple_ vc rfl) yK))) yK)))) (jv (zOU PassesOwn.never rfl (zOW (yO 0)) (Uw (i:=1) zEi.nd rfl (Or.inl rfl)) (jv (xX (JO aJ hr rfl (zf (yO 1) yK)))))) gX)
  (jv (ZH (Ur (xh Zl rfl B.isinstance_ xq (zf (yO 0) (zf (wm (v:=.ty "list") (u:=.type "list") rfl B.list_ xr rfl) yK)))) (jv (xX (JG cB fR fT JI (yO 0)))) gX))),?_⟩
 try dsimp only [zW,Cx.nox,Cx.wish]
 refine ⟨_,rfl,(by show 2<=sizeLine; decide),λp hp=>?_⟩
 have m0:=Em.new hp (HO.tup [.ty "list",.ty "tuple"])
 have m0s:∀ {a u},H a=some u->zY H p (HO.tup [.ty "list",.ty "tuple"]) a=some u:=λe=>(zc (xZ e hp)).trans e
 have hv0:=hv.same (qR hp (HO.tup [.ty "list",.ty "tuple"]))
 have key:∀ o H1,Em H H1->(qH (tB (gg (Ja K) (jD (vH 0) (jD (tC (V.ty "list")) wn)))) (gY (Za K "list" zOQ (vH 0))) WD { nx:=λ_ H'=>Q V.non H',rt:=Q }) [some v,o] H1:=λo H1 m=>by
  obtain ⟨d',hd',f'⟩:=Q6 m f hv
  obtain ⟨t,ty,_,_,kl,_⟩:=kA (K:=K) hd' f'.no
  refine ⟨_,rfl,v,"list",t,_,rfl,ty,kl,_,rfl,?_⟩
  cases hd' with
  | lst e h=>exact JQ rfl ⟨_,rfl,.inl ⟨rfl,_,zZ.of e⟩,_,_,rfl,rfl,e,q _ (m.trans (Em.clear e))⟩
  | frz e h=>cases f'
  | _=>exact zRu rfl (q _ m)
 refine ⟨v,p,d,rfl,wS,hv0,f.no,_,rfl,?_⟩
 cases f with
 | lst l ff=>
  refine JQ rfl ?_
  obtain ⟨a,xs,rfl,e,hx⟩:=hv.lst_inv
  refine ⟨_,rfl,.inl ⟨a,rfl,⟨xs,zZ.of (m0s e)⟩,λi m σ' H'=>(∃ o,σ'=[some (V.ref a),o])/\Em H H'/\i + m=xs.length,⟨xs.length,⟨none,rfl⟩,m0,by omega⟩,?_⟩⟩
  rintro i m σ' H' ⟨⟨o,rfl⟩,mm,hm⟩
  have go:∀ (D0:yq) (z:H' a=some (.lst xs)) (hi:i < xs.length),∃ N:St->Hp->Prop,(∀ σ' H',N σ' H'->∃ m',m' < m/\((∃ o,σ'=[some (V.ref a),o])/\Em H H'/\i + 1 + m'=xs.length))/\∀ x H2,(WE K a).yld i H' x H2->ga 1 x [some (V.ref a),o] H2 λσ2 H2=>gY (jX (gO d0) [] E0 (jD (vH 1) wn)) { D0 with nx:=N,ct:=N,bk:=D0.nx } σ2 H2:=λD0 z hi=>by
   refine ⟨λσ2 H2=>(∃ o,σ2=[some (V.ref a),o])/\Em H H2,λσ2 H2 k=>⟨m - 1,by omega,k.1,k.2,by omega⟩,λx H2 ⟨e2,hy⟩=>?_⟩
   subst e2
   obtain ⟨b,hb,hd⟩:=JW hx (hy xs (zZ.of z))
   obtain ⟨b',hd',f'⟩:=Q6 mm (ff b (cY hb)) hd
   exact ⟨x,rfl,x,b',rfl,hd',f',λH3 m3=>⟨⟨_,rfl⟩,mm.trans m3⟩⟩
  rcases mm.l a xs e with z | z
  ·by_cases hi:i < xs.length
   ·exact .inr ⟨⟨xs,xs[i],zZ.of z,ck hi⟩,go _ z hi⟩
   ·exact .inl ⟨⟨xs,zZ.of z,by omega⟩,key o H' mm⟩
  ·exact .inl ⟨⟨[],zZ.of z,eO _⟩,key o H' mm⟩
 | tup l ff=>
  refine JQ rfl ?_
  obtain ⟨a,xs,rfl,e,hx⟩:=hv.tup_inv
  refine ⟨_,rfl,.inr ⟨a,rfl,⟨xs,yQ.of (m0s e)⟩,λi m σ' H'=>(∃ o,σ'=[some (V.ref a),o])/\Em H H'/\i + m=xs.length,⟨xs.length,⟨none,rfl⟩,m0,by omega⟩,?_⟩⟩
  rintro i m σ' H' ⟨⟨o,rfl⟩,mm,hm⟩
  have go:∀ (D0:yq) (z:H' a=some (.tup xs)) (hi:i < xs.length),∃ N:St->Hp->Prop,(∀ σ' H',N σ' H'->∃ m',m' < m/\((∃ o,σ'=[some (V.ref a),o])/\Em H H'/\i + 1 + m'=xs.length))/\∀ x H2,(WF K a).yld i H' x H2->ga 1 x [some (V.ref a),o] H2 λσ2 H2=>gY (jX (gO d0) [] E0 (jD (vH 1) wn)) { D0 with nx:=N,ct:=N,bk:=D0.nx } σ2 H2:=λD0 z hi=>by
   refine ⟨λσ2 H2=>(∃ o,σ2=[some (V.ref a),o])/\Em H H2,λσ2 H2 k=>⟨m - 1,by omega,k.1,k.2,by omega⟩,λx H2 ⟨e2,hy⟩=>?_⟩
   subst e2
   obtain ⟨b,hb,hd⟩:=JW hx (hy xs (yQ.of z))
   obtain ⟨b',hd',f'⟩:=Q6 mm (ff b (cY hb)) hd
   exact ⟨x,rfl,x,b',rfl,hd',f',λH3 m3=>⟨⟨_,rfl⟩,mm.trans m3⟩⟩
  have z:H' a=some (.tup xs):=mm.o a _ e λxs y=>nomatch y
  by_cases hi:i < xs.length
  ·exact .inr ⟨⟨xs,xs[i],yQ.of z,ck hi⟩,go _ z hi⟩
  ·exact .inl ⟨⟨xs,yQ.of z,by omega⟩,key o H' mm⟩
 | _=>exact zRu rfl (key none _ m0)
theorem zJ8 (hI:∀ H:Hp,yX.I H) (F:zg K "_law_claim" "_law_claim" zFG f fd) (aM:wp P w K mg base aSettles ["self","start","rows","turn"] k (vM aSettles (zSG aSettles)) (.int 0)):zE P w K mg base zU (k + 1 + 1) f fd ["_law_start","_law_rows_here","_law_turn","_law_cell"] (zG (Xq aSettles)):=by
 refine F.ok Uh (λvs H Q E h=>?_) (λcdv A outer s H vs Q E hr h=>?_)
 ·obtain ⟨Z,_,R,zd,hv,⟨n,S,A,t,c,rfl,_⟩,_⟩:=h
  exact wI hv
 obtain ⟨Z,_,R,zd,hv,⟨n,S,A,t,c,rfl,n3,rs,ra,hR⟩,q⟩:=h
 refine ⟨_,(kD (vQ (zw 4 Uh.nd (wU (zB (xk vq vz rfl B.list_ xr (zB (zA 0) zC)) (zB (xk vq vz rfl B.list_ xr (zB (zA 1) zC)) zC))))
  (kD (vQ (ZH (PW.pt (Jq (jK hr.units (zA 2) zD) (Jp (jK hr.units (xW (zA 3) zD) zD)))) (jv (gc (i:=5) Uh.nd rfl (Or.inl rfl) (zM7 (.int 0) (λ_=>.int 0) aM TSettles hr rfl (zB (zP (zA 4) zD) (zB (zP (zA 4) zD) zC))))) (jv (gc (i:=5) Uh.nd rfl (Or.inl rfl) (Wv aM.fn TSettles hr rfl (zB (zP (zA 4) zD) (zB (zP (zA 4) zD) (zB (zA 2) zC)))))))
  (KF (vQ (xX (JG cB fR fT JI (WN zLr (yO 4) Uq (λ_ _=>rfl))))
  (vQ (xX (JG cB fR fT JI (WN zLr (yO 4) Uq (λ_ _=>rfl))))
  (jv (zOT (yO 5)))))))))),?_⟩
 try dsimp only [zW,Cx.nox,Cx.wish]
 have E0:=Wz (N:=["_law_start","_law_rows_here","_law_turn","_law_cell","_law_handed","_law_claim_here"]) (ps:=["_law_start","_law_rows_here","_law_turn","_law_cell"]) zd hv rfl
 intro Hf f0
 have Ef:zr Z [.sh (zT (Rm S)),.sh (zT (.frz (A.map U))),.sh (zT (.int t)),.sh (zT (.int c)),.no,.no] _ Hf:=KB hI E0 f0
 rw [k6,UW,zT,zT] at Ef
 refine ⟨_,_,_,_,{ nx:=λΓ=>Γ=[.sh (.frz (S.map U)),.sh (.frz (A.map U)),.sh (.int t),.sh (.int c),.sh (.tup [Rm S,Rm A]),.no],rt:=λ_=>False },UU Ef rfl,⟨k0,rfl⟩,?_,λ_ _ _ _ _ z=>z.elim,λ_ _ _ _ _ _ z=>z.elim,λ_ _ _ _ _ _ z=>z.elim⟩
 rintro Z1 _ σ1 J1 E1 _ rfl J1f f1
 have E2:zr Z1 [.sh (zT (.frz (S.map U))),.sh (zT (.frz (A.map U))),.sh (zT (.int t)),.sh (zT (.int c)),.sh (zT (.tup [Rm S,Rm A])),.no] _ J1f:=KB hI E1.e f1
 rw [UW,UW,zT,zT,zT,ze,ze,ze,k6,k6] at E2
 obtain ⟨v4,g4,d4⟩:=E1.e.sh 4 _ rfl
 obtain ⟨p,xs,rfl,ep,hx⟩:=d4.tup_inv
 obtain ⟨x0,x1,rfl,hx0,hx1⟩:=uu hx
 obtain ⟨h0,ys0,rfl,e00,_⟩:=hx0.lst_inv
 obtain ⟨h1,ys1,rfl,e11,_⟩:=hx1.lst_inv
 have ep:=zl _ _ ep
 have e00:=zl _ _ e00
 have e11:=zl _ _ e11
 have fS:Fw 5 (Rm S):=UX n3 rs
 have fA:Fw 5 (Rm A):=UX n3 ra
 have mk:∀ {R:D->Prop},R (xf aSettles S A t)->∃ s g u,[D.frz (S.map U),.frz (A.map U),.int t]=[s,g,u]/\Fq 6 s/\Fq 6 g/\R (.obj aSettles UA [y4 s,y4 g,u]):=λ{R} h=>by
  have a1:=fS.fz
  have a2:=fA.fz
  rw [k6] at a1 a2
  exact ⟨_,_,_,rfl,a1.1,a2.1,by rw [a1.2,a2.2]; exact h⟩
 have E9:zr Z1 [.sh (.frz (S.map U)),.sh (.frz (A.map U)),.sh (.int t),.sh (.int c),.sh (.tup [.frz (S.map U),.frz (A.map U)]),.no] σ1 J1f:=E2
 have lσ:σ1.length=6:=E1.e.len.symm
 refine ⟨_,_,λb=>b=true->t=0,E9,w2 (λc1=>⟨by decide,λ_=>of_decide_eq_true c1⟩) λc1 z=>(nomatch z),λb H1 hb s1=>?_⟩
 have E9:=E9.same s1
 have fin:∀ v5 J2,Sm H1 J2->DV (zJ Z1 J2) v5 (xf aSettles S A t)->C2 H Hf J1 J1f J2 h0 h1 ys0 ys1/\wJ (TC H h0 h1) J2 p=some (.tup [.ref h0,.ref h1])/\p≠h0/\Q v5 (JC H J2 h0 h1)/\∃ ys,zY (wJ (TC H h0 h1) J2) h0 (.lst []) h1=some (.lst ys):=λv5 J2 s2 d5=>by
  have c2:C2 H Hf J1 J1f J2 h0 h1 ys0 ys1:=⟨f0,E1.same,e00,e11,f1,s1.trans s2⟩
  have e2:=c2.s2.at (uH f1 ep λ_ y=>nomatch y)
  have e3:wJ (TC H h0 h1) J2 p=some (.tup [.ref h0,.ref h1]):=(jf λo xs z=>by rw [e2] at z; cases z).trans e2
  refine ⟨c2,e3,ZC e3 c2.at0 λz=>(nomatch z),q _ v5 _ hR (c2.sm hI) (c2.dv E1.z0 d5 ?_),?_⟩
  ·rw [yV,zu,zu,zu,zu,fS.kd,fA.kd,yV]; rfl
  ·by_cases z:h1=h0
   ·rw [z]; exact ⟨_,wS⟩
   ·exact ⟨_,(zc z).trans c2.at1⟩
 have g4:∀ v5:V,(σ1.set 5 (some v5))[4]? = some (some (V.ref p)):=λv5=>(da (by decide)).trans g4
 have g5:∀ v5:V,(σ1.set 5 (some v5))[5]? = some (some v5):=λv5=>dD (by rw [lσ]; decide)
 have mk2:∀ {R:D->Prop},b=true->R (xf aSettles S A t)->∃ s g u,[D.frz (S.map U),.frz (A.map U),.int 0]=[s,g,u]/\Fq 6 s/\Fq 6 g/\R (.obj aSettles UA [y4 s,y4 g,u]):=λ{R} hb1 h=>by have:=mk h; rw [hb hb1] at this; exact this
 cases b
 all_goals first | rw [if_pos rfl] | rw [if_neg cV]
 case' false=>refine ⟨_,_,λd=>d=xf aSettles S A t,E9,⟨_,rfl,_,rfl,mk (R:=λd=>d=xf aSettles S A t) rfl⟩,?_⟩
 case' true=>refine ⟨_,_,λd=>d=xf aSettles S A t,E9,⟨_,rfl,_,rfl,mk2 (R:=λd=>d=xf aSettles S A t) rfl rfl⟩,?_⟩
 all_goals
  rintro _ v5 J2 rfl s2 d5
  obtain ⟨c2,etp,pne,fq,ys,e8⟩:=fin v5 J2 s2 d5
  refine ⟨TC H h0 h1,c2.ok,.ref p,g4 v5,p,_,_,_,rfl,rfl,yQ.of etp,rfl,.inl ⟨rfl,_,zZ.of c2.at0⟩,h0,ys0,rfl,rfl,c2.at0,?_⟩
  exact ⟨.ref p,g4 v5,p,_,_,_,rfl,rfl,yQ.of ((zc pne).trans etp),rfl,.inl ⟨rfl,_,zZ.of e8⟩,h1,ys,rfl,rfl,e8,_,g5 v5,fq⟩
theorem zRd (hI:∀ H:Hp,yX.I H) (F:zg K "law" "law" k8 f fd) (aJ:Fn P w K mg base "_law_emptied" ["_law_thing_here"] (k + 1) (gO 7)) (bO:Fn P w K mg base "_law_open" ["_law_spec","_law_claim_here","_law_paper"] (k + 1) (zG (zSJ))) (bP:Fn P w K mg base "lets_by" ["thing","claim","paper"] (k + 1) (zG (UB ai ah aSettles aRooms))) (aI:Fn P w K mg base "_law_made" ["_law_spec"] (k + 1) (zG (Qv ai ah))) (bQ:Fn P w K mg base "_law_claim" ["_law_start","_law_rows_here","_law_turn","_law_cell"] (k + 1) (zG (Xq aSettles))) (av:Fn P w K mg base "_law_rows" ["_law_box_here"] (k + 1) (zG (ka))) (bS:jH P w K mg base aRooms ["self","rooms","back","starts","steps","stays"] k (vM aRooms (zSH aRooms))) (bT:Fn P w K mg base "_law_odd" ["_law_parts_here","_law_cell"] (k + 1) (zG (zSK))) (bU:Fn P w K mg base "_law_wide_rows" ["_law_rows_here","_law_boxes_here"] (k + 1) (zG (Xk))) (aG:Fn P w K mg base "_law_hull" ["_law_one","_law_other"] (k + 1) (zG (Qx))) (az:Fn P w K mg base "_law_image" ["_law_spec","_law_box_here"] (k + 1) (zG (jo))) (aH:Fn P w K mg base "_law_boxes" ["_law_spec","_law_cell"] (k + 1) (zG (Qz))) (al:Fn P w K mg base "_law_stream" ["_law_cell","_law_many"] (k + 1) (zG (qA))) (ar:Fn P w K mg base "_law_cell_at" ["_law_script","_law_k"] (k + 1) (zG (UF))) (bV:Fn P w K mg base "_law_parts" ["_law_spec","_law_cell"] (k + 1) (zG (zSI))) (bW:Fn P w K mg base "_law_thing" ["_law_script"] (k + 1) (zG (fTh))):zE P w K mg base zU (k + 1 + 1) f fd ["_law_script"] Ua:=by
 refine F.ok uI (λvs H Q E h=>?_) (λcdv A outer s H vs Q E hr h=>?_)
 ·obtain ⟨_,_,_,rfl,_⟩:=h
  rfl
 obtain ⟨a,o,ns,rfl,ha,ho,q⟩:=h
 refine ⟨_,(zK5 (zw 1 uI.nd (zQ bW hr rfl (zB (zA 0) zC)))
  (kD (zJC (zw 2 uI.nd (zQ ar hr rfl (zB (zA 0) (zB zD zC))))
  (Q8 (qz (zQ bV hr rfl (zB (zA 1) (zB (zQ ar hr rfl (zB (zA 0) (zB zD zC))) zC))) (w6 rfl (yF 3 uI.nd (yF 4 uI.nd (yF 5 uI.nd (yF 6 uI.nd w4))))))
  (Q8 (qz (zQ aH hr rfl (zB (zA 1) (zB (zP (zQ al hr rfl (zB (zQ ar hr rfl (zB (zA 0) (zB zD zC))) (zB zD zC))) zD) zC))) (w6 rfl (yF 7 uI.nd (yF 8 uI.nd w4))))
  (Q8 (ye (zPM hr.units (zQ aG hr rfl (zB (zP (zA 8) zD) (zB (zQ az hr rfl (zB (zA 1) (zB (zP (zA 8) zD) zC))) zC))) (zP (zA 8) zD)) (zN (zV xj)) yd)
  (zJC (zw 4 uI.nd (zQ bU hr rfl (zB (zA 4) (zB (zA 8) zC))))
  (zK5 (ye (jK hr.units (xW (zA 2) zD) zD) (zN (zw 6 uI.nd (zQ bT hr rfl (zB (zA 6) (zB (vg (zA 2) zD) zC))))) yd)
  (kD (vQ (gc (i:=9) uI.nd rfl (Or.inl rfl) (Wv bS TRooms hr rfl (zB (zP (zA 6) zD) (zB (zP (zA 6) zD) (zB (zP (zA 6) zD) (zB (zP (zA 6) zD) (zB (zP (zA 6) zD) zC)))))))
  (kD (vQ (gc (i:=10) uI.nd rfl (Or.inl rfl) (zQ bQ hr rfl (zB (zQ av hr rfl (zB (zA 3) zC)) (zB (zA 4) (zB (zA 5) (zB (vg (zA 2) zD) zC))))))
  (kD (KF (vQ (xX (JO aJ hr rfl (zf (yO 6) yK)))
  (KF (zH (ye (PW.pt (wz (xS (yo (yL (xh qX rfl B.isinstance_ xq (zf (zA 9) (zf (qW TPaper rfl) yK))) gA))) (vR (xS (yo (yL (xh qX rfl B.isinstance_ xq (zf (zA 10) (zf (qW TClaim rfl) yK))) gA)))))) (zN (zV xj)) yd)
  (zH (ye (xS (yo (zQ bO hr rfl (zB (zA 1) (zB (zA 10) (zB (zA 9) zC)))))) (zN (zV xj)) yd)
  (zH (zw 11 uI.nd (zQ bP hr rfl (zB (zQ aI hr rfl (zB (zA 1) zC)) (zB (zA 10) (zB (zA 9) zC)))))
  (zN (zV (wg (yL (xh vG rfl B.isinstance_ xq (zf (zA 11) (zf (wm (v:=.ty "bool") (u:=.type "bool") rfl B.bool_ zGT rfl) yK))) (vT zJN)) (vh (uc hr.units (zA 11) (uc hr.units (xW (zA 2) zD) zD))))))))))))))))))))))))),?_⟩
 try dsimp only [zW,Cx.nox,Cx.wish]
 have hm:∀ {b:Addr} {u:HO} {H':Hp},H b=some u->Sm H H'->H' b=some u:=λ{b u H'} e s=>by
  obtain ⟨o,xs,rfl⟩:=ho b u e
  exact s.at e
 have E0:zr (λ_=>False) [.sh (.scr ns),.no,.no,.no,.no,.no,.no,.no,.no,.no,.no,.no] (L2.we ["_law_script","_law_spec","_law_cell","_law_inner","_law_rows_here","_law_turn","_law_parts_here","_law_box_here","_law_boxes_here","_law_paper","_law_claim_here","_law_found"] [.ref a]) H:=Wz (N:=["_law_script","_law_spec","_law_cell","_law_inner","_law_rows_here","_law_turn","_law_parts_here","_law_box_here","_law_boxes_here","_law_paper","_law_claim_here","_law_found"]) (ps:=["_law_script"]) (ds:=[.scr ns]) ⟨λ_ z=>z.elim,hI H⟩ (.cons (.scr ⟨o,xb (λz=>z) ha⟩) .nil) rfl
 refine ⟨_,_,_,_,λΓ=>∃ n bs ms u,Γ=[.sh (.scr ns),.sh (UE n bs ms u),.no,.no,.no,.no,.no,.no,.no,.no,.no,.no]/\wa n bs ms u,UU E0 rfl,⟨ns,rfl,λn bs ms u T=>⟨n,bs,ms,u,rfl,T⟩⟩,q,?_⟩
 rintro Z1 _ σ1 H1 E1 _ ⟨n,bs,ms,u,rfl,T⟩ H2 f1
 have s01:=E1.same
 have E2:zr Z1 [.sh (zT (.scr ns)),.sh (zT (UE n bs ms u)),.no,.no,.no,.no,.no,.no,.no,.no,.no,.no] σ1 H2:=KB hI E1.e f1
 rw [zR8,zP9] at E2
 have n3:=T.n3
 have n1:=T.n1
 have K3:=uX (yG (ns.getD 5 0))
 have BB:=UQ (c:=yG (ns.getD 5 0)) T
 have lx:(yP n bs ms (bM (yG (ns.getD 5 0)) n bs ms u) (kM (yG (ns.getD 5 0)))).length=(kM (yG (ns.getD 5 0))) + 1:=ko
 have x0:(yP n bs ms (bM (yG (ns.getD 5 0)) n bs ms u) (kM (yG (ns.getD 5 0)))).getD 0 []=(bM (yG (ns.getD 5 0)) n bs ms u):=UP (eO _)
 have B0:xY n 280 (bM (yG (ns.getD 5 0)) n bs ms u):=x0 ▸ BB _ (wK (by omega))
 refine ⟨_,_,_,_,λΓ=>∃ g' t b e0 e1 e2 e3,Γ=[.sh (.scr ns),.sh (wQ n bs ms u),.sh (.int (ns.getD 6 0)),.sh (zq (wc (yG (ns.getD 5 0)) n u)),.sh (Rm g'),.sh (.int t),.sh (.lst [e0,.int b,e1,e2,e3]),.sh (zq (wc (yG (ns.getD 5 0)) n u)),.sh (.lst ((yP n bs ms (bM (yG (ns.getD 5 0)) n bs ms u) (kM (yG (ns.getD 5 0)))).map zq)),.no,.no,.no]/\0<=t/\wZ g' n/\jr n bs ms (decide ((ns.getD 6 0).fmod 2=0)) (zj (wc (yG (ns.getD 5 0)) n u)) g' t b e0 e1 e2 e3,UU E2 rfl,?_,q,?_⟩
 ·refine ⟨ns,6,rfl,by decide,?_⟩
  refine ⟨λΓ=>∃ g t b,Γ=[.sh (.scr ns),.sh (wQ n bs ms u),.sh (.int (ns.getD 6 0)),.sh (zq (wc (yG (ns.getD 5 0)) n u)),.sh (Rm g),.sh (.int t),.sh (Xi n bs ms (bM (yG (ns.getD 5 0)) n bs ms u) (kM (yG (ns.getD 5 0))) b g),.no,.no,.no,.no,.no]/\gM n g/\0<=t/\b<=(kM (yG (ns.getD 5 0))),⟨ns,5,rfl,by decide,n,bs,ms,u,ns.getD 5 0,rfl,T,λg t b G t0 bt hb=>⟨g,t,b,rfl,G,t0,hb⟩⟩,?_⟩
  rintro Γ' ⟨g,t,b,rfl,G,t0,hb⟩
  refine ⟨λΓ=>Γ=[.sh (.scr ns),.sh (wQ n bs ms u),.sh (.int (ns.getD 6 0)),.sh (zq (wc (yG (ns.getD 5 0)) n u)),.sh (Rm g),.sh (.int t),.sh (Xi n bs ms (bM (yG (ns.getD 5 0)) n bs ms u) (kM (yG (ns.getD 5 0))) b g),.sh (zq (wc (yG (ns.getD 5 0)) n u)),.sh (.lst ((yP n bs ms (bM (yG (ns.getD 5 0)) n bs ms u) (kM (yG (ns.getD 5 0)))).map zq)),.no,.no,.no],⟨ns,5,rfl,by decide,ns.getD 5 0,6,rfl,by decide,_,xE (j:=0) (by rw [(kY _ _).1]; decide) rfl,n,bs,ms,u,yG (ns.getD 5 0),rfl,T,rfl⟩,?_⟩
  rintro Γ' rfl
  refine ⟨λΓ=>Γ=[.sh (.scr ns),.sh (wQ n bs ms u),.sh (.int (ns.getD 6 0)),.sh (zq (wc (yG (ns.getD 5 0)) n u)),.sh (Rm g),.sh (.int t),.sh (Xi n bs ms (bM (yG (ns.getD 5 0)) n bs ms u) (kM (yG (ns.getD 5 0))) b g),.sh (zq (wc (yG (ns.getD 5 0)) n u)),.sh (.lst ((yP n bs ms (bM (yG (ns.getD 5 0)) n bs ms u) (kM (yG (ns.getD 5 0)))).map zq)),.no,.no,.no]/\wR (bM (yG (ns.getD 5 0)) n bs ms u) (xG n bs ms (bM (yG (ns.getD 5 0)) n bs ms u))=(bM (yG (ns.getD 5 0)) n bs ms u),?_,?_⟩
  ·refine ⟨_,y8 (k:=0) [] (by omega),_,y8 (k:=0) [] (by omega),n,bs,ms,u,_,280,rfl,T,by decide,by decide,BB _ (wK (by omega)),?_⟩
   rw [x0]
   refine ⟨_,_,rfl,by rw [B0.len]; exact n3,_,y8 (k:=0) [] (by omega),?_⟩
   rw [x0]
   refine ⟨zRA _,zRA _,w2 (λc1=>rfl) λc1=>⟨rfl,?_⟩⟩
   have c1:(true != eU _ _)=false:=c1
   rw [zSQ] at c1
   exact of_decide_eq_true ((show ∀ x:Bool,(true != x)=false->x=true by decide) _ c1)
  rintro Γ' ⟨rfl,hh⟩
  refine ⟨n,g,(yP n bs ms (bM (yG (ns.getD 5 0)) n bs ms u) (kM (yG (ns.getD 5 0)))),rfl,n3,G,⟨by omega,by omega,BB⟩,λg' W=>?_⟩
  have Y:=zPZ (t:=t) T hh hb G W
  have RM:=Xv G W
  refine ⟨by decide,w2 (λc1=>?_) λc1=>⟨g',t,_,_,_,_,_,rfl,t0,RM,?_⟩⟩
  ·have RS:=KL T BB K3
   refine ⟨by decide,(Bd.lit (i:=2) (n:=2)).mono,n,_,_,_,_,_,_,rfl,n3,by rw [a_]; omega,by rw [a_]; omega,RS,λr hr=>?_,λe0 e1 e2 e3 h=>⟨g',t,_,e0,e1,e2,e3,rfl,t0,RM,?_⟩⟩
   ·obtain ⟨x,hx,rfl⟩:=cr.mp hr
    rw [u8,(BB x hx).len]
    omega
   ·rw [decide_eq_false (by have:=of_decide_eq_true c1; omega)]
    exact zPa (zRJ T BB K3 hb G) RS (by omega) h
  ·rw [decide_eq_true (by have:=of_decide_eq_false c1; have:=md (ns.getD 6 0) (show (0:Int) < 2 by decide); omega)]
   exact Y
 rintro Z _ σ J1 E3 _ ⟨g',t,b,e0,e1,e2,e3,rfl,t0,RM,pp⟩ J1f f2
 have lσ:σ.length=12:=E3.e.len.symm
 have fr1:∀ {a:Addr} {o:Obj} {u:HO},H a=some (.frz o u)->J1 a=some (.frz o u):=λe=>E3.same.at (uH f1 (s01.at e) λ_ z=>nomatch z)
 have get:∀ {i:Nat} {d:D},slot [.sh (.scr ns),.sh (wQ n bs ms u),.sh (.int (ns.getD 6 0)),.sh (zq (wc (yG (ns.getD 5 0)) n u)),.sh (Rm g'),.sh (.int t),.sh (.lst [e0,.int b,e1,e2,e3]),.sh (zq (wc (yG (ns.getD 5 0)) n u)),.sh (.lst ((yP n bs ms (bM (yG (ns.getD 5 0)) n bs ms u) (kM (yG (ns.getD 5 0)))).map zq)),.no,.no,.no] i=.sh d->∃ v,σ[i]? = some (some v)/\DV (zJ (λ_=>False) J1) v d:=λ{i d} e=>by
  obtain ⟨v,h1,h2⟩:=E3.e.sh i d e
  exact ⟨v,h1,h2.same (Zw λ_ z=>z.elim)⟩
 obtain ⟨v1,g1,d1⟩:=get (i:=1) rfl
 obtain ⟨v2,g2,d2⟩:=get (i:=2) rfl
 obtain ⟨v3,g3,d3⟩:=get (i:=3) rfl
 obtain ⟨v4,g4,d4⟩:=get (i:=4) rfl
 obtain ⟨v5,g5,d5⟩:=get (i:=5) rfl
 obtain ⟨v6,g6,d6⟩:=get (i:=6) rfl
 clear get E3 E2 E1 E0
 have lI:(wc (yG (ns.getD 5 0)) n u).length<=3:=by rw [(gL T).len]; exact n3
 have rs:wZ (zj (wc (yG (ns.getD 5 0)) n u)) n:=zOx n3 (gL T) (by decide)
 generalize (wc (yG (ns.getD 5 0)) n u)=I at d3 lI rs pp
 generalize ns.getD 6 0=c at d2 pp
 have z0:∀ J:Hp,∀ b,(λ_:Addr=>False) b->∃ u,J b=some u/\∀ xs,u≠.tup xs:=λ_ _ z=>z.elim
 have f6:zT (.lst [e0,.int b,e1,e2,e3])=.frz [zT e0,.int b,zT e1,zT e2,zT e3]:=by rw [zT,ze,ze,ze,ze,ze,ze,zT]
 have d6f:=d6.fz f2
 rw [f6] at d6f
 have Ea:=jq (KC hI (σ:=σ) (z0 J1f)) g6 d6f
 rw [lσ] at Ea
 refine ⟨_,_,λd=>d=.obj aRooms Y7 [e0,.int b,e1,e2,e3],Ea,?_,?_⟩
 ·refine ⟨_,rfl,_,rfl,_,rfl,_,rfl,_,rfl,zT e0,_,zT e1,zT e2,zT e3,rfl,pp.f0.fz.1,pp.f1.fz.1,pp.f2.2.fz,pp.f3.fz.1,?_⟩
  rw [pp.f0.fz.2,pp.f1.fz.2,pp.f2.1.fz.2,pp.f3.fz.2]
 rintro _ v9 J2 rfl s2 dP J2f f3
 clear Ea
 have up:∀ {v:V} {d:D},DV (zJ (λ_=>False) J1) v d->DV (zJ (λ_=>False) J2f) v (zT (zT d)):=λ{v d} h=>((h.fz f2).same (yt s2)).fz f3
 have u3:=up d3
 rw [Xz,zR9] at u3
 have u4:=up d4
 rw [k6,UW] at u4
 cases d5
 cases d2
 have at9:∀ {i:Nat} {v:V},i≠9->σ[i]? = some (some v)->(σ.set 9 (some v9))[i]? = some (some v):=λa h=>(da (Ne.symm a)).trans h
 have Eb:=jq (jq (jq (jq (KC hI (σ:=σ.set 9 (some v9)) (z0 J2f)) (at9 (by decide) g3) u3) (at9 (by decide) g4) u4) (i:=5) (at9 (by decide) g5) (.int t)) (i:=2) (at9 (by decide) g2) (.int c)
 rw [e7,lσ] at Eb
 refine ⟨_,_,λd=>d=xf aSettles (zj I) g' t,Eb,⟨_,I,rfl,.inr rfl,by omega,by decide,(Bd.lit (i:=2) (n:=2)).mono,n,zj I,g',t,_,rfl,n3,rs,RM,rfl⟩,?_⟩
 rintro _ v10 J4 rfl s4 dC J4f f5
 clear Eb u3 u4 up
 have ch:Ch J1 J1f J2 J2f J4 J4f:=⟨f2,s2,f3,s4,f5⟩
 have keep:∀ {i:Nat} {v:V},i≠9->i≠10->σ[i]? = some (some v)->((σ.set 9 (some v9)).set 10 (some v10))[i]? = some (some v):=λa b h=>(da (Ne.symm b)).trans (at9 a h)
 have f9:Fw 7 (.lst [e0,.int b,e1,e2,e3]):=.lst (by show 5<=900; decide) λd hd=>by
  simp only [cu,cW,or_false] at hd
  rcases hd with rfl | rfl | rfl | rfl | rfl
  ·exact pp.f0.mono
  ·exact .int _
  ·exact pp.f1.mono
  ·exact pp.f2.1
  ·exact pp.f3.mono
 refine ⟨T1 J1,(λa ⟨xs,e⟩ o u z=>by have z:=fr1 z; rw [e] at z; cases z),⟨v6,keep (by decide) (by decide) g6,v6,_,rfl,ch.parts d6 f9,f9,λJ6 em=>?_⟩⟩
 refine ⟨T3 J2 J4,λa z o u y=>?_,?_⟩
 ·obtain ⟨_,_,e⟩:=ho a _ y
  cases e
  have k2:=ch.k2 Xw (fr1 y)
  rcases z with ⟨ys,z⟩ | ⟨ys,z⟩
  ·rw [k2] at z; cases z
  ·rw [(ch.k4 Xw k2).1] at z; cases z
 have kP:yV true false (.obj aRooms Y7 [e0,.int b,e1,e2,e3])=true:=by
  have:=f9.kd
  rw [yV,eQ] at this
  rw [yV]
  exact this
 have kC:yV true false (xf aSettles (zj I) g' t)=true:=by rw [yV,zu,zu,zu,zu,(UX n3 rs).kd,(UX n3 RM).kd,yV]; rfl
 have h9:((σ.set 9 (some v9)).set 10 (some v10))[9]? = some (some v9):=(da (by decide)).trans (dD (by rw [lσ]; decide))
 have h10:((σ.set 9 (some v9)).set 10 (some v10))[10]? = some (some v10):=dD (by rw [e7,lσ]; decide)
 have Ed:=jq (jq (jq (jq (KC hI (σ:=(σ.set 9 (some v9)).set 10 (some v10)) (z0 (wJ (T3 J2 J4) J6))) (keep (by decide) (by decide) g1) (ch.spec em d1 (zRq n bs ms u))) (i:=2) (keep (by decide) (by decide) g2) (.int c)) h9 (ch.paper em dP kP)) h10 (ch.claim em dC kC)
 rw [e7,e7,lσ] at Ed
 refine ⟨_,_,_,_,{ nx:=λ_=>False,rt:=λd=>d=.bool true },UU Ed rfl,?_,λ_ _ _ _ _ _ z=>z.elim,λd v H' _ dv e=>by subst e; cases dv; exact q H',λ_ _ _ _ _ _ z=>z.elim,λ_ _ _ _ _ _ z=>z.elim⟩
 clear Ed h9 h10 kP kC em ch keep at9
 refine ⟨⟨_,_,TRooms⟩,_,Y.k_Rooms_Paper,wF rfl ⟨⟨_,_,TSettles⟩,_,Y.k_Settles_Claim,wF rfl ?_⟩⟩
 refine ⟨n,bs,ms,u,_,_,rfl,T.ok,?_⟩
 refine wF (by decide) ?_
 refine ⟨true,n,bs,ms,u,rfl,T.ok,n,bs,ms,zj I,g',t,e0,.int b,e1,e2,e3,6,rfl,T.ths,rs,RM,t0,pp.f0.mono,T.cl,?_⟩
 rcases pp.alt with ⟨hb,hf⟩ | ⟨rooms,rfl,RS,a1,a2,a3,hl⟩
 ·exact .inl ⟨hb,rfl,wT rfl ⟨by decide,by show D.bool (false == decide (c.fmod 2=0))=_; rw [hf]; rfl⟩⟩
 ·refine .inr ⟨rooms,rfl,RS,rfl,pp.f1.mono,pp.f2.1,pp.f3.mono,a1,a2,a3,?_⟩
  rw [hl]
  exact ⟨rfl,wT rfl ⟨by decide,by show D.bool (decide (c.fmod 2=0) == decide (c.fmod 2=0))=_; rw [beq_self_eq_true]⟩⟩
end
end K56
namespace L2
open PySem PySem.Spec PyProof.Rows
theorem Ui {α:Type} {P:List α->Prop} (h:∀ x0:α,P [x0]):∀ us:List α,us.length=1->P us
 | [x0],_=>h x0
theorem X5 {α:Type} {P:List α->Prop} (h:∀ x0 x1:α,P [x0,x1]):∀ us:List α,us.length=2->P us
 | [x0,x1],_=>h x0 x1
theorem X6 {α:Type} {P:List α->Prop} (h:∀ x0 x1 x2:α,P [x0,x1,x2]):∀ us:List α,us.length=3->P us
 | [x0,x1,x2],_=>h x0 x1 x2
theorem X7 {α:Type} {P:List α->Prop} (h:∀ x0 x1 x2 x3:α,P [x0,x1,x2,x3]):∀ us:List α,us.length=4->P us
 | [x0,x1,x2,x3],_=>h x0 x1 x2 x3
theorem Uj {α:Type} {P:List α->Prop} (h:∀ x0 x1 x2 x3 x4:α,P [x0,x1,x2,x3,x4]):∀ us:List α,us.length=5->P us
 | [x0,x1,x2,x3,x4],_=>h x0 x1 x2 x3 x4
theorem Uk {α:Type} {P:List α->Prop} (h:∀ x0 x1 x2 x3 x4 x5:α,P [x0,x1,x2,x3,x4,x5]):∀ us:List α,us.length=6->P us
 | [x0,x1,x2,x3,x4,x5],_=>h x0 x1 x2 x3 x4 x5
theorem Ul {α:Type} {P:List α->Prop} (h:∀ x0 x1 x2 x3 x4 x5 x6:α,P [x0,x1,x2,x3,x4,x5,x6]):∀ us:List α,us.length=7->P us
 | [x0,x1,x2,x3,x4,x5,x6],_=>h x0 x1 x2 x3 x4 x5 x6
structure Gf (K:W.Frag) (x:Str) (st:Stmt) (f:Addr) (fd:FuncData):Prop where
 at_:W.nsIn K mainGlobals x=some (some (.ref f))
 F:zg K x x st f fd
noncomputable abbrev Ge (K:W.Frag) (x:Str) (st:Stmt):Prop:=∃ f fd,Gf K x st f fd
structure Gm (K:W.Frag) (C:Addr) (x q:Str) (st:Stmt) (f:Addr) (fd:FuncData):Prop where
 at_:W.findIn K (.ref C) x=some (some (.ref f))
 fn:W.isFn K (.ref f)=true
 F:zg K x q st f fd
noncomputable abbrev Gn (K:W.Frag) (C:Addr) (x q:Str) (st:Stmt):Prop:=∃ f fd,Gm K C x q st f fd
structure Gd (K:W.Frag) (x:Str) (st:Stmt) (f:Addr) (fd:FuncData) (d:Value):Prop where
 at_:W.nsIn K mainGlobals x=some (some (.ref f))
 F:xN K x x st f fd d
noncomputable abbrev Gi (K:W.Frag) (x:Str) (st:Stmt) (i:Int):Prop:=∃ f fd t,Gd K x st f fd (.int i t)
structure Gk (K:W.Frag) (C:Addr) (x q:Str) (st:Stmt) (f:Addr) (fd:FuncData) (d:Value):Prop where
 at_:W.findIn K (.ref C) x=some (some (.ref f))
 fn:W.isFn K (.ref f)=true
 F:xN K x q st f fd d
noncomputable abbrev Gj (K:W.Frag) (C:Addr) (x q:Str) (st:Stmt) (i:Int):Prop:=∃ f fd t,Gk K C x q st f fd (.int i t)
structure Gc (K:W.Frag) (x:Str) (C:Addr):Prop where
 nm:W.nsIn K mainGlobals x=some (some (.ref C))
 pg:W.plainGet K C Str.empty=true
 hd:W.hasDictIn K C=true
 po:W.plainOver K C=true
 sa:W.findIn K (.ref C) "__setattr__" = some (some (.builtin "object.__setattr__"))
 mk_:W.makesIn K C=true
 kc:W.keepIn K (.ref C)=true
 ha:W.findIn K (.ref C) "__class__" = some (some (.builtin "object.__class__"))
 hn:W.specialIn K (.builtin "object.__class__") "__get__" = some (some (.builtin "getset_descriptor.__get__"))
 tk:W.takesIn K (.builtin "object.__class__")=some true
 hm:W.mroIn K C (.type "object")=some true
section
variable {P:Program} {w:World} {K:W.Frag} {mg:Str->Option Value} {base h:Heap} {x q:Str} {st:Stmt} {f C T:Addr} {fd:FuncData} {ps:List Str} {k:Nat} {sp:Sp} {oc kV doc pm cdv ct oT:Value} {od an dT:Option Addr} {osl sT:Array (Option Value)}
theorem X8 (a:W.nsIn K mainGlobals x=some (some (.ref f))) (l:K.lookup f=some ⟨oc,od,.func (W.fnOf x x (wo st) (xU st) (zR st) .none kV doc pm an cdv ct),osl⟩) (c:W.codeIn K cdv x=true) (k:W.keepIn K (.ref f)=true):Ge K x st:=⟨f,_,a,zOi l c k⟩
theorem X9 (a:W.findIn K (.ref C) x=some (some (.ref f))) (i:W.isFn K (.ref f)=true) (l:K.lookup f=some ⟨oc,od,.func (W.fnOf x q (wo st) (xU st) (zR st) .none kV doc pm an cdv ct),osl⟩) (c:W.codeIn K cdv q=true) (k:W.keepIn K (.ref f)=true):Gn K C x q st:=⟨f,_,a,i,zOi l c k⟩
theorem WA {i:Int} {t:Tok} {n:Nat} (a:W.nsIn K mainGlobals x=some (some (.ref f))) (l:K.lookup f=some ⟨oc,od,.func (W.fnOf x x (wo st) (xU st) (zR st) (.ref T) kV doc pm an cdv ct),osl⟩) (c:W.codeIn K cdv x=true) (k:W.keepIn K (.ref f)=true) (d:K.lookup T=some ⟨oT,dT,.seq #[.int i t] n,sT⟩):Gi K x st i:=⟨f,_,t,a,zLz l c k d rfl⟩
theorem WB {i:Int} {t:Tok} {n:Nat} (a:W.findIn K (.ref C) x=some (some (.ref f))) (z:W.isFn K (.ref f)=true) (l:K.lookup f=some ⟨oc,od,.func (W.fnOf x q (wo st) (xU st) (zR st) (.ref T) kV doc pm an cdv ct),osl⟩) (c:W.codeIn K cdv q=true) (k:W.keepIn K (.ref f)=true) (d:K.lookup T=some ⟨oT,dT,.seq #[.int i t] n,sT⟩):Gj K C x q st i:=⟨f,_,t,a,z,zLz l c k d rfl⟩
theorem Gc.cls (g:Gc K x C) (X:K.In h) (G:h.Ns mainGlobals mg):yi K mg x C:=⟨⟨g.pg,g.hd,g.po,g.sa⟩,W.mg_of X G g.nm,g.ha,g.hn,g.tk,g.hm⟩
noncomputable abbrev Bn (x q:Str) (st:Stmt) (ps:List Str):Prop:=∀ (kV doc pm:Value) (an:Option Addr) (cdv ct:Value) (us:List Value),us.length=ps.length->bindArgs (W.fnOf x q (wo st) (xU st) (zR st) .none kV doc pm an cdv ct) ⟨us,[]⟩=pure (ps.zip us)
structure Wh (P:Program) (w:World) (K:W.Frag) (mg:Str->Option Value) (base h:Heap):Prop where
 X:K.In h
 G:h.Ns mainGlobals mg
theorem Gf.fn (g:Gf K x st f fd) (Y:Wh P w K mg base h) (o:zE P w K mg base zU k f fd ps sp) (b:Bn x x st ps:=by intro _ _ _ _ _ _; first | exact L2.Ui λ_=>rfl | exact L2.X5 λ_ _=>rfl | exact L2.X6 λ_ _ _=>rfl | exact L2.X7 λ_ _ _ _=>rfl | exact L2.Uj λ_ _ _ _ _=>rfl | exact L2.Uk λ_ _ _ _ _ _=>rfl | exact L2.Ul λ_ _ _ _ _ _ _=>rfl):Fn P w K mg base x ps k sp:=⟨f,fd,o,W.mg_of Y.X Y.G g.at_,g.F.kp,g.F.binds b⟩
theorem Gf.fx (g:Gf K x st f fd) (Y:Wh P w K mg base h) (o:zE P w K mg base (xi P w) k f fd ps sp) (b:Bn x x st ps:=by intro _ _ _ _ _ _; first | exact L2.Ui λ_=>rfl | exact L2.X5 λ_ _=>rfl | exact L2.X6 λ_ _ _=>rfl | exact L2.X7 λ_ _ _ _=>rfl | exact L2.Uj λ_ _ _ _ _=>rfl | exact L2.Uk λ_ _ _ _ _ _=>rfl | exact L2.Ul λ_ _ _ _ _ _ _=>rfl):jy P w K mg base x ps k sp:=⟨f,fd,o,W.mg_of Y.X Y.G g.at_,g.F.kp,g.F.binds b⟩
theorem Gm.fm (g:Gm K C x q st f fd) (_:Wh P w K mg base h) (o:zE P w K mg base zU k f fd ps sp) (b:Bn x q st ps:=by intro _ _ _ _ _ _; first | exact L2.Ui λ_=>rfl | exact L2.X5 λ_ _=>rfl | exact L2.X6 λ_ _ _=>rfl | exact L2.X7 λ_ _ _ _=>rfl | exact L2.Uj λ_ _ _ _ _=>rfl | exact L2.Uk λ_ _ _ _ _ _=>rfl | exact L2.Ul λ_ _ _ _ _ _ _=>rfl):uo P w K mg base C x ps k sp:=⟨f,fd,o,⟨g.at_,g.fn,g.F.kp⟩,g.F.binds b⟩
theorem Gm.fc {y:Str} (g:Gm K C "__init__" q st f fd) (_:Wh P w K mg base h) (c:Gc K y C) (o:zE P w K mg base zU k f fd ps sp) (b:Bn "__init__" q st ps:=by intro _ _ _ _ _ _; first | exact L2.Ui λ_=>rfl | exact L2.X5 λ_ _=>rfl | exact L2.X6 λ_ _ _=>rfl | exact L2.X7 λ_ _ _ _=>rfl | exact L2.Uj λ_ _ _ _ _=>rfl | exact L2.Uk λ_ _ _ _ _ _=>rfl | exact L2.Ul λ_ _ _ _ _ _ _=>rfl):jH P w K mg base C ps k sp:=⟨f,fd,o,⟨c.mk_,g.at_,g.fn,c.kc⟩,g.F.binds b⟩
theorem Gd.fn {i:Int} {t:Tok} (g:Gd K x st f fd (.int i t)) (Y:Wh P w K mg base h) (b:∀ (T:Addr) (kV doc pm:Value) (an:Option Addr) (cdv ct:Value) (us:List Value),us.length=ps.length->∃ k:Option (Array Value)->Sem (List (Str × Value)),bindArgs (W.fnOf x x (wo st) (xU st) (zR st) (.ref T) kV doc pm an cdv ct) ⟨us,[]⟩=seqItems? (.ref T) >>= k/\k (some #[.int i t])=pure (ps.zip us))
  (d:∀ (T:Addr) (kV doc pm:Value) (an:Option Addr) (cdv ct:Value) (us:List Value),us.length + 1=ps.length->∃ k:Option (Array Value)->Sem (List (Str × Value)),bindArgs (W.fnOf x x (wo st) (xU st) (zR st) (.ref T) kV doc pm an cdv ct) ⟨us,[]⟩=seqItems? (.ref T) >>= k/\k (some #[.int i t])=pure (ps.zip (us++[.int i t]))) (o:zE P w K mg base zU k f fd ps sp):uL P w K mg base x ps k sp (.int i):=
 ⟨f,fd,_,o,W.mg_of Y.X Y.G g.at_,g.F.kp,g.F.binds b,g.F.binds1 d,⟨_,rfl⟩⟩
theorem Gk.fcd {i:Int} {t:Tok} {y:Str} (g:Gk K C "__init__" q st f fd (.int i t)) (_:Wh P w K mg base h) (c:Gc K y C) (b:∀ (T:Addr) (kV doc pm:Value) (an:Option Addr) (cdv ct:Value) (us:List Value),us.length=ps.length->∃ k:Option (Array Value)->Sem (List (Str × Value)),bindArgs (W.fnOf "__init__" q (wo st) (xU st) (zR st) (.ref T) kV doc pm an cdv ct) ⟨us,[]⟩=seqItems? (.ref T) >>= k/\k (some #[.int i t])=pure (ps.zip us))
  (d:∀ (T:Addr) (kV doc pm:Value) (an:Option Addr) (cdv ct:Value) (us:List Value),us.length + 1=ps.length->∃ k:Option (Array Value)->Sem (List (Str × Value)),bindArgs (W.fnOf "__init__" q (wo st) (xU st) (zR st) (.ref T) kV doc pm an cdv ct) ⟨us,[]⟩=seqItems? (.ref T) >>= k/\k (some #[.int i t])=pure (ps.zip (us++[.int i t]))) (o:zE P w K mg base zU k f fd ps sp):wp P w K mg base C ps k sp (.int i):=
 ⟨f,fd,_,o,⟨c.mk_,g.at_,g.fn,c.kc⟩,g.F.binds b,g.F.binds1 d,⟨_,rfl⟩⟩
end
end L2
namespace K56
open PySem L2 Sh Pu
noncomputable def tb0:yX:=⟨λ_=>True,λ_ _=>trivial,λ_ _ _ _=>trivial⟩
variable [iT:yX]
theorem zOK {F:FL} (h:∀ ds R,¬ F ds R):∀ vs H Q E,¬ zG F vs H Q E:=λ_ _ _ _ ⟨_,ds,R,_,_,f,_⟩=>h ds R f
noncomputable abbrev zF1:Stmt:=zn 60
theorem zNq:∀ ds R,¬ j6 0 ds R:=λ_ _ ⟨_,_,_,h,_⟩=>by cases h
theorem all_mk (hI:∀ H:Hp,yX.I H) {l:W.OpenLaw} {w:World} {K:W.Frag} {h:Heap} {mg:Str->Option Value} {fa:Addr} (X:K.In h) (G:h.Ns mainGlobals mg) (hfa:mg "law" = some (.ref fa))
  {aClaim aSettles aComes ah ai aPaper aRooms aFalls cC:Addr}
  (GClaim:Gc K "Claim" aClaim)
  (GSettles:Gc K "Settles" aSettles)
  (GComes:Gc K "Comes" aComes)
  (GMode:Gc K "Mode" ah)
  (GThing:Gc K "Thing" ai)
  (GPaper:Gc K "Paper" aPaper)
  (GRooms:Gc K "Rooms" aRooms)
  (GFalls:Gc K "Falls" aFalls)
  (n_start_Settles:W.findIn K (.ref aSettles) "start" = some none)
  (n_rows_Settles:W.findIn K (.ref aSettles) "rows" = some none)
  (n_turn_Settles:W.findIn K (.ref aSettles) "turn" = some none)
  (n_start_Comes:W.findIn K (.ref aComes) "start" = some none)
  (n_goal_Comes:W.findIn K (.ref aComes) "goal" = some none)
  (n_turns_Comes:W.findIn K (.ref aComes) "turns" = some none)
  (bX:W.findIn K (.ref ah) "rows" = some none)
  (bY:W.findIn K (.ref ah) "nexts" = some none)
  (bZ:W.findIn K (.ref ah) "steer" = some none)
  (b7:W.findIn K (.ref ah) "push" = some none)
  (b8:W.findIn K (.ref ah) "add" = some none)
  (b9:W.findIn K (.ref ah) "divisor" = some none)
  (ca:W.findIn K (.ref ai) "many" = some none)
  (cb:W.findIn K (.ref ai) "kept_pushes" = some none)
  (cf:W.findIn K (.ref ai) "kept_modes" = some none)
  (n_rooms_Rooms:W.findIn K (.ref aRooms) "rooms" = some none)
  (n_back_Rooms:W.findIn K (.ref aRooms) "back" = some none)
  (n_starts_Rooms:W.findIn K (.ref aRooms) "starts" = some none)
  (n_steps_Rooms:W.findIn K (.ref aRooms) "steps" = some none)
  (n_stays_Rooms:W.findIn K (.ref aRooms) "stays" = some none)
  (n_room_Falls:W.findIn K (.ref aFalls) "room" = some none)
  (n_starts_Falls:W.findIn K (.ref aFalls) "starts" = some none)
  (n_steps_Falls:W.findIn K (.ref aFalls) "steps" = some none)
  (n_measure_Falls:W.findIn K (.ref aFalls) "measure" = some none)
  (n_step_Falls:W.findIn K (.ref aFalls) "step" = some none)
  (n_top_Falls:W.findIn K (.ref aFalls) "top" = some none)
  (n_falls_Falls:W.findIn K (.ref aFalls) "falls" = some none)
  (n_floors_Falls:W.findIn K (.ref aFalls) "floors" = some none)
  (n_tops_Falls:W.findIn K (.ref aFalls) "tops" = some none)
  (w_Rooms_Paper:W.kitOne K (.ref aRooms) (.ref aPaper)=some true)
  (w_Settles_Claim:W.kitOne K (.ref aSettles) (.ref aClaim)=some true)
  (mC:W.nsIn K mainGlobals "NotClosed" = some (some (.ref cC)))
  (xC:W.excIn K cC [.type "ValueError",.type "Exception",.type "BaseException",.type "object"] "ValueError.__new__" = true)
  (sC:W.exmOne K (.ref cC) (.ref cC)=some true)
  (z0:W.nsIn K mainGlobals "isinstance" = some none)
  (z1:W.nsIn K mainGlobals "int" = some none)
  (z2:W.nsIn K mainGlobals "bool" = some none)
  (z3:W.nsIn K mainGlobals "tuple" = some none)
  (z4:W.nsIn K mainGlobals "len" = some none)
  (z5:W.nsIn K mainGlobals "all" = some none)
  (z6:W.nsIn K mainGlobals "list" = some none)
  (z7:W.nsIn K mainGlobals "range" = some none)
  (z8:W.nsIn K mainGlobals "zip" = some none)
  (z9:W.nsIn K mainGlobals "sum" = some none)
  (z10:W.nsIn K mainGlobals "max" = some none)
  (z11:W.nsIn K mainGlobals "enumerate" = some none)
  (z12:W.nsIn K mainGlobals "min" = some none)
  {gt0:Tok} (cst0:W.nsIn K mainGlobals "MOST_NUMBERS" = some (some (.int 3 gt0)))
  {gt1:Tok} (cst1:W.nsIn K mainGlobals "MOST_PUSHES" = some (some (.int 6 gt1)))
  {gt2:Tok} (cst2:W.nsIn K mainGlobals "MOST_MODES" = some (some (.int 40 gt2)))
  : Ge K "is_whole" KM->Ge K "is_numbers" KN->Ge K "is_table" KO->Gi K "copied" KP 5->Gi K "unit" KR 1->Ge K "scaled" KS->Ge K "paired" KT->Ge K "added_up" KU->Ge K "is_row" KW->Ge K "is_room" KY->Ge K "single" KZ->Gn K ah "__init__" "Mode.__init__" Ka->Ge K "is_push" Kb->Ge K "is_mode" Kc->Ge K "is_sound" Ke->Gn K ai "__init__" "Thing.__init__" Kg->Gn K ai "pushes" "Thing.pushes" Kh->Gn K ai "modes" "Thing.modes" Ki->Ge K "is_unsteered" Kj->Gn K ai "is_closed" "Thing.is_closed" Kk->Ge K "ask_closed" Ub->Ge K "standing" Kl->Ge K "reach" Km->Ge K "added" Ko->Ge K "is_from_0_on" Kq->Ge K "are_shares" Kr->Ge K "shows" Ks->Ge K "is_list_of" Kt->Ge K "each_shown" Ku->Ge K "mode_leads" Kv->Ge K "leads" Kw->Ge K "lets_fall_by" zF1->Gj K aSettles "__init__" "Settles.__init__" Ky 0->Gn K aRooms "__init__" "Rooms.__init__" Kz->Ge K "settles_over" K0->Ge K "are_rooms" K1->Ge K "rooms_follow" K2->Ge K "rooms_stay" K5->Ge K "lets_rooms_by" K7->Ge K "lets_by" Ud->Ge K "_law_cell_at" K8->Ge K "_law_stream" K9->Ge K "_law_number" zEN->Ge K "_law_box" zIP->Ge K "_law_rows" zGj->Ge K "_law_top" zIO->Ge K "_law_mode" zGm->Ge K "_law_thing" zFD->Ge K "_law_both" zGq->Ge K "_law_made" zGn->Ge K "_law_beyond" zEO->Ge K "_law_image" zFF->Ge K "_law_hull" zGp->Ge K "_law_kept" zGo->Ge K "_law_boxes" zFH->Ge K "_law_claim_rows" zCl->Ge K "_law_step_shares" zCO->Ge K "_law_box_steps" zC5->Ge K "_law_box_starts" zCm->Ge K "_law_parts" zFE->Ge K "_law_wide_rows" zC4->Ge K "_law_odd" Ug->Ge K "_law_open" zGk->Ge K "_law_emptied" zDg->Ge K "_law_claim" zFG->Ge K "law" k8->∃ fd:FuncData,(∀ (s:Shared) (v:Value),BindsTo s fd ⟨[v],[]⟩ [("_law_script",v)])/\∀ base:Heap,K.In base->base.Ns mainGlobals mg->zE l.prog w K mg base zU 12 fa fd ["_law_script"] Ua:=by
 rintro ⟨_,_,G0⟩ ⟨_,_,G1⟩ ⟨_,_,G2⟩ ⟨_,_,_,G3⟩ ⟨_,_,_,G4⟩ ⟨_,_,G5⟩ ⟨_,_,G6⟩ ⟨_,_,G7⟩ ⟨_,_,G8⟩ ⟨_,_,G9⟩ ⟨_,_,G10⟩ ⟨_,_,G11⟩ ⟨_,_,G12⟩ ⟨_,_,G13⟩ ⟨_,_,G14⟩ ⟨_,_,G15⟩ ⟨_,_,G16⟩ ⟨_,_,G17⟩ ⟨_,_,G18⟩ ⟨_,_,G19⟩ ⟨_,_,G20⟩ ⟨_,_,G21⟩ ⟨_,_,G22⟩ ⟨_,_,G23⟩ ⟨_,_,G24⟩ ⟨_,_,G25⟩ ⟨_,_,G26⟩ ⟨_,_,G27⟩ ⟨_,_,G28⟩ ⟨_,_,G29⟩ ⟨_,_,G30⟩ ⟨_,_,G31⟩ ⟨_,_,_,G32⟩ ⟨_,_,G33⟩ ⟨_,_,G34⟩ ⟨_,_,G35⟩ ⟨_,_,G36⟩ ⟨_,_,G37⟩ ⟨_,_,G38⟩ ⟨_,_,G39⟩ ⟨_,_,G40⟩ ⟨_,_,G41⟩ ⟨_,_,G42⟩ ⟨_,_,G43⟩ ⟨_,_,G44⟩ ⟨_,_,G45⟩ ⟨_,_,G46⟩ ⟨_,_,G47⟩ ⟨_,_,G48⟩ ⟨_,_,G49⟩ ⟨_,_,G50⟩ ⟨_,_,G51⟩ ⟨_,_,G52⟩ ⟨_,_,G53⟩ ⟨_,_,G54⟩ ⟨_,_,G55⟩ ⟨_,_,G56⟩ ⟨_,_,G57⟩ ⟨_,_,G58⟩ ⟨_,_,G59⟩ ⟨_,_,G60⟩ ⟨_,_,G61⟩ ⟨_,_,G62⟩ ⟨_,_,G63⟩ ⟨_,_,G64⟩ ⟨_,_,G65⟩
 have e:=hfa.symm.trans (W.mg_of X G G65.at_)
 cases e
 have B:Bl mg:=⟨W.mg_none_of X G z0,W.mg_none_of X G z1,W.mg_none_of X G z2,W.mg_none_of X G z3,W.mg_none_of X G z4,W.mg_none_of X G z5,W.mg_none_of X G z6,W.mg_none_of X G z7,W.mg_none_of X G z8,W.mg_none_of X G z9,W.mg_none_of X G z10,W.mg_none_of X G z11,W.mg_none_of X G z12,⟨_,W.mg_of X G cst0⟩,⟨_,W.mg_of X G cst1⟩,⟨_,W.mg_of X G cst2⟩⟩
 have TClaim:=GClaim.cls X G
 have AClaim:zMd K aClaim:=⟨True.intro⟩
 have TSettles:=GSettles.cls X G
 have ASettles:zIE K aSettles:=⟨n_start_Settles,n_rows_Settles,n_turn_Settles⟩
 have TComes:=GComes.cls X G
 have AComes:zMc K aComes:=⟨n_start_Comes,n_goal_Comes,n_turns_Comes⟩
 have aa:=GMode.cls X G
 have ac:zO4 K ah:=⟨bX,bY,bZ,b7,b8,b9⟩
 have ae:=GThing.cls X G
 have ag:zMY K ai:=⟨ca,cb,cf⟩
 have TPaper:=GPaper.cls X G
 have APaper:zMa K aPaper:=⟨True.intro⟩
 have TRooms:=GRooms.cls X G
 have ARooms:zMZ K aRooms:=⟨n_rooms_Rooms,n_back_Rooms,n_starts_Rooms,n_steps_Rooms,n_stays_Rooms⟩
 have TFalls:=GFalls.cls X G
 have AFalls:zMb K aFalls:=⟨n_room_Falls,n_starts_Falls,n_steps_Falls,n_measure_Falls,n_step_Falls,n_top_Falls,n_falls_Falls,n_floors_Falls,n_tops_Falls⟩
 have Y:qZ K aRooms aPaper aSettles aClaim:=⟨w_Rooms_Paper,w_Settles_Claim⟩
 have Z:Er K mg cC:=⟨W.mg_of X G mC,xC,sC⟩
 obtain ⟨_,_,kV,dc,pm,an,cd,ct,_,rfl,_⟩:=G65.F.ex
 refine ⟨W.fnOf "law" "law" (wo k8) (xU k8) (zR k8) .none kV dc pm an cd ct,λs v=>.of_eq rfl,λbase _ _=>?_⟩
 have Yw:Wh l.prog w K mg base h:=⟨X,G⟩
 have N0:=G0.fn Yw (zIe (k:=0) TClaim AClaim TSettles ASettles TComes AComes aa ac ae ag TPaper APaper TRooms ARooms TFalls AFalls Y B G0.F )
 have N1:=G1.fn Yw (zG6 (k:=1) TClaim AClaim TSettles ASettles TComes AComes aa ac ae ag TPaper APaper TRooms ARooms TFalls AFalls Y B G1.F N0.mono)
 have N2:=G2.fn Yw (zIf (k:=2) TClaim AClaim TSettles ASettles TComes AComes aa ac ae ag TPaper APaper TRooms ARooms TFalls AFalls Y B G2.F N1.mono)
 have D3:=λ{k sp}=>G3.fn (ps:=["value","depth"]) (k:=k) (sp:=sp) Yw (λ_ _ _ _ _ _ _=>L2.X5 λ_ _=>⟨_,rfl,rfl⟩) λ_ _ _ _ _ _ _ us hl=>match us,hl with | [_],_=>⟨_,rfl,rfl⟩
 have N3_0:=D3 (zE.no (k:=1) (sp:=(zG (j6 0))) (zOK zNq))
 have N3_1:=D3 (k9 (k:=1) (j:=0) TClaim AClaim TSettles ASettles TComes AComes aa ac ae ag TPaper APaper TRooms ARooms TFalls AFalls Y B G3.F N3_0.mono)
 have N3_2:=D3 (k9 (k:=2) (j:=1) TClaim AClaim TSettles ASettles TComes AComes aa ac ae ag TPaper APaper TRooms ARooms TFalls AFalls Y B G3.F N3_1.mono)
 have N3_3:=D3 (k9 (k:=3) (j:=2) TClaim AClaim TSettles ASettles TComes AComes aa ac ae ag TPaper APaper TRooms ARooms TFalls AFalls Y B G3.F N3_2.mono)
 have N3_4:=D3 (k9 (k:=4) (j:=3) TClaim AClaim TSettles ASettles TComes AComes aa ac ae ag TPaper APaper TRooms ARooms TFalls AFalls Y B G3.F N3_3.mono)
 have N3_5:=D3 (k9 (k:=5) (j:=4) TClaim AClaim TSettles ASettles TComes AComes aa ac ae ag TPaper APaper TRooms ARooms TFalls AFalls Y B G3.F N3_4.mono)
 have N3_6:=D3 (k9 (k:=6) (j:=5) TClaim AClaim TSettles ASettles TComes AComes aa ac ae ag TPaper APaper TRooms ARooms TFalls AFalls Y B G3.F N3_5.mono)
 have N3:=N3_6
 have D4:=λ{k sp}=>G4.fn (ps:=["place","wide","number"]) (k:=k) (sp:=sp) Yw (λ_ _ _ _ _ _ _=>L2.X6 λ_ _ _=>⟨_,rfl,rfl⟩) λ_ _ _ _ _ _ _ us hl=>match us,hl with | [_,_],_=>⟨_,rfl,rfl⟩
 have N4:=D4 (zPr (k:=0) TClaim AClaim TSettles ASettles TComes AComes aa ac ae ag TPaper APaper TRooms ARooms TFalls AFalls Y B G4.F )
 have N5:=G5.fn Yw (zLU (k:=0) TClaim AClaim TSettles ASettles TComes AComes aa ac ae ag TPaper APaper TRooms ARooms TFalls AFalls Y B G5.F )
 have N6:=G6.fn Yw (zLV (k:=0) TClaim AClaim TSettles ASettles TComes AComes aa ac ae ag TPaper APaper TRooms ARooms TFalls AFalls Y B G6.F )
 have N7:=G7.fn Yw (zIh (k:=0) TClaim AClaim TSettles ASettles TComes AComes aa ac ae ag TPaper APaper TRooms ARooms TFalls AFalls Y B G7.F )
 have N8:=G8.fn Yw (zLd (k:=1) TClaim AClaim TSettles ASettles TComes AComes aa ac ae ag TPaper APaper TRooms ARooms TFalls AFalls Y B G8.F N0.mono)
 have N9:=G9.fn Yw (zKA (k:=2) TClaim AClaim TSettles ASettles TComes AComes aa ac ae ag TPaper APaper TRooms ARooms TFalls AFalls Y B G9.F N8.mono)
 have N10:=G10.fn Yw (zLT (k:=1) TClaim AClaim TSettles ASettles TComes AComes aa ac ae ag TPaper APaper TRooms ARooms TFalls AFalls Y B G10.F N4.mono)
 have N11:=G11.fc Yw GMode (zEu (k:=7) TClaim AClaim TSettles ASettles TComes AComes aa ac ae ag TPaper APaper TRooms ARooms TFalls AFalls Y B G11.F N3.mono)
 have N12:=G12.fn Yw (zKB (k:=1) TClaim AClaim TSettles ASettles TComes AComes aa ac ae ag TPaper APaper TRooms ARooms TFalls AFalls Y B G12.F N0.mono)
 have N13:=G13.fn Yw (zKC (k:=3) TClaim AClaim TSettles ASettles TComes AComes aa ac ae ag TPaper APaper TRooms ARooms TFalls AFalls Y B G13.F N9.mono N2.mono N1.mono N0.mono)
 have N14:=G14.fn Yw (zIg (k:=4) TClaim AClaim TSettles ASettles TComes AComes aa ac ae ag TPaper APaper TRooms ARooms TFalls AFalls Y B G14.F N0.mono N12.mono N13.mono)
 have N15:=G15.fc Yw GThing (zEX (k:=5) TClaim AClaim TSettles ASettles TComes AComes aa ac ae ag TPaper APaper TRooms ARooms TFalls AFalls Y B G15.F N14.mono)
 have N16:=G16.fm Yw (zFX (k:=0) TClaim AClaim TSettles ASettles TComes AComes aa ac ae ag TPaper APaper TRooms ARooms TFalls AFalls Y B G16.F )
 have N17:=G17.fm Yw (zF5 (k:=0) TClaim AClaim TSettles ASettles TComes AComes aa ac ae ag TPaper APaper TRooms ARooms TFalls AFalls Y B G17.F )
 have N18:=G18.fn Yw (zFV (k:=0) TClaim AClaim TSettles ASettles TComes AComes aa ac ae ag TPaper APaper TRooms ARooms TFalls AFalls Y B G18.F )
 have N19:=G19.fm Yw (zD8 (k:=1) TClaim AClaim TSettles ASettles TComes AComes aa ac ae ag TPaper APaper TRooms ARooms TFalls AFalls Y B G19.F N18.mono)
 have N20:=G20.fn Yw (zG9 (k:=2) TClaim AClaim TSettles ASettles TComes AComes aa ac ae ag TPaper APaper TRooms ARooms TFalls AFalls Y B G20.F N19.mono)
 have NX20:=G20.fx Yw (zF2 (k:=2) (Z:=Z) TClaim AClaim TSettles ASettles TComes AComes aa ac ae ag TPaper APaper TRooms ARooms TFalls AFalls Y B G20.F N19.mono)
 have N21:=G21.fn Yw (zIa (k:=2) TClaim AClaim TSettles ASettles TComes AComes aa ac ae ag TPaper APaper TRooms ARooms TFalls AFalls Y B G21.F N16.mono N10.mono)
 have N22:=G22.fn Yw (zNS (k:=1) TClaim AClaim TSettles ASettles TComes AComes aa ac ae ag TPaper APaper TRooms ARooms TFalls AFalls Y B G22.F N7.mono N16.mono N6.mono)
 have N23:=G23.fn Yw (zNX (k:=1) TClaim AClaim TSettles ASettles TComes AComes aa ac ae ag TPaper APaper TRooms ARooms TFalls AFalls Y B G23.F N7.mono)
 have N24:=G24.fn Yw (zFW (k:=1) TClaim AClaim TSettles ASettles TComes AComes aa ac ae ag TPaper APaper TRooms ARooms TFalls AFalls Y B G24.F N0.mono)
 have N25:=G25.fn Yw (zHA (k:=2) TClaim AClaim TSettles ASettles TComes AComes aa ac ae ag TPaper APaper TRooms ARooms TFalls AFalls Y B G25.F N24.mono)
 have N26:=G26.fn Yw (zNR (k:=3) TClaim AClaim TSettles ASettles TComes AComes aa ac ae ag TPaper APaper TRooms ARooms TFalls AFalls Y B G26.F N25.mono N23.mono N5.mono)
 have N27:=G27.fn Yw (zG7 (k:=0) TClaim AClaim TSettles ASettles TComes AComes aa ac ae ag TPaper APaper TRooms ARooms TFalls AFalls Y B G27.F )
 have N28:=G28.fn Yw (zG8 (k:=4) TClaim AClaim TSettles ASettles TComes AComes aa ac ae ag TPaper APaper TRooms ARooms TFalls AFalls Y B G28.F N27.mono N26.mono)
 have N29:=G29.fn Yw (zG5 (k:=5) TClaim AClaim TSettles ASettles TComes AComes aa ac ae ag TPaper APaper TRooms ARooms TFalls AFalls Y B G29.F N28.mono N22.mono N21.mono)
 have N30:=G30.fn Yw (zNT (k:=6) TClaim AClaim TSettles ASettles TComes AComes aa ac ae ag TPaper APaper TRooms ARooms TFalls AFalls Y B G30.F N17.mono N27.mono N29.mono)
 have N31_0:=G31.fn (ps:=["thing","claim","paper"]) Yw (zE.no (k:=1) (sp:=(zG fNo)) (zOK λ_ _ h=>h))
 have N31:=N31_0
 have N32:=G32.fcd (ps:=["self","start","rows","turn"]) Yw GSettles (λ_ _ _ _ _ _ _=>L2.X7 λ_ _ _ _=>⟨_,rfl,rfl⟩) (λ_ _ _ _ _ _ _ us hl=>match us,hl with | [_,_,_],_=>⟨_,rfl,rfl⟩) (zDm (k:=7) TClaim AClaim TSettles ASettles TComes AComes aa ac ae ag TPaper APaper TRooms ARooms TFalls AFalls Y B G32.F N3.mono)
 have N33:=G33.fc Yw GRooms (zEY (k:=7) TClaim AClaim TSettles ASettles TComes AComes aa ac ae ag TPaper APaper TRooms ARooms TFalls AFalls Y B G33.F N3.mono)
 have N34:=G34.fn Yw (zFR (k:=3) TClaim AClaim TSettles ASettles TComes AComes aa ac ae ag TPaper APaper TRooms ARooms TFalls AFalls Y B G34.F N24.mono N9.mono)
 have N35:=G35.fn Yw (zHk (k:=3) TClaim AClaim TSettles ASettles TComes AComes aa ac ae ag TPaper APaper TRooms ARooms TFalls AFalls Y B G35.F N9.mono)
 have N36:=G36.fn Yw (zFS (k:=7) TClaim AClaim TSettles ASettles TComes AComes aa ac ae ag TPaper APaper TRooms ARooms TFalls AFalls Y B G36.F N27.mono N30.mono)
 have N37:=G37.fn Yw (zG4 (k:=5) TClaim AClaim TSettles ASettles TComes AComes aa ac ae ag TPaper APaper TRooms ARooms TFalls AFalls Y B G37.F N27.mono N28.mono)
 have N38:=G38.fn Yw (zEs (k:=8) TClaim AClaim TSettles ASettles TComes AComes aa ac ae ag TPaper APaper TRooms ARooms TFalls AFalls Y B G38.F N35.mono N34.mono N24.mono N28.mono N37.mono N36.mono)
 have N39:=G39.fn Yw (zJ4 (k:=9) TClaim AClaim TSettles ASettles TComes AComes aa ac ae ag TPaper APaper TRooms ARooms TFalls AFalls Y B G39.F N20.mono N38.mono N31.mono)
 have NX39:=G39.fx Yw (zIZ (k:=9) TClaim AClaim TSettles ASettles TComes AComes aa ac ae ag TPaper APaper TRooms ARooms TFalls AFalls Y B G39.F NX20.mono)
 have N40:=G40.fn Yw (zHj (k:=0) TClaim AClaim TSettles ASettles TComes AComes aa ac ae ag TPaper APaper TRooms ARooms TFalls AFalls Y B G40.F )
 have N41:=G41.fn Yw (zIb (k:=0) TClaim AClaim TSettles ASettles TComes AComes aa ac ae ag TPaper APaper TRooms ARooms TFalls AFalls Y B G41.F )
 have N42:=G42.fn Yw (zIc (k:=0) TClaim AClaim TSettles ASettles TComes AComes aa ac ae ag TPaper APaper TRooms ARooms TFalls AFalls Y B G42.F )
 have N43:=G43.fn Yw (zNW (k:=1) TClaim AClaim TSettles ASettles TComes AComes aa ac ae ag TPaper APaper TRooms ARooms TFalls AFalls Y B G43.F N41.mono N42.mono)
 have N44:=G44.fn Yw (zLW (k:=0) TClaim AClaim TSettles ASettles TComes AComes aa ac ae ag TPaper APaper TRooms ARooms TFalls AFalls Y B G44.F )
 have N45:=G45.fn Yw (zNU (k:=0) TClaim AClaim TSettles ASettles TComes AComes aa ac ae ag TPaper APaper TRooms ARooms TFalls AFalls Y B G45.F )
 have N46:=G46.fn Yw (zLY (k:=1) TClaim AClaim TSettles ASettles TComes AComes aa ac ae ag TPaper APaper TRooms ARooms TFalls AFalls Y B G46.F N41.mono N42.mono)
 have N47:=G47.fn Yw (zJ5 (k:=2) TClaim AClaim TSettles ASettles TComes AComes aa ac ae ag TPaper APaper TRooms ARooms TFalls AFalls Y B G47.F N40.mono N46.mono)
 have N48:=G48.fn Yw (zLc (k:=0) TClaim AClaim TSettles ASettles TComes AComes aa ac ae ag TPaper APaper TRooms ARooms TFalls AFalls Y B G48.F )
 have N49:=G49.fn Yw (zLZ (k:=8) TClaim AClaim TSettles ASettles TComes AComes aa ac ae ag TPaper APaper TRooms ARooms TFalls AFalls Y B G49.F N11.mono N15.mono)
 have N50:=G50.fn Yw (zId (k:=1) TClaim AClaim TSettles ASettles TComes AComes aa ac ae ag TPaper APaper TRooms ARooms TFalls AFalls Y B G50.F N45.mono)
 have N51:=G51.fn Yw (zJ7 (k:=2) TClaim AClaim TSettles ASettles TComes AComes aa ac ae ag TPaper APaper TRooms ARooms TFalls AFalls Y B G51.F N50.mono N45.mono)
 have N52:=G52.fn Yw (zLb (k:=0) TClaim AClaim TSettles ASettles TComes AComes aa ac ae ag TPaper APaper TRooms ARooms TFalls AFalls Y B G52.F )
 have N53:=G53.fn Yw (zLa (k:=3) TClaim AClaim TSettles ASettles TComes AComes aa ac ae ag TPaper APaper TRooms ARooms TFalls AFalls Y B G53.F N52.mono N51.mono)
 have N54:=G54.fn Yw (zJ9 (k:=4) TClaim AClaim TSettles ASettles TComes AComes aa ac ae ag TPaper APaper TRooms ARooms TFalls AFalls Y B G54.F N41.mono N43.mono N53.mono N51.mono)
 have N55:=G55.fn Yw (zFT (k:=1) TClaim AClaim TSettles ASettles TComes AComes aa ac ae ag TPaper APaper TRooms ARooms TFalls AFalls Y B G55.F N41.mono N42.mono N45.mono)
 have N56:=G56.fn Yw (zEt (k:=2) TClaim AClaim TSettles ASettles TComes AComes aa ac ae ag TPaper APaper TRooms ARooms TFalls AFalls Y B G56.F N50.mono N48.mono)
 have N57:=G57.fn Yw (zF4 (k:=3) TClaim AClaim TSettles ASettles TComes AComes aa ac ae ag TPaper APaper TRooms ARooms TFalls AFalls Y B G57.F N44.mono N56.mono)
 have N58:=G58.fn Yw (zFU (k:=1) TClaim AClaim TSettles ASettles TComes AComes aa ac ae ag TPaper APaper TRooms ARooms TFalls AFalls Y B G58.F N44.mono N48.mono)
 have N59:=G59.fn Yw (zJ6 (k:=5) TClaim AClaim TSettles ASettles TComes AComes aa ac ae ag TPaper APaper TRooms ARooms TFalls AFalls Y B G59.F N41.mono N54.mono N55.mono N57.mono N48.mono N44.mono N58.mono)
 have N60:=G60.fn Yw (zF3 (k:=1) TClaim AClaim TSettles ASettles TComes AComes aa ac ae ag TPaper APaper TRooms ARooms TFalls AFalls Y B G60.F N45.mono)
 have N61:=G61.fn Yw (zNV (k:=0) TClaim AClaim TSettles ASettles TComes AComes aa ac ae ag TPaper APaper TRooms ARooms TFalls AFalls Y B G61.F )
 have N62:=G62.fn Yw (zLX (k:=10) (Z:=Z) TClaim AClaim TSettles ASettles TComes AComes aa ac ae ag TPaper APaper TRooms ARooms TFalls AFalls Y B G62.F NX39.mono N49.mono)
 have N63_0:=G63.fn (ps:=["_law_thing_here"]) Yw (zE.no (k:=1) (sp:=(gO 0)) zMs)
 have N63_1:=G63.fn Yw (gT (k:=1) (d0:=0) TClaim AClaim TSettles ASettles TComes AComes aa ac ae ag TPaper APaper TRooms ARooms TFalls AFalls Y B G63.F N63_0.mono)
 have N63_2:=G63.fn Yw (gT (k:=2) (d0:=1) TClaim AClaim TSettles ASettles TComes AComes aa ac ae ag TPaper APaper TRooms ARooms TFalls AFalls Y B G63.F N63_1.mono)
 have N63_3:=G63.fn Yw (gT (k:=3) (d0:=2) TClaim AClaim TSettles ASettles TComes AComes aa ac ae ag TPaper APaper TRooms ARooms TFalls AFalls Y B G63.F N63_2.mono)
 have N63_4:=G63.fn Yw (gT (k:=4) (d0:=3) TClaim AClaim TSettles ASettles TComes AComes aa ac ae ag TPaper APaper TRooms ARooms TFalls AFalls Y B G63.F N63_3.mono)
 have N63_5:=G63.fn Yw (gT (k:=5) (d0:=4) TClaim AClaim TSettles ASettles TComes AComes aa ac ae ag TPaper APaper TRooms ARooms TFalls AFalls Y B G63.F N63_4.mono)
 have N63_6:=G63.fn Yw (gT (k:=6) (d0:=5) TClaim AClaim TSettles ASettles TComes AComes aa ac ae ag TPaper APaper TRooms ARooms TFalls AFalls Y B G63.F N63_5.mono)
 have N63_7:=G63.fn Yw (gT (k:=7) (d0:=6) TClaim AClaim TSettles ASettles TComes AComes aa ac ae ag TPaper APaper TRooms ARooms TFalls AFalls Y B G63.F N63_6.mono)
 have N63:=N63_7
 have N64:=G64.fn Yw (zJ8 (k:=8) (hI:=hI) TClaim AClaim TSettles ASettles TComes AComes aa ac ae ag TPaper APaper TRooms ARooms TFalls AFalls Y B G64.F N32.mono)
 exact zRd (k:=10) (hI:=hI) TClaim AClaim TSettles ASettles TComes AComes aa ac ae ag TPaper APaper TRooms ARooms TFalls AFalls Y B G65.F N63.mono N62.mono N39.mono N49.mono N64.mono N44.mono N33.mono N61.mono N60.mono N52.mono N51.mono N54.mono N41.mono N40.mono N59.mono N47.mono
noncomputable def zLj (o:Obj):Bool:=match o.cls with
 | .type t=>!(t == "list")
 | _=>true
theorem nolist {K:b_} (h:K.all (λp=>zLj p.2)=true) (a:Addr) (o:Obj) (e:K.lookup a=some o):o.cls≠.type "list":=λz=>by
 have m:∃ b,(b,o)∈K:=by
  clear h
  induction K with
  | nil=>cases e
  | cons p K ih=>
   obtain ⟨b,o'⟩:=p
   rw [dy] at e
   cases q:a == b with
   | true=>rw [q] at e; cases e; exact ⟨b,cq⟩
   | false=>rw [q] at e; obtain ⟨c,hc⟩:=ih e; exact ⟨c,cn _ hc⟩
 obtain ⟨b,hb⟩:=m
 have:=cK.mp h _ hb
 unfold zLj at this
 rw [z] at this
 exact absurd this (by decide)
theorem walk {l:l8} {q:Program} {loose:List Str} {XP:(Str->Option Value)->Heap->Prop} {YP:World->Heap->Prop} {d:DefRec} {K:Params->b_} (hn:l.most=some 63) (hdf:d.params.defaults=[])
  (hY:∀ (w:World) (h:Heap),YP w h->(K w.params).In h)
  (hL:∀ (p:Params) (a:Addr) (o:Obj),(K p).lookup a=some o->o.cls≠.type "list")
  (F:∀ (w:World) (mg:Str->Option Value) (fa:Addr) (h:Heap),(K w.params).In h->h.Ns mainGlobals mg->mg d.name=some (.ref fa)->
   ∃ fd:FuncData,(∀ (s:Shared) (u:Value),BindsTo s fd ⟨[u],[]⟩ [("_law_script",u)])/\∀ base:Heap,(K w.params).In base->base.Ns mainGlobals mg->zE l.prog w (K w.params) mg base zU 12 fa fd ["_law_script"] Ua) :
  mq q loose XP YP l.row.toRowW d [] (λf vs=>PySem.call f vs):=
 L2.zO7 (n:=63) (k:=12) (x:="_law_script") (CX:=λ_=>zU) (sp:=λ_=>Ua) hn (by decide) hdf ⟨rfl,by decide,by decide⟩ hY F (λw H a ns _ hO hS=>by
  have rd:Rd H a (.lst (ns.map V.int)):=hS.elim id λ⟨o,_,_,h1,h2,_⟩=>absurd h2 (hL w.params a o h1)
  obtain ⟨o,e⟩:∃ o,H a=some (.frz o (.lst (ns.map V.int))):=rd.elim (λe=>by rcases hO a with z | ⟨o,xs,z⟩ <;> rw [z] at e <;> cases e) id
  refine ⟨a,o,ns,rfl,e,λb u eb=>?_,λ_=>rfl⟩
  rcases hO b with z | ⟨o,xs,z⟩ <;> rw [z] at eb <;> cases eb
  exact ⟨o,xs,rfl⟩) λ_ _ _ _ _ z=>z
end K56
open PySem PySem.W PyProof.Rows
set_option maxRecDepth 100000 in
set_option maxHeartbeats 0 in
theorem PySem.Challenge.cw_steadyhand_k56_papers_of_rooms_as_told_holds : PySem.Challenge.rw_steadyhand_k56_papers_of_rooms_as_told.Holds := by
 w_on; o_law
 refine holds_open (q:=H56.vw) (loose:=H56.lo) (Xt:=H56.xt) (XP:=XL H56.vw []) (Yf:=(kHook H56.KK H56.ks H56.ke).obs) (Ya:=(kHook H56.KK H56.ks H56.ke).val) (YP:=(kHook H56.KK H56.ks H56.ke).says) H56.left
  (kHook H56.KK H56.ks H56.ke).of (kHook H56.KK H56.ks H56.ke).keeps
  (λs e=>xl_of s (fi.mp e).1) XL.keeps (by rfl) (by rfl) (by rfl)
  (λs e=>recFacts_of (fi.mp e).2) (by rfl) (by assumption) (by decide +kernel)
  ⟨rfl,rfl,rfl,rfl,rfl,by decide +kernel⟩ ?hw ?hc
 case hw=>w_witness2
 rename_i sd
 clear sd
 k_fill
 refine K56.walk (l:=PySem.Challenge.rw_steadyhand_k56_papers_of_rooms_as_told) (iT:=K56.tb0) rfl rfl (λw h Y=>PySem.W.kIn_of Y) (λp a o=>K56.nolist (iT:=K56.tb0) (K:=H56.KK p) (by kernel_rfl) a o) ?F
 case F=>
  intro w mg fa h KX G hmg
  refine' K56.all_mk (iT:=K56.tb0) (λ_=>trivial) KX G hmg ?g_Claim ?g_Settles ?g_Comes ?g_Mode ?g_Thing ?g_Paper ?g_Rooms ?g_Falls ?_ ?_ ?_ ?_ ?_ ?_ ?_ ?_ ?_ ?_ ?_ ?_ ?_ ?_ ?_ ?_ ?_ ?_ ?_ ?_ ?_ ?_ ?_ ?_ ?_ ?_ ?_ ?_ ?_ ?p_w_Rooms_Paper ?p_w_Settles_Claim ?p_mC ?p_xC ?p_sC ?_ ?_ ?_ ?_ ?_ ?_ ?_ ?_ ?_ ?_ ?_ ?_ ?_ ?_ ?_ ?_ ?_ ?_ ?_ ?_ ?_ ?_ ?_ ?_ ?_ ?_ ?_ ?_ ?_ ?_ ?_ ?_ ?_ ?_ ?_ ?_ ?_ ?_ ?_ ?_ ?_ ?_ ?_ ?_ ?_ ?_ ?_ ?_ ?_ ?_ ?_ ?_ ?_ ?_ ?_ ?_ ?_ ?_ ?_ ?_ ?_ ?_ ?_ ?_ ?_ ?_ ?_ ?_ ?_ ?_ ?_ ?_ ?_ ?_ ?_ ?_ ?_ ?_ ?_ ?_ ?_ ?_
  (case g_Claim=>refine' L2.Gc.mk ?a ?b ?c ?d ?e ?f ?g ?h ?i ?j ?k; (case a=>k_is); (case b=>k_is); (case c=>k_is); (case d=>k_is); (case e=>k_is); (case f=>k_is); (case g=>k_is); (case h=>k_is); (case i=>k_is); (case j=>k_is); (case k=>k_is))
  (case g_Settles=>refine' L2.Gc.mk ?a ?b ?c ?d ?e ?f ?g ?h ?i ?j ?k; (case a=>k_is); (case b=>k_is); (case c=>k_is); (case d=>k_is); (case e=>k_is); (case f=>k_is); (case g=>k_is); (case h=>k_is); (case i=>k_is); (case j=>k_is); (case k=>k_is))
  (case g_Comes=>refine' L2.Gc.mk ?a ?b ?c ?d ?e ?f ?g ?h ?i ?j ?k; (case a=>k_is); (case b=>k_is); (case c=>k_is); (case d=>k_is); (case e=>k_is); (case f=>k_is); (case g=>k_is); (case h=>k_is); (case i=>k_is); (case j=>k_is); (case k=>k_is))
  (case g_Mode=>refine' L2.Gc.mk ?a ?b ?c ?d ?e ?f ?g ?h ?i ?j ?k; (case a=>k_is); (case b=>k_is); (case c=>k_is); (case d=>k_is); (case e=>k_is); (case f=>k_is); (case g=>k_is); (case h=>k_is); (case i=>k_is); (case j=>k_is); (case k=>k_is))
  (case g_Thing=>refine' L2.Gc.mk ?a ?b ?c ?d ?e ?f ?g ?h ?i ?j ?k; (case a=>k_is); (case b=>k_is); (case c=>k_is); (case d=>k_is); (case e=>k_is); (case f=>k_is); (case g=>k_is); (case h=>k_is); (case i=>k_is); (case j=>k_is); (case k=>k_is))
  (case g_Paper=>refine' L2.Gc.mk ?a ?b ?c ?d ?e ?f ?g ?h ?i ?j ?k; (case a=>k_is); (case b=>k_is); (case c=>k_is); (case d=>k_is); (case e=>k_is); (case f=>k_is); (case g=>k_is); (case h=>k_is); (case i=>k_is); (case j=>k_is); (case k=>k_is))
  (case g_Rooms=>refine' L2.Gc.mk ?a ?b ?c ?d ?e ?f ?g ?h ?i ?j ?k; (case a=>k_is); (case b=>k_is); (case c=>k_is); (case d=>k_is); (case e=>k_is); (case f=>k_is); (case g=>k_is); (case h=>k_is); (case i=>k_is); (case j=>k_is); (case k=>k_is))
  (case g_Falls=>refine' L2.Gc.mk ?a ?b ?c ?d ?e ?f ?g ?h ?i ?j ?k; (case a=>k_is); (case b=>k_is); (case c=>k_is); (case d=>k_is); (case e=>k_is); (case f=>k_is); (case g=>k_is); (case h=>k_is); (case i=>k_is); (case j=>k_is); (case k=>k_is))
  (case p_w_Rooms_Paper=>first | kit_is | k_is | rfl | decide +kernel)
  (case p_w_Settles_Claim=>first | kit_is | k_is | rfl | decide +kernel)
  (case p_mC=>k_is)
  (case p_xC=>k_exc)
  (case p_sC=>first | kit_is | k_is | rfl | decide +kernel)
  any_goals first | (refine' L2.Gc.mk ?a ?b ?c ?d ?e ?f ?g ?h ?i ?j ?k; (case a=>k_is); (case b=>k_is); (case c=>k_is); (case d=>k_is); (case e=>k_is); (case f=>k_is); (case g=>k_is); (case h=>k_is); (case i=>k_is); (case j=>k_is); (case k=>k_is)) | (refine' L2.X8 ?a ?l ?c ?k; (case a=>k_is); (case l=>k_is); (case c=>k_is); (case k=>k_is)) | (refine' L2.X9 ?a ?i ?l ?c ?k; (case a=>k_is); (case i=>k_is); (case l=>k_is); (case c=>k_is); (case k=>k_is)) | (refine' L2.WA ?a ?l ?c ?k ?d; (case a=>k_is); (case l=>k_is); (case c=>k_is); (case k=>k_is); (case d=>k_is)) | (refine' L2.WB ?a ?z ?l ?c ?k ?d; (case a=>k_is); (case z=>k_is); (case l=>k_is); (case c=>k_is); (case k=>k_is); (case d=>k_is)) | k_is
#print axioms PySem.Challenge.cw_steadyhand_k56_papers_of_rooms_as_told_holds
