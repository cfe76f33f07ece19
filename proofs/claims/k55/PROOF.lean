import PyProof.Rows.All
import Wide.All
import OpenK.AllK
import Wide.FinOn
import Lean
import PyProof.EqAt
import PyProof.EqKinds
import PyProof.TupleCall
import PyProof.ZipIter
import PyProof.Draws
import PyProof.StationsW
import PyProof.EnumStmt
import PyProof.EnumMake
import PyProof.CallType
import PyProof.Rows.CallKwBuiltin
import PyProof.EnumIter
import PyProof.Rows.SeqMore
import PyProof.P3In
import PySem.Challenge.RW_steadyhand_k55_papers_of_falls_as_told
open List renaming length_map→a_,length_append→b_,getD_eq_getElem?_getD→ci,replicate→cj,mem_singleton→cn,map_append→cq,mem_cons_of_mem→cr,getElem?_eq_getElem→cu,mem_cons_self→cv,mem_map→cw,length_range→cx,size_toArray→cy,mem_cons→cz,map_map→cA,length_cons→cJ,length_take→cK,mem_append→cN,range→cO,getElem?_eq_some_iff→cP,getElem?_set_ne→cQ,all_eq_true→cR,mem_append_right→cS,map_cons→cT,getElem?_map→cV,of_mem_zip→cW,map_congr_left→cX,getElem?_append_right→cY,not_mem_nil→cZ,take_of_length_le→c_,map→db,getElem?_append_left→de,length_replicate→df,mem_of_getElem?→dh,length→di,length_set→dk,take_append_of_le_length→dl,replicate_succ→dm,lookup_cons→du,zipWith→dA,getElem?_set_self→dB,length_zip→dE,eq_of_mem_replicate→dG,getElem?_range→dM,append_nil→dQ,mem_of_mem_take→dS,flatten_cons→dY,filterMap_cons→d_,length_drop→ej,getElem_mem→ek,append_assoc→eC,sum_cons→eI,getElem?_cons_succ→eJ,length_flatten→eK,mem_range→eQ,length_singleton→eT,ext_getElem→e9,nodup_cons→fj,foldl_cons→fo,map_replicate→fC,take_succ_eq_append_getElem→fF,flatten_singleton→fH,zipWith_cons_cons→fI,lookup→fJ,replicate_append_replicate→fL,getElem?_eq_none→fP,take_length→fV,mem_append_left→fW,take_succ_cons→gV,range'→g_,map_id→hG,mem_filterMap→hW,zip_cons_cons→hZ,drop_zero→h_,mapIdx_eq_mapIdx_iff→ib,getElem?_take_of_lt→ii,getElem?_replicate→im,map_take→iq,map_drop→ir,mem_flatten→iw,range_succ_eq_map→iz,nil_append→iB,map_nil→iC,forIn_cons→iE,mem_mapIdx→iI,length_nil→iK,getElem?_mapIdx→iM,mem_of_mem_drop→iN,forIn_nil→iO,length_pos_iff→iR,length_zipWith→iS,flatten_append→iU,getD_cons_succ→iV,length_range'→i4,zip_nil_right→i5,length_mapIdx→i6,zipIdx_cons→lF,mapIdx_cons→lG,cons_append→lI,mem_filter→lJ,zipIdx_nil→lQ,foldl→lW
open PySem.W renaming Frag→cg,kitOne→cE,kia_one→dD,emptyDict→dF,findIn→dI,cellsFrom_some→dL,keepIn→dN,fnOf→dX,instObj→dZ,kia_tup→eD,hideAll_get→e_,hideAll→fe,kitx_list→fK,codeIn→fM,plainGet→fT,plainGet_of→fZ,of_hideAll→hJ,callWith_K→hX,lookIn→h9,methodObj→ie,hasDictIn→ig,excIn→ip,takerIn→iA,exmOne→iP,kitAny→iQ,kitx_tuple→iX,plainOver→i8,specialIn→i9,kitx_none→i_,kitx_bool→j_,kitx_dict→k_,isFn→lz,handedIn→lB,kitx_int→lC,kitx_str→lD,makesIn→lL,takesIn→lM,OpenLaw→lO,mroIn→lY,WalkO→lZ
open PySem.Heap renaming get?_push_of_some→ck,lt_size→cB,get?_push_size→cG,get?_update_other→dj,size_push→dW,get?_update_self→eS,MadeExcOf→lV
open PySem.F renaming plainAttrs_list→cD,slot_list_append→cH,type_list_append→cI,args_tuple_add_2→fb,entry_tuple_add→fk,slot_list_clear→fD,type_list_clear→fE,slot_tuple_add→fG
open Nat renaming lt_of_lt_of_le→cF,le_refl→cL,lt_irrefl→da,ne_of_lt→dg,le_trans→dz,zero_le→eg,le_add_right→eM,sub_self→eU,ne_of_gt→fN,two_pow_pos→f_,le_of_lt→hV,add_sub_cancel_left→io,lt_succ_self→iu,sub_zero→iF,min_eq_left→iJ,zero_add→iL,lt_of_le_of_lt→iY,lt_succ_of_lt→lf,le_of_succ_le→lh,zero_lt_succ→lH
open Bool renaming false_ne_true→cU,and_eq_true→dq,and_false→dy,false_eq_true→dJ,false_and→eR,and_eq_true_iff→eX,eq_iff_iff→fi,true_and→fX,beq_eq_decide_eq→iH,not_true→i0,not_eq_false'→i7,not_eq_true'→lj,or_false→l4,and_true→l5
open Int renaming mul_zero→dn,zero_sub→eA,zero_add→eE,mul_comm→eF,le_refl→eG,max_eq_right→eN,mul_le_mul_of_nonneg_left→eO,max_eq_left→eV,fdiv_eq_ediv_of_nonneg→eW,mul_assoc→fB,zero_mul→fR,mul_nonneg→ic,toNat_natCast→ij,natAbs_eq_zero→iZ,add_zero→lA,mul_one→lK,mul_add→lS,le_max_left→lT,mul_le_mul→lU,gcd→l7
open Option renaming isSome_iff_exists→dR,map_some→fq,filter_eq_some_iff→ia,map_eq_some_iff→iy,map→lu,getD_none→lE
open PySem.Str renaming ofString→dU
open Array renaming getElem?_eq_some_iff→eh,length_toList→fY,append_assoc→iW,toList→l6
open PySem.PyData renaming canLay0→eY,eqvAll→fu,depth→fQ,eqv→ik,canLayAll0→il,depthAll→iG
open Classical renaming byContradiction→eZ
set_option Elab.async false
set_option linter.all false
set_option maxRecDepth 100000
set_option maxHeartbeats 0
namespace TT
open PySem PySem.W
def runT (tb:String->Option Builtin) (p:Program) (w:World) (k:Nat) (an:Option Value):Nat->SharedT->Thread->Option SharedT
 | 0,_,_=>none
 | j + 1,x,t=>match through t with
  | true=>some x
  | false=>match stepOk k an t with
   | false=>none
   | true=>match stepT (denote tb) p w x t with
    | none=>none
    | some y=>runT tb p w k an j y.1 y.2
theorem Kf {tb:String->Option Builtin} {p:Program} {w:World} {k:Nat} {an:Option Value}:∀ (j:Nat) (x y:SharedT) (t:Thread),runT tb p w k an j x t=some y->topRun tb p w k an j x.abs t=some y.abs
 | 0,_,_,_,e=>by cases e
 | j + 1,x,y,t,e=>by
  unfold runT at e
  unfold topRun
  cases e1:through t with
  | true=>
   rw [e1] at e
   cases e
   rfl
  | false=>
   rw [e1] at e
   cases e2:stepOk k an t with
   | false=>rw [e2] at e; cases e
   | true=>
    rw [e2] at e
    cases e3:stepT (denote tb) p w x t with
    | none=>rw [e3] at e; cases e
    | some z=>
     rw [e3] at e
     rw [stepT_spec e3]
     exact Kf j z.1 y z.2 e
theorem left_is {p q:Program} {lo:List Str} {xt:Shared->Bool} {α:Type} {Yf:Shared->α} {Ya:World->α} {N k n0:Nat} {an:Option Value} {tr:Params->BT} (op:∀ w:World,(fencedOpening treeTable p w N).map (λs=>(s.heap,s.gens,s.drawn,s.toks))=some (boot_heap w.params,Array.mk [],boot_drawn,boot_toks))
  (et:∀ P:Params,absHeap (tr P) n0 (boot_heap P).life=boot_heap P) (z1:∀ P:Params,(boot_heap P).isNs mainGlobals=true) (z2:∀ P:Params,(boot_heap P).objs.size=k) (z3:∀ P:Params,(boot_heap P).nsMap mainGlobals "__annotations__" = an)
  (h:∀ (w:World) (os:OsState),(runT treeTable p w k an N ⟨tr w.params,n0,(boot_heap w.params).life,Array.mk [],boot_drawn,boot_toks,os⟩ (topStub p)).map (λs=>((staticsOk (importedModules p.main.body) (boot_heap w.params) s.abs.heap && namesBound p s.abs.heap && gensDone s.abs && laidKept (boot_heap w.params) s.abs.heap),openSeen q lo (importedModules p.main.body) xt true s.abs,Yf s.abs))=some (true,openGood q lo,Ya w)) :
  LeftO p q lo xt Yf Ya N:=λw=>by
 obtain ⟨⟨hp,gs,d,tk,os⟩,e,e'⟩:=iy.mp (op w)
 injection e' with a1 e'
 injection e' with a2 e'
 injection e' with a3 a4
 subst a1 a2 a3 a4
 obtain ⟨y,ey,eo⟩:=iy.mp (h w os)
 injection eo with l1 eo
 injection eo with l2 l3
 have r:=Kf _ _ _ _ ey
 have r':topRun treeTable p w k an N ⟨boot_heap w.params,Array.mk [],boot_drawn,boot_toks,os⟩ (topStub p)=some y.abs:=by
  rw [<- r]
  unfold SharedT.abs
  rw [et]
 have f:topFrom treeTable p w N ⟨boot_heap w.params,Array.mk [],boot_drawn,boot_toks,os⟩=some y.abs:=by
  unfold topFrom
  show (match (boot_heap w.params).isNs mainGlobals && true with | true=>_ | false=>_)=_
  rw [z1,z2,z3,r']
  show (match (_ && _ && _ && _) with | true=>_ | false=>_)=_
  rw [l1]
 unfold openEnds
 rw [e]
 show (topFrom treeTable p w N _).map _=_
 rw [f]
 exact congrArg some (Prod.ext l2 l3)
end TT
namespace H55
open PySem PySem.W
set_option maxRecDepth 100000
def hT (i:Nat):Stmt:=PySem.Challenge.pw_steadyhand_k55_papers_of_falls_as_told.main.body.getD i (.Pass ⟨0,0,0,0⟩)
def hI (i j:Nat):Stmt:=match hT i with
 | .ClassDef _ _ _ b _ _ _ _ _ _ _=>b.getD j (.Pass ⟨0,0,0,0⟩)
 | s=>s
def hA:Stmt->Arguments
 | .FunctionDef _ a _ _ _ _ _ _ _ _=>a
 | _=>⟨[],[],none,[],[],none,[]⟩
def hB:Stmt->List Stmt
 | .FunctionDef _ _ b _ _ _ _ _ _ _=>b
 | _=>[]
def hC:Stmt->Scope
 | .FunctionDef _ _ _ _ _ _ c _ _ _=>c
 | _=>{ kind:=.function,names:=[],isGenerator:=false,isCoroutine:=false }
abbrev hS (s:String) (n:Nat):Value:=.str (dU s) n
abbrev hE (P:Params) (s:String) (n:Nat) (v:Value):DictEntry:=⟨PyData.keyHash P (dU s),hS s n,v⟩
abbrev hU (x:Array Value):Obj:={ cls:=.type "tuple",data:=.seq x }
abbrev hD (s:String) (a:Nat) (s2:String) (b c:Nat) (i j f:Int) (r1 r2:Nat) (u v t r:Value) (y z:Int) (d:Nat):Obj:={ cls:=.type "code",data:=.fields #[hS s a,hS s2 b,hS "/claim/cut.py" c,.int i 0,.int j 0,.int 0 0,.int 0 0,.int f 0,.ref r1,.bool true,.int 181 0,.ref r2,u,v,t,r,.int y 0,.int z 0,hS "/claim/cut.py" d] }
abbrev hF (n q:String) (s:Stmt) (d k:Value) (m:String) (j c:Nat):Obj:={ cls:=.type "function",data:=.func { name:=n,qualname:=q,params:=hA s,body:=.stmts (hB s),scope:=hC s,globals:=3,closure:=[],defaults:=d,kwdefaults:=k,pyModule:=hS m j,code:=.ref c } }
noncomputable def KK:Params->Frag:=λP=>
 (nat_lit 2,{ cls:=.none,data:=.dict #[] })::(nat_lit 3,{ cls:=.type "dict",data:=.dict #[hE P "__name__" 165 (hS "law_steadyhand_k55_papers_of_falls_as_told" 852),hE P "__doc__" 166 (.none),hE P "__package__" 167 (.none),hE P "__loader__" 168 (.builtin "__main__.__loader__#opaque"),hE P "__spec__" 169 (.none),hE P "__annotations__" 170 (.ref 6),hE P "__builtins__" 171 (.ref 4),hE P "__file__" 173 (hS "/claim/cut.py" 172),hE P "__cached__" 174 (.none),hE P "_wall" 193 (.ref 21),hE P "SteadyError" 213 (.ref 31),hE P "BadThing" 229 (.ref 44),hE P "TooMany" 245 (.ref 56),hE P "NotClosed" 261 (.ref 68),hE P "is_whole" 270 (.ref 77),hE P "is_numbers" 278 (.ref 82),hE P "is_table" 284 (.ref 87),hE P "copied" 291 (.ref 93),hE P "unit" 298 (.ref 99),hE P "scaled" 304 (.ref 104),hE P "mixed" 310 (.ref 109),hE P "paired" 316 (.ref 114),hE P "added_up" 322 (.ref 119),hE P "Claim" 344 (.ref 129),hE P "Settles" 374 (.ref 151),hE P "Comes" 403 (.ref 170),hE P "is_row" 411 (.ref 177),hE P "is_room" 417 (.ref 182),hE P "single" 427 (.ref 189),hE P "other_side" 433 (.ref 194),hE P "standing" 441 (.ref 199),hE P "reach" 452 (.ref 206),hE P "added" 463 (.ref 213),hE P "is_from_0_on" 470 (.ref 220),hE P "are_shares" 476 (.ref 225),hE P "shows" 482 (.ref 230),hE P "MOST_NUMBERS" 486 (.int 3 485),hE P "MOST_PUSHES" 488 (.int 6 487),hE P "MOST_MODES" 490 (.int 40 489),hE P "Mode" 529 (.ref 247),hE P "Thing" 589 (.ref 294),hE P "is_sound" 595 (.ref 303),hE P "is_push" 602 (.ref 310),hE P "is_mode" 611 (.ref 317),hE P "is_unsteered" 617 (.ref 322),hE P "ask_closed" 624 (.ref 329),hE P "Paper" 646 (.ref 339),hE P "Rooms" 679 (.ref 360),hE P "Falls" 720 (.ref 379),hE P "lets_by" 729 (.ref 388),hE P "is_list_of" 737 (.ref 395),hE P "each_shown" 743 (.ref 400),hE P "settles_over" 751 (.ref 407),hE P "comes_over" 759 (.ref 414),hE P "lets_rooms_by" 768 (.ref 421),hE P "are_rooms" 774 (.ref 426),hE P "rooms_follow" 780 (.ref 431),hE P "leads" 786 (.ref 436),hE P "mode_leads" 792 (.ref 441),hE P "rooms_stay" 798 (.ref 446),hE P "lets_fall_by" 807 (.ref 453),hE P "height_at_most" 815 (.ref 460),hE P "height_from_0_on" 821 (.ref 465),hE P "fall_row" 833 (.ref 472),hE P "floors_hold" 839 (.ref 477),hE P "falls_hold" 845 (.ref 482),hE P "mode_falls" 851 (.ref 487),hE P "_law_cell_at" 861 (.ref 494),hE P "_law_stream" 873 (.ref 501),hE P "_law_number" 881 (.ref 508),hE P "_law_made" 887 (.ref 513),hE P "_law_box" 900 (.ref 520),hE P "_law_rows" 906 (.ref 525),hE P "_law_top" 917 (.ref 532),hE P "_law_both" 926 (.ref 539),hE P "_law_drift" 932 (.ref 544),hE P "_law_drift_mode" 938 (.ref 549),hE P "_law_pushed" 944 (.ref 554),hE P "_law_falling" 950 (.ref 559),hE P "_law_fall_parts" 956 (.ref 564),hE P "_law_without_goal" 962 (.ref 569),hE P "_law_without_start" 968 (.ref 574),hE P "_law_odd" 974 (.ref 579),hE P "_law_emptied" 982 (.ref 586),hE P "_law_let" 992 (.ref 593),hE P "_law_open" 998 (.ref 598),hE P "law" 1026 (.ref 605)] 87 })::(nat_lit 15,hU #[])::(nat_lit 17,hU #[hS "k" 190])::(nat_lit 18,hU #[])::(nat_lit 20,hD "_wall" 187 "_wall" 188 189 1 1 3 15 16 .none (.ref 17) (.ref 18) (.ref 19) 191 1 192)::(nat_lit 21,hF "_wall" "_wall" (hT 0) .none .none "__main__" 164 20)::(nat_lit 22,hU #[.type "ValueError"])::(nat_lit 29,hU #[])::(nat_lit 30,{ cls:=.type "dict",data:=.dict #[hE P "__module__" 203 (hS "steadyhand.errors" 194),hE P "__firstlineno__" 207 (.int 5 206),hE P "__static_attributes__" 208 (.ref 29),hE P "__weakref__" 210 (.ref 32),hE P "__doc__" 211 (.none)] 3 })::(nat_lit 31,{ cls:=.type "type",data:=.cls { name:="SteadyError",bases:=[.type "ValueError"],mro:=[.ref 31,.type "ValueError",.type "Exception",.type "BaseException",.type "object"],ns:=30,qualname:="SteadyError",subclasses:=[.ref 44,.ref 56,.ref 68] },slots:=#[some (.ref 22),none,some (hS "SteadyError" 196),some (hS "SteadyError" 204),some (.builtin "ValueError.__new__"),some (.bool true)] })::(nat_lit 32,{ cls:=.type "getset_descriptor",data:=.fields #[hS "__weakref__" 209,.ref 31,.builtin "ExceptionGroup.__weakref__",.none] })::(nat_lit 35,hU #[.ref 31])::(nat_lit 42,hU #[])::(nat_lit 43,{ cls:=.type "dict",data:=.dict #[hE P "__module__" 221 (hS "steadyhand.errors" 194),hE P "__firstlineno__" 225 (.int 7 224),hE P "__static_attributes__" 226 (.ref 42),hE P "__doc__" 227 (.none)] 2 })::(nat_lit 44,{ cls:=.type "type",data:=.cls { name:="BadThing",bases:=[.ref 31],mro:=[.ref 44,.ref 31,.type "ValueError",.type "Exception",.type "BaseException",.type "object"],ns:=43,qualname:="BadThing" },slots:=#[some (.ref 35),none,some (hS "BadThing" 214),some (hS "BadThing" 222),some (.builtin "ValueError.__new__"),some (.bool true)] })::(nat_lit 47,hU #[.ref 31])::(nat_lit 54,hU #[])::(nat_lit 55,{ cls:=.type "dict",data:=.dict #[hE P "__module__" 237 (hS "steadyhand.errors" 194),hE P "__firstlineno__" 241 (.int 9 240),hE P "__static_attributes__" 242 (.ref 54),hE P "__doc__" 243 (.none)] 2 })::(nat_lit 56,{ cls:=.type "type",data:=.cls { name:="TooMany",bases:=[.ref 31],mro:=[.ref 56,.ref 31,.type "ValueError",.type "Exception",.type "BaseException",.type "object"],ns:=55,qualname:="TooMany" },slots:=#[some (.ref 47),none,some (hS "TooMany" 230),some (hS "TooMany" 238),some (.builtin "ValueError.__new__"),some (.bool true)] })::(nat_lit 59,hU #[.ref 31])::(nat_lit 66,hU #[])::(nat_lit 67,{ cls:=.type "dict",data:=.dict #[hE P "__module__" 253 (hS "steadyhand.errors" 194),hE P "__firstlineno__" 257 (.int 11 256),hE P "__static_attributes__" 258 (.ref 66),hE P "__doc__" 259 (.none)] 2 })::(nat_lit 68,{ cls:=.type "type",data:=.cls { name:="NotClosed",bases:=[.ref 31],mro:=[.ref 68,.ref 31,.type "ValueError",.type "Exception",.type "BaseException",.type "object"],ns:=67,qualname:="NotClosed" },slots:=#[some (.ref 59),none,some (hS "NotClosed" 246),some (hS "NotClosed" 254),some (.builtin "ValueError.__new__"),some (.bool true)] })::(nat_lit 71,hU #[])::(nat_lit 73,hU #[hS "thing" 267])::(nat_lit 74,hU #[])::(nat_lit 76,hD "is_whole" 264 "is_whole" 265 266 14 1 3 71 72 .none (.ref 73) (.ref 74) (.ref 75) 268 14 269)::(nat_lit 77,hF "is_whole" "is_whole" (hT 7) .none .none "steadyhand.fractions" 262 76)::(nat_lit 78,hU #[])::(nat_lit 81,hD "is_numbers" 273 "is_numbers" 274 275 17 2 3 78 79 .none .none .none (.ref 80) 276 17 277)::(nat_lit 82,hF "is_numbers" "is_numbers" (hT 9) .none .none "steadyhand.tables" 271 81)::(nat_lit 83,hU #[])::(nat_lit 86,hD "is_table" 279 "is_table" 280 281 19 3 3 83 84 .none .none .none (.ref 85) 282 19 283)::(nat_lit 87,hF "is_table" "is_table" (hT 10) .none .none "steadyhand.tables" 271 86)::(nat_lit 88,hU #[.int 5 285])::(nat_lit 89,hU #[])::(nat_lit 92,hD "copied" 286 "copied" 287 288 21 2 3 89 90 .none .none .none (.ref 91) 289 21 290)::(nat_lit 93,hF "copied" "copied" (hT 11) (.ref 88) .none "steadyhand.tables" 271 92)::(nat_lit 94,hU #[.int 1 292])::(nat_lit 95,hU #[])::(nat_lit 98,hD "unit" 293 "unit" 294 295 29 3 3 95 96 .none .none .none (.ref 97) 296 29 297)::(nat_lit 99,hF "unit" "unit" (hT 12) (.ref 94) .none "steadyhand.tables" 271 98)::(nat_lit 100,hU #[])::(nat_lit 103,hD "scaled" 299 "scaled" 300 301 31 2 3 100 101 .none .none .none (.ref 102) 302 31 303)::(nat_lit 104,hF "scaled" "scaled" (hT 13) .none .none "steadyhand.tables" 271 103)::(nat_lit 105,hU #[])::(nat_lit 108,hD "mixed" 305 "mixed" 306 307 33 4 3 105 106 .none .none .none (.ref 107) 308 33 309)::(nat_lit 109,hF "mixed" "mixed" (hT 14) .none .none "steadyhand.tables" 271 108)::(nat_lit 110,hU #[])::(nat_lit 113,hD "paired" 311 "paired" 312 313 35 2 3 110 111 .none .none .none (.ref 112) 314 35 315)::(nat_lit 114,hF "paired" "paired" (hT 15) .none .none "steadyhand.tables" 271 113)::(nat_lit 115,hU #[])::(nat_lit 118,hD "added_up" 317 "added_up" 318 319 37 3 3 115 116 .none .none .none (.ref 117) 320 37 321)::(nat_lit 119,hF "added_up" "added_up" (hT 16) .none .none "steadyhand.tables" 271 118)::(nat_lit 127,hU #[])::(nat_lit 128,{ cls:=.type "dict",data:=.dict #[hE P "__module__" 332 (hS "steadyhand.claims" 323),hE P "__firstlineno__" 336 (.int 40 335),hE P "__static_attributes__" 337 (.ref 127),hE P "__dict__" 339 (.ref 130),hE P "__weakref__" 341 (.ref 131),hE P "__doc__" 342 (.none)] 4 })::(nat_lit 129,{ cls:=.type "type",data:=.cls { name:="Claim",bases:=[.type "object"],mro:=[.ref 129,.type "object"],ns:=128,qualname:="Claim",subclasses:=[.ref 151,.ref 170] },slots:=#[none,none,some (hS "Claim" 325),some (hS "Claim" 333),some (.builtin "object.__new__"),some (.bool true)] })::(nat_lit 130,{ cls:=.type "getset_descriptor",data:=.fields #[hS "__dict__" 338,.ref 129,.builtin "function.__dict__",.builtin "function.__dict__#set"] })::(nat_lit 131,{ cls:=.type "getset_descriptor",data:=.fields #[hS "__weakref__" 340,.ref 129,.builtin "ExceptionGroup.__weakref__",.none] })::(nat_lit 134,hU #[.ref 129])::(nat_lit 141,hU #[.int 0 357])::(nat_lit 142,hU #[])::(nat_lit 144,hU #[hS "self" 361,hS "start" 362,hS "rows" 363,hS "turn" 364])::(nat_lit 145,hU #[])::(nat_lit 147,hD "__init__" 358 "Settles.__init__" 359 360 44 4 3 142 143 .none (.ref 144) (.ref 145) (.ref 146) 365 44 366)::(nat_lit 148,hF "__init__" "Settles.__init__" (hI 19 0) (.ref 141) .none "steadyhand.claims" 323 147)::(nat_lit 149,hU #[hS "rows" 368,hS "start" 369,hS "turn" 370])::(nat_lit 150,{ cls:=.type "dict",data:=.dict #[hE P "__module__" 352 (hS "steadyhand.claims" 323),hE P "__firstlineno__" 356 (.int 42 355),hE P "__init__" 367 (.ref 148),hE P "__static_attributes__" 371 (.ref 149),hE P "__doc__" 372 (.none)] 2 })::(nat_lit 151,{ cls:=.type "type",data:=.cls { name:="Settles",bases:=[.ref 129],mro:=[.ref 151,.ref 129,.type "object"],ns:=150,qualname:="Settles" },slots:=#[some (.ref 134),none,some (hS "Settles" 345),some (hS "Settles" 353),some (.builtin "object.__new__"),some (.bool true)] })::(nat_lit 154,hU #[.ref 129])::(nat_lit 161,hU #[])::(nat_lit 163,hU #[hS "self" 390,hS "start" 391,hS "goal" 392,hS "turns" 393])::(nat_lit 164,hU #[])::(nat_lit 166,hD "__init__" 387 "Comes.__init__" 388 389 50 4 3 161 162 .none (.ref 163) (.ref 164) (.ref 165) 394 50 395)::(nat_lit 167,hF "__init__" "Comes.__init__" (hI 20 0) .none .none "steadyhand.claims" 323 166)::(nat_lit 168,hU #[hS "goal" 397,hS "start" 398,hS "turns" 399])::(nat_lit 169,{ cls:=.type "dict",data:=.dict #[hE P "__module__" 382 (hS "steadyhand.claims" 323),hE P "__firstlineno__" 386 (.int 48 385),hE P "__init__" 396 (.ref 167),hE P "__static_attributes__" 400 (.ref 168),hE P "__doc__" 401 (.none)] 2 })::(nat_lit 170,{ cls:=.type "type",data:=.cls { name:="Comes",bases:=[.ref 129],mro:=[.ref 170,.ref 129,.type "object"],ns:=169,qualname:="Comes" },slots:=#[some (.ref 154),none,some (hS "Comes" 375),some (hS "Comes" 383),some (.builtin "object.__new__"),some (.bool true)] })::(nat_lit 173,hU #[])::(nat_lit 176,hD "is_row" 406 "is_row" 407 408 55 2 3 173 174 .none .none .none (.ref 175) 409 55 410)::(nat_lit 177,hF "is_row" "is_row" (hT 22) .none .none "steadyhand.rows" 404 176)::(nat_lit 178,hU #[])::(nat_lit 181,hD "is_room" 412 "is_room" 413 414 57 2 3 178 179 .none .none .none (.ref 180) 415 57 416)::(nat_lit 182,hF "is_room" "is_room" (hT 23) .none .none "steadyhand.rows" 404 181)::(nat_lit 183,hU #[])::(nat_lit 185,hU #[hS "place" 421,hS "many" 422,hS "number" 423,hS "bound" 424])::(nat_lit 186,hU #[])::(nat_lit 188,hD "single" 418 "single" 419 420 59 4 3 183 184 .none (.ref 185) (.ref 186) (.ref 187) 425 59 426)::(nat_lit 189,hF "single" "single" (hT 24) .none .none "steadyhand.rows" 404 188)::(nat_lit 190,hU #[])::(nat_lit 193,hD "other_side" 428 "other_side" 429 430 61 1 3 190 191 .none .none .none (.ref 192) 431 61 432)::(nat_lit 194,hF "other_side" "other_side" (hT 25) .none .none "steadyhand.rows" 404 193)::(nat_lit 195,hU #[])::(nat_lit 198,hD "standing" 436 "standing" 437 438 64 2 3 195 196 .none .none .none (.ref 197) 439 64 440)::(nat_lit 199,hF "standing" "standing" (hT 27) .none .none "steadyhand.reach" 434 198)::(nat_lit 200,hU #[])::(nat_lit 202,hU #[hS "thing" 445,hS "mode" 446,hS "row" 447,hS "numbers" 448,hS "ahead" 449])::(nat_lit 203,hU #[])::(nat_lit 205,hD "reach" 442 "reach" 443 444 73 3 3 200 201 .none (.ref 202) (.ref 203) (.ref 204) 450 73 451)::(nat_lit 206,hF "reach" "reach" (hT 28) .none .none "steadyhand.reach" 434 205)::(nat_lit 207,hU #[])::(nat_lit 209,hU #[hS "rows" 458,hS "numbers" 459,hS "many" 460])::(nat_lit 210,hU #[])::(nat_lit 212,hD "added" 455 "added" 456 457 78 3 3 207 208 .none (.ref 209) (.ref 210) (.ref 211) 461 78 462)::(nat_lit 213,hF "added" "added" (hT 30) .none .none "steadyhand.shares" 453 212)::(nat_lit 214,hU #[])::(nat_lit 216,hU #[hS "value" 467])::(nat_lit 217,hU #[])::(nat_lit 219,hD "is_from_0_on" 464 "is_from_0_on" 465 466 80 1 3 214 215 .none (.ref 216) (.ref 217) (.ref 218) 468 80 469)::(nat_lit 220,hF "is_from_0_on" "is_from_0_on" (hT 31) .none .none "steadyhand.shares" 453 219)::(nat_lit 221,hU #[])::(nat_lit 224,hD "are_shares" 471 "are_shares" 472 473 82 2 3 221 222 .none .none .none (.ref 223) 474 82 475)::(nat_lit 225,hF "are_shares" "are_shares" (hT 32) .none .none "steadyhand.shares" 453 224)::(nat_lit 226,hU #[])::(nat_lit 229,hD "shows" 477 "shows" 478 479 88 3 3 226 227 .none .none .none (.ref 228) 480 88 481)::(nat_lit 230,hF "shows" "shows" (hT 33) .none .none "steadyhand.shares" 453 229)::(nat_lit 238,hU #[])::(nat_lit 240,hU #[hS "self" 506,hS "rows" 507,hS "nexts" 508,hS "steer" 509,hS "push" 510,hS "add" 511,hS "divisor" 512])::(nat_lit 241,hU #[])::(nat_lit 243,hD "__init__" 503 "Mode.__init__" 504 505 102 7 3 238 239 .none (.ref 240) (.ref 241) (.ref 242) 513 102 514)::(nat_lit 244,hF "__init__" "Mode.__init__" (hI 38 0) .none .none "steadyhand.things" 483 243)::(nat_lit 245,hU #[hS "add" 516,hS "divisor" 517,hS "nexts" 518,hS "push" 519,hS "rows" 520,hS "steer" 521])::(nat_lit 246,{ cls:=.type "dict",data:=.dict #[hE P "__module__" 498 (hS "steadyhand.things" 483),hE P "__firstlineno__" 502 (.int 100 501),hE P "__init__" 515 (.ref 244),hE P "__static_attributes__" 522 (.ref 245),hE P "__dict__" 524 (.ref 248),hE P "__weakref__" 526 (.ref 249),hE P "__doc__" 527 (.none)] 4 })::(nat_lit 247,{ cls:=.type "type",data:=.cls { name:="Mode",bases:=[.type "object"],mro:=[.ref 247,.type "object"],ns:=246,qualname:="Mode" },slots:=#[none,none,some (hS "Mode" 491),some (hS "Mode" 499),some (.builtin "object.__new__"),some (.bool true)] })::(nat_lit 248,{ cls:=.type "getset_descriptor",data:=.fields #[hS "__dict__" 523,.ref 247,.builtin "function.__dict__",.builtin "function.__dict__#set"] })::(nat_lit 249,{ cls:=.type "getset_descriptor",data:=.fields #[hS "__weakref__" 525,.ref 247,.builtin "ExceptionGroup.__weakref__",.none] })::(nat_lit 259,hU #[])::(nat_lit 261,hU #[hS "self" 545,hS "many" 546,hS "pushes" 547,hS "modes" 548])::(nat_lit 262,hU #[])::(nat_lit 264,hD "__init__" 542 "Thing.__init__" 543 544 111 4 3 259 260 .none (.ref 261) (.ref 262) (.ref 263) 549 111 550)::(nat_lit 265,hF "__init__" "Thing.__init__" (hI 39 0) .none .none "steadyhand.things" 483 264)::(nat_lit 266,hU #[])::(nat_lit 268,hU #[hS "self" 555])::(nat_lit 269,hU #[])::(nat_lit 271,hD "pushes" 552 "Thing.pushes" 553 554 120 1 3 266 267 .none (.ref 268) (.ref 269) (.ref 270) 556 120 557)::(nat_lit 272,hF "pushes" "Thing.pushes" (hI 39 1) .none .none "steadyhand.things" 483 271)::(nat_lit 273,hU #[])::(nat_lit 275,hU #[hS "self" 562])::(nat_lit 276,hU #[])::(nat_lit 278,hD "modes" 559 "Thing.modes" 560 561 123 1 3 273 274 .none (.ref 275) (.ref 276) (.ref 277) 563 123 564)::(nat_lit 279,hF "modes" "Thing.modes" (hI 39 2) .none .none "steadyhand.things" 483 278)::(nat_lit 280,hU #[])::(nat_lit 283,hD "is_closed" 566 "Thing.is_closed" 567 568 126 1 3 280 281 .none .none .none (.ref 282) 569 126 570)::(nat_lit 284,hF "is_closed" "Thing.is_closed" (hI 39 3) .none .none "steadyhand.things" 483 283)::(nat_lit 285,hU #[])::(nat_lit 287,hU #[hS "self" 575])::(nat_lit 288,hU #[])::(nat_lit 290,hD "is_plain" 572 "Thing.is_plain" 573 574 129 1 3 285 286 .none (.ref 287) (.ref 288) (.ref 289) 576 129 577)::(nat_lit 291,hF "is_plain" "Thing.is_plain" (hI 39 4) .none .none "steadyhand.things" 483 290)::(nat_lit 292,hU #[hS "kept_modes" 579,hS "kept_pushes" 580,hS "many" 581])::(nat_lit 293,{ cls:=.type "dict",data:=.dict #[hE P "__module__" 537 (hS "steadyhand.things" 483),hE P "__firstlineno__" 541 (.int 109 540),hE P "__init__" 551 (.ref 265),hE P "pushes" 558 (.ref 272),hE P "modes" 565 (.ref 279),hE P "is_closed" 571 (.ref 284),hE P "is_plain" 578 (.ref 291),hE P "__static_attributes__" 582 (.ref 292),hE P "__dict__" 584 (.ref 295),hE P "__weakref__" 586 (.ref 296),hE P "__doc__" 587 (.none)] 4 })::(nat_lit 294,{ cls:=.type "type",data:=.cls { name:="Thing",bases:=[.type "object"],mro:=[.ref 294,.type "object"],ns:=293,qualname:="Thing" },slots:=#[none,none,some (hS "Thing" 530),some (hS "Thing" 538),some (.builtin "object.__new__"),some (.bool true)] })::(nat_lit 295,{ cls:=.type "getset_descriptor",data:=.fields #[hS "__dict__" 583,.ref 294,.builtin "function.__dict__",.builtin "function.__dict__#set"] })::(nat_lit 296,{ cls:=.type "getset_descriptor",data:=.fields #[hS "__weakref__" 585,.ref 294,.builtin "ExceptionGroup.__weakref__",.none] })::(nat_lit 299,hU #[])::(nat_lit 302,hD "is_sound" 590 "is_sound" 591 592 131 3 3 299 300 .none .none .none (.ref 301) 593 131 594)::(nat_lit 303,hF "is_sound" "is_sound" (hT 40) .none .none "steadyhand.things" 483 302)::(nat_lit 304,hU #[])::(nat_lit 306,hU #[hS "value" 599])::(nat_lit 307,hU #[])::(nat_lit 309,hD "is_push" 596 "is_push" 597 598 139 1 3 304 305 .none (.ref 306) (.ref 307) (.ref 308) 600 139 601)::(nat_lit 310,hF "is_push" "is_push" (hT 41) .none .none "steadyhand.things" 483 309)::(nat_lit 311,hU #[])::(nat_lit 313,hU #[hS "value" 606,hS "many" 607,hS "wide" 608])::(nat_lit 314,hU #[])::(nat_lit 316,hD "is_mode" 603 "is_mode" 604 605 143 3 3 311 312 .none (.ref 313) (.ref 314) (.ref 315) 609 143 610)::(nat_lit 317,hF "is_mode" "is_mode" (hT 42) .none .none "steadyhand.things" 483 316)::(nat_lit 318,hU #[])::(nat_lit 321,hD "is_unsteered" 612 "is_unsteered" 613 614 151 1 3 318 319 .none .none .none (.ref 320) 615 151 616)::(nat_lit 322,hF "is_unsteered" "is_unsteered" (hT 43) .none .none "steadyhand.things" 483 321)::(nat_lit 323,hU #[])::(nat_lit 325,hU #[hS "thing" 621])::(nat_lit 326,hU #[])::(nat_lit 328,hD "ask_closed" 618 "ask_closed" 619 620 153 1 3 323 324 .none (.ref 325) (.ref 326) (.ref 327) 622 153 623)::(nat_lit 329,hF "ask_closed" "ask_closed" (hT 44) .none .none "steadyhand.things" 483 328)::(nat_lit 337,hU #[])::(nat_lit 338,{ cls:=.type "dict",data:=.dict #[hE P "__module__" 634 (hS "steadyhand.papers" 625),hE P "__firstlineno__" 638 (.int 157 637),hE P "__static_attributes__" 639 (.ref 337),hE P "__dict__" 641 (.ref 340),hE P "__weakref__" 643 (.ref 341),hE P "__doc__" 644 (.none)] 4 })::(nat_lit 339,{ cls:=.type "type",data:=.cls { name:="Paper",bases:=[.type "object"],mro:=[.ref 339,.type "object"],ns:=338,qualname:="Paper",subclasses:=[.ref 360,.ref 379] },slots:=#[none,none,some (hS "Paper" 627),some (hS "Paper" 635),some (.builtin "object.__new__"),some (.bool true)] })::(nat_lit 340,{ cls:=.type "getset_descriptor",data:=.fields #[hS "__dict__" 640,.ref 339,.builtin "function.__dict__",.builtin "function.__dict__#set"] })::(nat_lit 341,{ cls:=.type "getset_descriptor",data:=.fields #[hS "__weakref__" 642,.ref 339,.builtin "ExceptionGroup.__weakref__",.none] })::(nat_lit 344,hU #[.ref 339])::(nat_lit 351,hU #[])::(nat_lit 353,hU #[hS "self" 662,hS "rooms" 663,hS "back" 664,hS "starts" 665,hS "steps" 666,hS "stays" 667])::(nat_lit 354,hU #[])::(nat_lit 356,hD "__init__" 659 "Rooms.__init__" 660 661 161 6 3 351 352 .none (.ref 353) (.ref 354) (.ref 355) 668 161 669)::(nat_lit 357,hF "__init__" "Rooms.__init__" (hI 47 0) .none .none "steadyhand.papers" 625 356)::(nat_lit 358,hU #[hS "back" 671,hS "rooms" 672,hS "starts" 673,hS "stays" 674,hS "steps" 675])::(nat_lit 359,{ cls:=.type "dict",data:=.dict #[hE P "__module__" 654 (hS "steadyhand.papers" 625),hE P "__firstlineno__" 658 (.int 159 657),hE P "__init__" 670 (.ref 357),hE P "__static_attributes__" 676 (.ref 358),hE P "__doc__" 677 (.none)] 2 })::(nat_lit 360,{ cls:=.type "type",data:=.cls { name:="Rooms",bases:=[.ref 339],mro:=[.ref 360,.ref 339,.type "object"],ns:=359,qualname:="Rooms" },slots:=#[some (.ref 344),none,some (hS "Rooms" 647),some (hS "Rooms" 655),some (.builtin "object.__new__"),some (.bool true)] })::(nat_lit 363,hU #[.ref 339])::(nat_lit 370,hU #[])::(nat_lit 372,hU #[hS "self" 695,hS "room" 696,hS "starts" 697,hS "steps" 698,hS "measure" 699,hS "step" 700,hS "top" 701,hS "falls" 702,hS "floors" 703,hS "tops" 704])::(nat_lit 373,hU #[])::(nat_lit 375,hD "__init__" 692 "Falls.__init__" 693 694 169 10 3 370 371 .none (.ref 372) (.ref 373) (.ref 374) 705 169 706)::(nat_lit 376,hF "__init__" "Falls.__init__" (hI 48 0) .none .none "steadyhand.papers" 625 375)::(nat_lit 377,hU #[hS "falls" 708,hS "floors" 709,hS "measure" 710,hS "room" 711,hS "starts" 712,hS "step" 713,hS "steps" 714,hS "top" 715,hS "tops" 716])::(nat_lit 378,{ cls:=.type "dict",data:=.dict #[hE P "__module__" 687 (hS "steadyhand.papers" 625),hE P "__firstlineno__" 691 (.int 167 690),hE P "__init__" 707 (.ref 376),hE P "__static_attributes__" 717 (.ref 377),hE P "__doc__" 718 (.none)] 2 })::(nat_lit 379,{ cls:=.type "type",data:=.cls { name:="Falls",bases:=[.ref 339],mro:=[.ref 379,.ref 339,.type "object"],ns:=378,qualname:="Falls" },slots:=#[some (.ref 363),none,some (hS "Falls" 680),some (hS "Falls" 688),some (.builtin "object.__new__"),some (.bool true)] })::(nat_lit 382,hU #[])::(nat_lit 384,hU #[hS "thing" 724,hS "claim" 725,hS "paper" 726])::(nat_lit 385,hU #[])::(nat_lit 387,hD "lets_by" 721 "lets_by" 722 723 179 3 3 382 383 .none (.ref 384) (.ref 385) (.ref 386) 727 179 728)::(nat_lit 388,hF "lets_by" "lets_by" (hT 49) .none .none "steadyhand.papers" 625 387)::(nat_lit 389,hU #[])::(nat_lit 391,hU #[hS "value" 733,hS "count" 734])::(nat_lit 392,hU #[])::(nat_lit 394,hD "is_list_of" 730 "is_list_of" 731 732 186 2 3 389 390 .none (.ref 391) (.ref 392) (.ref 393) 735 186 736)::(nat_lit 395,hF "is_list_of" "is_list_of" (hT 50) .none .none "steadyhand.papers" 625 394)::(nat_lit 396,hU #[])::(nat_lit 399,hD "each_shown" 738 "each_shown" 739 740 188 3 3 396 397 .none .none .none (.ref 398) 741 188 742)::(nat_lit 400,hF "each_shown" "each_shown" (hT 51) .none .none "steadyhand.papers" 625 399)::(nat_lit 401,hU #[])::(nat_lit 403,hU #[hS "claim" 747,hS "many" 748])::(nat_lit 404,hU #[])::(nat_lit 406,hD "settles_over" 744 "settles_over" 745 746 192 2 3 401 402 .none (.ref 403) (.ref 404) (.ref 405) 749 192 750)::(nat_lit 407,hF "settles_over" "settles_over" (hT 52) .none .none "steadyhand.papers" 625 406)::(nat_lit 408,hU #[])::(nat_lit 410,hU #[hS "claim" 755,hS "many" 756])::(nat_lit 411,hU #[])::(nat_lit 413,hD "comes_over" 752 "comes_over" 753 754 194 2 3 408 409 .none (.ref 410) (.ref 411) (.ref 412) 757 194 758)::(nat_lit 414,hF "comes_over" "comes_over" (hT 53) .none .none "steadyhand.papers" 625 413)::(nat_lit 415,hU #[])::(nat_lit 417,hU #[hS "thing" 763,hS "claim" 764,hS "paper" 765])::(nat_lit 418,hU #[])::(nat_lit 420,hD "lets_rooms_by" 760 "lets_rooms_by" 761 762 196 3 3 415 416 .none (.ref 417) (.ref 418) (.ref 419) 766 196 767)::(nat_lit 421,hF "lets_rooms_by" "lets_rooms_by" (hT 54) .none .none "steadyhand.papers" 625 420)::(nat_lit 422,hU #[])::(nat_lit 425,hD "are_rooms" 769 "are_rooms" 770 771 204 2 3 422 423 .none .none .none (.ref 424) 772 204 773)::(nat_lit 426,hF "are_rooms" "are_rooms" (hT 55) .none .none "steadyhand.papers" 625 425)::(nat_lit 427,hU #[])::(nat_lit 430,hD "rooms_follow" 775 "rooms_follow" 776 777 206 2 3 427 428 .none .none .none (.ref 429) 778 206 779)::(nat_lit 431,hF "rooms_follow" "rooms_follow" (hT 56) .none .none "steadyhand.papers" 625 430)::(nat_lit 432,hU #[])::(nat_lit 435,hD "leads" 781 "leads" 782 783 211 4 3 432 433 .none .none .none (.ref 434) 784 211 785)::(nat_lit 436,hF "leads" "leads" (hT 57) .none .none "steadyhand.papers" 625 435)::(nat_lit 437,hU #[])::(nat_lit 440,hD "mode_leads" 787 "mode_leads" 788 789 216 5 3 437 438 .none .none .none (.ref 439) 790 216 791)::(nat_lit 441,hF "mode_leads" "mode_leads" (hT 58) .none .none "steadyhand.papers" 625 440)::(nat_lit 442,hU #[])::(nat_lit 445,hD "rooms_stay" 793 "rooms_stay" 794 795 218 2 3 442 443 .none .none .none (.ref 444) 796 218 797)::(nat_lit 446,hF "rooms_stay" "rooms_stay" (hT 59) .none .none "steadyhand.papers" 625 445)::(nat_lit 447,hU #[])::(nat_lit 449,hU #[hS "thing" 802,hS "claim" 803,hS "paper" 804])::(nat_lit 450,hU #[])::(nat_lit 452,hD "lets_fall_by" 799 "lets_fall_by" 800 801 223 3 3 447 448 .none (.ref 449) (.ref 450) (.ref 451) 805 223 806)::(nat_lit 453,hF "lets_fall_by" "lets_fall_by" (hT 60) .none .none "steadyhand.papers" 625 452)::(nat_lit 454,hU #[])::(nat_lit 456,hU #[hS "measure" 811,hS "top" 812])::(nat_lit 457,hU #[])::(nat_lit 459,hD "height_at_most" 808 "height_at_most" 809 810 237 2 3 454 455 .none (.ref 456) (.ref 457) (.ref 458) 813 237 814)::(nat_lit 460,hF "height_at_most" "height_at_most" (hT 61) .none .none "steadyhand.papers" 625 459)::(nat_lit 461,hU #[])::(nat_lit 464,hD "height_from_0_on" 816 "height_from_0_on" 817 818 239 1 3 461 462 .none .none .none (.ref 463) 819 239 820)::(nat_lit 465,hF "height_from_0_on" "height_from_0_on" (hT 62) .none .none "steadyhand.papers" 625 464)::(nat_lit 466,hU #[])::(nat_lit 468,hU #[hS "thing" 825,hS "mode" 826,hS "measure" 827,hS "step" 828,hS "ahead" 829,hS "less" 830])::(nat_lit 469,hU #[])::(nat_lit 471,hD "fall_row" 822 "fall_row" 823 824 241 4 3 466 467 .none (.ref 468) (.ref 469) (.ref 470) 831 241 832)::(nat_lit 472,hF "fall_row" "fall_row" (hT 63) .none .none "steadyhand.papers" 625 471)::(nat_lit 473,hU #[])::(nat_lit 476,hD "floors_hold" 834 "floors_hold" 835 836 245 2 3 473 474 .none .none .none (.ref 475) 837 245 838)::(nat_lit 477,hF "floors_hold" "floors_hold" (hT 64) .none .none "steadyhand.papers" 625 476)::(nat_lit 478,hU #[])::(nat_lit 481,hD "falls_hold" 840 "falls_hold" 841 842 250 3 3 478 479 .none .none .none (.ref 480) 843 250 844)::(nat_lit 482,hF "falls_hold" "falls_hold" (hT 65) .none .none "steadyhand.papers" 625 481)::(nat_lit 483,hU #[])::(nat_lit 486,hD "mode_falls" 846 "mode_falls" 847 848 255 5 3 483 484 .none .none .none (.ref 485) 849 255 850)::(nat_lit 487,hF "mode_falls" "mode_falls" (hT 66) .none .none "steadyhand.papers" 625 486)::(nat_lit 488,hU #[])::(nat_lit 490,hU #[hS "_law_script" 857,hS "_law_k" 858])::(nat_lit 491,hU #[])::(nat_lit 493,hD "_law_cell_at" 854 "_law_cell_at" 855 856 262 2 3 488 489 .none (.ref 490) (.ref 491) (.ref 492) 859 262 860)::(nat_lit 494,hF "_law_cell_at" "_law_cell_at" (hT 68) .none .none "law_steadyhand_k55_papers_of_falls_as_told" 852 493)::(nat_lit 495,hU #[])::(nat_lit 497,hU #[hS "_law_cell" 865,hS "_law_many" 866,hS "_law_found" 867,hS "_law_rest" 868,hS "_law_k" 869,hS "_law_number_here" 870])::(nat_lit 498,hU #[])::(nat_lit 500,hD "_law_stream" 862 "_law_stream" 863 864 266 2 3 495 496 .none (.ref 497) (.ref 498) (.ref 499) 871 266 872)::(nat_lit 501,hF "_law_stream" "_law_stream" (hT 69) .none .none "law_steadyhand_k55_papers_of_falls_as_told" 852 500)::(nat_lit 502,hU #[])::(nat_lit 504,hU #[hS "_law_x" 877,hS "_law_far" 878])::(nat_lit 505,hU #[])::(nat_lit 507,hD "_law_number" 874 "_law_number" 875 876 279 2 3 502 503 .none (.ref 504) (.ref 505) (.ref 506) 879 279 880)::(nat_lit 508,hF "_law_number" "_law_number" (hT 70) .none .none "law_steadyhand_k55_papers_of_falls_as_told" 852 507)::(nat_lit 509,hU #[])::(nat_lit 512,hD "_law_made" 882 "_law_made" 883 884 281 1 3 509 510 .none .none .none (.ref 511) 885 281 886)::(nat_lit 513,hF "_law_made" "_law_made" (hT 71) .none .none "law_steadyhand_k55_papers_of_falls_as_told" 852 512)::(nat_lit 514,hU #[])::(nat_lit 516,hU #[hS "_law_cell" 891,hS "_law_many" 892,hS "_law_unit" 893,hS "_law_xs" 894,hS "_law_box_here" 895,hS "_law_i" 896,hS "_law_low" 897])::(nat_lit 517,hU #[])::(nat_lit 519,hD "_law_box" 888 "_law_box" 889 890 288 3 3 514 515 .none (.ref 516) (.ref 517) (.ref 518) 898 288 899)::(nat_lit 520,hF "_law_box" "_law_box" (hT 72) .none .none "law_steadyhand_k55_papers_of_falls_as_told" 852 519)::(nat_lit 521,hU #[])::(nat_lit 524,hD "_law_rows" 901 "_law_rows" 902 903 295 1 3 521 522 .none .none .none (.ref 523) 904 295 905)::(nat_lit 525,hF "_law_rows" "_law_rows" (hT 73) .none .none "law_steadyhand_k55_papers_of_falls_as_told" 852 524)::(nat_lit 526,hU #[])::(nat_lit 528,hU #[hS "_law_numbers" 910,hS "_law_box_here" 911,hS "_law_found" 912,hS "_law_number_here" 913,hS "_law_bounds" 914])::(nat_lit 529,hU #[])::(nat_lit 531,hD "_law_top" 907 "_law_top" 908 909 302 2 3 526 527 .none (.ref 528) (.ref 529) (.ref 530) 915 302 916)::(nat_lit 532,hF "_law_top" "_law_top" (hT 74) .none .none "law_steadyhand_k55_papers_of_falls_as_told" 852 531)::(nat_lit 533,hU #[])::(nat_lit 535,hU #[hS "_law_numbers" 921,hS "_law_found" 922,hS "_law_number_here" 923])::(nat_lit 536,hU #[])::(nat_lit 538,hD "_law_both" 918 "_law_both" 919 920 307 1 3 533 534 .none (.ref 535) (.ref 536) (.ref 537) 924 307 925)::(nat_lit 539,hF "_law_both" "_law_both" (hT 75) .none .none "law_steadyhand_k55_papers_of_falls_as_told" 852 538)::(nat_lit 540,hU #[])::(nat_lit 543,hD "_law_drift" 927 "_law_drift" 928 929 312 1 3 540 541 .none .none .none (.ref 542) 930 312 931)::(nat_lit 544,hF "_law_drift" "_law_drift" (hT 76) .none .none "law_steadyhand_k55_papers_of_falls_as_told" 852 543)::(nat_lit 545,hU #[])::(nat_lit 548,hD "_law_drift_mode" 933 "_law_drift_mode" 934 935 329 5 3 545 546 .none .none .none (.ref 547) 936 329 937)::(nat_lit 549,hF "_law_drift_mode" "_law_drift_mode" (hT 77) .none .none "law_steadyhand_k55_papers_of_falls_as_told" 852 548)::(nat_lit 550,hU #[])::(nat_lit 553,hD "_law_pushed" 939 "_law_pushed" 940 941 345 3 3 550 551 .none .none .none (.ref 552) 942 345 943)::(nat_lit 554,hF "_law_pushed" "_law_pushed" (hT 78) .none .none "law_steadyhand_k55_papers_of_falls_as_told" 852 553)::(nat_lit 555,hU #[])::(nat_lit 558,hD "_law_falling" 945 "_law_falling" 946 947 348 5 3 555 556 .none .none .none (.ref 557) 948 348 949)::(nat_lit 559,hF "_law_falling" "_law_falling" (hT 79) .none .none "law_steadyhand_k55_papers_of_falls_as_told" 852 558)::(nat_lit 560,hU #[])::(nat_lit 563,hD "_law_fall_parts" 951 "_law_fall_parts" 952 953 363 5 3 560 561 .none .none .none (.ref 562) 954 363 955)::(nat_lit 564,hF "_law_fall_parts" "_law_fall_parts" (hT 80) .none .none "law_steadyhand_k55_papers_of_falls_as_told" 852 563)::(nat_lit 565,hU #[])::(nat_lit 568,hD "_law_without_goal" 957 "_law_without_goal" 958 959 381 2 3 565 566 .none .none .none (.ref 567) 960 381 961)::(nat_lit 569,hF "_law_without_goal" "_law_without_goal" (hT 81) .none .none "law_steadyhand_k55_papers_of_falls_as_told" 852 568)::(nat_lit 570,hU #[])::(nat_lit 573,hD "_law_without_start" 963 "_law_without_start" 964 965 386 2 3 570 571 .none .none .none (.ref 572) 966 386 967)::(nat_lit 574,hF "_law_without_start" "_law_without_start" (hT 82) .none .none "law_steadyhand_k55_papers_of_falls_as_told" 852 573)::(nat_lit 575,hU #[])::(nat_lit 578,hD "_law_odd" 969 "_law_odd" 970 971 393 2 3 575 576 .none .none .none (.ref 577) 972 393 973)::(nat_lit 579,hF "_law_odd" "_law_odd" (hT 83) .none .none "law_steadyhand_k55_papers_of_falls_as_told" 852 578)::(nat_lit 580,hU #[])::(nat_lit 582,hU #[hS "_law_thing" 978,hS "_law_one" 979])::(nat_lit 583,hU #[])::(nat_lit 585,hD "_law_emptied" 975 "_law_emptied" 976 977 404 1 3 580 581 .none (.ref 582) (.ref 583) (.ref 584) 980 404 981)::(nat_lit 586,hF "_law_emptied" "_law_emptied" (hT 84) .none .none "law_steadyhand_k55_papers_of_falls_as_told" 852 585)::(nat_lit 587,hU #[])::(nat_lit 589,hU #[hS "_law_thing" 986,hS "_law_claim" 987,hS "_law_paper" 988,hS "_law_found" 989])::(nat_lit 590,hU #[])::(nat_lit 592,hD "_law_let" 983 "_law_let" 984 985 410 3 3 587 588 .none (.ref 589) (.ref 590) (.ref 591) 990 410 991)::(nat_lit 593,hF "_law_let" "_law_let" (hT 85) .none .none "law_steadyhand_k55_papers_of_falls_as_told" 852 592)::(nat_lit 594,hU #[])::(nat_lit 597,hD "_law_open" 993 "_law_open" 994 995 417 1 3 594 595 .none .none .none (.ref 596) 996 417 997)::(nat_lit 598,hF "_law_open" "_law_open" (hT 86) .none .none "law_steadyhand_k55_papers_of_falls_as_told" 852 597)::(nat_lit 599,hU #[])::(nat_lit 601,hU #[hS "_law_script" 1002,hS "_law_spec" 1003,hS "_law_goal" 1004,hS "_law_often" 1005,hS "_law_step" 1006,hS "_law_told" 1007,hS "_law_box_here" 1008,hS "_law_room" 1009,hS "_law_aims" 1010,hS "_law_measure" 1011,hS "_law_top_here" 1012,hS "_law_turns" 1013,hS "_law_parts" 1014,hS "_law_start" 1015,hS "_law_cell" 1016,hS "_law_starts" 1017,hS "_law_steps" 1018,hS "_law_rest" 1019,hS "_law_paper" 1020,hS "_law_handed" 1021,hS "_law_claim" 1022,hS "_law_found" 1023])::(nat_lit 602,hU #[])::(nat_lit 604,hD "law" 999 "law" 1000 1001 420 1 3 599 600 .none (.ref 601) (.ref 602) (.ref 603) 1024 420 1025)::(nat_lit 605,hF "law" "law" (hT 87) .none .none "law_steadyhand_k55_papers_of_falls_as_told" 852 604) :: []
noncomputable def ks:List Addr:=[2,3,15,17,18,20,21,22,29,30,31,32,35,42,43,44,47,54,55,56,59,66,67,68,71,73,74,76,77,78,81,82,83,86,87,88,89,92,93,94,95,98,99,100,103,104,105,108,109,110,113,114,115,118,119,127,128,129,130,131,134,141,142,144,145,147,148,149,150,151,154,161,163,164,166,167,168,169,170,173,176,177,178,181,182,183,185,186,188,189,190,193,194,195,198,199,200,202,203,205,206,207,209,210,212,213,214,216,217,219,220,221,224,225,226,229,230,238,240,241,243,244,245,246,247,248,249,259,261,262,264,265,266,268,269,271,272,273,275,276,278,279,280,283,284,285,287,288,290,291,292,293,294,295,296,299,302,303,304,306,307,309,310,311,313,314,316,317,318,321,322,323,325,326,328,329,337,338,339,340,341,344,351,353,354,356,357,358,359,360,363,370,372,373,375,376,377,378,379,382,384,385,387,388,389,391,392,394,395,396,399,400,401,403,404,406,407,408,410,411,413,414,415,417,418,420,421,422,425,426,427,430,431,432,435,436,437,440,441,442,445,446,447,449,450,452,453,454,456,457,459,460,461,464,465,466,468,469,471,472,473,476,477,478,481,482,483,486,487,488,490,491,493,494,495,497,498,500,501,502,504,505,507,508,509,512,513,514,516,517,519,520,521,524,525,526,528,529,531,532,533,535,536,538,539,540,543,544,545,548,549,550,553,554,555,558,559,560,563,564,565,568,569,570,573,574,575,578,579,580,582,583,585,586,587,589,590,592,593,594,597,598,599,601,602,604,605]
theorem ke:∀ P:Params,ks=(KK P).map (·.1):=λ_=>by
 kernel_rfl
noncomputable def vw:Program:={ PySem.Challenge.pw_steadyhand_k55_papers_of_falls_as_told with main:={ PySem.Challenge.pw_steadyhand_k55_papers_of_falls_as_told.main with body:=[hT 0,hT 2,hT 3,hT 4,hT 5,hT 7,hT 9,hT 10,hT 13,hT 14,hT 15,hT 16,hT 18,hT 19,hT 20,hT 22,hT 23,hT 24,hT 25,hT 27,hT 28,hT 30,hT 31,hT 32,hT 33,hT 35,hT 36,hT 37,hT 38,hT 39,hT 40,hT 41,hT 42,hT 43,hT 44,hT 46,hT 47,hT 48,hT 49,hT 50,hT 51,hT 52,hT 53,hT 54,hT 55,hT 56,hT 57,hT 58,hT 59,hT 60,hT 61,hT 62,hT 63,hT 64,hT 65,hT 66,hT 68,hT 69,hT 70,hT 71,hT 72,hT 73,hT 74,hT 75,hT 76,hT 77,hT 78,hT 79,hT 80,hT 81,hT 82,hT 83,hT 84,hT 85,hT 86,hT 87] } }
noncomputable def lo:List Str:=[dU "copied",dU "unit",dU "Settles"]
abbrev rr:RowW:=(OpenLaw.row PySem.Challenge.rw_steadyhand_k55_papers_of_falls_as_told).toRowW
noncomputable abbrev xt:Shared->Bool:=λs=>xlAt vw [] s && recOk rr.records s
noncomputable def bt:Params->BT:=λP=>(.node (boot_o_0 P) (.node (boot_o_1 P) (.node (boot_o_3 P) (.node (boot_o_7 P) .nil .nil) .nil) (.node (boot_o_5 P) (.node (boot_o_9 P) .nil .nil) .nil)) (.node (boot_o_2 P) (.node (boot_o_4 P) (.node (boot_o_8 P) .nil .nil) .nil) (.node (boot_o_6 P) (.node (boot_o_10 P) .nil .nil) .nil)))
noncomputable def lhs (T:Params->BT) (h:Params->Heap) (d:Drawn) (k:Nat) (w:World) (os:OsState):=(TT.runT treeTable PySem.Challenge.pw_steadyhand_k55_papers_of_falls_as_told w 11 (some (.ref 6)) 9536 ⟨T w.params,11,(h w.params).life,Array.mk [],d,k,os⟩ (topStub PySem.Challenge.pw_steadyhand_k55_papers_of_falls_as_told)).map (λs=>((staticsOk (importedModules PySem.Challenge.pw_steadyhand_k55_papers_of_falls_as_told.main.body) (h w.params) s.abs.heap && namesBound PySem.Challenge.pw_steadyhand_k55_papers_of_falls_as_told s.abs.heap && gensDone s.abs && laidKept (h w.params) s.abs.heap),openSeen vw lo (importedModules PySem.Challenge.pw_steadyhand_k55_papers_of_falls_as_told.main.body) xt true s.abs))
noncomputable def lhs2 (T:Params->BT) (h:Params->Heap) (d:Drawn) (k:Nat) (w:World) (os:OsState):=(TT.runT treeTable PySem.Challenge.pw_steadyhand_k55_papers_of_falls_as_told w 11 (some (.ref 6)) 9536 ⟨T w.params,11,(h w.params).life,Array.mk [],d,k,os⟩ (topStub PySem.Challenge.pw_steadyhand_k55_papers_of_falls_as_told)).map (λs=>ks.map s.abs.heap.get?)
noncomputable def rhs (_:Params->Frag) (w:World) (_:OsState):=some (true,openGood vw lo)
noncomputable def rhs2 (F:Params->Frag) (w:World) (_:OsState):=some ((F w.params).map λp=>some p.2)
lay_quick lhs rhs
lay_quick lhs2 rhs2
theorem same (w:World) (os:OsState):PySem.W.Fast.tw13846504619627737154 bt boot_heap boot_drawn boot_toks w os=PySem.W.Fast.tw9728415957709783177 KK w os:=by
 kernel_rfl
theorem kg (w:World) (os:OsState):PySem.W.Fast.tw2077828472817875898 bt boot_heap boot_drawn boot_toks w os=PySem.W.Fast.tw12805713441188202647 KK w os:=by
 kernel_rfl
theorem two {α β γ δ:Type} {o:Option α} {f:α->β × γ} {g:α->δ} {b:β} {c:γ} {d:δ} (h1:o.map f=some (b,c)) (h2:o.map g=some d):o.map (λs=>((f s).1,(f s).2,g s))=some (b,c,d):=by
 cases o with
 | none=>cases h1
 | some a=>
  injection h1 with h1
  injection h2 with h2
  show some ((f a).1,(f a).2,g a)=_
  rw [h1,h2]
theorem left:LeftO rr.prog vw lo xt (kHook KK ks ke).obs (kHook KK ks ke).val 9536:=
 TT.left_is (boot_open (by kernel_rfl) (by decide) (λ_=>by kernel_rfl)) (λ_=>by kernel_rfl) (λ_=>by kernel_rfl) (λ_=>by kernel_rfl) (λ_=>by kernel_rfl)
  λw os=>two ((congrArg (λf=>f bt boot_heap boot_drawn boot_toks w os) PySem.W.Fast.te13846504619627737154).trans ((same w os).trans (congrFun (congrFun (congrFun PySem.W.Fast.te9728415957709783177 KK) w) os).symm)) ((congrArg (λf=>f bt boot_heap boot_drawn boot_toks w os) PySem.W.Fast.te2077828472817875898).trans ((kg w os).trans (congrFun (congrFun (congrFun PySem.W.Fast.te12805713441188202647 KK) w) os).symm))
end H55
namespace L2
open PySem PySem.Spec PyProof.Rows
abbrev wO:=Sum Int Str
def Kg:wO->Value->Bool
 | .inl k,v=>Value.isInt k v
 | .inr x,v=>Value.isStrOf x v
def Ws (w:World):wO->Int
 | .inl k=>hashInt k
 | .inr x=>hashStr w x
theorem u8:∀ {k:wO} {v:Value},Kg k v=true->(∃ i t,k=Sum.inl i/\v=Value.int i t)\/(∃ x t,k=Sum.inr x/\v=Value.str x t)
 | .inl i,v,h=>by
  obtain ⟨t,e⟩:=Value.isInt_shape (k:=i) (v:=v) h
  exact .inl ⟨i,t,rfl,e⟩
 | .inr x,v,h=>by
  obtain ⟨t,e⟩:=Value.isStrOf_shape (x:=x) (v:=v) h
  exact .inr ⟨x,t,rfl,e⟩
theorem zQx (a b:Int):decide ((Sum.inl a:wO)=Sum.inl b)=(a == b):=by
 by_cases e:a=b
 ·subst e; simp
 ·have h:¬ (Sum.inl a:wO)=Sum.inl b:=λq=>e (Sum.inl.inj q)
  rw [decide_eq_false h]
  exact (beq_eq_false_iff_ne.mpr e).symm
theorem zQu (a b:Str):decide ((Sum.inr a:wO)=Sum.inr b)=decide (a=b):=by
 by_cases e:a=b
 ·subst e; simp
 ·have h:¬ (Sum.inr a:wO)=Sum.inr b:=λq=>e (Sum.inr.inj q)
  rw [decide_eq_false h,decide_eq_false e]
theorem zQw (a:Int) (b:Str):decide ((Sum.inl a:wO)=Sum.inr b)=false:=decide_eq_false (λq=>nomatch q)
theorem zQv (a:Str) (b:Int):decide ((Sum.inr a:wO)=Sum.inl b)=false:=decide_eq_false (λq=>nomatch q)
def Kh (prog:Program) (w:World):PySem.KeyKind prog w wO where
 is:=Kg
 hash:=Ws w
 inj:=λv a b ha hb=>by
  rcases u8 ha with ⟨i,t,rfl,rfl⟩ | ⟨x,t,rfl,rfl⟩
  ·rcases u8 hb with ⟨j,u,rfl,e⟩ | ⟨y,u,rfl,e⟩
   ·injection e with e1 _; rw [e1]
   ·exact nomatch e
  ·rcases u8 hb with ⟨j,u,rfl,e⟩ | ⟨y,u,rfl,e⟩
   ·exact nomatch e
   ·injection e with e1 _; rw [e1]
 byValue:=λk v h=>by
  rcases u8 h with ⟨i,t,rfl,rfl⟩ | ⟨x,t,rfl,rfl⟩ <;> rfl
 pyHash:=λhv h=>by
  rcases u8 hv with ⟨i,t,rfl,rfl⟩ | ⟨x,t,rfl,rfl⟩
  ·exact wpAny_pyHash_int h
  ·exact wpAny_pyHash_str h
 eqBool:=λhu hv h=>by
  rcases u8 hu with ⟨i,t,rfl,rfl⟩ | ⟨x,t,rfl,rfl⟩
  ·rcases u8 hv with ⟨j,u,rfl,rfl⟩ | ⟨y,u,rfl,rfl⟩
   ·rw [zQx] at h; exact wpAny_eqBool_int h
   ·rw [zQw] at h; exact SeqAt.EqAt.int_str i t y u _ _ _ _ h
  ·rcases u8 hv with ⟨j,u,rfl,rfl⟩ | ⟨y,u,rfl,rfl⟩
   ·rw [zQv] at h; exact SeqAt.EqAt.str_int x t j u _ _ _ _ h
   ·rw [zQu] at h; exact wpAny_eqBool_str h
 «strs»:=λk x t v h=>by
  rcases u8 h with ⟨i,u,rfl,e⟩ | ⟨y,u,rfl,e⟩
  ·exact nomatch e
  ·injection e with e1 _
   subst e1
   cases v <;> rfl
end L2
namespace L2
open PySem PySem.Spec PyProof.Rows
inductive V where
 | non | bl (b:Bool) | int (i:Int) | str (x:Str) | byt (b:Array UInt8) | flt (b:UInt64) | ref (a:Addr) | ty (n:String)
 deriving DecidableEq
def zR:V->Value->Prop
 | .non,u=>u=Value.none
 | .bl b,u=>u=Value.bool b
 | .int i,u=>∃ t,u=Value.int i t
 | .str x,u=>∃ t,u=Value.str x t
 | .byt b,u=>∃ t,u=Value.bytes b t
 | .flt b,u=>∃ t,u=Value.float b t
 | .ref a,u=>u=Value.ref a
 | .ty n,u=>u=Value.type n
abbrev zJ:List V->List Value->Prop:=Paired zR
theorem zJ.length {xs:List V} {us:List Value} (r:zJ xs us):xs.length=us.length:=Paired.length r
theorem zJ.get:∀ {xs:List V} {us:List Value} {i:Nat} {x:V},zJ xs us->xs[i]? = some x->∃ u,us[i]? = some u/\zR x u
 | _,_,_,_,.nil,e=>by simp at e
 | _,_,0,_,.cons r _,e=>by simp at e; subst e; exact ⟨_,rfl,r⟩
 | _,_,i + 1,x,.cons _ t,e=>by
  obtain ⟨u,h1,h2⟩:=zJ.get (i:=i) (x:=x) t (by simpa using e)
  exact ⟨u,by simpa using h1,h2⟩
theorem zJ.set {x:V} {u:Value} (r:zR x u):∀ {xs:List V} {us:List Value} (i:Nat),zJ xs us->zJ (xs.set i x) (us.set i u)
 | _,_,_,.nil=>.nil
 | _,_,0,.cons _ t=>.cons r t
 | _,_,i + 1,.cons q t=>.cons q (zJ.set r i t)
theorem zJ.append:∀ {xs ys:List V} {us ws:List Value},zJ xs us->zJ ys ws->zJ (xs++ys) (us++ws)
 | _,_,_,_,.nil,s=>s
 | _,_,_,_,.cons r t,s=>.cons r (zJ.append t s)
theorem zJ.take:∀ {xs:List V} {us:List Value} (n:Nat),zJ xs us->zJ (xs.take n) (us.take n)
 | _,_,0,_=>.nil
 | _,_,_ + 1,.nil=>.nil
 | _,_,n + 1,.cons r t=>.cons r (zJ.take n t)
theorem zJ.drop:∀ {xs:List V} {us:List Value} (n:Nat),zJ xs us->zJ (xs.drop n) (us.drop n)
 | _,_,0,r=>r
 | _,_,_ + 1,.nil=>.nil
 | _,_,n + 1,.cons _ t=>zJ.drop n t
def wE:Option V->Option Value->Prop
 | some v,some u=>zR v u
 | none,none=>True
 | _,_=>False
def KV {κ:Type}:List (κ × V)->List (κ × Value)->Prop:=Paired λ(p:κ × V) (q:κ × Value)=>p.1=q.1/\zR p.2 q.2
def kV:wO->V
 | .inl i=>.int i
 | .inr x=>.str x
inductive HO where
 | lst (xs:List V)
 | tup (xs:List V)
 | dK (kvs:List (wO × V)) | dT (kvs:List (List wO × V))
 | set (S:Int->Bool) (n:Nat)
 | ins (C dx:Addr) (fs:List (Str × V))
 | own (x:Addr)
 | xd (fs:List (Str × V))
 | met (f x:Addr)
 | rng (lo hi:Int)
 | frz (o:Obj) (u:HO)
 | tbl (ps:Array Value)
 | ext (φ:Heap->Prop)
abbrev Hp:=Addr->Option HO
def zV (H:Hp) (a:Addr) (o:HO):Hp:=λb=>if b=a then some o else H b
theorem xv {H:Hp} {a:Addr} {o:HO}:zV H a o a=some o:=by unfold zV; rw [if_pos rfl]
theorem zl {H:Hp} {a b:Addr} {o:HO} (h:b≠a):zV H a o b=H b:=by unfold zV; rw [if_neg h]
theorem kh {H:Hp} {a b:Addr} {o u:HO} (h:H a=some o) (h':H b=some u) (d:o≠u):a≠b:=by
 intro e; subst e; rw [h] at h'; exact d (Option.some.inj h')
theorem wC {H:Hp} {a b:Addr} {o:HO} (h:H a=some o) (h':H b=none):a≠b:=by
 intro e; subst e; rw [h] at h'; cases h'
section
variable (P:Program) (w:World)
def xU (H:Hp) (h:Heap) (a:Addr):HO->Prop
 | .lst xs=>xs.length<=sizeLine/\∃ (its:List Value) (n:Nat),zJ xs its/\h.get? a=some { cls:=.type "list",data:=.seq its.toArray n }
 | .tup xs=>xs.length<=sizeLine/\∃ its:List Value,zJ xs its/\IsTup h a its.toArray
 | .dK kvs=>kvs.length<=sizeLine/\(a == sysModules)=false/\∃ vs,KV kvs vs/\h.DictOf (Kh P w) a vs
 | .dT kvs=>kvs.length<=sizeLine/\(a == sysModules)=false/\∃ xs:List (List wO × Addr × Value),
   Paired (λ(p:List wO × V) (q:List wO × Addr × Value)=>p.1=q.1/\H q.2.1=some (.tup (p.1.map kV))/\zR p.2 q.2.2) kvs xs∧
   ∃ o es ep,h.get? a=some o/\o.ExactDict/\o.data=.dict es ep/\es.toList=xs.map (entryOfKey (tupleKind (Kh P w)))/\(xs.map (·.1)).Nodup
 | .set S n=>h.SetOf (intKind P w) a S n
 | .ins C dx fs=>H dx=some (.own a)/\fs.length<=1000/\dx≠a/\h.get? a=some (dZ C dx)∧
   ∃ mA,h.Ns1 dx mA/\(∀ f,wE (fs.lookup f) (mA f))/\PySem.Within mA (fs.map (·.1))
 | .own _=>∃ o,h.get? a=some o
 | .xd fs=>∃ mA,h.Ns1 a mA/\∀ f,wE (fs.lookup f) (mA f)
 | .rng lo hi=>∃ t u v,h.get? a=some { cls:=.type "range",data:=.fields #[.int lo t,.int hi u,.int 1 v] }
 | .frz o u=>h.get? a=some o/\xU H h a u
 | .tbl ps=>h.get? a=some { cls:=.none,data:=.fields ps }
 | .met f x=>h.get? a=some (ie (.ref f) (.ref x))
 | .ext φ=>φ h/\(∃ o,h.get? a=some o)/\∀ h1 h2:Heap,φ h1->(∀ o,h1.get? a=some o->h2.get? a=some o)->φ h2
def yn (H:Hp) (h:Heap):Prop:=∀ a o,H a=some o->xU P w H h a o
end
section
variable {P:Program} {w:World} {H H':Hp} {h h':Heap} {a:Addr} {o:HO}
theorem xU.lt (x:xU P w H h a o):a < h.objs.size:=by
 cases o with
 | lst xs=>obtain ⟨_,_,_,_,e⟩:=x; exact cB e
 | tup xs=>obtain ⟨_,_,_,p⟩:=x; exact p.lt
 | dK kvs=>obtain ⟨_,_,_,_,o,_,_,e,_⟩:=x; exact cB e
 | dT kvs=>obtain ⟨_,_,_,_,o,_,_,e,_⟩:=x; exact cB e
 | set S n=>obtain ⟨o,_,_,_,e,_⟩:=x; exact cB e
 | ins C dx fs=>obtain ⟨_,_,_,e,_⟩:=x; exact cB e
 | own y=>obtain ⟨_,e⟩:=x; exact cB e
 | xd fs=>obtain ⟨_,⟨_,_,_,e,_⟩,_⟩:=x; exact cB e
 | rng lo hi=>obtain ⟨_,_,_,e⟩:=x; exact cB e
 | frz ob u=>obtain ⟨e,_⟩:=x; exact cB e
 | tbl ps=>exact cB (show h.get? a=some _ from x)
 | met f y=>exact cB (show h.get? a=some _ from x)
 | ext φ=>obtain ⟨_,⟨_,e⟩,_⟩:=x; exact cB e
theorem Paired.mapP {α β:Type} {F G:α->β->Prop}:∀ {l₁:List α} {l₂:List β},Paired F l₁ l₂->(∀ a b,F a b->G a b)->Paired G l₁ l₂
 | _,_,.nil,_=>.nil
 | _,_,.cons r t,f=>.cons (f _ _ r) (Paired.mapP t f)
theorem xU.stay (x:xU P w H h a o) (k:∀ b u,(b=a\/H b=some (.own a))->h.get? b=some u->h'.get? b=some u)
  (ho:∀ b,H b=some (.own a)->H' b=some (.own a)) (ht:∀ b xs,H b=some (.tup xs)->H' b=some (.tup xs)):xU P w H' h' a o:=by
 induction o with
 | lst xs=>obtain ⟨z,its,n,r,e⟩:=x; exact ⟨z,its,n,r,k _ _ (.inl rfl) e⟩
 | tup xs=>obtain ⟨z,its,r,ob,e,c⟩:=x; exact ⟨z,its,r,ob,k _ _ (.inl rfl) e,c⟩
 | dK kvs=>obtain ⟨z,y,vs,r,ob,es,ep,e,c⟩:=x; exact ⟨z,y,vs,r,ob,es,ep,k _ _ (.inl rfl) e,c⟩
 | dT kvs=>
  obtain ⟨z,y,xs,r,ob,es,ep,e,c⟩:=x
  exact ⟨z,y,xs,Paired.mapP r λp q z=>⟨z.1,ht _ _ z.2.1,z.2.2⟩,ob,es,ep,k _ _ (.inl rfl) e,c⟩
 | set S n=>obtain ⟨ob,es,ep,t,e,c⟩:=x; exact ⟨ob,es,ep,t,k _ _ (.inl rfl) e,c⟩
 | ins C dx fs=>
  obtain ⟨d,z,ne,e,mA,⟨od,es,ep,e2,c⟩,r⟩:=x
  exact ⟨ho _ d,z,ne,k _ _ (.inl rfl) e,mA,⟨od,es,ep,k _ _ (.inr d) e2,c⟩,r⟩
 | own y=>obtain ⟨ob,e⟩:=x; exact ⟨ob,k _ _ (.inl rfl) e⟩
 | xd fs=>obtain ⟨mA,⟨od,es,ep,e,c⟩,r⟩:=x; exact ⟨mA,⟨od,es,ep,k _ _ (.inl rfl) e,c⟩,r⟩
 | rng lo hi=>obtain ⟨t,u,v,e⟩:=x; exact ⟨t,u,v,k _ _ (.inl rfl) e⟩
 | frz ob u ih=>obtain ⟨e,q⟩:=x; exact ⟨k _ _ (.inl rfl) e,ih q⟩
 | tbl ps=>
  have e:h.get? a=some { cls:=.none,data:=.fields ps }:=x
  show h'.get? a=some { cls:=.none,data:=.fields ps }
  exact k a _ (.inl rfl) e
 | met f y=>
  have e:h.get? a=some (ie (.ref f) (.ref y)):=x
  show h'.get? a=some (ie (.ref f) (.ref y))
  exact k a _ (.inl rfl) e
 | ext φ=>obtain ⟨p,⟨o,e⟩,st⟩:=x; exact ⟨st _ _ p λo q=>k _ _ (.inl rfl) q,⟨o,k _ _ (.inl rfl) e⟩,st⟩
theorem yn.lt (x:yn P w H h) (e:H a=some o):a < h.objs.size:=(x a o e).lt
theorem yn.fresh (x:yn P w H h) (e:h.objs.size<=a):H a=none:=by
 cases q:H a with
 | none=>rfl
 | some u=>exact absurd (cF (x.lt q) e) (da _)
theorem yn.kept (x:yn P w H h) (k:∀ b u,h.get? b=some u->h'.get? b=some u):yn P w H h':=λa o e=>
 (x a o e).stay (λb u _ q=>k b u q) (λ_ q=>q) λ_ _ q=>q
theorem yn.laid (x:yn P w H h) (k:∀ b u,h.get? b=some u->h'.get? b=some u) (hp:h.objs.size<=a) (new:xU P w (zV H a o) h' a o):yn P w (zV H a o) h':=λb u e=>by
 have hn:=x.fresh hp
 by_cases hb:b=a
 ·subst hb; rw [xv] at e; cases e; exact new
 ·rw [zl hb] at e
  exact (x b u e).stay (λc v _ q=>k c v q) (λc q=>by rw [zl (wC q hn)]; exact q) λc xs q=>by rw [zl (wC q hn)]; exact q
end
def Rd (H:Hp) (a:Addr) (u:HO):Prop:=H a=some u\/∃ o,H a=some (.frz o u)
theorem Rd.ok {P:Program} {w:World} {H:Hp} {h:Heap} {a:Addr} {u:HO} (r:Rd H a u) (x:yn P w H h):xU P w H h a u:=by
 rcases r with r | ⟨o,r⟩
 ·exact x a u r
 ·obtain ⟨_,q⟩:=x a _ r
  exact q
def XT:Option HO->Prop
 | some (.lst _)=>True
 | some (.dK _)=>True
 | some (.dT _)=>True
 | some (.set _ _)=>True
 | some (.ins _ _ _)=>True
 | some (.ext _)=>True
 | _=>False
section
variable {P:Program} {w:World} {H:Hp} {h h':Heap} {x e:Addr} {o':HO}
theorem yn.write (ok:yn P w H h) (mu:XT (H x)) (he:e=x\/H e=some (.own x)) (k:∀ b u,b≠e->h.get? b=some u->h'.get? b=some u) (heo:∃ u,h'.get? e=some u)
  (new:xU P w (zV H x o') h' x o'):yn P w (zV H x o') h':=λb u q=>by
 have nown:∀ c y,H c=some (.own y)->c≠x:=λc y r z=>by subst z; rw [r] at mu; exact mu
 have ntup:∀ c xs,H c=some (.tup xs)->c≠x:=λc xs r z=>by subst z; rw [r] at mu; exact mu
 by_cases hb:b=x
 ·subst hb; rw [xv] at q; cases q; exact new
 ·rw [zl hb] at q
  by_cases hbe:b=e
  ·have q':H b=some (.own x):=by
    rcases he with z | z
    ·exact absurd (hbe.trans z) hb
    ·rw [hbe]; exact z
   rw [q] at q'; cases q'
   obtain ⟨v,hv⟩:=heo
   exact ⟨v,by rw [hbe]; exact hv⟩
  ·refine (ok b u q).stay (λc v hc r=>k c v ?_ r) (λc r=>by rw [zl (nown c b r)]; exact r) λc xs r=>by rw [zl (ntup c xs r)]; exact r
   rcases hc with rfl | hc
   ·exact hbe
   ·rintro rfl
    rcases he with z | z
    ·exact nown c b hc z
    ·rw [hc] at z; cases z; exact hb rfl
end
structure Un (fs ex:List Addr) (H H':Hp) (h h':Heap):Prop where
 keep:∀ b o,h.get? b=some o->H b=none->b∉fs->b∉ex->h'.get? b=some o
 slot:∀ b o,h.get? b=some o->H b=none->b∈fs->b∉ex->∃ sl,h'.get? b=some { o with slots:=sl }
 free:∀ b o,h.get? b=some o->H b=none->b∉ex->H' b=none
 there:∀ b o,h.get? b=some o->b∉ex->∃ o',h'.get? b=some o'
 tups:∀ b xs,H b=some (.tup xs)->H' b=some (.tup xs)
 frzs:∀ b o u,H b=some (.frz o u)->H' b=some (.frz o u)
 tbls:∀ b ps,H b=some (.tbl ps)->∃ more,H' b=some (.tbl (ps++more))
section
variable {fs fs' ex ex':List Addr} {H H1 H2:Hp} {h h1 h2 h':Heap} {a x e:Addr} {o:HO}
theorem Un.any (u:Un fs ex H H1 h h1) {b:Addr} {ob:Obj} (q:h.get? b=some ob) (n:H b=none) (hx:b∉ex):∃ sl,h1.get? b=some { ob with slots:=sl }:=by
 by_cases hb:b∈fs
 ·exact u.slot b ob q n hb hx
 ·exact ⟨ob.slots,u.keep b ob q n hb hx⟩
theorem Un.trans (a:Un fs ex H H1 h h1) (b:Un fs ex H1 H2 h1 h2):Un fs ex H H2 h h2 where
 keep:=λc ob q n hc hx=>b.keep c ob (a.keep c ob q n hc hx) (a.free c ob q n hx) hc hx
 slot:=λc ob q n hc hx=>by
  obtain ⟨sl,e1⟩:=a.slot c ob q n hc hx
  obtain ⟨sl',e2⟩:=b.slot c _ e1 (a.free c ob q n hx) hc hx
  exact ⟨sl',e2⟩
 free:=λc ob q n hx=>by
  obtain ⟨o',e1⟩:=a.there c ob q hx
  exact b.free c o' e1 (a.free c ob q n hx) hx
 there:=λc ob q hx=>by
  obtain ⟨o',e1⟩:=a.there c ob q hx
  exact b.there c o' e1 hx
 tups:=λc xs q=>b.tups c xs (a.tups c xs q)
 frzs:=λc ob xs q=>b.frzs c ob xs (a.frzs c ob xs q)
 tbls:=λc ps q=>by
  obtain ⟨m1,e1⟩:=a.tbls c ps q
  obtain ⟨m2,e2⟩:=b.tbls c _ e1
  exact ⟨m1++m2,by rw [e2,iW]⟩
theorem Un.kept (k:∀ b u,h.get? b=some u->h'.get? b=some u):Un fs ex H H h h':=
 ⟨λb ob q _ _ _=>k b ob q,λb ob q _ _ _=>⟨ob.slots,k b ob q⟩,λ_ _ _ n _=>n,λb ob q _=>⟨ob,k b ob q⟩,λ_ _ q=>q,λ_ _ _ q=>q,λ_ ps q=>⟨#[],by rw [q]; simp⟩⟩
theorem Un.refl:Un fs ex H H h h:=Un.kept λ_ _ q=>q
theorem Un.laid (k:∀ b u,h.get? b=some u->h'.get? b=some u) (hp:h.objs.size<=a) (hn:H a=none):Un fs ex H (zV H a o) h h' where
 keep:=λb u q _ _ _=>k b u q
 slot:=λb u q _ _ _=>⟨u.slots,k b u q⟩
 free:=λb u q n _=>by rw [zl (dg (cF (cB q) hp))]; exact n
 there:=λb u q _=>⟨u,k b u q⟩
 tups:=λb xs q=>by rw [zl (wC q hn)]; exact q
 frzs:=λb u xs q=>by rw [zl (wC q hn)]; exact q
 tbls:=λb ps q=>⟨#[],by rw [zl (wC q hn),q]; simp⟩
theorem Un.write (mu:XT (H x)) (he:e=x\/H e=some (.own x)) (k:∀ b u,b≠e->h.get? b=some u->h'.get? b=some u) (heo:∃ u,h'.get? e=some u):Un fs ex H (zV H x o) h h':=by
 have hx:∀ b,H b=none->b≠x:=λb n z=>by subst z; rw [n] at mu; exact mu
 have hb:∀ b,H b=none->b≠e:=λb n z=>by
  subst z
  rcases he with r | r
  ·exact hx b n r
  ·rw [n] at r; cases r
 have hm:∀ b u,H b=some u->¬ XT (some u)->b≠x:=λb u q nm z=>by subst z; rw [q] at mu; exact nm mu
 refine ⟨λb u q n _ _=>k b u (hb b n) q,λb u q n _ _=>⟨u.slots,k b u (hb b n) q⟩,λb u q n _=>by rw [zl (hx b n)]; exact n,λb u q _=>?_,
  λb xs q=>by rw [zl (hm b _ q λz=>z)]; exact q,λb u xs q=>by rw [zl (hm b _ q λz=>z)]; exact q,λb ps q=>⟨#[],by rw [zl (hm b _ q λz=>z),q]; simp⟩⟩
 by_cases hbe:b=e
 ·subst hbe; exact heo
 ·exact ⟨u,k b u hbe q⟩
theorem Un.mono (u:Un fs ex H H1 h h1) (hs:∀ b∈fs,b∈fs') (hx:∀ b∈ex,b∈ex'):Un fs' ex' H H1 h h1:=
 ⟨λb ob q n hb he=>u.keep b ob q n (λz=>hb (hs b z)) λz=>he (hx b z),λ_ _ q n _ he=>u.any q n λz=>he (hx _ z),λb ob q n he=>u.free b ob q n λz=>he (hx b z),λb ob q he=>u.there b ob q λz=>he (hx b z),u.tups,u.frzs,u.tbls⟩
end
def ul (h:Heap) (H:Hp):List Addr:=(cO h.objs.size).filter λa=>(H a).isSome
def wR (h:Heap) (H:Hp):Heap:=fe h (ul h H)
theorem zLW (h:Heap) (H:Hp):(wR h H).objs.size=h.objs.size:=PySem.W.hideAll_size _ _
theorem zNT {h:Heap} {H:Hp} {b:Addr} {o:Obj} (e:h.get? b=some o) (n:H b=none):(wR h H).get? b=some o:=
 e_ _ e λhm=>by
  have q:(H b).isSome=true:=(lJ.mp hm).2
  rw [n] at q; simp at q
theorem zPN {h:Heap} {H:Hp} {b:Addr} {o:Obj} (e:(wR h H).get? b=some o):h.get? b=some o/\H b=none:=by
 have e':h.get? b=some o:=hJ (ul h H) e
 refine ⟨e',?_⟩
 cases q:H b with
 | none=>rfl
 | some x=>
  have hm:b∈ul h H:=lJ.mpr ⟨eQ.mpr (cB e'),by simp [q]⟩
  have z:(wR h H).get? b=none:=PySem.W.hideAll_none (ul h H) hm
  rw [z] at e; cases e
def zPm (g h:Heap) (L:Addr):List (Addr × Obj):=(cO h.objs.size).filterMap λa=>if a=L\/(g.get? a).isSome=true then none else (h.get? a).map λo=>(a,o)
def ye (g h:Heap) (L d:Addr):List (Addr × Obj):=(zPm g h L).filter λp=>decide (p.1≠d)
end L2
namespace L2
open PySem PySem.Spec PyProof.Rows
structure Mod (K:cg) (mg:Str->Option Value) (base:Heap):Prop where
 kin:K.In base
 glob:base.Ns mainGlobals mg
 blt:∃ mb,base.Ns builtinsNs mb/\∀ x:Str,x≠"__name__"->mb x=bootBuiltins x
 nolimit:base.NoLimit
structure Cx where
 prog:Program
 w:World
 K:cg
 mg:Str->Option Value
 base:Heap
 A:Around
 N:List Str
 s₀:Shared
 H₀:Hp
 env:Env
 outer:List Env
 stack:List Env
 ex:List Addr
 fn:Str->Bool
 calm:Bool
 pn:List (Addr × Obj)
 xe:Value->Shared->Prop
def xE (l:List Env):List Addr:=l.filterMap (·.frame)
abbrev Cx.fs (X:Cx):List Addr:=xE X.outer
def gR (sc:Scope) (x:Str):Prop:=sc.names.lookup x=some .local\/sc.names.lookup x=some .cell\/sc.names.lookup x=some .free
def v5 (sc:Scope) (x:Str):Prop:=sc.names.lookup x=some .local\/sc.names.lookup x=some .cell
def Wt (env:Env) (h:Heap) (m:Str->Option Value) (x:Str) (u:Value):Prop:=
 (env.kindOf x=some .local/\m x=some u)\/((env.kindOf x=some .cell\/env.kindOf x=some .free)/\∃ c,env.cells.lookup x=some c/\h.IsCell c (some u))
structure Cx.Ok (X:Cx):Prop where
 mod:Mod X.K X.mg X.base
 kind:X.env.scope.kind=.function
 glob:X.env.globals=mainGlobals
 blt:X.env.builtins=builtinsNs
 above:X.s₀.heap.objs.size<=X.env.locals
 inj:∀ x y c,X.env.cells.lookup x=some c->X.env.cells.lookup y=some c->x=y
 has:∀ x,(X.env.kindOf x=some .cell\/X.env.kindOf x=some .free)->∃ c,X.env.cells.lookup x=some c
 cab:∀ x c,X.fn x=true->X.env.cells.lookup x=some c->X.s₀.heap.objs.size<=c
 hd:X.calm=true->X.A.handled=none
 frames:X.A.frames=some X.stack
 stk:X.stack=X.outer\/(X.stack=X.env :: X.outer/\X.env.frame=some X.env.locals)
 exf:∀ b∈X.ex,b≠X.env.locals/\∀ x c,X.env.cells.lookup x=some c->c≠b
 bs:∀ b o,X.base.get? b=some o->X.s₀.heap.get? b=some o/\X.H₀ b=none
 bsz:X.base.objs.size<=X.s₀.heap.objs.size
 noex:∀ b o,X.base.get? b=some o->b∉X.ex
 exfs:∀ b∈X.ex,b∉X.fs
 funs:X.s₀.heap.FunFrames X.base X.outer
 frf:∀ b∈X.fs,X.H₀ b=none
structure zE (X:Cx) (pins:List (Addr × Obj)) (σ:List (Option V)) (H:Hp) (s:Shared):Prop where
 ok:X.Ok
 os:s.os=X.s₀.os
 bare:AllBare s.gens
 base:Un X.fs X.ex X.H₀ H X.s₀.heap s.heap
 loc:∃ m,s.heap.Ns X.env.locals m/\∀ (i:Nat) (x:Str) (v:V),X.N[i]? = some x->σ[i]? = some (some v)->gR X.env.scope x->∃ u,zR v u/\Wt X.env s.heap m x u
 cell:∀ x c,X.env.cells.lookup x=some c->∃ v,s.heap.IsCell c v
 free:H X.env.locals=none
 freeC:∀ x c,X.env.cells.lookup x=some c->H c=none
 pin:∀ p∈X.pn++pins,s.heap.get? p.1=some p.2/\H p.1=none/\p.1≠X.env.locals/\p.1∉X.fs/\∀ v,p.2.data≠.cell v
 hok:yn X.prog X.w H s.heap
 len:σ.length=X.N.length
section
variable {X:Cx} {pins:List (Addr × Obj)} {σ:List (Option V)} {H H':Hp} {s:Shared} {h':Heap}
theorem Cx.Ok.nofr (ok:X.Ok) {b:Addr} {o:Obj} (e:X.base.get? b=some o):b∉X.fs:=λhb=>by
 have:=(ok.funs.mem hb).1
 rw [e] at this; cases this
theorem zE.bs (I:zE X pins σ H s):∀ b o,X.base.get? b=some o->s.heap.get? b=some o/\H b=none:=λb o e=>
 ⟨I.base.keep b o (I.ok.bs b o e).1 (I.ok.bs b o e).2 (I.ok.nofr e) (I.ok.noex b o e),I.base.free b o (I.ok.bs b o e).1 (I.ok.bs b o e).2 (I.ok.noex b o e)⟩
theorem zE.bk (I:zE X pins σ H s):∀ b o,X.base.get? b=some o->s.heap.get? b=some o:=λb o e=>(I.bs b o e).1
theorem zE.mod (I:zE X pins σ H s):Mod X.K X.mg X.base:=I.ok.mod
theorem zE.kIn (I:zE X pins σ H s):X.K.In s.heap:=I.ok.mod.kin.keeps I.bk
theorem zE.lt (I:zE X pins σ H s):X.env.locals < s.heap.objs.size:=let ⟨_,hn,_⟩:=I.loc; hn.lt
theorem zE.sz (I:zE X pins σ H s):X.s₀.heap.objs.size<=s.heap.objs.size:=dz I.ok.above (hV I.lt)
theorem zE.nofs (I:zE X pins σ H s) {a:Addr} (h:s.heap.objs.size<=a):a∉X.fs:=λhb=>by
 obtain ⟨_,o,ho,_⟩:=I.ok.funs.mem hb
 exact absurd (cF (cB ho) (dz I.sz h)) (da _)
theorem zE.cne (I:zE X pins σ H s):∀ x c,X.env.cells.lookup x=some c->c≠X.env.locals:=λx c e z=>by
 obtain ⟨v,o,ho,hd⟩:=I.cell x c e
 obtain ⟨m,⟨o',es,ep,ho',hd',_⟩,_⟩:=I.loc
 rw [z,ho'] at ho; cases ho; rw [hd'] at hd; cases hd
theorem zE.funs (I:zE X pins σ H s):s.heap.FunFrames X.base X.outer:=by
 have all:∀ (l:List Env),(∀ b∈xE l,b∈X.fs)->X.s₀.heap.FunFrames X.base l->s.heap.FunFrames X.base l:=by
  intro l
  induction l with
  | nil=>intro _ _; trivial
  | cons env r ih=>
   intro hs hl
   obtain ⟨hk,⟨L,o,hf,hn,ho,hd⟩,hr⟩:=hl
   have hL:L∈X.fs:=hs L (by unfold xE; rw [d_,hf]; exact cv)
   obtain ⟨sl,e⟩:=I.base.slot L o ho (I.ok.frf L hL) hL λz=>I.ok.exfs L z hL
   exact ⟨hk,⟨L,_,hf,hn,e,hd⟩,ih (λb hb=>hs b (by unfold xE; rw [d_,hf]; exact cr _ hb)) hr⟩
 exact all X.outer (λ_ hb=>hb) I.ok.funs
theorem zE.stack (I:zE X pins σ H s):s.heap.FunFrames X.base X.stack:=by
 rcases I.ok.stk with e | ⟨e,hf⟩
 ·rw [e]; exact I.funs
 ·rw [e]
  obtain ⟨m,hn,_⟩:=I.loc
  refine .cons (by rw [I.ok.kind]; decide) hf hn ?_ I.funs
  exact Heap.get?_none_of_le (dz I.ok.bsz I.ok.above)
theorem zE.stkSub (I:zE X pins σ H s):∀ b∈xE X.stack,b∈X.env.locals :: X.fs:=λb hb=>by
 rcases I.ok.stk with e | ⟨e,hf⟩
 ·rw [e] at hb; exact cr _ hb
 ·rw [e] at hb
  unfold xE at hb
  rw [d_,hf] at hb
  exact hb
theorem zE.stkFree (I:zE X pins σ H s):∀ b∈xE X.stack,H b=none:=λb hb=>by
 rcases cz.mp (I.stkSub b hb) with e | hb
 ·rw [e]; exact I.free
 ·obtain ⟨_,o,ho,_⟩:=I.ok.funs.mem hb
  exact I.base.free b o ho (I.ok.frf b hb) λz=>I.ok.exfs b z hb
theorem zE.step {g':Array GenState} {t':Nat} {d':Drawn} {ch:List Addr} (I:zE X pins σ H s)
  (hch:∀ b∈ch,(b∈X.ex\/X.s₀.heap.objs.size<=b)/\b≠X.env.locals/\(∀ x c,X.env.cells.lookup x=some c->c≠b)/\∀ p∈X.pn++pins,p.1≠b)
  (keep:∀ b o,b≠X.env.locals->b∉X.fs->b∉ch->s.heap.get? b=some o->H b=none->h'.get? b=some o)
  (slot:∀ b o,b≠X.env.locals->b∈X.fs->b∉ch->s.heap.get? b=some o->H b=none->∃ sl,h'.get? b=some { o with slots:=sl }) (free:∀ b o,b∉ch->s.heap.get? b=some o->H b=none->H' b=none)
  (there:∀ b o,b∉ch->s.heap.get? b=some o->∃ o',h'.get? b=some o')
  (tups:∀ b xs,H b=some (.tup xs)->H' b=some (.tup xs)) (frzs:∀ b o u,H b=some (.frz o u)->H' b=some (.frz o u)) (tbls:∀ b ps,H b=some (.tbl ps)->∃ more,H' b=some (.tbl (ps++more)))
  (ns:∀ m,s.heap.Ns X.env.locals m->h'.Ns X.env.locals m) (hok:yn X.prog X.w H' h') (hg:AllBare g') :
  zE X pins σ H' { s with heap:=h',gens:=g',drawn:=d',toks:=t' }:=by
 have neL:∀ b o,X.s₀.heap.get? b=some o->b≠X.env.locals:=λb o e=>dg (cF (cB e) I.ok.above)
 have neC:∀ b o,X.s₀.heap.get? b=some o->b∉X.ex->b∉ch:=λb o e hx hb=>by
  rcases (hch b hb).1 with z | z
  ·exact hx z
  ·exact absurd (cF (cB e) z) (da _)
 have cellK:∀ x c,X.env.cells.lookup x=some c->∀ v,s.heap.IsCell c v->h'.IsCell c v:=λx c e v ⟨o,ho,hd⟩=>by
  have nch:c∉ch:=λz=>(hch c z).2.2.1 x c e rfl
  by_cases hc:c∈X.fs
  ·obtain ⟨sl,q⟩:=slot c o (I.cne x c e) hc nch ho (I.freeC x c e)
   exact ⟨_,q,hd⟩
  ·exact ⟨o,keep c o (I.cne x c e) hc nch ho (I.freeC x c e),hd⟩
 refine ⟨I.ok,I.os,hg,⟨λb o e n hb hx=>?_,λb o e n hb hx=>?_,λb o e n hx=>?_,λb o e hx=>?_,λb xs e=>tups b xs (I.base.tups b xs e),λb o xs e=>frzs b o xs (I.base.frzs b o xs e),λb ps e=>?_⟩,?_,λx c e=>?_,?_,λx c e=>?_,λp hp=>?_,hok,I.len⟩
 ·exact keep b o (neL b o e) hb (neC b o e hx) (I.base.keep b o e n hb hx) (I.base.free b o e n hx)
 ·obtain ⟨sl,e1⟩:=I.base.slot b o e n hb hx
  obtain ⟨sl',e2⟩:=slot b _ (neL b o e) hb (neC b o e hx) e1 (I.base.free b o e n hx)
  exact ⟨sl',e2⟩
 ·obtain ⟨o',e1⟩:=I.base.there b o e hx
  exact free b o' (neC b o e hx) e1 (I.base.free b o e n hx)
 ·obtain ⟨o',e1⟩:=I.base.there b o e hx
  exact there b o' (neC b o e hx) e1
 ·obtain ⟨m1,e1⟩:=I.base.tbls b ps e
  obtain ⟨m2,e2⟩:=tbls b _ e1
  exact ⟨m1++m2,by rw [e2,iW]⟩
 ·obtain ⟨m,hn,hl⟩:=I.loc
  refine ⟨m,ns m hn,λi x v e1 e2 e3=>?_⟩
  obtain ⟨u,r,l⟩:=hl i x v e1 e2 e3
  refine ⟨u,r,?_⟩
  rcases l with l | ⟨k,c,e,z⟩
  ·exact .inl l
  ·exact .inr ⟨k,c,e,cellK x c e _ z⟩
 ·obtain ⟨v,z⟩:=I.cell x c e
  exact ⟨v,cellK x c e v z⟩
 ·obtain ⟨m,⟨o,_,_,ho,_⟩,_⟩:=I.loc
  exact free _ o (λz=>(hch _ z).2.1 rfl) ho I.free
 ·obtain ⟨v,o,ho,hd⟩:=I.cell x c e
  exact free c o (λz=>(hch c z).2.2.1 x c e rfl) ho (I.freeC x c e)
 ·obtain ⟨e,n,ne,nf,d⟩:=I.pin p hp
  have nch:p.1∉ch:=λz=>(hch p.1 z).2.2.2 p hp rfl
  exact ⟨keep p.1 p.2 ne nf nch e n,free p.1 p.2 nch e n,ne,nf,d⟩
theorem zE.un {t':Nat} (I:zE X pins σ H s) (u:Un X.fs [] H H' s.heap h') (hok:yn X.prog X.w H' h'):zE X pins σ H' { s with heap:=h',toks:=t' }:=by
 obtain ⟨m,⟨o,es,ep,ho,r⟩,_⟩:=id I.loc
 obtain ⟨sl,hL⟩:=u.any ho I.free (by simp)
 exact I.step (g':=s.gens) (d':=s.drawn) (ch:=[]) (λ_ z=>nomatch z) (λb o _ hb _ e n=>u.keep b o e n hb (by simp)) (λb o _ hb _ e n=>u.slot b o e n hb (by simp)) (λb o _ e n=>u.free b o e n (by simp)) (λb o _ e=>u.there b o e (by simp)) u.tups u.frzs u.tbls (λm' hm=>by
  obtain ⟨o',es',ep',ho',r'⟩:=hm
  rw [ho] at ho'; cases ho'
  exact ⟨_,es',ep',hL,r'⟩) hok I.bare
theorem zE.call {g':Array GenState} {t':Nat} {d':Drawn} {ch:List Addr} (I:zE X pins σ H s) (u:Un (xE X.stack) ch H H' s.heap h') (hok:yn X.prog X.w H' h') (hg:AllBare g')
  (hch:∀ b∈ch,(b∈X.ex\/X.s₀.heap.objs.size<=b)/\b≠X.env.locals/\(∀ x c,X.env.cells.lookup x=some c->c≠b)/\∀ p∈X.pn++pins,p.1≠b) :
  zE X pins σ H' { s with heap:=h',gens:=g',drawn:=d',toks:=t' }:=by
 obtain ⟨m,⟨o,es,ep,ho,r⟩,_⟩:=id I.loc
 obtain ⟨sl,hL⟩:=u.any ho I.free λz=>(hch _ z).2.1 rfl
 exact I.step (ch:=ch) hch (λb o hL hb hc e n=>u.keep b o e n (λz=>(cz.mp (I.stkSub b z)).elim hL hb) hc) (λb o _ _ hc e n=>u.any e n hc) (λb o hc e n=>u.free b o e n hc) (λb o hc e=>u.there b o e hc) u.tups u.frzs u.tbls (λm' hm=>by
  obtain ⟨o',es',ep',ho',r'⟩:=hm
  rw [ho] at ho'; cases ho'
  exact ⟨_,es',ep',hL,r'⟩) hok hg
theorem zE.turned {t':Nat} {it:Addr} (I:zE X pins σ H s) (k:∀ b o,b≠it->s.heap.get? b=some o->h'.get? b=some o) (hn:H it=none) (hL:it≠X.env.locals)
  (h1:it∈X.ex\/X.s₀.heap.objs.size<=it) (h2:∀ x c,X.env.cells.lookup x=some c->c≠it) (h3:∀ p∈X.pn++pins,p.1≠it):zE X pins σ H { s with heap:=h',toks:=t' }:=by
 have nit:∀ b u,H b=some u->b≠it:=λb u e z=>by rw [z,hn] at e; cases e
 refine I.step (g':=s.gens) (d':=s.drawn) (ch:=[it]) (λb hb=>?_) (λb o _ _ hc e _=>k b o (λz=>hc (by simp [z])) e) (λb o _ _ hc e _=>⟨o.slots,k b o (λz=>hc (by simp [z])) e⟩) (λ_ _ _ _ n=>n)
  (λb o hc e=>⟨o,k b o (λz=>hc (by simp [z])) e⟩) (λ_ _ e=>e) (λ_ _ _ e=>e) (λb ps e=>⟨#[],by rw [e]; simp⟩) (λm hm=>?_) (λb u e=>?_) I.bare
 ·have e:b=it:=by simpa using hb
  subst e
  exact ⟨h1,hL,h2,h3⟩
 ·obtain ⟨o,es,ep,ho,r⟩:=hm
  exact ⟨o,es,ep,k _ o (Ne.symm hL) ho,r⟩
 ·refine (I.hok b u e).stay (λc v hc q=>k c v ?_ q) (λ_ q=>q) λ_ _ q=>q
  rcases hc with z | z
  ·rw [z]; exact nit b u e
  ·exact nit c _ z
theorem zE.tok (I:zE X pins σ H s) (t:Nat):zE X pins σ H { s with toks:=t }:=I.un (h':=s.heap) (t':=t) Un.refl I.hok
theorem zE.kept {t':Nat} (I:zE X pins σ H s) (k:∀ b u,s.heap.get? b=some u->h'.get? b=some u):zE X pins σ H { s with heap:=h',toks:=t' }:=I.un (Un.kept k) (I.hok.kept k)
theorem zE.laid {a:Addr} {o:HO} {t':Nat} (I:zE X pins σ H s) (k:∀ b u,s.heap.get? b=some u->h'.get? b=some u) (hp:s.heap.objs.size<=a) (new:xU X.prog X.w (zV H a o) h' a o) :
  zE X pins σ (zV H a o) { s with heap:=h',toks:=t' }:=I.un (Un.laid k hp (I.hok.fresh hp)) (I.hok.laid k hp new)
theorem zE.write {x e:Addr} {o:HO} {t':Nat} (I:zE X pins σ H s) (mu:XT (H x)) (he:e=x\/H e=some (.own x)) (k:∀ b u,b≠e->s.heap.get? b=some u->h'.get? b=some u) (heo:∃ u,h'.get? e=some u)
  (new:xU X.prog X.w (zV H x o) h' x o):zE X pins σ (zV H x o) { s with heap:=h',toks:=t' }:=I.un (Un.write mu he k heo) (I.hok.write mu he k heo new)
theorem zE.pins_of {pins':List (Addr × Obj)} (I:zE X pins σ H s) (h:∀ p∈pins',s.heap.get? p.1=some p.2/\H p.1=none/\p.1≠X.env.locals/\p.1∉X.fs/\∀ v,p.2.data≠.cell v):zE X pins' σ H s:=
 ⟨I.ok,I.os,I.bare,I.base,I.loc,I.cell,I.free,I.freeC,λp hp=>(cN.mp hp).elim (λz=>I.pin p (fW _ z)) (h p),I.hok,I.len⟩
theorem Ki {N:List Str} (hN:N.Nodup) {i j:Nat} {x:Str} (a:N[i]? = some x) (b:N[j]? = some x):i=j:=by
 obtain ⟨h1,e1⟩:=cP.mp a
 obtain ⟨h2,e2⟩:=cP.mp b
 exact (List.getElem_inj hN).mp (e1.trans e2.symm)
theorem Kj {M:Model} {A:Around} {E:Value->Shared->Prop} {i:Nat} {x:Str} {v:V} {u:Value} {Q:Unit->Shared->Prop} (I:zE X pins σ H s) (hN:X.N.Nodup) (hi:X.N[i]? = some x) (hx:v5 X.env.scope x) (r:zR v u)
  (h:∀ s',zE X pins (σ.set i (some v)) H s'->(∃ a,Heap.SameBut a s.heap s'.heap/\(a=X.env.locals\/X.env.cells.lookup x=some a))->Q () s') (hf:X.fn x=true\/X.env.scope.names.lookup x=some .local:=by first | exact .inl rfl | exact .inr rfl | assumption):wpAny M A (storeName X.env x u) Q E s:=by
 obtain ⟨m,hn,hl⟩:=id I.loc
 have hcls:(X.env.scope.kind == .class || (X.env.scope.kind == .module && X.env.locals != X.env.globals))=false:=by rw [I.ok.kind]; rfl
 have hiσ:i < σ.length:=by rw [I.len]; exact (cP.mp hi).1
 have cne:=I.cne
 have tracked:∀ {a:Addr} {h':Heap},(∃ o,s.heap.get? a=some o/\H a=none)->Heap.SameBut a s.heap h'->yn X.prog X.w H h':=λ{a h'} ha hs b ob e=>by
  obtain ⟨_,_,hfree⟩:=ha
  refine (I.hok b ob e).stay (λc w' hc q=>(hs.2 c ?_).trans q) (λ_ q=>q) λ_ _ q=>q
  rintro rfl
  rcases hc with rfl | hc
  ·rw [hfree] at e; cases e
  ·rw [hfree] at hc; cases hc
 rcases hx with hk | hk
 ·refine wpAny_storeName_local hk hn (λh' hn' hs=>?_) hcls
  obtain ⟨oL,_,_,hoL,_⟩:=id hn
  refine h _ ⟨I.ok,I.os,I.bare,⟨λb o e n hb hx=>?_,λb o e n hb hx=>?_,I.base.free,λb o e hx=>?_,I.base.tups,I.base.frzs,I.base.tbls⟩,⟨_,hn',λj y v' e1 e2 e3=>?_⟩,λy c e=>?_,I.free,I.freeC,λp hp=>?_,tracked ⟨oL,hoL,I.free⟩ hs,by simpa using I.len⟩ ⟨_,hs,.inl rfl⟩
  ·exact (hs.2 b (dg (cF (cB e) I.ok.above))).trans (I.base.keep b o e n hb hx)
  ·obtain ⟨sl,e1⟩:=I.base.slot b o e n hb hx
   exact ⟨sl,(hs.2 b (dg (cF (cB e) I.ok.above))).trans e1⟩
  ·obtain ⟨o',e1⟩:=I.base.there b o e hx
   exact ⟨o',(hs.2 b (dg (cF (cB e) I.ok.above))).trans e1⟩
  ·by_cases hj:j=i
   ·subst hj
    rw [hi] at e1; cases e1
    rw [dB hiσ] at e2
    cases e2
    exact ⟨u,r,.inl ⟨hk,by simp⟩⟩
   ·rw [cQ (Ne.symm hj)] at e2
    obtain ⟨u',r',q⟩:=hl j y v' e1 e2 e3
    refine ⟨u',r',?_⟩
    rcases q with ⟨k,e⟩ | ⟨k,c,e,z⟩
    ·refine .inl ⟨k,?_⟩
     have:y≠x:=λe=>hj (Ki hN e1 (e ▸ hi))
     simp [this,e]
    ·exact .inr ⟨k,c,e,z.sameBut hs (cne y c e)⟩
  ·obtain ⟨w',z⟩:=I.cell y c e
   exact ⟨w',z.sameBut hs (cne y c e)⟩
  ·obtain ⟨e,n,ne,nf,d⟩:=I.pin p hp
   exact ⟨(hs.2 p.1 ne).trans e,n,ne,nf,d⟩
 ·have hfn:X.fn x=true:=by
   rcases hf with z | z
   ·exact z
   ·rw [z] at hk; cases hk
  obtain ⟨c,hc⟩:=I.ok.has x (.inl hk)
  obtain ⟨w',z⟩:=I.cell x c hc
  refine wpAny_storeName_cell I.ok.kind hk hc z (λh' hc' hs=>?_)
  obtain ⟨oc,hoc,hocd⟩:=id z
  refine h { s with heap:=h' } ⟨I.ok,I.os,I.bare,⟨λb o e n hb hx=>?_,λb o e n hb hx=>?_,I.base.free,λb o e hx=>?_,I.base.tups,I.base.frzs,I.base.tbls⟩,⟨m,hn.sameBut hs (Ne.symm (cne x c hc)),λj y v' e1 e2 e3=>?_⟩,λy c' e=>?_,I.free,I.freeC,λp hp=>?_,tracked ⟨oc,hoc,I.freeC x c hc⟩ hs,by simpa using I.len⟩ ⟨c,hs,.inr hc⟩
  ·exact (hs.2 b (dg (cF (cB e) (I.ok.cab x c hfn hc)))).trans (I.base.keep b o e n hb hx)
  ·obtain ⟨sl,e1⟩:=I.base.slot b o e n hb hx
   exact ⟨sl,(hs.2 b (dg (cF (cB e) (I.ok.cab x c hfn hc)))).trans e1⟩
  ·obtain ⟨o',e1⟩:=I.base.there b o e hx
   exact ⟨o',(hs.2 b (dg (cF (cB e) (I.ok.cab x c hfn hc)))).trans e1⟩
  ·by_cases hj:j=i
   ·subst hj
    rw [hi] at e1; cases e1
    rw [dB hiσ] at e2
    cases e2
    exact ⟨u,r,.inr ⟨.inl hk,c,hc,hc'⟩⟩
   ·rw [cQ (Ne.symm hj)] at e2
    obtain ⟨u',r',q⟩:=hl j y v' e1 e2 e3
    refine ⟨u',r',?_⟩
    rcases q with q | ⟨k,c',e,z'⟩
    ·exact .inl q
    ·refine .inr ⟨k,c',e,z'.sameBut hs ?_⟩
     rintro rfl
     exact hj (Ki hN e1 (I.ok.inj _ _ _ e hc ▸ hi))
  ·by_cases hcc:c'=c
   ·subst hcc; exact ⟨_,hc'⟩
   ·obtain ⟨w2,z2⟩:=I.cell y c' e
    exact ⟨w2,z2.sameBut hs hcc⟩
  ·obtain ⟨e,n,ne,nf,d⟩:=I.pin p hp
   refine ⟨(hs.2 p.1 ?_).trans e,n,ne,nf,d⟩
   intro q
   rw [q,hoc] at e
   have q':oc=p.2:=Option.some.inj e
   exact d w' (by rw [<- q']; exact hocd)
theorem Wu {M:Model} {A:Around} {E:Value->Shared->Prop} {i:Nat} {x:Str} {v:V} {u:Value} {Q:Unit->Shared->Prop} (I:zE X pins σ H s) (hN:X.N.Nodup) (hi:X.N[i]? = some x) (hx:v5 X.env.scope x) (r:zR v u)
  (h:∀ s',zE X pins (σ.set i (some v)) H s'->Q () s') (hf:X.fn x=true\/X.env.scope.names.lookup x=some .local:=by first | exact .inl rfl | exact .inr rfl | assumption):wpAny M A (storeName X.env x u) Q E s:=
 Kj I hN hi hx r (λs' I' _=>h s' I') hf
theorem zE.call' {s':Shared} {ch:List Addr} (I:zE X pins σ H s) (ho:s'.os=s.os) (u:Un (xE X.stack) ch H H' s.heap s'.heap) (hok:yn X.prog X.w H' s'.heap) (hg:AllBare s'.gens)
  (hch:∀ b∈ch,(b∈X.ex\/X.s₀.heap.objs.size<=b)/\b≠X.env.locals/\(∀ x c,X.env.cells.lookup x=some c->c≠b)/\∀ p∈X.pn++pins,p.1≠b):zE X pins σ H' s':=by
 obtain ⟨h',g',d',t',o'⟩:=s'
 have e:o'=s.os:=ho
 subst e
 exact I.call (g':=g') (t':=t') (d':=d') u hok hg hch
end
abbrev XK:=Value->Option Addr->Hp->Prop
abbrev St:=List (Option V)
abbrev VK:=V->Hp->Prop
abbrev TE:=St->Hp->VK->Prop
abbrev TT:=St->Hp->(Bool->Hp->Prop)->Prop
abbrev TA:=St->Hp->(List V->Hp->Prop)->Prop
structure yf where
 nx:St->Hp->Prop
 rt:VK
 bk:St->Hp->Prop:=λ_ _=>False
 ct:St->Hp->Prop:=λ_ _=>False
abbrev TS:=yf->St->Hp->Prop
def EP (X:Cx) (pins:List (Addr × Obj)) (σ:St) (Q:VK) (u:Value) (s':Shared):Prop:=∃ v H',zE X pins σ H' s'/\zR v u/\Q v H'
def TP (X:Cx) (pins:List (Addr × Obj)) (σ:St) (Q:Bool->Hp->Prop) (b:Bool) (s':Shared):Prop:=∃ H',zE X pins σ H' s'/\Q b H'
def AP (X:Cx) (pins:List (Addr × Obj)) (σ:St) (Q:List V->Hp->Prop) (us:List Value) (s':Shared):Prop:=∃ vs H',zE X pins σ H' s'/\zJ vs us/\Q vs H'
def SP (X:Cx) (pins:List (Addr × Obj)) (D:yf) (f:Flow) (s':Shared):Prop:=
 match f with
 | .next=>∃ σ' H',zE X pins σ' H' s'/\D.nx σ' H'
 | .brk=>∃ σ' H',zE X pins σ' H' s'/\D.bk σ' H'
 | .cont=>∃ σ' H',zE X pins σ' H' s'/\D.ct σ' H'
 | .ret u=>∃ v σ' H',zE X pins σ' H' s'/\zR v u/\D.rt v H'
def PE (X:Cx) (e:Expr) (t:TE):Prop:=
 ∀ (pins:List (Addr × Obj)) (s:Shared) (σ:St) (H:Hp) (Q:VK),zE X pins σ H s->t σ H Q->wpAny (model X.prog X.w) X.A (eval e X.env) (EP X pins σ Q) X.xe s
def PT (X:Cx) (e:Expr) (t:TT):Prop:=
 ∀ (pins:List (Addr × Obj)) (s:Shared) (σ:St) (H:Hp) (Q:Bool->Hp->Prop),zE X pins σ H s->t σ H Q->wpAny (model X.prog X.w) X.A (isTrue e X.env (eval e X.env)) (TP X pins σ Q) X.xe s
def PW (X:Cx) (e:Expr) (t:TT):Prop:=
 ∀ (whole:Sem Value) (pins:List (Addr × Obj)) (s:Shared) (σ:St) (H:Hp) (Q:Bool->Hp->Prop),zE X pins σ H s->t σ H Q->wpAny (model X.prog X.w) X.A (isTrue e X.env whole) (TP X pins σ Q) X.xe s
theorem PW.pt {X:Cx} {e:Expr} {t:TT} (h:PW X e t):PT X e t:=h _
def PA (X:Cx) (es:List Expr) (t:TA):Prop:=
 ∀ (pos:Pos) (pins:List (Addr × Obj)) (s:Shared) (σ:St) (H:Hp) (Q:List V->Hp->Prop),zE X pins σ H s->t σ H Q->wpAny (model X.prog X.w) X.A (spliced (backTo pos (starEach es X.env))) (AP X pins σ Q) X.xe s
def PS (X:Cx) (st:Stmt) (t:TS):Prop:=
 ∀ (pins:List (Addr × Obj)) (s:Shared) (σ:St) (H:Hp) (D:yf),zE X pins σ H s->t D σ H->wpAny (model X.prog X.w) X.A (exec st X.env) (SP X pins D) X.xe s
def yT (X:Cx) (st:List Stmt) (t:TS):Prop:=
 ∀ (pins:List (Addr × Obj)) (s:Shared) (σ:St) (H:Hp) (D:yf),zE X pins σ H s->t D σ H->wpAny (model X.prog X.w) X.A (execs st X.env) (SP X pins D) X.xe s
theorem zk {α:Type} {t:Sem α} {Q Q':α->Shared->Prop} {M:Model} {A:Around} {E:Value->Shared->Prop} {s:Shared} (h:wpAny M A t Q E s) (hQ:∀ a s,Q a s->Q' a s):wpAny M A t Q' E s:=wpAny_mono h hQ λ_ _ x=>x
end L2
namespace L2
open PySem PySem.Spec PyProof.Rows
section
variable {X:Cx}
def Wv (i:Nat):TE:=λσ H Q=>∃ v,σ[i]? = some (some v)/\Q v H
def tC (v:V):TE:=λ_ H Q=>Q v H
theorem Kk {i:Nat} {x:Str} {pos:Pos} (hN:X.N[i]? = some x) (hv:gR X.env.scope x) (hd:(x == ("__debug__" : Str))=false:=by decide) (hcd:(x == ("__classdict__" : Str))=false:=by decide):PE X (.Name x pos) (Wv i):=by
 intro pins s σ H Q I h
 obtain ⟨v,e,h⟩:=h
 obtain ⟨m,hn,hl⟩:=I.loc
 obtain ⟨u,r,l⟩:=hl i x v hN e hv
 have fin:EP X pins σ Q u s:=⟨v,H,I,r,h⟩
 rcases l with ⟨hk,hm⟩ | ⟨hk,c,hc,hcell⟩
 ·exact wpAny_Name (wpAny_loadName_local I.ok.kind hk hn hm fin) hd
 ·rcases hk with hk | hk
  ·exact wpAny_Name (wpAny_loadName_cell I.ok.kind hk hc hcell fin) hd
  ·exact wpAny_Name (wpAny_loadName_free I.ok.kind hk hc hcell fin hcd) hd
theorem Ww {i j pos}:PE X (.Constant (.int i) j pos) (tC (.int i)):=λ_ _ _ H _ I h=>wpAny_Constant_int ⟨.int i,H,I.tok _,⟨_,rfl⟩,h⟩
theorem kj {b j pos}:PE X (.Constant (.bool b) j pos) (tC (.bl b)):=λ_ _ _ H _ I h=>Constant_bool ⟨.bl b,H,I,rfl,h⟩
theorem zQT {j pos}:PE X (.Constant .none j pos) (tC .non):=λ_ _ _ H _ I h=>Constant_none ⟨.non,H,I,rfl,h⟩
theorem zQQ {x j pos}:PE X (.Constant (.str x) j pos) (tC (.str x)):=λ_ _ _ H _ I h=>Calls.Constant_str ⟨.str x,H,I.tok _,⟨_,rfl⟩,h⟩
def Gl (X:Cx) (x:Str):Prop:=X.env.kindOf x=some .globalImplicit
theorem gS {E:Value->Shared->Prop} {pins:List (Addr × Obj)} {s:Shared} {σ:St} {H:Hp} {x:Str} {u:Value} {pos:Pos} {Q:Value->Shared->Prop} (I:zE X pins σ H s) (hg:Gl X x) (hm:X.mg x=some u) (h:Q u s)
  (hd:(x == ("__debug__" : Str))=false:=by decide):wpAny (model X.prog X.w) X.A (eval (.Name x pos) X.env) Q E s:=
 Calls.Name_function_global I.ok.kind hg (Calls.loadGlobal_global (by rw [I.ok.glob]; exact I.mod.glob.keeps I.bk) hm h) hd
theorem gT {E:Value->Shared->Prop} {pins:List (Addr × Obj)} {s:Shared} {σ:St} {H:Hp} {x:Str} {u:Value} {pos:Pos} {Q:Value->Shared->Prop} (I:zE X pins σ H s) (hg:Gl X x) (hm:X.mg x=none) (hv:bootBuiltins x=some u) (h:Q u s)
  (hn:x≠"__name__":=by decide) (hd:(x == ("__debug__" : Str))=false:=by decide):wpAny (model X.prog X.w) X.A (eval (.Name x pos) X.env) Q E s:=by
 obtain ⟨mb,h1,h2⟩:=I.mod.blt
 exact Calls.Name_function_global I.ok.kind hg (Calls.loadGlobal_builtin (by rw [I.ok.glob]; exact I.mod.glob.keeps I.bk) hm (by rw [I.ok.blt]; exact h1.keeps I.bk) ((h2 x hn).trans hv) h) hd
theorem Kl {x:Str} {v:V} {u:Value} {pos:Pos} (hg:Gl X x) (hm:X.mg x=some u) (r:zR v u) (hd:(x == ("__debug__" : Str))=false:=by decide):PE X (.Name x pos) (tC v):=
 λ_ _ _ H _ I h=>gS I hg hm ⟨v,H,I,r,h⟩ hd
theorem wf {x:Str} {v:V} {u:Value} {pos:Pos} (hg:Gl X x) (hm:X.mg x=none) (hv:bootBuiltins x=some u) (r:zR v u) (hn:x≠"__name__":=by decide) (hd:(x == ("__debug__" : Str))=false:=by decide):PE X (.Name x pos) (tC v):=
 λ_ _ _ H _ I h=>gT I hg hm hv ⟨v,H,I,r,h⟩ hn hd
variable {a b:Expr} {ta tb:TE} {pos:Pos}
def tB (t:TE):TT:=λσ H Q=>t σ H λx H1=>∃ c,x=.bl c/\Q c H1
theorem Wx {e:Expr} {t:TE} (h:PE X e t) (he:∀ whole,isTrue e X.env whole=(do let v <- whole; standAt e.pos; holding [v] (truthy v)):=by intro _; rfl):PT X e (tB t):=by
 intro pins s σ H Q I hw
 refine isTrue_plain (zk (h pins s σ H _ I hw) λv s1 ⟨x,H1,I1,r1,q1⟩=>?_) (he _)
 obtain ⟨d,rfl,q⟩:=q1
 cases r1
 exact wpAny_truthy_bool ⟨H1,I1,q⟩
variable {tA tB':TT} {ye:List Expr}
def Wy (t u:TT):TT:=λσ H Q=>t σ H λc H1=>if c=true then u σ H1 Q else Q false H1
def tOr (t u:TT):TT:=λσ H Q=>t σ H λc H1=>if c=true then Q true H1 else u σ H1 Q
def Wz (t:TT):TT:=λσ H Q=>t σ H λc H1=>Q (!c) H1
theorem zOq (ha:PT X a tA):PW X (.BoolOp .And [a] pos) tA:=by
 intro wh pins s σ H Q I h
 refine isTrue_and (zk (ha pins s σ H Q I h) λc s1 e=>?_)
 cases c with
 | true=>exact isTrue_and_nil e
 | false=>exact e
theorem zQC (ha:PT X a tA):PW X (.BoolOp .Or [a] pos) tA:=by
 intro wh pins s σ H Q I h
 refine isTrue_or (zk (ha pins s σ H Q I h) λc s1 e=>?_)
 cases c with
 | false=>exact isTrue_or_nil e
 | true=>exact e
theorem zQD (ha:PT X a tA) (hb:PW X (.BoolOp .And (b :: ye) pos) tB'):PW X (.BoolOp .And (a :: b :: ye) pos) (Wy tA tB'):=by
 intro wh pins s σ H Q I h
 refine isTrue_and (zk (ha pins s σ H _ I h) λc s1 ⟨H1,I1,q1⟩=>?_)
 cases c with
 | true=>exact hb wh pins s1 σ H1 Q I1 q1
 | false=>exact ⟨H1,I1,q1⟩
theorem ko (ha:PT X a tA) (hb:PW X (.BoolOp .Or (b :: ye) pos) tB'):PW X (.BoolOp .Or (a :: b :: ye) pos) (tOr tA tB'):=by
 intro wh pins s σ H Q I h
 refine isTrue_or (zk (ha pins s σ H _ I h) λc s1 ⟨H1,I1,q1⟩=>?_)
 cases c with
 | true=>exact ⟨H1,I1,q1⟩
 | false=>exact hb wh pins s1 σ H1 Q I1 q1
theorem zQH (ha:PT X a tA):PT X (.UnaryOp .Not a pos) (Wz tA):=by
 intro pins s σ H Q I h
 exact isTrue_not (ha pins s σ H (λc H1=>Q (!c) H1) I h)
def kq (ta tb:TE):TE:=λσ H Q=>ta σ H λx H1=>∃ c,x=.bl c/\if c=true then tb σ H1 Q else Q (.bl false) H1
def kr (ta:TE):TE:=λσ H Q=>ta σ H λx H1=>∃ c,x=.bl c/\Q (.bl (!c)) H1
theorem zQR {op} {t:TE} (h:PE X a t):PE X (.BoolOp op [a] pos) t:=λpins s σ H Q I hw=>BoolOp_one (h pins s σ H Q I hw)
theorem zQV (ha:PE X a ta) (hb:PE X (.BoolOp .And (b :: ye) pos) tb):PE X (.BoolOp .And (a :: b :: ye) pos) (kq ta tb):=by
 intro pins s σ H Q I h
 refine BoolOp_and (zk (ha pins s σ H _ I h) λv s1 ⟨x,H1,I1,r1,q1⟩=>?_)
 obtain ⟨c,rfl,q1⟩:=q1
 cases r1
 refine wpAny_truthy_bool ?_
 cases c with
 | true=>exact hb pins s1 σ H1 Q I1 q1
 | false=>exact ⟨.bl false,H1,I1,rfl,q1⟩
theorem zQS (ha:PE X a ta):PE X (.UnaryOp .Not a pos) (kr ta):=by
 intro pins s σ H Q I h
 refine UnaryOp_ (zk (ha pins s σ H _ I h) λv s1 ⟨x,H1,I1,r1,q1⟩=>?_)
 obtain ⟨c,rfl,q1⟩:=q1
 cases r1
 exact not_of (wpAny_truthy_bool ⟨.bl (!c),H1,I1,rfl,q1⟩)
def tIf (t:TT) (ta tb:TE):TE:=λσ H Q=>t σ H λc H1=>if c=true then ta σ H1 Q else tb σ H1 Q
theorem zMz {c:Expr} (hc:PT X c tA) (ha:PE X a ta) (hb:PE X b tb):PE X (.IfExp c a b pos) (tIf tA ta tb):=by
 intro pins s σ H Q I h
 refine wpAny_IfExp (zk (hc pins s σ H _ I h) λd s1 ⟨H1,I1,q1⟩=>?_)
 cases d with
 | true=>exact ha pins s1 σ H1 Q I1 q1
 | false=>exact hb pins s1 σ H1 Q I1 q1
end
end L2
namespace L2
open PySem PySem.Spec PyProof.Rows
def zw (K:cg) (H:Hp) (a:Addr) (xs:List V):Prop:=
 Rd H a (.lst xs)∨
  ∃ (o:Obj) (its:Array Value) (n:Nat),K.lookup a=some o/\o.cls=.type "list"/\o.dict=none/\o.data=.seq its n/\its.size<=sizeLine/\zJ xs its.toList
def yH (K:cg) (H:Hp) (a:Addr) (xs:List V):Prop:=
 Rd H a (.tup xs)∨
  ∃ (o:Obj) (its:Array Value) (n:Nat),K.lookup a=some o/\o.cls=.type "tuple"/\o.data=.seq its n/\its.size<=sizeLine/\zJ xs its.toList
def W0:Value->Option V
 | .none=>some .non
 | .bool b=>some (.bl b)
 | .int i _=>some (.int i)
 | .str x _=>some (.str x)
 | .bytes b _=>some (.byt b)
 | .float b _=>some (.flt b)
 | .ref a=>some (.ref a)
 | .type n=>some (.ty n)
 | _=>none
theorem zR.abs {x:V} {u:Value} (r:zR x u):W0 u=some x:=by
 cases x with
 | non=>cases r; rfl
 | bl _=>cases r; rfl
 | int _=>obtain ⟨t,rfl⟩:=r; rfl
 | str _=>obtain ⟨t,rfl⟩:=r; rfl
 | byt _=>obtain ⟨t,rfl⟩:=r; rfl
 | flt _=>obtain ⟨t,rfl⟩:=r; rfl
 | ref _=>cases r; rfl
 | ty _=>cases r; rfl
theorem zR.inj {x y:V} {u:Value} (r:zR x u) (q:zR y u):x=y:=Option.some.inj (r.abs.symm.trans q.abs)
theorem zJ.inj:∀ {xs ys:List V} {us:List Value},zJ xs us->zJ ys us->xs=ys
 | _,_,_,.nil,.nil=>rfl
 | _,_,_,.cons r t,.cons r' t'=>by rw [r.inj r',zJ.inj t t']
section
variable {X:Cx} {pins:List (Addr × Obj)} {σ:St} {H:Hp} {s:Shared} {a:Addr} {xs ys:List V}
theorem zw.of {K:cg} (h:H a=some (.lst xs)):zw K H a xs:=.inl (.inl h)
theorem yH.of {K:cg} (h:H a=some (.tup xs)):yH K H a xs:=.inl (.inl h)
theorem zE.list (I:zE X pins σ H s) (h:zw X.K H a xs):∃ its:List Value,zJ xs its/\PlainL s.heap a its.toArray/\xs.length<=sizeLine:=by
 rcases h with h | ⟨o,its,n,hk,hc,hd,hs,hz,r⟩
 ·obtain ⟨z,its,n,r,e⟩:=h.ok I.hok
  exact ⟨its,r,⟨_,n,e,rfl,rfl,rfl⟩,z⟩
 ·refine ⟨its.toList,r,⟨o,n,I.kIn a o hk,hc,hd,by simpa using hs⟩,?_⟩
  have e:=r.length
  simp only [fY] at e
  omega
theorem zE.tuple (I:zE X pins σ H s) (h:yH X.K H a xs):∃ its:List Value,zJ xs its/\IsTup s.heap a its.toArray/\xs.length<=sizeLine:=by
 rcases h with h | ⟨o,its,n,hk,hc,hs,hz,r⟩
 ·obtain ⟨z,its,r,p⟩:=h.ok I.hok
  exact ⟨its,r,p,z⟩
 ·refine ⟨its.toList,r,⟨o,I.kIn a o hk,hc,n,by simpa using hs⟩,?_⟩
  have e:=r.length
  simp only [fY] at e
  omega
theorem zE.list_inj (I:zE X pins σ H s) (h:zw X.K H a xs) (h':zw X.K H a ys):xs=ys:=by
 obtain ⟨its,r,⟨o,n,e,_,_,d⟩,_⟩:=I.list h
 obtain ⟨its',r',⟨o',n',e',_,_,d'⟩,_⟩:=I.list h'
 rw [e] at e'; cases e'
 rw [d] at d'
 injection d' with d1 _
 have:its=its':=by simpa using congrArg l6 d1
 subst this
 exact r.inj r'
theorem zE.tuple_inj (I:zE X pins σ H s) (h:yH X.K H a xs) (h':yH X.K H a ys):xs=ys:=by
 obtain ⟨its,r,⟨o,e,_,n,d⟩,_⟩:=I.tuple h
 obtain ⟨its',r',⟨o',e',_,n',d'⟩,_⟩:=I.tuple h'
 rw [e] at e'; cases e'
 rw [d] at d'
 injection d' with d1 _
 have:its=its':=by simpa using congrArg l6 d1
 subst this
 exact r.inj r'
end
abbrev Cx.wish (X:Cx) (E:Value->Shared->Prop):Cx:={ X with xe:=E }
abbrev Cx.nox (X:Cx):Cx:=X.wish λ_ _=>False
theorem Cx.Ok.wish {X:Cx} (ok:X.Ok) (E:Value->Shared->Prop):(X.wish E).Ok:=
 ⟨ok.mod,ok.kind,ok.glob,ok.blt,ok.above,ok.inj,ok.has,ok.cab,ok.hd,ok.frames,ok.stk,ok.exf,ok.bs,ok.bsz,ok.noex,ok.exfs,ok.funs,ok.frf⟩
theorem Cx.Ok.unwish {X:Cx} {E:Value->Shared->Prop} (ok:(X.wish E).Ok):X.Ok:=
 ⟨ok.mod,ok.kind,ok.glob,ok.blt,ok.above,ok.inj,ok.has,ok.cab,ok.hd,ok.frames,ok.stk,ok.exf,ok.bs,ok.bsz,ok.noex,ok.exfs,ok.funs,ok.frf⟩
section
variable {X:Cx} {pins:List (Addr × Obj)} {σ:St} {H:Hp} {s:Shared} {E:Value->Shared->Prop}
theorem zE.wish (I:zE X pins σ H s) (E:Value->Shared->Prop):zE (X.wish E) pins σ H s:=⟨I.ok.wish E,I.os,I.bare,I.base,I.loc,I.cell,I.free,I.freeC,I.pin,I.hok,I.len⟩
theorem zE.unwish (I:zE (X.wish E) pins σ H s):zE X pins σ H s:=⟨I.ok.unwish,I.os,I.bare,I.base,I.loc,I.cell,I.free,I.freeC,I.pin,I.hok,I.len⟩
theorem SP.unwish {D:yf} {f:Flow} {s':Shared} (h:SP (X.wish E) pins D f s'):SP X pins D f s':=by
 cases f with
 | next=>obtain ⟨σ',H',I,q⟩:=h; exact ⟨σ',H',I.unwish,q⟩
 | brk=>obtain ⟨σ',H',I,q⟩:=h; exact ⟨σ',H',I.unwish,q⟩
 | cont=>obtain ⟨σ',H',I,q⟩:=h; exact ⟨σ',H',I.unwish,q⟩
 | ret u=>obtain ⟨v,σ',H',I,r,q⟩:=h; exact ⟨v,σ',H',I.unwish,r,q⟩
theorem yT.nox {st:List Stmt} {t:TS} (h:yT X.nox st t):yT X st t:=λpins s σ H D I hw=>
 wpAny_mono (h pins s σ H D (I.wish _) hw) (λ_ _ q=>q.unwish) λ_ _ z=>False.elim z
end
section
variable {X:Cx} {st:Stmt} {ye:List Stmt} {t u:TS} {e:Expr} {te:TE} {pos:Pos}
def XU:TS:=λD σ H=>D.nx σ H
def u9 (t u:TS):TS:=λD σ H=>t { D with nx:=u D } σ H
theorem gU:yT X [] XU:=λ_ _ σ H _ I h=>wpAny_execs_nil ⟨σ,H,I,h⟩
theorem vE (h1:PS X st t) (h2:yT X ye u):yT X (st :: ye) (u9 t u):=by
 intro pins s σ H D I h
 refine wpAny_execs_cons (zk (h1 pins s σ H { D with nx:=u D } I h) λf s1 q=>?_)
 cases f with
 | next=>
  obtain ⟨σ',H',I',q⟩:=q
  exact h2 pins s1 σ' H' D I' q
 | ret v=>exact q
 | brk=>exact q
 | cont=>exact q
theorem ku (h1:PS X st t):yT X [st] t:=by
 intro pins s σ H D I h
 refine wpAny_execs_cons (zk (h1 pins s σ H D I h) λf s1 q=>?_)
 cases f with
 | next=>exact wpAny_execs_nil q
 | ret v=>exact q
 | brk=>exact q
 | cont=>exact q
theorem zE.quiet {pins:List (Addr × Obj)} {σ:St} {H:Hp} {s:Shared} (I:zE X pins σ H s):interactive X.env=false:=by simp [interactive,I.ok.kind]
def gW (te:TE):TS:=λD σ H=>te σ H λ_ H1=>D.nx σ H1
theorem xb (he:PE X e te) (hs:swapsWith e none pos.line X.env=pure false:=by rfl):PS X (.Expr e pos) (gW te):=by
 intro pins s σ H D I h
 exact wpAny_Expr_any (zk (he pins s σ H _ I h) λv s1 ⟨x,H1,I1,r1,q1⟩=>⟨σ,H1,I1,q1⟩) I.quiet hs
def W1 (te:TE):TS:=λD σ H=>te σ H D.rt
theorem zQK (he:PE X e te):PS X (.Return (some e) pos) (W1 te):=by
 intro pins s σ H D I h
 exact wpAny_Return_some (zk (he pins s σ H _ I h) λv s1 ⟨x,H1,I1,r1,q1⟩=>⟨x,σ,H1,I1,r1,q1⟩)
def j3 (c:TT) (t u:TS):TS:=λD σ H=>c σ H λb H1=>if b=true then t D σ H1 else u D σ H1
theorem XV {c:Expr} {a b:List Stmt} {tc:TT} (hc:PT X c tc) (ha:yT X a t) (hb:yT X b u):PS X (.If c a b pos) (j3 tc t u):=by
 intro pins s σ H D I h
 refine wpAny_If (zk (hc pins s σ H _ I h) λd s1 ⟨H1,I1,q1⟩=>?_)
 cases d with
 | true=>exact ha pins s1 σ H1 D I1 q1
 | false=>exact hb pins s1 σ H1 D I1 q1
def zP2:TS:=λ_ _ _=>False
theorem zMp:PS X st zP2:=λ_ _ _ _ _ _ h=>h.elim
end
abbrev TG:=V->St->Hp->(St->Hp->Prop)->Prop
abbrev jA:=List V->St->Hp->(St->Hp->Prop)->Prop
def PG (X:Cx) (target:Expr) (t:TG):Prop:=
 ∀ (pins:List (Addr × Obj)) (s:Shared) (σ:St) (H:Hp) (v:V) (u:Value) (Q:St->Hp->Prop),zE X pins σ H s->zR v u->t v σ H Q->
  wpAny (model X.prog X.w) X.A (assign target X.env u) (λ_ s'=>∃ σ' H',zE X pins σ' H' s'/\Q σ' H') X.xe s
def gX (X:Cx) (ts:List Expr) (t:jA):Prop:=
 ∀ (pins:List (Addr × Obj)) (s:Shared) (σ:St) (H:Hp) (vs:List V) (us:List Value) (Q:St->Hp->Prop),zE X pins σ H s->zJ vs us->t vs σ H Q->
  wpAny (model X.prog X.w) X.A (assignInOrder ((assignEach ts X.env).map (·.2)) us) (λ_ s'=>∃ σ' H',zE X pins σ' H' s'/\Q σ' H') X.xe s
abbrev j4:=V->V->V->Hp->(Hp->Prop)->Prop
def j5 (X:Cx) (t:j4):Prop:=
 ∀ (pins:List (Addr × Obj)) (s:Shared) (σ:St) (H:Hp) (o i v:V) (ov iv u:Value) (Q:Hp->Prop),zE X pins σ H s->zR o ov->zR i iv->zR v u->t o i v H Q->
  wpAny (model X.prog X.w) X.A (setItem ov iv u) (λ_ s'=>∃ H',zE X pins σ H' s'/\Q H') X.xe s
section
variable {X:Cx} {pos:Pos}
def gY (i:Nat):TG:=λv σ H Q=>Q (σ.set i (some v)) H
theorem W2 {i:Nat} {x:Str} (hN:X.N.Nodup) (hi:X.N[i]? = some x) (hx:v5 X.env.scope x) (hf:X.fn x=true\/X.env.scope.names.lookup x=some .local:=by first | exact .inl rfl | exact .inr rfl | assumption):PG X (.Name x pos) (gY i):=by
 intro pins s σ H v u Q I r h
 exact wpAny_assign_Name (Wu I hN hi hx r (λs' I'=>⟨_,H,I',h⟩) hf)
def W3:jA:=λvs σ H Q=>vs=[]/\Q σ H
def kz (t:TG) (u:jA):jA:=λvs σ H Q=>∃ v r,vs=v :: r/\t v σ H λσ' H'=>u r σ' H' Q
theorem zO3:gX X [] W3:=by
 intro pins s σ H vs us Q I r h
 obtain ⟨e,h⟩:=h
 subst e
 cases r
 exact assignInOrder_nil ⟨σ,H,I,h⟩
theorem Km {e:Expr} {es:List Expr} {t:TG} {u:jA} (h1:PG X e t) (h2:gX X es u)
  (hs:(assignEach (e :: es) X.env).map (·.2)=assign e X.env :: (assignEach es X.env).map (·.2):=by rfl):gX X (e :: es) (kz t u):=by
 intro pins s σ H vs us Q I r h
 obtain ⟨v,vr,e1,h⟩:=h
 subst e1
 cases r with
 | cons r rr=>
  rw [hs]
  refine assignInOrder_cons (zk (h1 pins s σ H _ _ _ I r h) λ_ s1 ⟨σ1,H1,I1,q1⟩=>?_)
  exact h2 pins s1 σ1 H1 _ _ Q I1 rr q1
def W4 (K:cg) (n:Nat) (t:jA):TG:=λv σ H Q=>∃ a xs,v=.ref a/\yH K H a xs/\xs.length=n/\t xs σ H Q
theorem zQN {es:List Expr} {k:Nat} {t:jA} {n:Nat} (hc:X.calm=true) (h:gX X es t)
  (hn:(assignEach es X.env).length=n:=by rfl) (hst:(assignEach es X.env).findIdx? (·.1)=none:=by rfl):PG X (.Tuple es k pos) (W4 X.K n t):=by
 intro pins s σ H v u Q I r hw
 obtain ⟨a,xs,e1,hq,hl,hw⟩:=hw
 subst e1
 cases r
 obtain ⟨its,rv,ht,hz⟩:=I.tuple hq
 refine assign_Tuple_tuple (I.ok.hd hc) ht (by simp [hn,<- hl,rv.length]) hst λh' hx=>?_
 have I1:zE X pins σ H { s with heap:=h' }:=I.kept (t':=s.toks) λb o e=>hx b o (dg (cB e)) e
 exact h pins _ σ H xs _ Q I1 (by simpa using rv) hw
def k9 (to ti:TE) (t:j4):TG:=λv σ H Q=>to σ H λo H1=>ti σ H1 λi H2=>t o i v H2 λH3=>Q σ H3
theorem zQO {o i:Expr} {to ti:TE} {t:j4} (ho:PE X o to) (hi:PE X i ti) (hs:j5 X t)
  (ha:∀ v,assign (.Subscript o i pos) X.env v=(do
   let ov <- holding [v] (eval o X.env)
   let iv <- holding [v,ov] (eval i X.env)
   standAt pos
   holding [v,ov,iv] (setItem ov iv v)
   release [v,ov,iv] []):=by intro _; rfl):PG X (.Subscript o i pos) (k9 to ti t):=by
 intro pins s σ H v u Q I r h
 rw [ha]
 refine wpAny_bind (wpAny_holding (zk (ho pins s σ H _ I h) λov s1 ⟨x,H1,I1,r1,q1⟩=>?_))
 refine wpAny_bind (wpAny_holding (zk (hi pins s1 σ H1 _ I1 q1) λiv s2 ⟨y,H2,I2,r2,q2⟩=>?_))
 refine wpAny_bind (wpAny_standAt (wpAny_bind (wpAny_holding (zk (hs pins s2 σ H2 x y v ov iv u _ I2 r1 r2 r q2) λ_ s3 ⟨H3,I3,q3⟩=>?_))))
 exact wpAny_release ⟨σ,H3,I3,q3⟩
def uL (te:TE) (g:TG):TS:=λD σ H=>te σ H λx H1=>g x σ H1 D.nx
theorem Kn {tg e:Expr} {te:TE} {g:TG} (he:PE X e te) (hg:PG X tg g) (hs:swapsWithSole [tg] e pos.line X.env=pure false:=by rfl) (hw:swappedStores [tg] e X.env=pure none:=by rfl)
  (h1:(assignEach [tg] X.env).map (·.2)=[assign tg X.env]:=by rfl):PS X (.Assign [tg] e pos) (uL te g):=by
 intro pins s σ H D I h
 refine wpAny_Assign_stores (zk (he pins s σ H _ I h) λv s1 ⟨x,H1,I1,r1,q1⟩=>?_) hs hw
 rw [h1]
 exact zk (hg pins s1 σ H1 x v _ I1 r1 q1) λ_ s2 q=>q
theorem ZA {i:Nat} {x:Str} {e:Expr} {te:TE} {pos':Pos} (hN:X.N.Nodup) (hi:X.N[i]? = some x) (hx:v5 X.env.scope x) (he:PE X e te) (hs:swapsWith e (some (.Name x pos')) pos.line X.env=pure false:=by rfl) (hf:X.fn x=true\/X.env.scope.names.lookup x=some .local:=by first | exact .inl rfl | exact .inr rfl | assumption) :
  PS X (.Assign [.Name x pos'] e pos) (uL te (gY i)):=by
 intro pins s σ H D I h
 refine wpAny_Assign_Name (zk (he pins s σ H _ I h) λv s1 ⟨y,H1,I1,r1,q1⟩=>?_) hs
 exact Wu I1 hN hi hx r1 (λs2 I2=>⟨_,H1,I2,q1⟩) hf
end
structure It where
 go:Nat->Hp->Prop
 yld:Nat->Hp->V->Hp->Prop
 stop:Nat->Hp->Prop
def yz (X:Cx) (pins:List (Addr × Obj)) (H:Hp) (b:Addr):Prop:=
 H b=none/\b≠X.env.locals/\b∉X.fs/\(b∈X.ex\/X.s₀.heap.objs.size<=b)/\(∀ x c,X.env.cells.lookup x=some c->c≠b)/\∀ p∈X.pn++pins,p.1≠b
theorem zE.fpOk {X:Cx} {pins:List (Addr × Obj)} {σ:St} {H H':Hp} {s:Shared} {b:Addr} (I:zE X pins σ H s) (hb:s.heap.objs.size<=b) (hn:H' b=none):yz X pins H' b:=by
 refine ⟨hn,fN (cF I.lt hb),I.nofs hb,.inr (dz I.sz hb),λx c e z=>?_,λp hp z=>?_⟩
 ·obtain ⟨v,q⟩:=I.cell x c e
  exact absurd (cF q.lt (by rw [z]; exact hb)) (da _)
 ·exact absurd (cF (cB (I.pin p hp).1) (by rw [z]; exact hb)) (da _)
structure vF (P:Program) (w:World) (K:cg) (tg:Expr) (J:It) (fp:List Addr) (it:Addr) (tn:Nat->Heap->Prop):Prop where
 mem:it∈fp
 obj:∀ i h,tn i h->∀ b∈fp,∃ o,h.get? b=some o/\∀ v,o.data≠.cell v
 keep:∀ i h h',tn i h->(∀ b∈fp,∀ o,h.get? b=some o->h'.get? b=some o)->tn i h'
 item:∀ (X:Cx),X.prog=P->X.w=w->X.K=K->X.calm=true->∀ (i:Nat) (pins:List (Addr × Obj)) (s:Shared) (σ:St) (H:Hp) (E:Value->Shared->Prop),zE X pins σ H s->(∀ b∈fp,yz X pins H b)->tn i s.heap->J.go i H->
  wpAny (model P w) X.A (pyNext (.ref it)) (λr s1=>∃ u,r=some u∧
   wpAny (model P w) X.A (letOwnedTupleGo tg (.ref it) u) (λ_ s2=>∃ x H',zE X pins σ H' s2/\zR x u/\J.yld i H x H'/\tn (i + 1) s2.heap/\∀ b∈fp,H' b=none) E s1) E s
 done:∀ (X:Cx),X.prog=P->X.w=w->X.K=K->X.calm=true->∀ (i:Nat) (pins:List (Addr × Obj)) (s:Shared) (σ:St) (H:Hp) (E:Value->Shared->Prop),zE X pins σ H s->(∀ b∈fp,yz X pins H b)->tn i s.heap->J.stop i H->
  wpAny (model P w) X.A (pyNext (.ref it)) (λr s1=>r=none/\zE X pins σ H s1) E s
 self:∀ (A:Around) (i:Nat) (s:Shared) (Q:Value->Shared->Prop) (E:Value->Shared->Prop),tn i s.heap->Q (.ref it) s->wpAny (model P w) A (pyIter (.ref it)) Q E s
abbrev TI:=St->Hp->(It->Hp->Prop)->Prop
def Ko (X:Cx) (pins:List (Addr × Obj)) (σ:St) (tg:Expr) (R:It->Hp->Prop) (itv:Value) (s2:Shared):Prop:=
 ∃ (it:Addr) (fp:List Addr) (tn:Nat->Heap->Prop) (J:It) (H':Hp),itv=.ref it/\zE X pins σ H' s2/\vF X.prog X.w X.K tg J fp it tn/\tn 0 s2.heap/\(∀ b∈fp,yz X pins H' b)/\R J H'
def PI (X:Cx) (tg iter:Expr) (wi:TI):Prop:=
 ∀ (pins:List (Addr × Obj)) (s:Shared) (σ:St) (H:Hp) (R:It->Hp->Prop),zE X pins σ H s->wi σ H R->
  wpAny (model X.prog X.w) X.A (eval iter X.env) (λv s1=>wpAny (model X.prog X.w) X.A (pyIter v) (Ko X pins σ tg R) X.xe s1) X.xe s
theorem W5 {M:Model} {A:Around} {E:Value->Shared->Prop} {s:Shared} {tg:Expr} {it:Addr} {u:Value} {o:Obj} {n:String} {vs:Array Value} {Q:Unit->Shared->Prop} (ho:s.heap.get? it=some o) (hc:o.cls=.type n) (hd:o.data=.fields vs)
  (hn:["enumerate","zip","dict_itemiterator","dict_reverseitemiterator","odict_iterator","itertools.zip_longest","itertools.pairwise"].contains n=false) (hQ:Q () s):wpAny M A (letOwnedTupleGo tg (.ref it) u) Q E s:=by
 unfold letOwnedTupleGo
 cases tg <;> first
  | exact wpAny_pure hQ
  | (cases u <;> first
    | exact wpAny_pure hQ
    | (refine wpAny_bind (wpAny_load ho ?_)
       rw [hc,hd]
       show wpAny M A (if (["enumerate","zip","dict_itemiterator","dict_reverseitemiterator","odict_iterator","itertools.zip_longest","itertools.pairwise"].contains n && vs[0]? == some (rawInt _))=true then _ else _) Q E s
       rw [if_neg (by intro h; rw [hn,eR] at h; cases h)]
       exact wpAny_pure hQ))
def XW (K:cg) (a:Addr):It:=
 ⟨λi H=>∃ xs x,zw K H a xs/\xs[i]? = some x,λi H x H'=>H'=H/\∀ xs,zw K H a xs->xs[i]? = some x,λi H=>∃ xs,zw K H a xs/\xs.length<=i⟩
def XX (K:cg) (a:Addr):It:=
 ⟨λi H=>∃ xs x,yH K H a xs/\xs[i]? = some x,λi H x H'=>H'=H/\∀ xs,yH K H a xs->xs[i]? = some x,λi H=>∃ xs,yH K H a xs/\xs.length<=i⟩
def XY (lo:Int) (n:Nat):It:=⟨λi _=>i < n,λi H x H'=>H'=H/\x=.int (lo + i),λi _=>n<=i⟩
theorem zKQ {P:Program} {w:World} {K:cg} {tg:Expr} (a it:Addr):vF P w K tg (XW K a) [it] it (λi h=>h.IsListIter it a i) where
 mem:=by simp
 obj:=λi h st b hb=>by
  have e:b=it:=by simpa using hb
  subst e
  obtain ⟨o,e,c,d⟩:=st
  exact ⟨o,e,λv z=>by rw [d] at z; cases z⟩
 keep:=λi h h' st k=>st.at λo e=>k it (by simp) o e
 item:=by
  intro X hP hw hK hc i pins s σ H E I hf st hg
  subst hP hw hK
  obtain ⟨xs,x,hq,hx⟩:=hg
  obtain ⟨its,rv,p,hz⟩:=I.list hq
  obtain ⟨u,hu,ru⟩:=rv.get hx
  obtain ⟨f0,f1,f2,f3,f4,f5⟩:=hf it (by simp)
  refine wpAny_pyNext_list_item st p.isList (x:=u) (by simpa using hu) λh' st' sb=>?_
  have I1:zE X pins σ H { s with heap:=h' }:=I.turned (t':=s.toks) (λb o hb e=>(sb.2 b hb).trans e) f0 f1 f3 f4 f5
  obtain ⟨o,e,c,d⟩:=id st'
  exact ⟨u,rfl,W5 (s:={ s with heap:=h' }) e c d (by decide) ⟨x,H,I1,ru,⟨rfl,λys hy=>by rw [I.list_inj hy hq]; exact hx⟩,st',λb hb=>(hf b hb).1⟩⟩
 done:=by
  intro X hP hw hK hc i pins s σ H E I hf st hg
  subst hP hw hK
  obtain ⟨xs,hq,hx⟩:=hg
  obtain ⟨its,rv,p,hz⟩:=I.list hq
  obtain ⟨f0,f1,f2,f3,f4,f5⟩:=hf it (by simp)
  have hl:=rv.length
  exact wpAny_pyNext_list_end (I.ok.hd hc) st p.isList (by simp; omega) λh' eb=>⟨rfl,I.turned (t':=s.toks) (λb o hb e=>eb b o hb e) f0 f1 f3 f4 f5⟩
 self:=λ_ _ _ _ _ st h=>wpAny_pyIter_listiter st h
theorem zJn {P:Program} {w:World} {K:cg} {tg:Expr} (a it:Addr):vF P w K tg (XX K a) [it] it (λi h=>h.IsTupleIter it a i) where
 mem:=by simp
 obj:=λi h st b hb=>by
  have e:b=it:=by simpa using hb
  subst e
  obtain ⟨o,e,c,d⟩:=st
  exact ⟨o,e,λv z=>by rw [d] at z; cases z⟩
 keep:=λi h h' st k=>st.at λo e=>k it (by simp) o e
 item:=by
  intro X hP hw hK hc i pins s σ H E I hf st hg
  subst hP hw hK
  obtain ⟨xs,x,hq,hx⟩:=hg
  obtain ⟨its,rv,p,hz⟩:=I.tuple hq
  obtain ⟨u,hu,ru⟩:=rv.get hx
  obtain ⟨f0,f1,f2,f3,f4,f5⟩:=hf it (by simp)
  refine wpAny_pyNext_tuple_item st (show s.heap.IsTuple a its.toArray from p) (x:=u) (by simpa using hu) λh' st' sb=>?_
  have I1:zE X pins σ H { s with heap:=h' }:=I.turned (t':=s.toks) (λb o hb e=>(sb.2 b hb).trans e) f0 f1 f3 f4 f5
  obtain ⟨o,e,c,d⟩:=id st'
  exact ⟨u,rfl,W5 (s:={ s with heap:=h' }) e c d (by decide) ⟨x,H,I1,ru,⟨rfl,λys hy=>by rw [I.tuple_inj hy hq]; exact hx⟩,st',λb hb=>(hf b hb).1⟩⟩
 done:=by
  intro X hP hw hK hc i pins s σ H E I hf st hg
  subst hP hw hK
  obtain ⟨xs,hq,hx⟩:=hg
  obtain ⟨its,rv,p,hz⟩:=I.tuple hq
  obtain ⟨f0,f1,f2,f3,f4,f5⟩:=hf it (by simp)
  have hl:=rv.length
  exact wpAny_pyNext_tuple_end (I.ok.hd hc) st (show s.heap.IsTuple a its.toArray from p) (by simp; omega) λh' eb=>⟨rfl,I.turned (t':=s.toks) (λb o hb e=>eb b o hb e) f0 f1 f3 f4 f5⟩
 self:=λ_ _ _ _ _ st h=>wpAny_pyIter_tupleiter st h
theorem zJo {P:Program} {w:World} {K:cg} {tg:Expr} (it:Addr) (lo:Int) (n:Nat):vF P w K tg (XY lo n) [it] it (λi h=>IsRangeIter h it (lo + (i:Nat) * 1) ((n:Int) - (i:Nat)) 1) where
 mem:=by simp
 obj:=λi h st b hb=>by
  have e:b=it:=by simpa using hb
  subst e
  exact ⟨_,st,λv z=>by
   have z':Data.fields _=Data.cell v:=z
   cases z'⟩
 keep:=λi h h' st k=>k it (by simp) _ st
 item:=by
  intro X hP hw hK hc i pins s σ H E I hf st hg
  subst hP hw hK
  obtain ⟨f0,f1,f2,f3,f4,f5⟩:=hf it (by simp)
  have W:=Walks.range (prog:=X.prog) (w:=X.w) (I.ok.hd hc) it lo 1 n
  refine W.item i s _ _ hg st λv h' tk hv st' kk=>?_
  obtain ⟨t,rfl⟩:=hv
  have I1:zE X pins σ H { s with heap:=h',toks:=tk }:=I.turned (λb o hb e=>kk b o (by simpa using hb) e) f0 f1 f3 f4 f5
  refine ⟨_,rfl,W5 (s:={ s with heap:=h',toks:=tk }) (n:="range_iterator") st' rfl rfl (by decide) ⟨.int (lo + i),H,I1,⟨t,?_⟩,⟨rfl,rfl⟩,st',λb hb=>(hf b hb).1⟩⟩
  rw [lK]
 done:=by
  intro X hP hw hK hc i pins s σ H E I hf st hg
  subst hP hw hK
  obtain ⟨f0,f1,f2,f3,f4,f5⟩:=hf it (by simp)
  exact wpAny_pyNext_range_end (I.ok.hd hc) st (by have:n<=i:=hg; omega) λh' eb=>⟨rfl,I.turned (t':=s.toks) (λb o hb e=>eb b o hb e) f0 f1 f3 f4 f5⟩
 self:=λ_ _ _ _ _ st h=>wpAny_pyIter_rangeiter st h
end L2
namespace L2
open PySem PySem.Spec PyProof.Rows
section
variable {X:Cx} {tg:Expr}
theorem zMi {pins:List (Addr × Obj)} {σ:St} {H:Hp} {s:Shared} {R:It->Hp->Prop} {E:Value->Shared->Prop} {lo hi:Int} {t u v:Tok} {tk:Nat} (I:zE X pins σ H s) (h1 : -(2 ^ 62)<=lo) (h2:lo < 2 ^ 62) (h3 : -(2 ^ 62)<=hi) (h4:hi < 2 ^ 62)
  (q:R (XY lo (hi - lo).toNat) H):wpAny (model X.prog X.w) X.A (pyIter (.ref s.heap.objs.size)) (Ko X pins σ tg R) E { s with heap:=s.heap.push { cls:=.type "range",data:=.fields #[.int lo t,.int hi u,.int 1 v] },toks:=tk }:=by
 refine wpAny_pyIter_range (IsRange.new ..) (small_one h1 h2 h3 h4) ?_
 have I1:zE X pins σ H { s with heap:=s.heap.push { cls:=.type "range",data:=.fields #[.int lo t,.int hi u,.int 1 v] },toks:=tk }:=I.kept λb o e=>ck _ e
 refine ⟨(s.heap.push { cls:=.type "range",data:=.fields #[.int lo t,.int hi u,.int 1 v] }).objs.size,[(s.heap.push { cls:=.type "range",data:=.fields #[.int lo t,.int hi u,.int 1 v] }).objs.size],_,_,H,rfl,
  I1.kept (t':=tk) λb o e=>ck _ e,zJo _ lo (hi - lo).toNat,?_,λb hb=>?_,q⟩
 ·have e1:lo + ((0:Nat):Int) * 1=lo:=by simp
  have e2:(((hi - lo).toNat:Nat):Int) - ((0:Nat):Int)=Builtin.Range.rangeSize lo hi 1:=by rw [rangeSize_one]; split <;> omega
  show IsRangeIter _ _ (lo + ((0:Nat):Int) * 1) ((((hi - lo).toNat:Nat):Int) - ((0:Nat):Int)) 1
  rw [e1,e2]
  exact cG _ rfl
 ·have e:b=(s.heap.push { cls:=.type "range",data:=.fields #[.int lo t,.int hi u,.int 1 v] }).objs.size:=by simpa using hb
  subst e
  exact I1.fpOk (cL _) (I1.hok.fresh (cL _))
def ZB (ta:TA):TI:=λσ H R=>ta σ H λvs H1=>∃ j:Int,vs=[.int j]/\-(2 ^ 62)<=j/\j < 2 ^ 62/\R (XY 0 j.toNat) H1
theorem zKv {a:Expr} {ta:TA} {p pos:Pos} (hg:Gl X "range") (hm:X.mg "range" = none) (ha:PA X [a] ta) (hs:starEach [a] X.env=[(false,eval a X.env)]:=by rfl):PI X tg (.Call (.Name "range" p) [a] [] pos) (ZB ta):=by
 intro pins s σ H R I h
 refine Call_ (gT I hg hm boot_range (PyProof.Rows.callWith_type1 (zk (ha pos pins s σ H _ I h) λus s1 ⟨vs,H1,I1,r1,q1⟩=>?_) hs rfl))
 obtain ⟨j,e,q1,q2,q⟩:=q1
 subst e
 cases r1 with
 | cons r rr=>
  cases rr
  obtain ⟨t,rfl⟩:=r
  exact call_range_1 (zMi I1 (by omega) (by omega) q1 q2 (by simpa using q))
def W6 (wi:TI) (g:TG) (tb:TS):TS:=λD σ H=>wi σ H λJ H1=>∃ W:Nat->Nat->St->Hp->Prop,(∃ m,W 0 m σ H1)/\∀ i m σ H,W i m σ H->
 (J.stop i H/\D.nx σ H)\/(J.go i H/\∃ N:St->Hp->Prop,(∀ σ' H',N σ' H'->∃ m',m' < m/\W (i + 1) m' σ' H')/\∀ x H',J.yld i H x H'->g x σ H' λσ2 H2=>tb { D with nx:=N,ct:=N,bk:=D.nx } σ2 H2)
def ZC (fp:List Addr) (h:Heap):List (Addr × Obj):=fp.filterMap λb=>(h.get? b).map λo=>(b,o)
theorem gZ {fp:List Addr} {h:Heap} {b:Addr} {o:Obj} (hb:b∈fp) (e:h.get? b=some o):(b,o)∈ZC fp h:=hW.mpr ⟨b,hb,by rw [e]; rfl⟩
theorem zLE {fp:List Addr} {h:Heap} {p:Addr × Obj} (hp:p∈ZC fp h):p.1∈fp/\h.get? p.1=some p.2:=by
 obtain ⟨b,hb,e⟩:=hW.mp hp
 cases q:h.get? b with
 | none=>rw [q] at e; cases e
 | some o=>
  rw [q] at e
  have e':(b,o)=p:=Option.some.inj e
  subst e'
  exact ⟨hb,q⟩
theorem zE.pinned {pins:List (Addr × Obj)} {σ:St} {H:Hp} {s:Shared} {fp:List Addr} (I:zE X pins σ H s) (hf:∀ b∈fp,yz X pins H b) (ho:∀ b∈fp,∃ o,s.heap.get? b=some o/\∀ v,o.data≠.cell v):zE X (pins++ZC fp s.heap) σ H s:=
 I.pins_of λp hp=>(cN.mp hp).elim (λz=>I.pin p (cS _ z)) λz=>by
  obtain ⟨hb,e⟩:=zLE z
  obtain ⟨f0,f1,f2,_⟩:=hf p.1 hb
  obtain ⟨o,e',d⟩:=ho p.1 hb
  rw [e] at e'; cases e'
  exact ⟨e,f0,f1,f2,d⟩
theorem zE.unpinned {pins pl:List (Addr × Obj)} {σ:St} {H:Hp} {s:Shared} (I:zE X (pins++pl) σ H s):zE X pins σ H s:=I.pins_of λp hp=>I.pin p (cS _ (fW _ hp))
theorem Kq {iter:Expr} {body:List Stmt} {wi:TI} {g:TG} {tb:TS} {pos:Pos} (hp:PassesOwn (model X.prog X.w) X.A X.env X.xe) (hc:X.calm=true) (hi:PI X tg iter wi) (hg:PG X tg g) (hb:yT X body tb)
  (hs:∀ x,foldedSetIterable iter X.env x=pure x:=by intro _; rfl):PS X (.For tg iter body [] pos) (W6 wi g tb):=by
 intro pins s σ H D I h
 refine wpAny_For (zk (hi pins s σ H _ I h) λv s1 h1=>zk h1 λitv s2 h2=>?_) hs
 obtain ⟨it,fp,tn,J,H2,e,I2,T,st2,f2,W,⟨m0,w0⟩,turn⟩:=h2
 subst e
 have stat:∀ {H':Hp},(∀ b∈fp,H' b=none)->∀ b∈fp,yz X pins H' b:=λhn b hb=>⟨hn b hb,(f2 b hb).2⟩
 refine codeAny_forLoop_any (λn s'=>∃ i σ' H',zE X pins σ' H' s'/\tn i s'.heap/\(∀ b∈fp,H' b=none)/\W i n σ' H') ?_ m0 ⟨0,σ,H2,I2,st2,λb hb=>(f2 b hb).1,w0⟩
 rintro n s3 ⟨i,σ3,H3,I3,st3,fr3,w3⟩
 rcases turn i n σ3 H3 w3 with ⟨stop,qn⟩ | ⟨go,N,hN,step⟩
 ·refine wpAny_passesOwn hp (zk (T.done X rfl rfl rfl hc i pins s3 σ3 H3 X.xe I3 (stat fr3) st3 stop) λr s4 ⟨hr,I4⟩=>?_)
  subst hr
  exact wpAny_execs_nil ⟨σ3,H3,I4,qn⟩
 ·refine wpAny_passesOwn hp (zk (T.item X rfl rfl rfl hc i pins s3 σ3 H3 X.xe I3 (stat fr3) st3 go) λr s4 ⟨u,hr,h4⟩=>?_)
  subst hr
  refine wpAny_passesOwn hp (zk h4 λ_ s5 ⟨x,H5,I5,r5,y5,st5,fr5⟩=>?_)
  have I5':=I5.pinned (stat fr5) (T.obj _ _ st5)
  refine wpAny_passesOwn hp (zk (hg _ s5 σ3 H5 x u _ I5' r5 (step x H5 y5)) λ_ s6 ⟨σ6,H6,I6,q6⟩=>?_)
  refine wpAny_passesOwn hp (zk (hb _ s6 σ6 H6 _ I6 q6) λf s7 q7=>?_)
  have again:∀ {σ7:St} {H7:Hp},zE X (pins++ZC fp s5.heap) σ7 H7 s7->N σ7 H7->∃ m,m < n/\∃ i σ' H',zE X pins σ' H' s7/\tn i s7.heap/\(∀ b∈fp,H' b=none)/\W i m σ' H':=λ{σ7 H7} I7 n7=>by
   obtain ⟨m',hm,w7⟩:=hN σ7 H7 n7
   refine ⟨m',hm,i + 1,σ7,H7,I7.unpinned,T.keep _ _ _ st5 λb hb o e=>(I7.pin (b,o) (cS _ (cS _ (gZ hb e)))).1,λb hb=>?_,w7⟩
   obtain ⟨o,e,d⟩:=T.obj _ _ st5 b hb
   exact (I7.pin (b,o) (cS _ (cS _ (gZ hb e)))).2.1
  cases f with
  | next=>obtain ⟨σ7,H7,I7,n7⟩:=q7; exact again I7 n7
  | cont=>obtain ⟨σ7,H7,I7,n7⟩:=q7; exact again I7 n7
  | brk=>obtain ⟨σ7,H7,I7,q7⟩:=q7; exact ⟨σ7,H7,I7.unpinned,q7⟩
  | ret v=>obtain ⟨x7,σ7,H7,I7,r7,q7⟩:=q7; exact ⟨x7,σ7,H7,I7.unpinned,r7,q7⟩
end
end L2
namespace L2
open PySem PySem.Spec PyProof.Rows
abbrev R2:=V->V->Hp->VK->Prop
def yt (X:Cx) (f:Value->Value->Sem Value) (r:R2):Prop:=
 ∀ (pins:List (Addr × Obj)) (s:Shared) (σ:St) (H:Hp) (x y:V) (v u:Value) (Q:VK),zE X pins σ H s->zR x v->zR y u->r x y H Q->
  wpAny (model X.prog X.w) X.A (f v u) (EP X pins σ Q) X.xe s
def W7 (X:Cx) (f:Value->Sem Value) (r:V->Hp->VK->Prop):Prop:=
 ∀ (pins:List (Addr × Obj)) (s:Shared) (σ:St) (H:Hp) (x:V) (v:Value) (Q:VK),zE X pins σ H s->zR x v->r x H Q->
  wpAny (model X.prog X.w) X.A (f v) (EP X pins σ Q) X.xe s
def vG (X:Cx) (f:Value) (r:List V->Hp->VK->Prop):Prop:=
 ∀ (pins:List (Addr × Obj)) (s:Shared) (σ:St) (H:Hp) (xs:List V) (us:List Value) (Q:VK),zE X pins σ H s->zJ xs us->r xs H Q->
  wpAny (model X.prog X.w) X.A (call f us) (EP X pins σ Q) X.xe s
def ZD (r:R2) (ta tb:TE):TE:=λσ H Q=>ta σ H λx H1=>tb σ H1 λy H2=>r x y H2 Q
def tUn (r:V->Hp->VK->Prop) (ta:TE):TE:=λσ H Q=>ta σ H λx H1=>r x H1 Q
def rI (C:Int->Int->Prop) (g:Int->Int->V):R2:=λx y H Q=>∃ i j,x=.int i/\y=.int j/\C i j/\Q (g i j) H
def v6 (g:Int->Int->V):R2:=λx y H Q=>∃ i j,x=.int i/\y=.int j/\Q (g i j) H
def rU (g:Int->V):V->Hp->VK->Prop:=λx H Q=>∃ i,x=.int i/\Q (g i) H
section
variable {X:Cx} {a b c:Expr} {ta tb tc:TE} {pos:Pos}
theorem j6 (ha:PE X a ta) (hb:PE X b tb) {pins:List (Addr × Obj)} {s:Shared} {σ:St} {H:Hp} {R:V->V->Hp->Prop} (I:zE X pins σ H s)
  (h:ta σ H λx H1=>tb σ H1 λy H2=>R x y H2) {Q:Value->Shared->Prop} {f:Value->Value->Sem Value}
  (hf:∀ v u s2 x y H2,zE X pins σ H2 s2->zR x v->zR y u->R x y H2->wpAny (model X.prog X.w) X.A (f v u) Q X.xe s2) :
  wpAny (model X.prog X.w) X.A (eval a X.env) (λv s₁=>wpAny (model X.prog X.w) X.A (eval b X.env) (λu s₂=>wpAny (model X.prog X.w) X.A (f v u) Q X.xe s₂) X.xe s₁) X.xe s:=by
 refine zk (ha pins s σ H _ I h) λv s1 ⟨x,H1,I1,r1,q1⟩=>?_
 refine zk (hb pins s1 σ H1 _ I1 q1) λu s2 ⟨y,H2,I2,r2,q2⟩=>?_
 exact hf v u s2 x y H2 I2 r1 r2 q2
theorem ZE {op:Operator} {r:R2} (ho:yt X (binaryOp op) r) (ha:PE X a ta) (hb:PE X b tb):PE X (.BinOp a op b pos) (ZD r ta tb):=by
 intro pins s σ H Q I h
 exact wpAny_BinOp (j6 ha hb I h λv u s2 x y H2 I2 rx ry q=>ho pins s2 σ H2 x y v u Q I2 rx ry q)
theorem ZF {op:UnaryOp} {r:V->Hp->VK->Prop} (ho:W7 X (unaryOp op) r) (ha:PE X a ta):PE X (.UnaryOp op a pos) (tUn r ta):=by
 intro pins s σ H Q I h
 exact UnaryOp_ (zk (ha pins s σ H _ I h) λv s1 ⟨x,H1,I1,r1,q1⟩=>ho pins s1 σ H1 x v Q I1 r1 q1)
theorem XZ {f:Value->Value->Sem Value} {C:Int->Int->Prop} {g:Int->Int->Int}
  (rule:∀ (i j:Int) (t u:Tok) (s:Shared) (Q:Value->Shared->Prop) (E:Value->Shared->Prop),C i j->Q (.int (g i j) s.toks) { s with toks:=s.toks + 1 }->wpAny (model X.prog X.w) X.A (f (.int i t) (.int j u)) Q E s) :
  yt X f (rI C λi j=>.int (g i j)):=by
 intro pins s σ H x y v u Q I rx ry h
 obtain ⟨i,j,rfl,rfl,hc,q⟩:=h
 obtain ⟨t,rfl⟩:=rx
 obtain ⟨t',rfl⟩:=ry
 exact rule i j t t' s _ _ hc ⟨.int (g i j),H,I.tok _,⟨_,rfl⟩,q⟩
theorem ZG {f:Value->Value->Sem Value} {g:Int->Int->Int}
  (rule:∀ (i j:Int) (t u:Tok) (s:Shared) (Q:Value->Shared->Prop) (E:Value->Shared->Prop),Q (.int (g i j) s.toks) { s with toks:=s.toks + 1 }->wpAny (model X.prog X.w) X.A (f (.int i t) (.int j u)) Q E s) :
  yt X f (v6 λi j=>.int (g i j)):=by
 intro pins s σ H x y v u Q I rx ry h
 obtain ⟨i,j,rfl,rfl,q⟩:=h
 obtain ⟨t,rfl⟩:=rx
 obtain ⟨t',rfl⟩:=ry
 exact rule i j t t' s _ _ ⟨.int (g i j),H,I.tok _,⟨_,rfl⟩,q⟩
theorem jB {f:Value->Value->Sem Value} {g:Int->Int->Bool}
  (rule:∀ (i j:Int) (t u:Tok) (s:Shared) (Q:Value->Shared->Prop) (E:Value->Shared->Prop),Q (.bool (g i j)) s->wpAny (model X.prog X.w) X.A (f (.int i t) (.int j u)) Q E s) :
  yt X f (v6 λi j=>.bl (g i j)):=by
 intro pins s σ H x y v u Q I rx ry h
 obtain ⟨i,j,rfl,rfl,q⟩:=h
 obtain ⟨t,rfl⟩:=rx
 obtain ⟨t',rfl⟩:=ry
 exact rule i j t t' s _ _ ⟨.bl (g i j),H,I,rfl,q⟩
def j7 (i j:Int):Prop:=0<=j/\j<=1000000/\i.natAbs < 2 ^ 64
theorem zQk:yt X (binaryOp .Add) (v6 λi j=>.int (i + j)):=ZG λ_ _ _ _ _ _ _ q=>add_int q
theorem zQd:yt X (binaryOp .Sub) (v6 λi j=>.int (i - j)):=ZG λ_ _ _ _ _ _ _ q=>sub_int q
theorem zPB:yt X (binaryOp .Mod) (rI (λ_ j=>j≠0) λi j=>.int (i.fmod j)):=XZ λ_ _ _ _ _ _ _ hc q=>mod_int' hc q
theorem zQf:yt X (binaryOp .Pow) (rI j7 λi j=>.int (i ^ j.toNat)):=XZ λ_ _ _ _ _ _ _ hc q=>pow_int_small hc.1 hc.2.1 hc.2.2 q
theorem unI {f:Value->Sem Value} {g:Int->Int}
  (rule:∀ (i:Int) (t:Tok) (s:Shared) (Q:Value->Shared->Prop) (E:Value->Shared->Prop),Q (.int (g i) s.toks) { s with toks:=s.toks + 1 }->wpAny (model X.prog X.w) X.A (f (.int i t)) Q E s) :
  W7 X f (rU λi=>.int (g i)):=by
 intro pins s σ H x v Q I rx h
 obtain ⟨i,rfl,q⟩:=h
 obtain ⟨t,rfl⟩:=rx
 exact rule i t s _ _ ⟨.int (g i),H,I.tok _,⟨_,rfl⟩,q⟩
theorem zPt:W7 X (unaryOp .USub) (rU λi=>.int (-i)):=unI λ_ _ _ _ _ q=>neg_int q
end
def ZH:V->V->Bool
 | .non,.non=>true | .non,.int _=>true | .int _,.non=>true | .non,.bl _=>true | .bl _,.non=>true | .non,.str _=>true | .str _,.non=>true
 | .int _,.int _=>true | .bl _,.bl _=>true | .str _,.str _=>true | .byt _,.byt _=>true
 | .int _,.str _=>true | .str _,.int _=>true | .bl _,.str _=>true | .str _,.bl _=>true
 | _,_=>false
def Kr:R2:=λx y H Q=>ZH x y=true/\Q (.bl (decide (x=y))) H
def Ks:R2:=λx y H Q=>ZH x y=true/\Q (.bl (!decide (x=y))) H
theorem Xa {i j:Int}:decide (V.int i=V.int j)=(i == j):=by
 rw [fi]
 simp
theorem Xb {i j:Bool}:decide (V.bl i=V.bl j)=(i == j):=by
 rw [fi]
 simp
theorem Xc {i j:Str}:decide (V.str i=V.str j)=(i == j):=by
 rw [fi]
 simp
theorem Kt {i j:Array UInt8}:decide (V.byt i=V.byt j)=(i.toList == j.toList):=by
 rw [fi]
 cases i
 cases j
 simp
section
variable {X:Cx} {a b c:Expr} {ta tb tc:TE} {pos:Pos}
theorem xL {pins:List (Addr × Obj)} {σ:St} {H:Hp} {s:Shared} {Q:VK} {k k':Bool} (I:zE X pins σ H s) (q:Q (.bl k) H) (e:k=k'):EP X pins σ Q (.bool k') s:=by
 subst e
 exact ⟨.bl k,H,I,rfl,q⟩
theorem Ku:yt X (compareOp .Eq) Kr:=by
 intro pins s σ H x y v u Q I rx ry h
 obtain ⟨hs,q⟩:=h
 cases x with
 | non=>
  cases rx
  cases y with
  | non=>cases ry; exact PySem.EqNone.eq_none_none (xL I q (by simp))
  | bl j=>cases ry; exact PySem.EqNone.eq_none_bool (xL I q (by simp))
  | int j=>obtain ⟨t',rfl⟩:=ry; exact PySem.EqNone.eq_none_int (xL I q (by simp))
  | str j=>obtain ⟨t',rfl⟩:=ry; exact PySem.EqNone.eq_none_str (xL I q (by simp))
  | _=>exact absurd (show false=true from hs) cU
 | bl i=>
  cases rx
  cases y with
  | non=>cases ry; exact PySem.EqNone.eq_bool_none (xL I q (by simp))
  | bl j=>cases ry; exact eq_bool (xL I q Xb)
  | str j=>obtain ⟨t',rfl⟩:=ry; exact PySem.EqMixed.eq_bool_str (xL I q (by simp))
  | _=>exact absurd (show false=true from hs) cU
 | int i=>
  obtain ⟨t,rfl⟩:=rx
  cases y with
  | non=>cases ry; exact PySem.EqNone.eq_int_none (xL I q (by simp))
  | int j=>obtain ⟨t',rfl⟩:=ry; exact eq_int (xL I q Xa)
  | str j=>obtain ⟨t',rfl⟩:=ry; exact PySem.EqMixed.eq_int_str (xL I q (by simp))
  | _=>exact absurd (show false=true from hs) cU
 | str i=>
  obtain ⟨t,rfl⟩:=rx
  cases y with
  | non=>cases ry; exact PySem.EqNone.eq_str_none (xL I q (by simp))
  | bl j=>cases ry; exact PySem.EqMixed.eq_str_bool (xL I q (by simp))
  | int j=>obtain ⟨t',rfl⟩:=ry; exact PySem.EqMixed.eq_str_int (xL I q (by simp))
  | str j=>obtain ⟨t',rfl⟩:=ry; exact eq_str (xL I q Xc)
  | _=>exact absurd (show false=true from hs) cU
 | byt i=>
  obtain ⟨t,rfl⟩:=rx
  cases y with
  | byt j=>obtain ⟨t',rfl⟩:=ry; exact PySem.W.eq_bytes (xL I q Kt)
  | _=>exact absurd (show false=true from hs) cU
 | _=>cases y <;> exact absurd (show false=true from hs) cU
theorem ZI:yt X (compareOp .NotEq) Ks:=by
 intro pins s σ H x y v u Q I rx ry h
 obtain ⟨hs,q⟩:=h
 cases x with
 | non=>
  cases rx
  cases y with
  | non=>cases ry; exact PySem.EqNone.ne_none_none (xL I q (by simp))
  | bl j=>cases ry; exact PySem.EqNone.ne_none_bool (xL I q (by simp))
  | int j=>obtain ⟨t',rfl⟩:=ry; exact PySem.EqNone.ne_none_int (xL I q (by simp))
  | str j=>obtain ⟨t',rfl⟩:=ry; exact PySem.EqNone.ne_none_str (xL I q (by simp))
  | _=>exact absurd (show false=true from hs) cU
 | bl i=>
  cases rx
  cases y with
  | non=>cases ry; exact PySem.EqNone.ne_bool_none (xL I q (by simp))
  | bl j=>cases ry; exact ne_bool (xL I q (congrArg not Xb))
  | str j=>obtain ⟨t',rfl⟩:=ry; exact PySem.EqMixed.ne_bool_str (xL I q (by simp))
  | _=>exact absurd (show false=true from hs) cU
 | int i=>
  obtain ⟨t,rfl⟩:=rx
  cases y with
  | non=>cases ry; exact PySem.EqNone.ne_int_none (xL I q (by simp))
  | int j=>obtain ⟨t',rfl⟩:=ry; exact ne_int (xL I q (congrArg not Xa))
  | str j=>obtain ⟨t',rfl⟩:=ry; exact PySem.EqMixed.ne_int_str (xL I q (by simp))
  | _=>exact absurd (show false=true from hs) cU
 | str i=>
  obtain ⟨t,rfl⟩:=rx
  cases y with
  | non=>cases ry; exact PySem.EqNone.ne_str_none (xL I q (by simp))
  | bl j=>cases ry; exact PySem.EqMixed.ne_str_bool (xL I q (by simp))
  | int j=>obtain ⟨t',rfl⟩:=ry; exact PySem.EqMixed.ne_str_int (xL I q (by simp))
  | str j=>obtain ⟨t',rfl⟩:=ry; exact ne_str (xL I q (congrArg not Xc))
  | _=>exact absurd (show false=true from hs) cU
 | byt i=>
  obtain ⟨t,rfl⟩:=rx
  cases y with
  | byt j=>obtain ⟨t',rfl⟩:=ry; exact PySem.W.ne_bytes (xL I q (congrArg not Kt))
  | _=>exact absurd (show false=true from hs) cU
 | _=>cases y <;> exact absurd (show false=true from hs) cU
theorem Kv:yt X (compareOp .Lt) (v6 λi j=>.bl (decide (i < j))):=jB λ_ _ _ _ _ _ _ q=>lt_int q
theorem Kw:yt X (compareOp .LtE) (v6 λi j=>.bl (decide (i<=j))):=jB λ_ _ _ _ _ _ _ q=>le_int q
theorem ZJ:yt X (compareOp .Gt) (v6 λi j=>.bl (decide (j < i))):=jB λ_ _ _ _ _ _ _ q=>gt_int q
theorem Kx:yt X (compareOp .GtE) (v6 λi j=>.bl (decide (j<=i))):=jB λ_ _ _ _ _ _ _ q=>ge_int q
def isObj:HO->Bool
 | .lst _=>true
 | .ins _ _ _=>true
 | _=>false
theorem yt.or {f:Value->Value->Sem Value} {r r':R2} (h:yt X f r) (h':yt X f r'):yt X f (λx y H Q=>r x y H Q\/r' x y H Q):=by
 intro pins s σ H x y v u Q I rx ry q
 rcases q with q | q
 ·exact h pins s σ H x y v u Q I rx ry q
 ·exact h' pins s σ H x y v u Q I rx ry q
theorem uM (b:Expr) {op:CmpOp} (h:op≠.In:=by decide) (h2:op≠.NotIn:=by decide):behindInMarks op b=false:=by
 have e1:(op == CmpOp.In)=false:=by cases op <;> first | rfl | exact absurd rfl h
 have e2:(op == CmpOp.NotIn)=false:=by cases op <;> first | rfl | exact absurd rfl h2
 cases b <;> simp [behindInMarks,e1,e2]
theorem zO5 {op:CmpOp} {r:R2} (ho:yt X (compareOp op) r) (ha:PE X a ta) (hb:PE X b tb) (hm:behindInMarks op b=false):PE X (.Compare a [op] [b] pos) (ZD r ta tb):=by
 intro pins s σ H Q I h
 exact wpAny_Compare1 (j6 ha hb I h λv u s2 x y H2 I2 rx ry q=>ho pins s2 σ H2 x y v u Q I2 rx ry q) hm
def Ky (t:TE):TT:=λσ H Q=>t σ H λx H'=>∃ k,x=.bl k/\Q k H'
theorem zOw {op:CmpOp} {r:R2} (ho:yt X (compareOp op) r) (ha:PE X a ta) (hb:PE X b tb) (hm:behindInMarks op b=false):PT X (.Compare a [op] [b] pos) (Ky (ZD r ta tb)):=by
 intro pins s σ H Q I h
 refine wpAny_isTrue_Compare1 (zk (ha pins s σ H _ I h) λv s1 ⟨x,H1,I1,r1,q1⟩=>zk (hb pins s1 σ H1 _ I1 q1) λu s2 ⟨y,H2,I2,r2,q2⟩=>
  zk (ho pins s2 σ H2 x y v u _ I2 r1 r2 q2) λc s3 ⟨z,H3,I3,r3,k,e,q3⟩=>?_) hm
 subst e
 cases r3
 exact wpAny_truthy_bool ⟨H3,I3,q3⟩
theorem Xd:(sizeLine:Nat) < 2 ^ 63:=by rw [sizeLine_eq]; decide
theorem jS {x:V} {us:List Value} (r:zJ [x] us):∃ u,us=[u]/\zR x u:=by
 cases r with
 | cons r1 r2=>cases r2; exact ⟨_,rfl,r1⟩
theorem ZK {x y:V} {us:List Value} (r:zJ [x,y] us):∃ u w',us=[u,w']/\zR x u/\zR y w':=by
 cases r with
 | cons r1 r2=>
  cases r2 with
  | cons r3 r4=>cases r4; exact ⟨_,_,rfl,r1,r3⟩
theorem ga (hc:X.calm=true):vG X (.builtin "max") (λxs H Q=>∃ i j,xs=[.int i,.int j]/\Q (.int (if j > i then j else i)) H):=by
 intro pins s σ H xs us Q I r h
 obtain ⟨i,j,rfl,q⟩:=h
 obtain ⟨u,w',rfl,⟨t,rfl⟩,⟨t',rfl⟩⟩:=ZK r
 refine max_two_ints (I.ok.hd hc) λh' tk k=>⟨_,H,I.kept k,?_,q⟩
 by_cases hj:j > i
 ·rw [if_pos hj,if_pos hj]; exact ⟨_,rfl⟩
 ·rw [if_neg hj,if_neg hj]; exact ⟨_,rfl⟩
theorem Kz:vG X (.type "int") (λxs H Q=>(∃ i,xs=[.int i]/\Q (.int i) H)\/∃ k,xs=[.bl k]/\Q (.int (if k then 1 else 0)) H):=by
 intro pins s σ H xs us Q I r h
 rcases h with ⟨i,rfl,q⟩ | ⟨k,rfl,q⟩
 ·obtain ⟨u,rfl,t,rfl⟩:=jS r
  exact call_int_int ⟨.int i,H,I,⟨_,rfl⟩,q⟩
 ·obtain ⟨u,rfl,r1⟩:=jS r
  cases r1
  exact call_int_bool ⟨.int (if k then 1 else 0),H,I.tok _,⟨_,rfl⟩,q⟩
end
end L2
namespace L2
open PySem PySem.Spec PyProof.Rows
structure vH (h:Heap) (x dx C:Addr) (mA:Str->Option Value):Prop where
 obj:h.get? x=some (dZ C dx)
 ns:h.Ns1 dx mA
 ne:dx≠x
theorem zLP {h:Heap} {dx:Addr} {mA:Str->Option Value} (n:h.Ns1 dx mA):∃ od,h.get? dx=some od/\∀ name,h9 name od=some (mA name):=by
 obtain ⟨o,es,ep,ho,hd,hk,_,hm⟩:=n
 refine ⟨o,ho,λname=>?_⟩
 have e:=hm name
 unfold nsFind findBy at e
 rw [<- Array.find?_toList] at e
 unfold h9
 rw [hd]
 dsimp only
 split
 ·rename_i y q
  rw [q] at e
  exact congrArg some e
 ·rename_i q
  rw [q] at e
  have a:es.toList.any (·.refKey)=false:=by
   rw [List.any_eq_false]
   intro y hy
   obtain ⟨z,t,hkey⟩:=hk y (Array.mem_toList_iff.mp hy)
   simp [DictEntry.refKey,hkey]
  have a':¬ es.toList.any (·.refKey)=true:=by rw [a]; exact cU
  rw [if_neg a']
  exact congrArg some e
theorem vH.look {h:Heap} {x dx C:Addr} {mA:Str->Option Value} (I:vH h x dx C mA):∃ od,PySem.W.InstAt h x (dZ C dx) C (some od)/\∀ name,h9 name od=some (mA name):=
 let ⟨od,ho,hl⟩:=zLP I.ns
 ⟨od,⟨I.obj,rfl,rfl,ho⟩,hl⟩
section
variable {prog:Program} {w:World} {A:Around} {E:Value->Shared->Prop} {s:Shared} {K:cg} {x dx C f:Addr} {mA:Str->Option Value} {name:Str} {v:Value}
theorem zPW {expr:Bool} {Q:Value->Shared->Prop} (X:K.In s.heap) (I:vH s.heap x dx C mA) (hg:fT K C name=true) (hh:ig K C=true)
  (ha:dI K (.ref C) name=some none) (hv:mA name=some v) (hv':lB v=true) (h:Q v { s with toks:=s.toks + 1 }) :
  wpAny (model prog w) A (getAttr (.ref x) name expr) Q E s:=by
 obtain ⟨od,J,hl⟩:=I.look
 exact PySem.W.get_value X J (fZ hg).1 (PySem.W.findObj_own hh ha rfl (by rw [hl,hv])) hv' h
theorem zNU {pl:Sem Bool} {Q:Value × List Value->Shared->Prop} (X:K.In s.heap) (I:vH s.heap x dx C mA) (hg:fT K C name=true)
  (hf:dI K (.ref C) name=some (some (.ref f))) (ht:lz K (.ref f)=true) (hv:mA name=none) (h:Q (.ref f,[.ref x]) s) :
  wpAny (model prog w) A (getMethod (.ref x) name pl) Q E s:=by
 obtain ⟨od,J,hl⟩:=I.look
 exact PySem.W.method_fn X J (fZ hg).1 (fZ hg).2 hf (beq_iff_eq.mp ht) (by show (h9 name od).map (·.isSome)=some false; rw [hl,hv]; rfl) h
theorem zOn {ns:List Str} {Q:Unit->Shared->Prop} (X:K.In s.heap) (I:vH s.heap x dx C mA)
  (hs:dI K (.ref C) "__setattr__" = some (some (.builtin "object.__setattr__"))) (hp:i8 K C=true) (ht:iA K C name=some none) (hh:ig K C=true)
  (hw:PySem.Within mA ns) (hsz:ns.length<=sizeLine)
  (h:∀ h',vH h' x dx C (λy=>if y=name then some v else mA y)->Heap.SameBut dx s.heap h'->Q () { s with heap:=h',toks:=s.toks + 2 }) :
  wpAny (model prog w) A (setAttr (.ref x) name v) Q E s:=by
 obtain ⟨od,J,hl⟩:=I.look
 refine PySem.W.set_plain X J hs (PySem.W.osa_open (s:={ s with toks:=s.toks + 1 }) (r:=none) X J hp ht λb=>?_)
 obtain ⟨cd,hc,hd'⟩:=PySem.W.any_some hh
 have hx:s.heap.get? x=some ⟨.ref C,some dx,.plain,#[]⟩:=I.obj
 refine wpAny_bind (wpAny_pure (wpAny_bind (wpAny_bind (wpAny_loadPart hx (wpAny_bind (PySem.W.Looks.here (s:={ s with toks:=s.toks + 1 }) (PySem.W.looks_clsIn X hc) ?_))))))
 rw [hd']
 refine wpAny_pure (a:=some dx) (wpAny_bind (wpAny_pure (wpAny_bind ?_)))
 refine wpAny_nsSet1 (s:={ s with toks:=s.toks + 1 }) I.ns λh' hn2 hs2=>?_
 obtain ⟨oD,esD,epD,hoD,hdD,hcD⟩:=hn2.count (PySem.Within.cons name v hw)
 refine wpAny_bind (wpAny_lookBehind hoD (by rw [hdD]; exact pastItsLine_dict (dz hcD (by rw [cJ]; omega))) ?_)
 exact wpAny_pure (h _ ⟨(hs2.2 _ (Ne.symm I.ne)).trans I.obj,hn2,I.ne⟩ hs2)
theorem zNO {R:Result->Shared->Prop} {vs:List Value} {kw:List (Str × Value)} (X:K.In s.heap) (hm:lL K C=true)
  (hi:dI K (.ref C) "__init__" = some (some (.ref f))) (hf:PySem.W.typeIn K (.ref f)=some (.type "function"))
  (h:codeAny (model prog w) (A.under (.builtin "type.__call__" ⟨.ref C :: vs,kw⟩)) (.call (.ref f) ⟨.ref (s.heap.objs.size + 1) :: vs,kw⟩) (PySem.W.InitBack (s.heap.objs.size + 1) R)
   { s with heap:=(s.heap.push dF).push (dZ C s.heap.objs.size) }) :
  codeAny (model prog w) A (.call (.ref C) ⟨vs,kw⟩) R s:=by
 obtain ⟨hh,g,d,t,os⟩:=s
 exact PySem.W.make_core (PySem.W.makes_of X hm) (PySem.W.looks_findIn X hi) (λself=>PySem.W.bind_fn X self hf) (.inl rfl) h
end
def yi (f:Str) (v:V):List (Str × V)->List (Str × V)
 | []=>[(f,v)]
 | (g,x) :: r=>if g=f then (g,v) :: r else (g,x) :: yi f v r
theorem K0 (f g:Str) (v:V):∀ fs:List (Str × V),(yi f v fs).lookup g=if g=f then some v else fs.lookup g
 | []=>by
  show fJ g [(f,v)]=_
  by_cases h:g=f
  ·have hb:(g == f)=true:=beq_iff_eq.mpr h
   simp only [fJ,hb,if_pos h]
  ·have hb:(g == f)=false:=beq_eq_false_iff_ne.mpr h
   simp only [fJ,hb,if_neg h]
 | (k,x) :: r=>by
  have ih:=K0 f g v r
  rw [show yi f v ((k,x) :: r)=(if k=f then (k,v) :: r else (k,x) :: yi f v r) from rfl]
  by_cases hk:k=f
  ·rw [if_pos hk]
   by_cases h:g=k
   ·have hb:(g == k)=true:=beq_iff_eq.mpr h
    simp only [fJ,hb,if_pos (h.trans hk)]
   ·have hb:(g == k)=false:=beq_eq_false_iff_ne.mpr h
    simp only [fJ,hb,if_neg (λe:g=f=>h (e.trans hk.symm))]
  ·rw [if_neg hk]
   by_cases h:g=k
   ·have hb:(g == k)=true:=beq_iff_eq.mpr h
    simp only [fJ,hb,if_neg (λe:g=f=>hk (h.symm.trans e))]
   ·have hb:(g == k)=false:=beq_eq_false_iff_ne.mpr h
    simp only [fJ,hb]
    exact ih
theorem W8 (f:Str) (v:V):∀ fs:List (Str × V),f∈(yi f v fs).map (·.1)/\∀ g,g∈fs.map (·.1)->g∈(yi f v fs).map (·.1)
 | []=>⟨by simp [yi],λg h=>by simp at h⟩
 | (k,x) :: r=>by
  obtain ⟨i1,i2⟩:=W8 f v r
  rw [show yi f v ((k,x) :: r)=(if k=f then (k,v) :: r else (k,x) :: yi f v r) from rfl]
  by_cases hk:k=f
  ·rw [if_pos hk]
   subst hk
   exact ⟨by simp,λg h=>by simpa using h⟩
  ·rw [if_neg hk]
   refine ⟨?_,λg h=>?_⟩
   ·rw [cT]
    exact cr _ i1
   ·rw [cT] at h |-
    rcases cz.mp h with e | e
    ·exact cz.mpr (.inl e)
    ·exact cr _ (i2 g e)
theorem K1 (f:Str) (v:V):∀ fs:List (Str × V),(yi f v fs).length<=fs.length + 1
 | []=>by simp [yi]
 | (k,x) :: r=>by
  have ih:=K1 f v r
  rw [show yi f v ((k,x) :: r)=(if k=f then (k,v) :: r else (k,x) :: yi f v r) from rfl]
  by_cases hk:k=f
  ·rw [if_pos hk,cJ,cJ]; omega
  ·rw [if_neg hk,cJ,cJ]; omega
theorem wE.some_of {v:V} {o:Option Value} (r:wE (some v) o):∃ u,o=some u/\zR v u:=by
 cases o with
 | none=>exact (show False from r).elim
 | some u=>exact ⟨u,rfl,r⟩
theorem wE.none_of {o:Option Value} (r:wE none o):o=none:=by
 cases o with
 | none=>rfl
 | some u=>exact (show False from r).elim
theorem zLX {v:V} {u:Value} (r:zR v u):lB u=true:=by
 cases v with
 | non=>cases (show u=Value.none from r); rfl
 | bl b=>cases (show u=Value.bool b from r); rfl
 | int i=>obtain ⟨t,e⟩:=(show ∃ t,u=Value.int i t from r); cases e; rfl
 | str x=>obtain ⟨t,e⟩:=(show ∃ t,u=Value.str x t from r); cases e; rfl
 | byt b=>obtain ⟨t,e⟩:=(show ∃ t,u=Value.bytes b t from r); cases e; rfl
 | flt b=>obtain ⟨t,e⟩:=(show ∃ t,u=Value.float b t from r); cases e; rfl
 | ref a=>cases (show u=Value.ref a from r); rfl
 | ty n=>cases (show u=Value.type n from r); rfl
section
variable {P:Program} {w:World} {H H':Hp} {h h':Heap} {a C dx:Addr} {fs fs':List (Str × V)}
theorem Xe (hok:yn P w H h) (e:H a=some (.ins C dx fs)):∃ mA,vH h a dx C mA/\(∀ f,wE (fs.lookup f) (mA f))/\PySem.Within mA (fs.map (·.1))/\fs.length<=1000/\H dx=some (.own a):=by
 obtain ⟨d,z,ne,ob,mA,n,r,q⟩:=(show xU P w H h a (.ins C dx fs) from hok a _ e)
 exact ⟨mA,⟨ob,n,ne⟩,r,q,z,d⟩
end
structure uN (K:cg) (C:Addr):Prop where
 pg:fT K C Str.empty=true
 hd:ig K C=true
 po:i8 K C=true
 sa:dI K (.ref C) "__setattr__" = some (some (.builtin "object.__setattr__"))
theorem uN.get {K:cg} {C:Addr} (c:uN K C) (f:Str):fT K C f=true:=c.pg
def ym (K:cg) (C:Addr) (f:Str):Prop:=dI K (.ref C) f=some none
theorem ym.taker {K:cg} {C:Addr} {f:Str} (n:ym K C f):iA K C f=some none:=by
 unfold iA
 rw [show dI K (.ref C) f=some none from n]
 rfl
structure j8 (K:cg) (C:Addr) (m:Str) (f:Addr):Prop where
 at_:dI K (.ref C) m=some (some (.ref f))
 fn:lz K (.ref f)=true
 kp:dN K (.ref f)=true
section
variable {X:Cx} {pins:List (Addr × Obj)} {σ:St} {H:Hp} {s:Shared} {a C dx:Addr} {fs:List (Str × V)} {f:Str} {v:V} {A:Around} {E:Value->Shared->Prop}
theorem zKA {b:Bool} {Q:Value->Shared->Prop} (I:zE X pins σ H s) (e:H a=some (.ins C dx fs)) (c:uN X.K C) (n:ym X.K C f) (l:fs.lookup f=some v)
  (h:∀ u s',zE X pins σ H s'->zR v u->Q u s'):wpAny (model X.prog X.w) A (getAttr (.ref a) f b) Q E s:=by
 obtain ⟨mA,O,r,_,_,_⟩:=Xe I.hok e
 obtain ⟨u,hu,ru⟩:=wE.some_of (v:=v) (o:=mA f) (by rw [<- l]; exact r f)
 exact zPW I.kIn O (c.get f) c.hd n hu (zLX ru) (h u _ (I.tok _) ru)
theorem zJ9 {m:Str} {g:Addr} {pl:Sem Bool} {Q:Value × List Value->Shared->Prop} (I:zE X pins σ H s) (e:H a=some (.ins C dx fs)) (c:uN X.K C) (k:j8 X.K C m g) (l:fs.lookup m=none)
  (h:Q (.ref g,[.ref a]) s):wpAny (model X.prog X.w) A (getMethod (.ref a) m pl) Q E s:=by
 obtain ⟨mA,O,r,_,_,_⟩:=Xe I.hok e
 have hn:mA m=none:=wE.none_of (by rw [<- l]; exact r m)
 exact zNU I.kIn O (c.get m) k.at_ k.fn hn h
theorem zJs {y:V} {u:Value} {Q:Unit->Shared->Prop} (I:zE X pins σ H s) (e:H a=some (.ins C dx fs)) (c:uN X.K C) (n:ym X.K C f) (hl:fs.length < 1000) (ry:zR y u)
  (h:∀ s',zE X pins σ (zV H a (.ins C dx (yi f y fs))) s'->Q () s'):wpAny (model X.prog X.w) A (setAttr (.ref a) f u) Q E s:=by
 obtain ⟨mA,O,r,wi,_,ho⟩:=Xe I.hok e
 have hz:(fs.map (·.1)).length<=sizeLine:=by rw [a_,sizeLine_eq]; omega
 refine zOn I.kIn O c.sa c.po n.taker c.hd wi hz λh' O' sb=>h _ ?_
 have hd:∃ o,h'.get? dx=some o:=let ⟨o,_,_,e',_⟩:=O'.ns; ⟨o,e'⟩
 refine I.write (x:=a) (e:=dx) (by rw [e]; exact True.intro) (.inr ho) (λb q hb z=>(sb.2 b hb).trans z) hd ?_
 refine ⟨by rw [zl O.ne]; exact ho,?_,O.ne,O'.obj,_,O'.ns,λg=>?_,λg hg=>?_⟩
 ·have:=K1 f y fs; omega
 ·show wE ((yi f y fs).lookup g) (if g=f then some u else mA g)
  rw [K0]
  by_cases q:g=f
  ·rw [if_pos q,if_pos q]; exact ry
  ·rw [if_neg q,if_neg q]; exact r g
 ·by_cases q:g=f
  ·rw [q]; exact (W8 f y fs).1
  ·refine (W8 f y fs).2 g (wi g λz=>hg ?_)
   show (if g=f then some u else mA g)=none
   rw [if_neg q]; exact z
theorem zE.made (I:zE X pins σ H s):zE X pins σ (zV (zV H s.heap.objs.size (.own (s.heap.objs.size + 1))) (s.heap.objs.size + 1) (.ins C s.heap.objs.size []))
  { s with heap:=(s.heap.push dF).push (dZ C s.heap.objs.size) }:=by
 have e1:(s.heap.push dF).get? s.heap.objs.size=some dF:=cG s.heap rfl
 have e2:((s.heap.push dF).push (dZ C s.heap.objs.size)).get? (s.heap.objs.size + 1)=some (dZ C s.heap.objs.size):=by
  have:=cG (s.heap.push dF) (o:=dZ C s.heap.objs.size) rfl
  rwa [dW] at this
 have e3:(s.heap.push dF).Ns s.heap.objs.size (λ_=>none):=⟨dF,#[],_,e1,rfl,(λe he=>absurd he (by simp)),λ_=>rfl⟩
 have I1:=I.laid (a:=s.heap.objs.size) (o:=.own (s.heap.objs.size + 1)) (h':=s.heap.push dF) (t':=s.toks) (λb u q=>ck _ q) (cL _) ⟨_,e1⟩
 refine I1.laid (a:=s.heap.objs.size + 1) (o:=.ins C s.heap.objs.size []) (t':=s.toks) (λb u q=>ck _ q) (Nat.le_of_eq (dW _ _)) ?_
 have ne:s.heap.objs.size≠s.heap.objs.size + 1:=dg (iu _)
 refine ⟨by rw [zl ne,xv],eg _,ne,e2,λ_=>none,(Heap.Ns1.of_empty e3).at λo q=>ck _ q,λ_=>True.intro,λy hy=>absurd rfl hy⟩
theorem zPl {prog:Program} {w:World} {env:Env} {e:Expr} {f:Str} {pos:Pos} {s:Shared} {Q:Value->Shared->Prop} (hb:attributeBase e f env (eval e env)=eval e env)
  (h:wpAny (model prog w) A (eval e env) (λo s₁=>wpAny (model prog w) A (getAttr o f true) Q E s₁) E s):wpAny (model prog w) A (eval (.Attribute e f pos) env) Q E s:=
 Attribute_any_ h (by rw [arm_eval_Attribute,hb])
end
def W9 (K:cg) (ta:TE) (f:Str):TE:=λσ H Q=>ta σ H λx H1=>∃ a C dx fs v,x=.ref a/\H1 a=some (.ins C dx fs)/\uN K C/\ym K C f/\fs.lookup f=some v/\Q v H1
def ZM (K:cg) (ta tv:TE) (f:Str):TS:=λD σ H=>tv σ H λy H1=>ta σ H1 λx H2=>∃ a C dx fs,x=.ref a/\H2 a=some (.ins C dx fs)/\uN K C/\ym K C f/\fs.length < 1000∧
 D.nx σ (zV H2 a (.ins C dx (yi f y fs)))
section
variable {X:Cx} {o e value:Expr} {f:Str} {pos pos' tpos:Pos} {ta tv:TE}
theorem zQU (he:PE X e ta) (hb:attributeBase e f X.env (eval e X.env)=eval e X.env):PE X (.Attribute e f pos) (W9 X.K ta f):=by
 intro pins s σ H Q I h
 refine zPl hb (zk (he pins s σ H _ I h) λu s1 ⟨x,H1,I1,rx,a,C,dx,fs,v,ex,ea,c,n,l,q⟩=>?_)
 subst ex
 obtain rfl:u=Value.ref a:=rx
 exact zKA I1 ea c n l λu' s2 I2 ru=>⟨v,H1,I2,ru,q⟩
theorem wG (ha:PE X o ta) (hv:PE X value tv) (hs:swapsWith value (some (.Attribute o f pos')) pos.line X.env=pure false):PS X (.Assign [.Attribute o f pos'] value pos) (ZM X.K ta tv f):=by
 intro pins s σ H D I h
 refine plainObj_wpAny_Assign_Attribute (zk (hv pins s σ H _ I h) λu s1 ⟨y,H1,I1,ry,q⟩=>zk (ha pins s1 σ H1 _ I1 q) λov s2 ⟨x,H2,I2,rx,a,C,dx,fs,ex,ea,c,n,l,q2⟩=>?_) hs
 subst ex
 obtain rfl:ov=Value.ref a:=rx
 exact zJs I2 ea c n l ry λs3 I3=>⟨σ,_,I3,q2⟩
end
section
variable {X:Cx} {pins:List (Addr × Obj)} {σ:St} {H:Hp} {s:Shared} {A:Around} {E:Value->Shared->Prop} {Q:Value->Shared->Prop} {c:Value} {b:Bool}
inductive yQ (K:cg) (H:Hp):V->Value->Prop where
 | non:yQ K H .non (.type "NoneType")
 | bl (x:Bool):yQ K H (.bl x) (.type "bool")
 | int (i:Int):yQ K H (.int i) (.type "int")
 | str (x:Str):yQ K H (.str x) (.type "str")
 | flt (x:UInt64):yQ K H (.flt x) (.type "float")
 | lst {a:Addr} {xs:List V} (e:H a=some (.lst xs)):yQ K H (.ref a) (.type "list")
 | frz {a:Addr} {o:Obj} {xs:List V} (e:H a=some (.frz o (.lst xs))):yQ K H (.ref a) (.type "list")
 | tup {a:Addr} {xs:List V} (e:H a=some (.tup xs)):yQ K H (.ref a) (.type "tuple")
 | dK {a:Addr} {kvs:List (wO × V)} (e:H a=some (.dK kvs)):yQ K H (.ref a) (.type "dict")
 | dT {a:Addr} {kvs:List (List wO × V)} (e:H a=some (.dT kvs)):yQ K H (.ref a) (.type "dict")
 | ins {a C dx:Addr} {fs:List (Str × V)} (e:H a=some (.ins C dx fs)) (cl:uN K C) (ha:dI K (.ref C) "__class__" = some (some (.builtin "object.__class__")))
   (hn:i9 K (.builtin "object.__class__") "__get__" = some (some (.builtin "getset_descriptor.__get__"))) (htk:lM K (.builtin "object.__class__")=some true)
   (hm:lY K C (.type "object")=some true):yQ K H (.ref a) (.ref C)
theorem K2 {x:V} {u t:Value} (I:zE X pins σ H s) (rx:zR x u) (ty:yQ X.K H x t) (e:cE X.K t c=some b) (h:∀ tk,Q (.bool b) { s with toks:=tk }) :
  wpAny (model X.prog X.w) A (call (.builtin "isinstance") [u,c]) Q E s:=by
 cases ty with
 | non=>cases (show u=Value.none from rx); exact dD i_ I.kIn True.intro e (λz=>nomatch z) h
 | bl y=>cases (show u=Value.bool y from rx); exact dD j_ I.kIn True.intro e (λz=>nomatch z) h
 | int i=>obtain ⟨t,q⟩:=(show ∃ t,u=Value.int i t from rx); cases q; exact dD lC I.kIn True.intro e (λz=>nomatch z) h
 | str y=>obtain ⟨t,q⟩:=(show ∃ t,u=Value.str y t from rx); cases q; exact dD lD I.kIn True.intro e (λz=>nomatch z) h
 | flt y=>obtain ⟨t,q⟩:=(show ∃ t,u=Value.float y t from rx); cases q; exact dD PySem.W.kitx_float I.kIn True.intro e (λz=>nomatch z) h
 | @lst a xs ea=>
  cases (show u=Value.ref a from rx)
  obtain ⟨_,_,n,_,h1⟩:=(show xU X.prog X.w H s.heap a (.lst xs) from I.hok a _ ea)
  exact dD fK I.kIn ⟨_,h1,rfl⟩ e (λz=>nomatch z) h
 | @frz a ob xs ea=>
  cases (show u=Value.ref a from rx)
  obtain ⟨_,_,_,n,_,h1⟩:=(show xU X.prog X.w H s.heap a (.frz ob (.lst xs)) from I.hok a _ ea)
  exact dD fK I.kIn ⟨_,h1,rfl⟩ e (λz=>nomatch z) h
 | @tup a xs ea=>
  cases (show u=Value.ref a from rx)
  obtain ⟨_,_,_,p⟩:=(show xU X.prog X.w H s.heap a (.tup xs) from I.hok a _ ea)
  obtain ⟨o,h1,h2,_⟩:=p
  exact dD iX I.kIn ⟨o,h1,h2⟩ e (λz=>nomatch z) h
 | @dK a kvs ea=>
  cases (show u=Value.ref a from rx)
  obtain ⟨_,_,vs,_,p⟩:=(show xU X.prog X.w H s.heap a (.dK kvs) from I.hok a _ ea)
  obtain ⟨o,es,ep,h1,h2,_⟩:=p
  exact dD k_ I.kIn ⟨o,h1,h2.1⟩ e (λz=>nomatch z) h
 | @dT a kvs ea=>
  cases (show u=Value.ref a from rx)
  obtain ⟨_,_,xs,_,o,es,ep,h1,h2,_⟩:=(show xU X.prog X.w H s.heap a (.dT kvs) from I.hok a _ ea)
  exact dD k_ I.kIn ⟨o,h1,h2.1⟩ e (λz=>nomatch z) h
 | @ins a C dx fs ea cl ha hn htk hm=>
  cases (show u=Value.ref a from rx)
  obtain ⟨mA,O,_⟩:=Xe I.hok ea
  obtain ⟨od,J,_⟩:=O.look
  exact dD (PySem.W.kitx_own (cl.get _) cl.hd ha hn htk hm) I.kIn J e (λz=>nomatch z) h
end
end L2
namespace L2
open PySem PySem.Spec PyProof.Rows
structure zZ (k:Nat) (A:Around):Prop where
 hd:A.handled=none
 dp:A.depth + 3 * k + 5 < recursionLimit
 un:A.units + 16 * k + 200 < cLine
theorem zZ.mono {j k:Nat} {A:Around} (r:zZ k A) (h:j<=k):zZ j A:=⟨r.hd,by have:=r.dp; omega,by have:=r.un; omega⟩
theorem zZ.deeper {k:Nat} {A:Around} (r:zZ (k + 1) A) (env:Env):zZ k (A.deeper env):=
 ⟨r.hd,by have:=r.dp; show A.depth + 1 + 3 * k + 5 < _; omega,by have:=r.un; show A.units + 3 + 16 * k + 200 < _; omega⟩
theorem zJ8 {A:Around} {C:Addr} {us:List Value} {kw:List (Str × Value)}:(A.under (.builtin "type.__call__" ⟨.ref C :: us,kw⟩)).depth=A.depth + 1:=by
 first | rfl | simp [Around.under,Code.weight,Code.isCreation,Code.isGuard,Code.isCaller,Code.frames,Code.isFrame,guardIds]
theorem zJ7 {A:Around} {C:Addr} {us:List Value} {kw:List (Str × Value)}:(A.under (.builtin "type.__call__" ⟨.ref C :: us,kw⟩)).units=A.units + 1:=by
 first | rfl | simp [Around.under,Code.cUnits,Code.frames,Code.isFrame]
theorem zZ.make {k:Nat} {A:Around} (r:zZ (k + 1) A) (C:Addr) (us:List Value) (kw:List (Str × Value)):zZ k (A.under (.builtin "type.__call__" ⟨.ref C :: us,kw⟩)):=
 ⟨r.hd,by have:=r.dp; rw [zJ8]; omega,by have:=r.un; rw [zJ7]; omega⟩
theorem zZ.depth {k:Nat} {A:Around} (r:zZ k A):A.depth < recursionLimit:=by have:=r.dp; omega
theorem zZ.units {k:Nat} {A:Around} (r:zZ k A):A.units + 64 < cLine:=by have:=r.un; omega
def wS:TA:=λ_ H Q=>Q [] H
def um (ta:TE) (tr:TA):TA:=λσ H Q=>ta σ H λx H1=>tr σ H1 λxs H2=>Q (x :: xs) H2
section
variable {X:Cx} {e:Expr} {es:List Expr} {te:TE} {t:TA} {pos:Pos}
theorem yO:PA X [] wS:=λ_ _ _ _ H Q I h=>Calls.spliced_nil ⟨[],H,I,.nil,h⟩
theorem zg (ha:PE X e te) (hr:PA X es t) (hs:starEach (e :: es) X.env=(false,eval e X.env) :: starEach es X.env:=by rfl):PA X (e :: es) (um te t):=by
 intro pos pins s σ H Q I h
 rw [hs]
 show wpAny _ _ (spliced ((false,eval e X.env) :: backTo pos (starEach es X.env))) _ _ s
 refine Calls.spliced_cons (zk (ha pins s σ H _ I h) λu s1 ⟨x,H1,I1,r1,q1⟩=>?_)
 exact zk (hr pos pins s1 σ H1 _ I1 q1) λus s2 ⟨xs,H2,I2,r2,q2⟩=>⟨x :: xs,H2,I2,.cons r1 r2,q2⟩
def UA (t:TA):TE:=λσ H Q=>t σ H λxs H1=>xs.length<=sizeLine/\∀ p,H1 p=none->Q (.ref p) (zV H1 p (.tup xs))
def UB (t:TA):TE:=λσ H Q=>t σ H λxs H1=>xs.length<=sizeLine/\∀ p,H1 p=none->Q (.ref p) (zV H1 p (.lst xs))
theorem K3 {x1} (h:PA X es t):PE X (.Tuple es x1 pos) (UA t):=by
 intro pins s σ H Q I hq
 refine wpAny_Tuple_spliced (zk (h pos pins s σ H _ I hq) λus s1 ⟨xs,H1,I1,r,z,q⟩=>⟨by rw [<- r.length]; exact z,?_⟩)
 have hf:H1 s1.heap.objs.size=none:=I1.hok.fresh (cL _)
 refine ⟨.ref s1.heap.objs.size,zV H1 s1.heap.objs.size (.tup xs),I1.laid (t':=s1.toks) (λb u e=>ck _ e) (cL _) ?_,rfl,q _ hf⟩
 exact ⟨z,us,r,⟨_,cG _ rfl,rfl,_,rfl⟩⟩
theorem K4 (h:PA X es t):PE X (.List es pos) (UB t):=by
 intro pins s σ H Q I hq
 refine wpAny_List_spliced (zk (h pos pins s σ H _ I hq) λus s1 ⟨xs,H1,I1,r,z,q⟩=>⟨by rw [<- r.length]; exact z,?_⟩)
 have hf:H1 s1.heap.objs.size=none:=I1.hok.fresh (cL _)
 refine ⟨.ref s1.heap.objs.size,zV H1 s1.heap.objs.size (.lst xs),I1.laid (t':=s1.toks) (λb u e=>ck _ e) (cL _) ?_,rfl,q _ hf⟩
 exact ⟨z,us,0,r,cG _ rfl⟩
end
abbrev Sp:=List V->Hp->VK->XK->Prop
abbrev vZ:=List Env->Hp->Shared->XK->Value->Shared->Prop
structure vI (P:Program) (w:World) (K:cg) (mg:Str->Option Value) (base:Heap) (A:Around) (outer:List Env) (s:Shared) (H:Hp):Prop where
 frames:A.frames=some outer
 mod:Mod K mg base
 bs:∀ b o,base.get? b=some o->s.heap.get? b=some o/\H b=none
 bsz:base.objs.size<=s.heap.objs.size
 funs:s.heap.FunFrames base outer
 frf:∀ b∈xE outer,H b=none
 hok:yn P w H s.heap
 bare:AllBare s.gens
def CE (outer:List Env) (P:Program) (w:World) (H:Hp) (s:Shared) (Q:VK) (u:Value) (s':Shared):Prop:=
 ∃ v H',s'.os=s.os/\AllBare s'.gens/\Un (xE outer) [] H H' s.heap s'.heap/\yn P w H' s'.heap/\zR v u/\Q v H'
def CR (CX:vZ) (outer:List Env) (P:Program) (w:World) (H:Hp) (s:Shared) (Q:VK) (E:XK) (r:Result) (s':Shared):Prop:=
 match r with
 | .ok (.ret u)=>CE outer P w H s Q u s'
 | .ok _=>False
 | .error e=>CX outer H s E e s'
structure zF (P:Program) (w:World) (K:cg) (mg:Str->Option Value) (base:Heap) (CX:vZ) (k:Nat) (f:Addr) (fd:FuncData) (ps:List Str) (sp:Sp):Prop where
 len:∀ vs H Q E,sp vs H Q E->vs.length=ps.length
 run:∀ (A:Around) (outer:List Env) (s:Shared) (H:Hp) (args:Args) (us:List Value) (vs:List V) (Q:VK) (E:XK),zZ k A->vI P w K mg base A outer s H->BindsTo s fd args (ps.zip us)->zJ vs us->sp vs H Q E->
  codeAny (model P w) A (.call (.ref f) args) (CR CX outer P w H s Q E) s
theorem zF.mono {P:Program} {w:World} {K:cg} {mg:Str->Option Value} {base:Heap} {CX:vZ} {j k:Nat} {f:Addr} {fd:FuncData} {ps:List Str} {sp:Sp} (F:zF P w K mg base CX j f fd ps sp) (h:j<=k) :
  zF P w K mg base CX k f fd ps sp:=⟨F.len,λA outer s H args us vs Q E hr=>F.run A outer s H args us vs Q E (hr.mono h)⟩
theorem vI.make {P:Program} {w:World} {K:cg} {mg:Str->Option Value} {base:Heap} {A:Around} {outer:List Env} {s:Shared} {H:Hp} (e:vI P w K mg base A outer s H) (C:Addr) (us:List Value) (kw:List (Str × Value)) :
  vI P w K mg base (A.under (.builtin "type.__call__" ⟨.ref C :: us,kw⟩)) outer s H:=⟨by first | exact e.frames | (simpa [Around.under,Code.envs,Code.isFrame,pushEnvs] using e.frames),e.mod,e.bs,e.bsz,e.funs,e.frf,e.hok,e.bare⟩
section
variable {X:Cx} {pins:List (Addr × Obj)} {σ:St} {H:Hp} {s s':Shared}
theorem zE.env0 (I:zE X pins σ H s):vI X.prog X.w X.K X.mg X.base X.A X.stack s H:=
 ⟨I.ok.frames,I.ok.mod,I.bs,dz I.ok.bsz I.sz,I.stack,I.stkFree,I.hok,I.bare⟩
theorem zE.after {Q:VK} {u:Value} (I:zE X pins σ H s) (h:CE X.stack X.prog X.w H s Q u s'):EP X pins σ Q u s':=by
 obtain ⟨v,H',os,bare,un,hok,r,q⟩:=h
 obtain ⟨hh,g,d,t,os'⟩:=s'
 obtain rfl:os'=s.os:=os
 exact ⟨v,H',I.call (h':=hh) (g':=g) (d':=d) (t':=t) (ch:=[]) un hok bare (λb z=>absurd z (by simp)),r,q⟩
end
def jC (sp:Sp) (dvs:List V) (E:XK) (t:TA):TE:=λσ H Q=>t σ H λvs H1=>sp (vs++dvs) H1 Q E
def K5 (C:Addr) (m:Str) (sp:Sp) (dvs:List V) (E:XK) (ta:TE) (t:TA):TE:=λσ H Q=>ta σ H λx H1=>∃ a dx fs,x=.ref a/\H1 a=some (.ins C dx fs)/\fs.lookup m=none∧
 t σ H1 λvs H2=>sp (x :: (vs++dvs)) H2 Q E
def Xf (C:Addr) (sp:Sp) (dvs:List V) (E:XK) (t:TA):TE:=λσ H Q=>t σ H λvs H1=>∀ x dx,H1 x=none->H1 dx=none->dx≠x->
 sp (.ref x :: (vs++dvs)) (zV (zV H1 dx (.own x)) x (.ins C dx [])) (λv H2=>v=.non/\Q (.ref x) H2) E
def w6 (K:cg) (fd:FuncData) (ps:List Str) (ds:List Value):Prop:=
 ∀ (s:Shared) (us:List Value),K.In s.heap->(us++ds).length=ps.length->BindsTo s fd ⟨us,[]⟩ (ps.zip (us++ds))
theorem w6.all {K:cg} {fd:FuncData} {ps:List Str} (h:∀ us:List Value,us.length=ps.length->bindArgs fd ⟨us,[]⟩=pure (ps.zip us)):w6 K fd ps []:=λs us _ hl=>by
 rw [dQ] at hl |-
 exact .of_eq (h us hl)
def j9 (CX:vZ) (X:Cx) (E:XK):Prop:=∀ (pins:List (Addr × Obj)) (σ:St) (H:Hp) (s:Shared) (e:Value) (s':Shared),zE X pins σ H s->CX X.stack H s E e s'->X.xe e s'
section
variable {X:Cx} {CX:vZ} {k:Nat} {f C:Addr} {fd:FuncData} {ps:List Str} {sp:Sp} {dvs:List V} {ds:List Value} {E:XK} {x m:Str} {p pos apos:Pos} {e o:Expr} {es:List Expr} {ta:TE} {t:TA}
theorem K6 {pins:List (Addr × Obj)} {σ:St} {H:Hp} {s:Shared} {Q:VK} {us:List Value} {vs:List V} (F:zF X.prog X.w X.K X.mg X.base CX k f fd ps sp) (hr:zZ k X.A) (hb:w6 X.K fd ps ds) (hd:zJ dvs ds) (hx:j9 CX X E)
  (I:zE X pins σ H s) (r:zJ vs us) (h:sp (vs++dvs) H Q E):wpAny (model X.prog X.w) X.A (call (.ref f) us) (EP X pins σ Q) X.xe s:=by
 have r2:zJ (vs++dvs) (us++ds):=r.append hd
 have hl:(us++ds).length=ps.length:=by rw [<- r2.length]; exact F.len _ _ _ _ h
 refine wpAny_call (codeAny_mono (F.run X.A X.stack s H ⟨us,[]⟩ (us++ds) (vs++dvs) Q E hr I.env0 (hb s us I.kIn hl) r2 h) λr s' hq=>?_)
 cases r with
 | error e=>exact hx pins σ H s e s' I hq
 | ok fl=>
  cases fl with
  | ret u=>exact I.after hq
  | next=>exact False.elim hq
  | brk=>exact False.elim hq
  | cont=>exact False.elim hq
theorem UC (F:zF X.prog X.w X.K X.mg X.base CX k f fd ps sp) (hr:zZ k X.A) (hg:Gl X x) (hm:X.mg x=some (.ref f)) (hk:dN X.K (.ref f)=true) (hb:w6 X.K fd ps ds) (hd:zJ dvs ds) (hx:j9 CX X E)
  (ha:PA X (e :: es) t) (hdb:(x == ("__debug__" : Str))=false:=by decide) (he:starEach (e :: es) X.env=(false,eval e X.env) :: starEach es X.env:=by rfl) (hpl:(backTo pos (starEach es X.env)).any (·.1)=false:=by rfl) :
  PE X (.Call (.Name x p) (e :: es) [] pos) (jC sp dvs E t):=by
 intro pins s σ H Q I h
 refine wpAny_Call_Name_kw (gS I hg hm ?_ hdb)
 refine hX (h₀:=X.base) I.ok.mod.kin hk (zk (ha pos pins s σ H _ I h) λus s1 ⟨vs,H1,I1,r,q⟩=>⟨I1.kIn,?_⟩) he hpl
 exact K6 F hr hb hd hx I1 r q
theorem zMw {pl:Sem Bool} (he:PE X o ta) (c:uN X.K C) (hm:j8 X.K C m f) (F:zF X.prog X.w X.K X.mg X.base CX k f fd ps sp) (hr:zZ k X.A) (hb:w6 X.K fd ps ds) (hd:zJ dvs ds) (hx:j9 CX X E)
  (ht:eval (.Call (.Attribute o m apos) [] [] pos) X.env=(do
   let ov <- eval o X.env
   standAt apos.atName
   let (f,first) <- holding [ov] (getMethod ov m pl)
   callWith pos f first (backTo pos (starEach [] X.env)) (backToKw pos (keywordEach [] X.env))):=by rfl) :
  PE X (.Call (.Attribute o m apos) [] [] pos) (K5 C m sp dvs E ta wS):=by
 intro pins s σ H Q I h
 refine PySem.W.methodCall_KW (pl:=pl) (zk (he pins s σ H _ I h) λu s1 ⟨x,H1,I1,rx,a,dx,fs,ex,ea,l,q⟩=>?_) ht
 subst ex
 obtain rfl:u=Value.ref a:=rx
 refine zJ9 I1 ea c hm l ?_
 exact PySem.W.callWith_K0 (first:=[.ref a]) I1.kIn hm.kp (K6 (us:=[.ref a]) (vs:=[.ref a]) F hr hb hd hx I1 (.cons rfl .nil) q)
structure Mk (K:cg) (C f:Addr):Prop where
 makes:lL K C=true
 init:dI K (.ref C) "__init__" = some (some (.ref f))
 fn:lz K (.ref f)=true
 kp:dN K (.ref C)=true
theorem zMh {pins:List (Addr × Obj)} {σ:St} {H:Hp} {s:Shared} {Q:VK} {us:List Value} {vs:List V} (M:Mk X.K C f) (F:zF X.prog X.w X.K X.mg X.base CX k f fd ps sp) (hr:zZ (k + 1) X.A) (hb:w6 X.K fd ps ds) (hd:zJ dvs ds)
  (hx:j9 CX X E) (I:zE X pins σ H s) (r:zJ vs us)
  (h:∀ x dx,H x=none->H dx=none->dx≠x->sp (.ref x :: (vs++dvs)) (zV (zV H dx (.own x)) x (.ins C dx [])) (λv H2=>v=.non/\Q (.ref x) H2) E) :
  wpAny (model X.prog X.w) X.A (call (.ref C) us) (EP X pins σ Q) X.xe s:=by
 have hq:=h (s.heap.objs.size + 1) s.heap.objs.size (I.hok.fresh (Nat.le_succ _)) (I.hok.fresh (cL _)) (dg (iu _))
 have I2:=zE.made (C:=C) I
 have r2:zJ (V.ref (s.heap.objs.size + 1) :: (vs++dvs)) (Value.ref (s.heap.objs.size + 1) :: (us++ds)):=.cons rfl (r.append hd)
 have hl:(Value.ref (s.heap.objs.size + 1) :: us++ds).length=ps.length:=by
  have e:=r2.length
  rw [F.len _ _ _ _ hq] at e
  exact e.symm
 refine wpAny_call (zNO (f:=f) I.kIn M.makes M.init (beq_iff_eq.mp M.fn) (codeAny_mono (F.run _ X.stack _ _ ⟨Value.ref (s.heap.objs.size + 1) :: us,[]⟩ (Value.ref (s.heap.objs.size + 1) :: (us++ds)) _ _ E (hr.make C us [])
  (I2.env0.make C us []) (hb _ (Value.ref (s.heap.objs.size + 1) :: us) I2.kIn hl) r2 hq) λr s' hq'=>?_))
 cases r with
 | error e=>exact hx pins σ _ _ e s' I2 hq'
 | ok fl=>
  cases fl with
  | ret u=>
   obtain ⟨v,H',I3,rv,ev,q3⟩:=I2.after hq'
   subst ev
   exact ⟨rv,⟨V.ref (s.heap.objs.size + 1),H',I3,rfl,q3⟩⟩
  | next=>exact False.elim hq'
  | brk=>exact False.elim hq'
  | cont=>exact False.elim hq'
theorem zO4 (M:Mk X.K C f) (F:zF X.prog X.w X.K X.mg X.base CX k f fd ps sp) (hr:zZ (k + 1) X.A) (hg:Gl X x) (hm:X.mg x=some (.ref C)) (hb:w6 X.K fd ps ds) (hd:zJ dvs ds) (hx:j9 CX X E)
  (ha:PA X (e :: es) t) (hdb:(x == ("__debug__" : Str))=false:=by decide) (he:starEach (e :: es) X.env=(false,eval e X.env) :: starEach es X.env:=by rfl) (hpl:(backTo pos (starEach es X.env)).any (·.1)=false:=by rfl) :
  PE X (.Call (.Name x p) (e :: es) [] pos) (Xf C sp dvs E t):=by
 intro pins s σ H Q I h
 refine wpAny_Call_Name_kw (gS I hg hm ?_ hdb)
 refine hX (h₀:=X.base) I.ok.mod.kin M.kp (zk (ha pos pins s σ H _ I h) λus s1 ⟨vs,H1,I1,r,q⟩=>⟨I1.kIn,?_⟩) he hpl
 exact zMh M F hr hb hd hx I1 r q
end
structure zb (N P:List Str) (sc:Scope):Prop where
 kind:sc.kind=.function
 co:sc.isCoroutine=false
 gen:sc.isGenerator=false
 nd:N.Nodup
 pre:N.take P.length=P
 par:∀ x∈P,sc.names.lookup x=some .local\/sc.names.lookup x=some .cell
 nofree:∀ y∈sc.names,y.2≠.free
theorem zb.a {N P:List Str} {s:Scope} (a:s.kind=.function:=by rfl) (b:s.isCoroutine=false:=by rfl) (c:s.isGenerator=false:=by rfl) (d:N.Nodup:=by decide +kernel) (e:N.take P.length=P:=by rfl) (f:∀ x∈P,s.names.lookup x=some .local\/s.names.lookup x=some .cell:=by decide +kernel) (g:∀ y∈s.names,y.2≠.free:=by decide +kernel):zb N P s:=⟨a,b,c,d,e,f,g⟩
theorem K7 {kindOf:Str->Option NameKind} {x:Str}:∀ {binds:List (Str × Value)} {m:Str->Option Value},(∀ v,(x,v)∉binds)->bindL kindOf binds m x=m x
 | [],_,_=>rfl
 | (n,v) :: r,m,h=>by
  unfold bindL
  rw [K7 λw hw=>h w (cr _ hw)]
  split
  ·have:x≠n:=by rintro rfl; exact h v cv
   simp [this]
  ·rfl
theorem K8 {kindOf:Str->Option NameKind} {x:Str}:∀ {binds:List (Str × Value)} {m:Str->Option Value},(∀ v,(x,v)∉binds)->bindC kindOf binds m x=m x
 | [],_,_=>rfl
 | (n,v) :: r,m,h=>by
  unfold bindC
  rw [K8 λw hw=>h w (cr _ hw)]
  split
  ·rfl
  ·have:x≠n:=by rintro rfl; exact h v cv
   simp [this]
theorem K9 {kindOf:Str->Option NameKind} {x:Str} {v:Value}:∀ {P:List Str} {vs:List Value} {i:Nat} {m:Str->Option Value},P.Nodup->P[i]? = some x->vs[i]? = some v->kindOf x=some .local->
  bindL kindOf (P.zip vs) m x=some v
 | [],_,_,_,_,h,_,_=>by simp at h
 | _ :: _,[],_,_,_,_,h,_=>by simp at h
 | p :: P,w :: vs,0,m,nd,h1,h2,hk=>by
  simp at h1 h2; subst h1; subst h2
  show bindL kindOf ((p,w) :: P.zip vs) m p=_
  unfold bindL
  rw [K7 λv hv=>(fj.mp nd).1 (cW hv).1,if_pos hk]
  simp
 | p :: P,w :: vs,i + 1,m,nd,h1,h2,hk=>by
  show bindL kindOf ((p,w) :: P.zip vs) m x=_
  unfold bindL
  exact K9 (i:=i) (fj.mp nd).2 (by simpa using h1) (by simpa using h2) hk
theorem zH6 {kindOf:Str->Option NameKind} {x:Str} {v:Value}:∀ {P:List Str} {vs:List Value} {i:Nat} {m:Str->Option Value},P.Nodup->P[i]? = some x->vs[i]? = some v->kindOf x≠some .local->
  bindC kindOf (P.zip vs) m x=some v
 | [],_,_,_,_,h,_,_=>by simp at h
 | _ :: _,[],_,_,_,_,h,_=>by simp at h
 | p :: P,w :: vs,0,m,nd,h1,h2,hk=>by
  simp at h1 h2; subst h1; subst h2
  show bindC kindOf ((p,w) :: P.zip vs) m p=_
  unfold bindC
  rw [K8 λv hv=>(fj.mp nd).1 (cW hv).1,if_neg hk]
  simp
 | p :: P,w :: vs,i + 1,m,nd,h1,h2,hk=>by
  show bindC kindOf ((p,w) :: P.zip vs) m x=_
  unfold bindC
  exact zH6 (i:=i) (fj.mp nd).2 (by simpa using h1) (by simpa using h2) hk
def xw (N:List Str) (vs:List V):St:=vs.map some++cj (N.length - vs.length) none
def zW (CX:vZ) (P:Program) (w:World) (K:cg) (mg:Str->Option Value) (base:Heap) (N:List Str) (qual:Str) (scope:Scope) (f:Addr) (cd:Value) (A:Around) (outer:List Env) (s:Shared) (H:Hp) (E:XK):Cx where
 prog:=P
 w:=w
 K:=K
 mg:=mg
 base:=base
 A:=A.deeper (envOfC qual scope s.heap.objs.size f cd)
 N:=N
 s₀:=s
 H₀:=H
 env:=envOfC qual scope s.heap.objs.size f cd
 outer:=outer
 stack:=envOfC qual scope s.heap.objs.size f cd :: outer
 ex:=[]
 calm:=true
 fn:=λ_=>true
 pn:=[]
 xe:=λe s'=>wpAny (model P w) (A.deeper (envOfC qual scope s.heap.objs.size f cd)) (leaving (envOfC qual scope s.heap.objs.size f cd) e) (λ_ s''=>CX outer H s E e s'') (λe' s''=>CX outer H s E e' s'') s'
theorem zJd {sc:Scope} {n:Nat} {x:Str} (h:sc.names.lookup x=some .cell):∃ c,(cellsFrom n sc.names []).lookup x=some c:=by
 have q:=dL sc.names n [] (.inl h)
 exact dR.mp q
theorem zLV {CX:vZ} {P:Program} {w:World} {K:cg} {mg:Str->Option Value} {base:Heap} {N ps:List Str} {qual:Str} {scope:Scope} {f:Addr} {cd:Value} {A:Around} {outer:List Env} {s s1:Shared} {H:Hp} {E:XK} {us:List Value} {vs:List V}
  (S:zb N ps scope) (hd:A.handled=none) (e0:vI P w K mg base A outer s H) (hl:vs.length=ps.length) (r:zJ vs us)
  (x:InCallC s s.heap.objs.size (bindL (envOfC qual scope s.heap.objs.size f cd).kindOf (ps.zip us) λ_=>none) (cellsFrom (s.heap.objs.size + 1) scope.names []) (bindC (envOfC qual scope s.heap.objs.size f cd).kindOf (ps.zip us) λ_=>none) s1) :
  zE (zW CX P w K mg base N qual scope f cd A outer s H E) [] (xw N vs) H s1:=by
 have hpl:ps.length<=N.length:=by have:=congrArg di S.pre; rw [cK] at this; omega
 obtain ⟨h1,tk,rfl,hk⟩:=x.done
 have noA:∀ b:Addr,b∉(zW CX P w K mg base N qual scope f cd A outer s H E).ex:=λb z=>absurd (show b∈([]:List Addr) from z) (by simp)
 refine ⟨⟨e0.mod,S.kind,rfl,rfl,cL _,λy z c h1 h2=>?_,λy hy=>?_,λy c _ h=>?_,λ_=>hd,Around.frames_deeper e0.frames,.inr ⟨rfl,rfl⟩,λb z=>absurd z (noA b),e0.bs,e0.bsz,λb _ _=>noA b,λb z=>absurd z (noA b),e0.funs,e0.frf⟩,
  rfl,e0.bare,Un.kept hk,⟨_,x.toInCall.ns,λi y v h1 h2 h3=>?_⟩,λy c h=>⟨_,x.cell y c h⟩,e0.hok.fresh (cL _),λy c h=>?_,λp hp=>absurd (show p∈([]:List (Addr × Obj)) from hp) (by simp),e0.hok.kept hk,?_⟩
 ·exact name_of_addr x.apart (PySem.mem_of_lookup h1) (PySem.mem_of_lookup h2)
 ·have hy:scope.names.lookup y=some .cell\/scope.names.lookup y=some .free:=hy
  rcases hy with hy | hy
  ·exact zJd hy
  ·exact absurd rfl (S.nofree _ (PySem.mem_of_lookup hy))
 ·exact hV (x.above y c (PySem.mem_of_lookup h))
 ·have hi:i < vs.length:=by
   unfold xw at h2
   by_cases hi:i < vs.length
   ·exact hi
   ·rw [cY (by simpa using hi)] at h2
    rw [im] at h2
    split at h2 <;> cases h2
  have ha:vs[i]? = some v:=by
   unfold xw at h2
   rw [de (by simpa using hi),cV] at h2
   cases e:vs[i]? with
   | none=>rw [e] at h2; cases h2
   | some a=>rw [e] at h2; cases h2; rfl
  obtain ⟨u,hu,rv⟩:=r.get ha
  have hp:ps[i]? = some y:=by
   rw [<- S.pre,ii (by omega)]; exact h1
  have ndP:ps.Nodup:=by rw [<- S.pre]; exact S.nd.sublist (List.take_sublist _ _)
  refine ⟨u,rv,?_⟩
  rcases S.par y (dh hp) with k | k
  ·exact .inl ⟨k,K9 ndP hp hu k⟩
  ·obtain ⟨c,e⟩:=zJd (n:=s.heap.objs.size + 1) k
   refine .inr ⟨.inl k,c,e,?_⟩
   have q:=x.cell y c e
   rw [zH6 ndP hp hu (by show scope.names.lookup y≠_; rw [k]; decide)] at q
   exact q
 ·exact e0.hok.fresh (hV (x.above y c (PySem.mem_of_lookup h)))
 ·unfold xw
  show _=N.length
  rw [b_,a_,df]
  omega
theorem UD {CX:vZ} {P:Program} {w:World} {K:cg} {mg:Str->Option Value} {base:Heap} {k:Nat} {f:Addr} {name qual:Str} {params:Arguments} {body:List Stmt} {scope:Scope} {dV kV doc pm cdv ct oc:Value} {an od:Option Addr}
  {osl:Array (Option Value)} {N ps:List Str} {sp:Sp} (lk:K.lookup f=some ⟨oc,od,.func (dX name qual params body scope dV kV doc pm an cdv ct),osl⟩) (hcd:fM K cdv qual=true) (S:zb N ps scope)
  (len:∀ vs H Q E,sp vs H Q E->vs.length=ps.length)
  (hbody:∀ (A:Around) (outer:List Env) (s:Shared) (H:Hp) (vs:List V) (Q:VK) (E:XK),zZ k (A.deeper (envOfC qual scope s.heap.objs.size f cdv))->sp vs H Q E->
   ∃ t,yT (zW CX P w K mg base N qual scope f cdv A outer s H E) body t/\t { nx:=λ_ H'=>Q .non H',rt:=Q } (xw N vs) H) :
  zF P w K mg base CX (k + 1) f (dX name qual params body scope dV kV doc pm an cdv ct) ps sp:=by
 refine ⟨len,λA outer s H args us vs Q E hr e0 hb r hsp=>?_⟩
 have hl:=len _ _ _ _ hsp
 have KX:K.In s.heap:=e0.mod.kin.keeps λb o e=>(e0.bs b o e).1
 have lim:s.heap.NoLimit:=e0.mod.nolimit.keeps λb o e=>(e0.bs b o e).1
 have hkind:∀ y∈ps.zip us,scope.names.lookup y.1=some .local\/(scope.names.lookup y.1=some .cell/\((cellsFrom (s.heap.objs.size + 1) scope.names []).lookup y.1).isSome=true):=λ⟨n,v⟩ hy=>by
  rcases S.par n (cW hy).1 with q | q
  ·exact .inl q
  ·exact .inr ⟨q,dL _ _ _ (.inl q)⟩
 refine codeAny_call_function hr.depth (KX _ _ lk) rfl S.co S.gen rfl (PySem.W.codeRec_of KX hcd) (hb _ _ _ _ ?_)
 refine wpAny_newFunctionEnv_cells S.kind hkind λenv he s1 x=>?_
 subst he
 refine ⟨lim.keeps x.toInCall.keep,codeAny_func ?_⟩
 obtain ⟨t,ht,hq⟩:=hbody A outer s H vs Q E (hr.deeper _) hsp
 have I:zE (zW CX P w K mg base N qual scope f cdv A outer s H E) [] (xw N vs) H s1:=zLV S hr.hd e0 hl r x
 refine wpAny_mono (ht [] s1 (xw N vs) H _ I hq) (λfl s' hs=>?_) λe s' hs=>hs
 have fin:∀ {σ':St} {H':Hp} {v:V} {u:Value},zE (zW CX P w K mg base N qual scope f cdv A outer s H E) [] σ' H' s'->zR v u->Q v H'->CE outer P w H s Q u s':=
  λ{σ' H' v u} J rv q=>⟨v,H',J.os,J.bare,J.base,J.hok,rv,q⟩
 cases fl with
 | ret u=>
  obtain ⟨v,σ',H',J,rv,q⟩:=hs
  exact fin J rv q
 | next=>
  obtain ⟨σ',H',J,q⟩:=hs
  exact fin (v:=V.non) (u:=Value.none) J rfl q
 | brk=>
  obtain ⟨_,_,_,q⟩:=hs
  exact False.elim q
 | cont=>
  obtain ⟨_,_,_,q⟩:=hs
  exact False.elim q
end L2
namespace L2
open PySem PySem.Spec PyProof.Rows
section
variable {X:Cx} {x:Str} {p pos:Pos} {e:Expr} {es:List Expr} {t:TA} {id T:String} {r:List V->Hp->VK->Prop}
def gb (r:List V->Hp->VK->Prop) (t:TA):TE:=λσ H Q=>t σ H λvs H1=>r vs H1 Q
theorem xc (hc:vG X (.builtin id) r) (hg:Gl X x) (hm:X.mg x=none) (hv:bootBuiltins x=some (.builtin id)) (ha:PA X (e :: es) t) (hn:x≠"__name__":=by decide) (hdb:(x == ("__debug__" : Str))=false:=by decide)
  (he:starEach (e :: es) X.env=(false,eval e X.env) :: starEach es X.env:=by rfl) (hpl:(backTo pos (starEach es X.env)).any (·.1)=false:=by rfl):PE X (.Call (.Name x p) (e :: es) [] pos) (gb r t):=by
 intro pins s σ H Q I h
 refine wpAny_Call_Name_kw (gT I hg hm hv ?_ hn hdb)
 exact PyProof.Rows.callWith_builtin1 (zk (ha pos pins s σ H _ I h) λus s1 ⟨vs,H1,I1,r1,q1⟩=>hc pins s1 σ H1 vs us Q I1 r1 q1) he hpl
theorem zK0 (hc:vG X (.type T) r) (hg:Gl X x) (hm:X.mg x=none) (hv:bootBuiltins x=some (.type T)) (ha:PA X (e :: es) t) (hn:x≠"__name__":=by decide) (hdb:(x == ("__debug__" : Str))=false:=by decide)
  (he:starEach (e :: es) X.env=(false,eval e X.env) :: starEach es X.env:=by rfl) (hpl:(backTo pos (starEach es X.env)).any (·.1)=false:=by rfl):PE X (.Call (.Name x p) (e :: es) [] pos) (gb r t):=by
 intro pins s σ H Q I h
 refine wpAny_Call_Name_kw (gT I hg hm hv ?_ hn hdb)
 exact PyProof.Rows.callWith_type1 (zk (ha pos pins s σ H _ I h) λus s1 ⟨vs,H1,I1,r1,q1⟩=>hc pins s1 σ H1 vs us Q I1 r1 q1) he hpl
end
end L2
namespace HT
open PySem PyProof.Rows
section
variable {prog:Program} {w:World} {A:Around} {E:Value->Shared->Prop} {s:Shared}
theorem cat_tup {t b:Addr} {vs ws:List Value} {Q:Value->Shared->Prop} (ht:IsTup s.heap t vs.toArray) (hb:IsTup s.heap b ws.toArray) (hv:vs≠[])
  (h1:ws=[]->Q (.ref t) s) (h2:ws≠[]->Q (.ref s.heap.objs.size) { s with heap:=s.heap.push { cls:=.type "tuple",data:=.seq (vs++ws).toArray } })
  (hsz:vs.length + ws.length<=sizeLine):wpAny (model prog w) A (binaryOp .Add (.ref t) (.ref b)) Q E s:=by
 obtain ⟨⟨cls,dd,data,sl⟩,ho,hc,n,hd⟩:=id ht
 obtain ⟨⟨cls2,dd2,data2,sl2⟩,ho2,hc2,n2,hd2⟩:=id hb
 simp only at hc hd hc2 hd2
 subst hc hd hc2 hd2
 have e:vs.toArray++ws.toArray=(vs++ws).toArray:=by simp
 by_cases hw:ws=[]
 ·exact concat_meets ⟨_,ho,rfl⟩ ⟨_,ho2,rfl⟩ noFill_tuple_add seq_tuple_add fG fk (fb _ _)
   (tuple_addW1 t b vs.toArray ws.toArray n n2 dd dd2 sl sl2 (by simpa using hv) (by simp [hw])) ⟨ho,ho2,h1 hw⟩
 ·refine concat_meets ⟨_,ho,rfl⟩ ⟨_,ho2,rfl⟩ noFill_tuple_add seq_tuple_add fG fk (fb _ _)
   (tuple_addW2 t b vs.toArray ws.toArray n n2 dd dd2 sl sl2 (by simpa using hv) (by simpa using hw) (by rw [cy,cy]; exact hsz)) ⟨ho,ho2,?_⟩
  rw [e]
  exact h2 hw
def sIx (n d:Nat):Option Int->Nat
 | none=>d
 | some v=>if v < 0 then (v + (n:Int)).toNat else min v.toNat n
theorem sIx_none (n d:Nat):sIx n d none=d:=rfl
theorem sIx_nat (n d k:Nat):sIx n d (some (k:Int))=min k n:=by
 show (if (k:Int) < 0 then ((k:Int) + (n:Int)).toNat else min (k:Int).toNat n)=min k n
 rw [if_neg (by omega),ij]
theorem zP7 (n d:Nat) (hd:d<=n) (o:Option Int):sIx n d o<=n:=by
 cases o with
 | none=>exact hd
 | some v=>
  show (if v < 0 then (v + (n:Int)).toNat else min v.toNat n)<=n
  by_cases hv:v < 0
  ·rw [if_pos hv]; omega
  ·rw [if_neg hv]; exact Nat.min_le_right _ _
theorem zL7 (v:Int) (n d:Nat):(if v < 0 then max (v + (n:Int)) 0 else min v (n:Int))=((sIx n d (some v):Nat):Int):=by
 show (if v < 0 then max (v + (n:Int)) 0 else min v (n:Int))=(((if v < 0 then (v + (n:Int)).toNat else min v.toNat n):Nat):Int)
 by_cases hv:v < 0
 ·simp only [if_pos hv]; omega
 ·simp only [if_neg hv]; omega
theorem zKH (lo hi:Option Int) (n:Nat):Builtin.Slice.sliceAdjust lo hi 1 (n:Int)=(((sIx n 0 lo:Nat):Int),((sIx n n hi:Nat):Int)):=by
 have h1:¬ ((1:Int) < 0):=by omega
 unfold Builtin.Slice.sliceAdjust
 simp only [h1,if_false]
 refine Prod.ext ?_ ?_
 ·cases lo with
  | none=>rfl
  | some v=>exact zL7 v n 0
 ·cases hi with
  | none=>rfl
  | some v=>exact zL7 v n n
theorem zJz (i j:Nat):Builtin.Slice.slicePlaces (i:Int) (j:Int) 1=j - i:=by
 unfold Builtin.Slice.slicePlaces
 have h1:(1:Int) > 0:=by omega
 simp only [h1,if_true,Int.ediv_one]
 split <;> omega
theorem zGH {v:Value} {o:Option Int} {Q:Option Int->Shared->Prop} (p:IsPart v o) (h:Q o s):wpAny (model prog w) A (Builtin.Slice.slicePartIndex v) Q E s:=by
 cases p with
 | none=>exact slicePart_none h
 | int i t=>exact slicePart_int h
theorem zDB {sl:Addr} {vl vu:Value} {lo hi:Option Int} {n:Nat} {Q:Int × Int × Nat->Shared->Prop} (hs:s.heap.IsSliceOf sl vl vu .none) (pl:IsPart vl lo) (pu:IsPart vu hi)
  (h:Q (((sIx n 0 lo:Nat):Int),1,sIx n n hi - sIx n 0 lo) s):wpAny (model prog w) A (Builtin.Slice.sliceApplied (.ref sl) (pure (n:Int))) Q E s:=by
 obtain ⟨os,hos,hcs,hds⟩:=id hs
 unfold Builtin.Slice.sliceApplied Builtin.Slice.sliceFields
 refine wpAny_bind (wpAny_bind (wpAny_field hos hds (x:=vl) rfl (wpAny_bind (wpAny_field hos hds (x:=vu) rfl (wpAny_bind (wpAny_field hos hds (x:=.none) rfl (wpAny_pure ?_)))))))
 refine wpAny_bind (slicePart_none ?_)
 show wpAny _ _ (if ((1:Int) == 0)=true then _ else _) _ _ s
 rw [if_neg (by decide)]
 refine wpAny_bind (zGH pl (wpAny_bind (zGH pu (wpAny_bind (wpAny_pure ?_)))))
 show wpAny _ _ (match Builtin.Slice.sliceAdjust lo hi 1 (n:Int) with | (lo,hi)=>pure (lo,(1:Int),Builtin.Slice.slicePlaces lo hi 1)) _ _ s
 rw [zKH lo hi n]
 show wpAny _ _ (pure (((sIx n 0 lo:Nat):Int),(1:Int),Builtin.Slice.slicePlaces ((sIx n 0 lo:Nat):Int) ((sIx n n hi:Nat):Int) 1)) _ _ s
 rw [zJz]
 exact wpAny_pure h
theorem zMu (xs:Array Value) (i k:Nat):((cO k).filterMap λ(m:Nat)=>xs[((i:Int) + (m:Int) * 1).toNat]?).toArray=((xs.toList.drop i).take k).toArray:=by
 have e:(λ(m:Nat)=>xs[((i:Int) + (m:Int) * 1).toNat]?)=λm=>xs[i + m]?:=by
  funext m
  have:((i:Int) + (m:Int) * 1).toNat=i + m:=by omega
  rw [this]
 rw [e]
 have:=pick_run xs i k
 rw [List.filterMap_map] at this
 have e2:((λx=>xs[x]?) ∘ λx=>i + x)=λm=>xs[i + m]?:=rfl
 rw [e2] at this
 rw [this]
theorem getItem_tuple_cut {t sl:Addr} {items:Array Value} {vl vu:Value} {lo hi:Option Int} {Q:Value->Shared->Prop} (ht:IsTup s.heap t items) (hs:s.heap.IsSliceOf sl vl vu .none) (pl:IsPart vl lo) (pu:IsPart vu hi)
  (hw:¬ (sIx items.size 0 lo=0/\sIx items.size items.size hi=items.size))
  (h:Q (.ref s.heap.objs.size) { s with heap:=s.heap.push { cls:=.type "tuple",data:=.seq ((items.toList.drop (sIx items.size 0 lo)).take (sIx items.size items.size hi - sIx items.size 0 lo)).toArray } })
  (hsz:items.size<=sizeLine):wpAny (model prog w) A (getItem (.ref t) (.ref sl)) Q E s:=by
 have htake:sizeOk (.seq ((items.toList.drop (sIx items.size 0 lo)).take (sIx items.size items.size hi - sIx items.size 0 lo)).toArray):=by
  show ((items.toList.drop (sIx items.size 0 lo)).take (sIx items.size items.size hi - sIx items.size 0 lo)).toArray.size<=sizeLine
  rw [cy,cK,ej,fY]
  omega
 have hj:sIx items.size items.size hi<=items.size:=zP7 _ _ (cL _) hi
 obtain ⟨os,hos,hcs,hds⟩:=id hs
 have hTs:s.TypeIs (.ref sl) "slice":=⟨os,hos,hcs⟩
 unfold getItem
 try with_reducible refine wpAny_holding ?_
 first | refine wpAny_bind (wpAny_pure ?_) | skip
 refine wpAny_bind (wpAny_sequenceKey ht.typeIs (by decide) ?_)
 refine wpAny_bind (wpAny_callSpecial?_slot (name:=dU "__getitem__") ht.typeIs PyProof.Rows.slot_tuple_getitem
  (wpAny_call_entry PyProof.Rows.slot_tuple_getitem ht.typeIs entry_tuple_getitem ?_ (args_tuple_getitem _ _)))
 show wpAny _ _ (Builtin.Tuple.tupleItemsOf (.ref t) >>= _) _ _ s
 refine wpAny_bind (tupleItemsOf_ ht ?_)
 refine wpAny_bind (wpAny_typeOf hTs ?_)
 rw [if_pos (by decide)]
 refine wpAny_bind (zDB hs pl pu ?_)
 have hno:¬ ((((sIx items.size 0 lo:Nat):Int) == 0 && (1:Int) == 1 && (sIx items.size items.size hi - sIx items.size 0 lo) == items.size)=true):=by
  intro q
  rw [dq,dq] at q
  have q1:((sIx items.size 0 lo:Nat):Int)=0:=eq_of_beq q.1.1
  have q2:sIx items.size items.size hi - sIx items.size 0 lo=items.size:=eq_of_beq q.2
  exact hw ⟨by omega,by omega⟩
 show wpAny _ _ (if (((sIx items.size 0 lo:Nat):Int) == 0 && (1:Int) == 1 && (sIx items.size items.size hi - sIx items.size 0 lo) == items.size)=true then _ else _) _ _ s
 rw [if_neg hno,zMu]
 first
  | exact wpAny_bind (m:=Builtin.Tuple.tupleExact _) (wpAny_newObj_type (wpAny_pure ⟨_,rfl,wpAny_pure h⟩) htake)
  | exact wpAny_bind (m:=Builtin.Tuple.tupleExact _) (wpAny_newObj_type (wpAny_bind (wpAny_pure (wpAny_pure ⟨_,rfl,wpAny_pure h⟩))) htake)
  | exact wpAny_bind (wpAny_bind (m:=Builtin.Tuple.tupleExact _) (wpAny_newObj_type (wpAny_pure (wpAny_pure ⟨_,rfl,wpAny_pure h⟩)) htake))
  | exact wpAny_bind (wpAny_bind (m:=Builtin.Tuple.tupleExact _) (wpAny_newObj_type (wpAny_pure ⟨_,rfl,wpAny_pure h⟩) htake))
end
end HT
namespace L2
open PySem PySem.Spec PyProof.Rows
abbrev TO:=St->Hp->(Option Int->Hp->Prop)->Prop
def PO (X:Cx) (e:Option Expr) (t:TO):Prop:=
 ∀ (pins:List (Addr × Obj)) (s:Shared) (σ:St) (H:Hp) (Q:Option Int->Hp->Prop),zE X pins σ H s->t σ H Q->
  wpAny (model X.prog X.w) X.A (evalPart e X.env) (λu s'=>∃ o H',zE X pins σ H' s'/\IsPart u o/\Q o H') X.xe s
def zOk:TO:=λ_ H Q=>Q none H
def ZN (t:TE):TO:=λσ H Q=>t σ H λx H1=>∃ i,x=.int i/\Q (some i) H1
section
variable {X:Cx} {e:Expr} {te:TE} {lo hi:Option Expr} {tl th:TO} {pos p2:Pos}
theorem zO1:PO X none zOk:=by
 intro pins s σ H Q I h
 rw [evalPart_none]
 exact wpAny_pure ⟨none,H,I,.none,h⟩
theorem zO0 (h:PE X e te):PO X (some e) (ZN te):=by
 intro pins s σ H Q I hw
 rw [evalPart_some]
 refine zk (h pins s σ H _ I hw) λu s1 ⟨x,H1,I1,r1,q1⟩=>?_
 obtain ⟨i,rfl,q⟩:=q1
 obtain ⟨t,rfl⟩:=r1
 exact ⟨some i,H1,I1,.int i t,q⟩
def qA (X:Cx) (r:V->Option Int->Option Int->Hp->VK->Prop):Prop:=
 ∀ (pins:List (Addr × Obj)) (s:Shared) (σ:St) (H:Hp) (x:V) (v vl vu:Value) (lo hi:Option Int) (sl:Addr) (Q:VK),zE X pins σ H s->zR x v->s.heap.IsSliceOf sl vl vu .none->IsPart vl lo->IsPart vu hi->r x lo hi H Q->
  ∃ T id,typeLookup (.type T) "__getitem__" = pure (some (.builtin id))/\s.TypeIs v T/\wpAny (model X.prog X.w) X.A (getItem v (.ref sl)) (EP X pins σ Q) X.xe s
def tSl (r:V->Option Int->Option Int->Hp->VK->Prop) (te:TE) (tl th:TO):TE:=λσ H Q=>te σ H λx H1=>tl σ H1 λl H2=>th σ H2 λu H3=>r x l u H3 Q
theorem zJJ {r:V->Option Int->Option Int->Hp->VK->Prop} (hr:qA X r) (he:PE X e te) (hl:PO X lo tl) (hu:PO X hi th):PE X (.Subscript e (.Slice lo hi none p2) pos) (tSl r te tl th):=by
 intro pins s σ H Q I h
 refine Subscript_ (zk (he pins s σ H _ I h) λv s1 ⟨x,H1,I1,r1,q1⟩=>?_)
 refine wpAny_Slice (zk (hl pins s1 σ H1 _ I1 q1) λvl s2 ⟨l,H2,I2,pl,q2⟩=>zk (hu pins s2 σ H2 _ I2 q2) λvu s3 ⟨u,H3,I3,pu,q3⟩=>?_)
 rw [evalPart_none]
 refine wpAny_pure ?_
 have I4:zE X pins σ H3 { s3 with heap:=s3.heap.push { cls:=.type "slice",data:=.fields #[vl,vu,.none] } }:=I3.kept (t':=s3.toks) λb ob q=>ck _ q
 obtain ⟨T,id,hT,ht,hg⟩:=hr pins { s3 with heap:=s3.heap.push { cls:=.type "slice",data:=.fields #[vl,vu,.none] } } σ H3 x v vl vu l u s3.heap.objs.size Q I4 r1 (Heap.IsSliceOf.new ..) pl pu q3
 show wpAny (model X.prog X.w) X.A (subscriptTail e (.Slice lo hi none p2) v (.ref s3.heap.objs.size)) (EP X pins σ Q) X.xe { s3 with heap:=s3.heap.push { cls:=.type "slice",data:=.fields #[vl,vu,.none] } }
 exact tail_any (ops:=[.ref s3.heap.objs.size,v]) ht hT hg (by with_unfolding_all rfl)
def wr (xs:List V) (lo hi:Option Int):List V:=(xs.drop (HT.sIx xs.length 0 lo)).take (HT.sIx xs.length xs.length hi - HT.sIx xs.length 0 lo)
theorem zF1 (xs:List V) (lo hi:Option Int):(wr xs lo hi).length<=xs.length:=by
 unfold wr
 rw [cK,ej]
 omega
def UE (K:cg):V->Option Int->Option Int->Hp->VK->Prop:=λx lo hi H Q=>∃ a xs,x=.ref a/\yH K H a xs∧
 ¬ (HT.sIx xs.length 0 lo=0/\HT.sIx xs.length xs.length hi=xs.length)/\∀ p,H p=none->Q (.ref p) (zV H p (.tup (wr xs lo hi)))
theorem zP6:qA X (UE X.K):=by
 intro pins s σ H x v vl vu lo hi sl Q I rx hs pl pu h
 obtain ⟨a,xs,rfl,hx,hw,q⟩:=h
 cases rx
 obtain ⟨its,r,ht,hz⟩:=I.tuple hx
 have hlen:its.toArray.size=xs.length:=by rw [cy]; exact r.length.symm
 refine ⟨"tuple",_,PyProof.Rows.slot_tuple_getitem.lookup,ht.typeIs,?_⟩
 refine HT.getItem_tuple_cut ht hs pl pu (by rw [hlen]; exact hw) ?_ (by rw [hlen]; exact hz)
 rw [hlen]
 refine ⟨.ref s.heap.objs.size,_,I.laid (t':=s.toks) (o:=.tup (wr xs lo hi)) (λb ob q=>ck _ q) (cL _) ?_,rfl,q _ (I.hok.fresh (cL _))⟩
 exact ⟨dz (zF1 xs lo hi) hz,_,(r.drop (HT.sIx xs.length 0 lo)).take (HT.sIx xs.length xs.length hi - HT.sIx xs.length 0 lo),IsTup.new _ _⟩
def ZO (K:cg):R2:=λx y H Q=>∃ a b xs ys,x=.ref a/\y=.ref b/\yH K H a xs/\yH K H b ys/\xs≠[]/\xs.length + ys.length<=sizeLine∧
 (ys=[]->Q (.ref a) H)/\(ys≠[]->∀ p,H p=none->Q (.ref p) (zV H p (.tup (xs++ys))))
theorem zJ.nil_iff {xs:List V} {us:List Value} (r:zJ xs us):us=[] ↔ xs=[]:=by
 cases r with
 | nil=>simp
 | cons _ _=>simp
theorem zPD:yt X (binaryOp .Add) (ZO X.K):=by
 intro pins s σ H x y v u Q I rx ry h
 obtain ⟨a,b,xs,ys,rfl,rfl,ha,hb,hx,hz,q1,q2⟩:=h
 cases rx
 cases ry
 obtain ⟨its,r1,p1,_⟩:=I.tuple ha
 obtain ⟨its2,r2,p2,_⟩:=I.tuple hb
 refine HT.cat_tup p1 p2 (λz=>hx (r1.nil_iff.mp z)) (λz=>⟨.ref a,H,I,rfl,q1 (r2.nil_iff.mp z)⟩) (λz=>?_) (by rw [<- r1.length,<- r2.length]; exact hz)
 refine ⟨.ref s.heap.objs.size,_,I.laid (t':=s.toks) (o:=.tup (xs++ys)) (λb ob q=>ck _ q) (cL _) ?_,rfl,q2 (λw=>z (r2.nil_iff.mpr w)) _ (I.hok.fresh (cL _))⟩
 exact ⟨by rw [b_]; exact hz,_,r1.append r2,IsTup.new _ _⟩
end
end L2
namespace L2
open PySem PySem.Spec PyProof.Rows
def vJ (n:Nat) (i:Int):Option Nat:=if 0<=i then (if i < n then some i.toNat else none) else if -(n:Int)<=i then some (i + n).toNat else none
def xB {α:Type} (xs:List α) (i:Int):Option α:=(vJ xs.length i).bind λj=>xs[j]?
theorem zLU {n:Nat} {i:Int} {j:Nat} (h:vJ n i=some j):seqIndex? i n=some j/\j < n/\-(n:Int)<=i/\i < n:=by
 unfold vJ at h
 by_cases h0:0<=i
 ·rw [if_pos h0] at h
  by_cases h1:i < n
  ·rw [if_pos h1] at h
   have e:i.toNat=j:=Option.some.inj h
   exact ⟨by rw [seqIndex_of h0 h1,e],by omega,by omega,h1⟩
  ·rw [if_neg h1] at h; cases h
 ·rw [if_neg h0] at h
  by_cases h1 : -(n:Int)<=i
  ·rw [if_pos h1] at h
   have e:(i + n).toNat=j:=Option.some.inj h
   exact ⟨by rw [seqIndex_neg (by omega) h1,e],by omega,h1,by omega⟩
  ·rw [if_neg h1] at h; cases h
theorem zMF {α:Type} {xs:List α} {i:Int} {v:α} (h:xB xs i=some v):∃ j,seqIndex? i xs.length=some j/\xs[j]? = some v/\j < xs.length/\-(xs.length:Int)<=i/\i < xs.length:=by
 unfold xB at h
 cases e:vJ xs.length i with
 | none=>rw [e] at h; cases h
 | some j=>
  rw [e] at h
  obtain ⟨h1,h2,h3,h4⟩:=zLU e
  exact ⟨j,h1,h,h2,h3,h4⟩
def Xg (b:Expr):Prop:=∀ o i,subscripted b false o i=operate [o,i] (getItem o i)
def ZP (X:Cx) (r:R2):Prop:=
 ∀ (value slice:Expr) (pins:List (Addr × Obj)) (s:Shared) (σ:St) (H:Hp) (x y:V) (v u:Value) (Q:VK),zE X pins σ H s->zR x v->zR y u->r x y H Q->
  subscripted slice false v u=operate [v,u] (getItem v u)->wpAny (model X.prog X.w) X.A (subscriptTail value slice v u) (EP X pins σ Q) X.xe s
def UF (X:Cx) (id:String) (r:V->List V->Hp->VK->Prop):Prop:=
 ∀ (pins:List (Addr × Obj)) (s:Shared) (σ:St) (H:Hp) (x:V) (xs:List V) (v:Value) (us:List Value) (Q:VK),zE X pins σ H s->zR x v->zJ xs us->r x xs H Q->
  wpAny (model X.prog X.w) X.A (call (.builtin id) (v :: us)) (EP X pins σ Q) X.xe s
section
variable {X:Cx} {a b:Expr} {ta tb:TE} {pos:Pos}
theorem Xh {r:R2} (hr:ZP X r) (ha:PE X a ta) (hb:PE X b tb) (hs:Xg b):PE X (.Subscript a b pos) (ZD r ta tb):=by
 intro pins s σ H Q I h
 exact Subscript_ (j6 ha hb I h λv u s2 x y H2 I2 rx ry q=>hr a b pins s2 σ H2 x y v u Q I2 rx ry q (hs _ _))
def UG (K:cg):R2:=λx y H Q=>∃ p xs i v,x=.ref p/\y=.int i/\zw K H p xs/\xB xs i=some v/\Q v H
def UH (K:cg):R2:=λx y H Q=>∃ p xs i v,x=.ref p/\y=.int i/\yH K H p xs/\xB xs i=some v/\Q v H
theorem zLT:ZP X (UG X.K):=by
 intro value slice pins s σ H x y v u Q I rx ry h hs
 obtain ⟨p,xs,i,z,rfl,rfl,hq,he,q⟩:=h
 cases rx
 obtain ⟨t,rfl⟩:=ry
 obtain ⟨its,r,pl,hz⟩:=I.list hq
 obtain ⟨j,h1,h2,h3,h4,h5⟩:=zMF he
 obtain ⟨w,ew,rw'⟩:=r.get h2
 have hl:=r.length
 have hn:=Xd
 have fin:EP X pins σ Q w s:=⟨z,H,I,rw',q⟩
 by_cases h0:0<=i
 ·have hj:i.toNat=j:=by
   rw [seqIndex_of h0 h5] at h1
   exact Option.some.inj h1
  exact item_listR pl.isList h0 (by omega) (by rw [hj]; simpa using ew) fin hs
 ·have hj:(i + (its.toArray.size:Int)).toNat=j:=by
   rw [seqIndex_neg (by omega) h4] at h1
   rw [cy,<- hl]
   exact Option.some.inj h1
  exact subscriptTail_builtinR (x:=w) pl.isList.typeIs slot_list_getitem.lookup
   (wpAny_getItem_list_neg (Q:=λr s'=>r=w/\EP X pins σ Q r s') pl.isList (by omega) (by rw [cy] <;> omega) (by omega) (by rw [hj]; simpa using ew) ⟨rfl,fin⟩) hs
theorem zOG:ZP X (UH X.K):=by
 intro value slice pins s σ H x y v u Q I rx ry h hs
 obtain ⟨p,xs,i,z,rfl,rfl,hq,he,q⟩:=h
 cases rx
 obtain ⟨t,rfl⟩:=ry
 obtain ⟨its,r,pl,hz⟩:=I.tuple hq
 obtain ⟨j,h1,h2,h3,h4,h5⟩:=zMF he
 obtain ⟨w,ew,rw'⟩:=r.get h2
 have hl:=r.length
 have hn:=Xd
 have fin:EP X pins σ Q w s:=⟨z,H,I,rw',q⟩
 exact subscriptTail_builtinR (x:=w) pl.typeIs slot_tuple_getitem.lookup
  (getItem_tuple (j:=j) (Q:=λr s'=>r=w/\EP X pins σ Q r s') pl (by omega) (by omega) (by rw [cy,<- hl]; exact h1) (by simpa using ew) ⟨rfl,fin⟩) hs
theorem zJ6 (its:List Value) (n j:Nat) (u:Value):Obj.mapSeq (·.setIfInBounds j u) { cls:=.type "list",data:=.seq its.toArray n }={ cls:=.type "list",data:=.seq (its.set j u).toArray n }:=by
 simp [Obj.mapSeq]
theorem zE.lst {pins:List (Addr × Obj)} {σ:St} {H:Hp} {s:Shared} {p:Addr} {xs:List V} (I:zE X pins σ H s) (h:H p=some (.lst xs)) :
  ∃ (its:List Value) (n:Nat),zJ xs its/\s.heap.get? p=some { cls:=.type "list",data:=.seq its.toArray n }/\xs.length<=sizeLine:=by
 obtain ⟨z,its,n,r,e⟩:=I.hok p _ h
 exact ⟨its,n,r,e,z⟩
theorem zE.lstUpd {pins:List (Addr × Obj)} {σ:St} {H:Hp} {s:Shared} {p:Addr} {xs ys:List V} {its its':List Value} {n n':Nat} {f:Obj->Obj} (I:zE X pins σ H s) (h:H p=some (.lst xs))
  (ho:s.heap.get? p=some { cls:=.type "list",data:=.seq its.toArray n }) (hf:f { cls:=.type "list",data:=.seq its.toArray n }={ cls:=.type "list",data:=.seq its'.toArray n' }) (r:zJ ys its') (hz:ys.length<=sizeLine) (t:Nat) :
  zE X pins σ (zV H p (.lst ys)) { s with heap:=s.heap.update p f,toks:=t }:=by
 have e:(s.heap.update p f).get? p=some { cls:=.type "list",data:=.seq its'.toArray n' }:=by
  rw [eS f ho (by rw [hf] <;> rfl),hf]
 refine I.write (x:=p) (e:=p) (by rw [h]; trivial) (.inl rfl) (λb u hb q=>(dj _ _ (Ne.symm hb)).trans q) ⟨_,e⟩ ?_
 exact ⟨hz,its',n',r,e⟩
def ZQ:V->V->V->Hp->(Hp->Prop)->Prop:=λo i v H Q=>∃ p xs k j,o=.ref p/\i=.int k/\H p=some (.lst xs)/\vJ xs.length k=some j/\Q (zV H p (.lst (xs.set j v)))
theorem zMe:j5 X ZQ:=by
 intro pins s σ H o i v ov iv u Q I ro ri rv h
 obtain ⟨p,xs,k,j,rfl,rfl,hp,hj,q⟩:=h
 cases ro
 obtain ⟨t,rfl⟩:=ri
 obtain ⟨its,n,r,ho,hz⟩:=I.lst hp
 obtain ⟨h1,h2,h3,h4⟩:=zLU hj
 have hl:=r.length
 have hn:=Xd
 have I':zE X pins σ (zV H p (.lst (xs.set j v))) { s with heap:=s.heap.update p (Obj.mapSeq (·.setIfInBounds j u)) }:=
  I.lstUpd hp ho (zJ6 its n j u) (r.set rv j) (by rw [dk]; exact hz) s.toks
 by_cases h0:0<=k
 ·have hk:k.toNat=j:=by
   rw [seqIndex_of h0 h4] at h1
   exact Option.some.inj h1
  exact PySem.W.ki_setAt ho h0 (by omega) (by rw [cy,<- hl]; exact h4) (by rw [hk]; exact ⟨_,I',q⟩)
 ·have hk:(k + (its.toArray.size:Int)).toNat=j:=by
   rw [seqIndex_neg (by omega) h3] at h1
   rw [cy,<- hl]
   exact Option.some.inj h1
  exact PySem.W.ki_setBack ho (by omega) (by rw [cy,<- hl]; exact h3) (by omega) (by rw [hk]; exact ⟨_,I',q⟩)
theorem zHa (lo hi:Option Int) (n:Nat):(sliceBounds lo hi none n).1=((HT.sIx n 0 lo:Nat):Int)/\(sliceBounds lo hi none n).2.1=((HT.sIx n n hi:Nat):Int)/\(sliceBounds lo hi none n).2.2=1:=by
 refine ⟨?_,?_,rfl⟩
 ·cases lo with
  | none=>simp [sliceBounds,HT.sIx]
  | some i=>
   simp only [sliceBounds,HT.sIx,lE,show (1:Int) > 0 by decide,if_true]
   by_cases h:i < 0
   ·simp only [h,if_true] <;> omega
   ·simp only [h,if_false] <;> omega
 ·cases hi with
  | none=>simp [sliceBounds,HT.sIx]
  | some i=>
   simp only [sliceBounds,HT.sIx,lE,show (1:Int) > 0 by decide,if_true]
   by_cases h:i < 0
   ·simp only [h,if_true] <;> omega
   ·simp only [h,if_false] <;> omega
theorem zGe (its:List Value) (lo hi:Option Int):slicePick its.toArray lo hi none=((its.drop (HT.sIx its.length 0 lo)).take (HT.sIx its.length its.length hi - HT.sIx its.length 0 lo)).toArray:=by
 obtain ⟨h1,h2,h3⟩:=zHa lo hi its.toArray.size
 unfold slicePick
 rw [h1,h2,h3]
 simp only [sliceRange_one,pick_run,cy] <;> rfl
def UI (K:cg):V->Option Int->Option Int->Hp->VK->Prop:=λx lo hi H Q=>∃ a xs,x=.ref a/\zw K H a xs/\∀ p,H p=none->Q (.ref p) (zV H p (.lst (wr xs lo hi)))
theorem zKZ:qA X (UI X.K):=by
 intro pins s σ H x v vl vu lo hi sl Q I rx hs pl pu h
 obtain ⟨a,xs,rfl,hx,q⟩:=h
 cases rx
 obtain ⟨its,r,ht,hz⟩:=I.list hx
 have hlen:=r.length
 refine ⟨"list",_,slot_list_getitem.lookup,ht.isList.typeIs,?_⟩
 refine wpAny_getItem_list_slice ht.isList hs pl pu .none (by simp) ?_ (by rw [cy] <;> omega)
 rw [zGe,<- hlen]
 refine ⟨.ref s.heap.objs.size,_,I.laid (t':=s.toks) (o:=.lst (wr xs lo hi)) (λb ob q=>ck _ q) (cL _) ?_,rfl,q _ (I.hok.fresh (cL _))⟩
 exact ⟨dz (zF1 xs lo hi) hz,_,0,(r.drop (HT.sIx xs.length 0 lo)).take (HT.sIx xs.length xs.length hi - HT.sIx xs.length 0 lo),cG _ rfl⟩
theorem yu:vG X (.builtin "len") (λxs H Q=>∃ p ys,xs=[.ref p]/\(zw X.K H p ys\/yH X.K H p ys)/\Q (.int ys.length) H):=by
 intro pins s σ H xs us Q I r h
 obtain ⟨p,ys,rfl,hq,q⟩:=h
 obtain ⟨u,rfl,rx⟩:=jS r
 cases rx
 have hn:=Xd
 rcases hq with hq | hq
 ·obtain ⟨its,r',pl,hz⟩:=I.list hq
  have hlen:=r'.length
  exact Calls.call_len_list pl.isList (by simp only [cy] <;> omega) ⟨.int ys.length,H,I.tok _,⟨s.toks + 1,by rw [cy,hlen]⟩,q⟩
 ·obtain ⟨its,r',pl,hz⟩:=I.tuple hq
  have hlen:=r'.length
  exact len_tuple pl (by simp only [cy] <;> omega) ⟨.int ys.length,H,I.tok _,⟨s.toks + 1,by rw [cy,hlen]⟩,q⟩
theorem vK:vG X (.type "list") (λxs H Q=>∃ p ys,xs=[.ref p]/\(zw X.K H p ys\/yH X.K H p ys)/\∀ l,H l=none->Q (.ref l) (zV H l (.lst ys))):=by
 intro pins s σ H xs us Q I r h
 obtain ⟨p,ys,rfl,hq,q⟩:=h
 obtain ⟨u,rfl,rx⟩:=jS r
 cases rx
 have fin:∀ (its:List Value),zJ ys its->ys.length<=sizeLine->∀ (h':Heap) (c':Nat),(∀ b o',s.heap.get? b=some o'->h'.get? b=some o')->
   h'.get? s.heap.objs.size=some { cls:=.type "list",dict:=none,data:=.seq its.toArray c',slots:=#[] }->EP X pins σ Q (.ref s.heap.objs.size) { s with heap:=h' }:=λits r' hz h' c' kp e=>
  ⟨.ref s.heap.objs.size,_,I.laid (t':=s.toks) kp (cL _) (show xU X.prog X.w _ h' _ (.lst ys) from ⟨hz,its,c',r',e⟩),rfl,q _ (I.hok.fresh (cL _))⟩
 rcases hq with hq | hq
 ·obtain ⟨its,r',pl,hz⟩:=I.list hq
  have hlen:=r'.length
  obtain ⟨o,ho,hc,n,hd⟩:=pl.isList
  exact call_list_seq p (.inl rfl) ho hc hd (λh' c' kp e=>fin its r' hz h' c' kp e) (by simp only [cy] <;> omega)
 ·obtain ⟨its,r',pl,hz⟩:=I.tuple hq
  have hlen:=r'.length
  obtain ⟨o,ho,hc,n,hd⟩:=pl
  exact call_list_seq p (.inr rfl) ho hc hd (λh' c' kp e=>fin its r' hz h' c' kp e) (by simp only [cy] <;> omega)
theorem w8:vG X (.type "tuple") (λxs H Q=>∃ p ys,xs=[.ref p]/\((zw X.K H p ys/\∀ l,H l=none->Q (.ref l) (zV H l (.tup ys)))\/(yH X.K H p ys/\Q (.ref p) H))):=by
 intro pins s σ H xs us Q I r h
 obtain ⟨p,ys,rfl,h⟩:=h
 obtain ⟨u,rfl,rx⟩:=jS r
 cases rx
 rcases h with ⟨hq,q⟩ | ⟨hq,q⟩
 ·obtain ⟨its,r',pl,hz⟩:=I.list hq
  have hlen:=r'.length
  refine call_tuple_list pl.isList (λh' kp=>?_) (by simp only [cy] <;> omega)
  have I1:zE X pins σ H { s with heap:=h' }:=I.kept (t':=s.toks) kp
  have I2:zE X pins σ (zV H h'.objs.size (.tup ys)) { s with heap:=h'.push { cls:=.type "tuple",data:=.seq its.toArray } }:=
   I1.laid (t':=s.toks) (λb o e=>ck _ e) (cL _) (show xU X.prog X.w _ _ _ (.tup ys) from ⟨hz,its,r',IsTup.new _ _⟩)
  exact ⟨.ref h'.objs.size,_,I2,rfl,q _ (I1.hok.fresh (cL _))⟩
 ·obtain ⟨its,r',pl,hz⟩:=I.tuple hq
  exact call_tuple_same pl ⟨.ref p,H,I,rfl,q⟩
def UJ (K:cg) (T:String) (x:V) (H:Hp):Prop:=match x with
 | .str _=>T = "str"
 | .int _=>T = "int"
 | .ref p=>(T = "list"/\∃ xs,zw K H p xs)\/(T = "tuple"/\∃ o,K.lookup p=some o/\o.cls=.type "tuple"/\o.dict=none)∨
   (T = "dict"/\((∃ kvs,H p=some (.dK kvs))\/∃ kvs,H p=some (.dT kvs)))\/(T = "set"/\∃ S n,H p=some (.set S n))
 | _=>False
theorem zNn {pins:List (Addr × Obj)} {σ:St} {H:Hp} {s:Shared} {T:String} {x:V} {v:Value} (I:zE X pins σ H s) (r:zR x v) (ty:UJ X.K T x H) :
  s.TypeIs v T/\∀ a,v=.ref a->∃ ob,s.heap.get? a=some ob/\ob.dict=none:=by
 cases x with
 | str z=>
  obtain ⟨t,rfl⟩:=r
  cases (show T = "str" from ty)
  exact ⟨typeIs_str s z t,λ_ e=>nomatch e⟩
 | int i=>
  obtain ⟨t,rfl⟩:=r
  cases (show T = "int" from ty)
  exact ⟨typeIs_int s i t,λ_ e=>nomatch e⟩
 | ref p=>
  cases r
  rcases ty with ⟨rfl,xs,hq⟩ | ⟨rfl,o,hk,hc,hd⟩ | ⟨rfl,hk⟩ | ⟨rfl,S,n,hk⟩
  ·obtain ⟨its,_,pl,_⟩:=I.list hq
   refine ⟨pl.isList.typeIs,λa e=>?_⟩
   cases e
   obtain ⟨o,n,e,c,hd,_⟩:=pl
   exact ⟨o,e,hd⟩
  ·refine ⟨⟨o,I.kIn p o hk,hc⟩,λa e=>?_⟩
   cases e
   exact ⟨o,I.kIn _ o hk,hd⟩
  ·have z:∃ o,s.heap.get? p=some o/\o.ExactDict:=by
    rcases hk with ⟨kvs,hk⟩ | ⟨kvs,hk⟩
    ·obtain ⟨_,_,_,_,o,_,_,e,ex,_⟩:=I.hok p _ hk
     exact ⟨o,e,ex⟩
    ·obtain ⟨_,_,_,_,o,_,_,e,ex,_⟩:=I.hok p _ hk
     exact ⟨o,e,ex⟩
   obtain ⟨o,e,ex⟩:=z
   refine ⟨⟨o,e,ex.1⟩,λa e2=>?_⟩
   cases e2
   exact ⟨o,e,ex.2.1⟩
  ·obtain ⟨o,_,_,_,e,ex,_⟩:=I.hok p _ hk
   refine ⟨⟨o,e,ex.1⟩,λa e2=>?_⟩
   cases e2
   exact ⟨o,e,ex.2.1⟩
 | _=>exact False.elim ty
def ZR (K:cg) (T:String) (r:V->List V->Hp->VK->Prop) (to:TE):TE:=λσ H Q=>to σ H λx H1=>UJ K T x H1/\r x [] H1 Q
def tBM (K:cg) (T:String) (r:V->List V->Hp->VK->Prop) (to:TE) (t:TA):TE:=λσ H Q=>to σ H λx H1=>UJ K T x H1/\t σ H1 λxs H2=>r x xs H2 Q
variable {o e:Expr} {es:List Expr} {to:TE} {t:TA} {name:Str} {apos cpos:Pos} {T id:String} {r:V->List V->Hp->VK->Prop}
theorem UK (pa:PlainAttrs T) (slot:Slot T name id) (hty:typeOf (.builtin id)=pure (.type "method_descriptor")) (hm:UF X id r) (ho:PE X o to)
  (hbase:attributeBase o name X.env (eval o X.env)=eval o X.env:=by rfl) (hline:(apos.endLine == cpos.line)=true:=by rfl):PE X (.Call (.Attribute o name apos) [] [] cpos) (ZR X.K T r to):=by
 intro pins s σ H Q I h
 refine wpAny_Call_method0_late hbase hline (zk (ho pins s σ H _ I h) λv s1 ⟨x,H1,I1,r1,ty,q1⟩=>?_)
 obtain ⟨h1,h2⟩:=zNn I1 r1 ty
 exact ⟨T,id,pa,slot,hty,h1,h2,Calls.callWith_builtin rfl (PySem.evalArgs_none (hm pins s1 σ H1 x [] v [] Q I1 r1 .nil q1))⟩
theorem wg (pa:PlainAttrs T) (slot:Slot T name id) (hty:typeOf (.builtin id)=pure (.type "method_descriptor")) (hm:UF X id r) (ho:PE X o to) (ha:PA X (e :: es) t)
  (hbase:attributeBase o name X.env (eval o X.env)=eval o X.env:=by rfl)
  (hfew:((backTo cpos (starEach (e :: es) X.env)).all (λx=>!x.1) && (backToKw cpos (keywordEach [] X.env)).all (λx=>x.1.isSome)
   && decide ((e :: es).length + ([]:List Keyword).length + (if ([]:List Keyword).isEmpty then 0 else 1) < 30))=true:=by rfl)
  (hline:(apos.endLine == cpos.line)=true:=by rfl) (hs:starEach (e :: es) X.env=(false,eval e X.env) :: starEach es X.env:=by rfl) (hplain:(backTo cpos (starEach es X.env)).any (·.1)=false:=by rfl) :
  PE X (.Call (.Attribute o name apos) (e :: es) [] cpos) (tBM X.K T r to t):=by
 intro pins s σ H Q I h
 refine wpAny_Call_method_late hbase hfew hline rfl (zk (ho pins s σ H _ I h) λv s1 ⟨x,H1,I1,r1,ty,q1⟩=>?_)
 obtain ⟨h1,h2⟩:=zNn I1 r1 ty
 refine ⟨T,id,pa,slot,hty,h1,h2,?_⟩
 have hA:=ha cpos pins s1 σ H1 _ I1 q1
 rw [hs] at hA |-
 refine Calls.callWith_builtin (by show (false || (backTo cpos (starEach es X.env)).any (·.1))=false; rw [hplain] <;> rfl) (Calls.evalArgs_plain ?_)
 exact zk hA λus s2 ⟨vs,H2,I2,r2,q2⟩=>hm pins s2 σ H2 x vs v us Q I2 r1 r2 q2
/- xs.append(e),list.index on a module's tuple .. are UF facts of 06m -/
end
end L2
namespace L2
open PySem PySem.Spec PyProof.Rows
def UL (X:Cx) (id:String) (r:V->List V->Hp->VK->Prop):Prop:=
 ∀ (pins:List (Addr × Obj)) (s:Shared) (σ:St) (H:Hp) (x:V) (xs:List V) (v:Value) (us:List Value) (Q:VK),zE X pins σ H s->zR x v->zJ xs us->r x xs H Q->
  wpAny (model X.prog X.w) X.A (call (.builtin id) (v :: us)) (EP X pins σ Q) X.xe s
theorem zJ.one:∀ {x:V} {us:List Value},zJ [x] us->∃ u,us=[u]/\zR x u
 | _,_,.cons r .nil=>⟨_,rfl,r⟩
theorem zJ.zero:∀ {us:List Value},zJ [] us->us=[]
 | _,.nil=>rfl
theorem zJ.rep {xs:List V} {us:List Value} (h:zJ xs us):∀ k:Nat,zJ (cj k xs).flatten (cj k us).flatten
 | 0=>.nil
 | k + 1=>by
  rw [dm,dm,dY,dY]
  exact zJ.append h (zJ.rep h k)
theorem UM (its:List Value):∀ (k:Nat) (acc:List Value),
  lW (λx1 x2=>x1++x2) acc.toArray (cj k its.toArray)=(acc++(cj k its).flatten).toArray
 | 0,acc=>by simp
 | k + 1,acc=>by
  have e:acc.toArray++its.toArray=(acc++its).toArray:=by simp
  have e2:(acc++its)++(cj k its).flatten=acc++(cj (k + 1) its).flatten:=by
   rw [dm,dY,eC]
  rw [<- e2,<- UM its k (acc++its),<- e,dm,fo]
section
variable {X:Cx} {pins:List (Addr × Obj)} {σ:St} {H:Hp} {s:Shared} {l b:Addr} {xs ys zs:List V}
theorem zE.lset {its its':List Value} {n:Nat} {f:Array Value->Array Value} {t':Nat} (I:zE X pins σ H s) (hH:H l=some (.lst xs))
  (e:s.heap.get? l=some { cls:=.type "list",data:=.seq its.toArray n }) (hf:f its.toArray=its'.toArray) (hv:zJ ys its') (hz:ys.length<=sizeLine) :
  zE X pins σ (zV H l (.lst ys)) { s with heap:=s.heap.update l (Obj.mapSeq f),toks:=t' }:=by
 have q:=PySem.IsL.update e f
 rw [hf] at q
 refine I.write (x:=l) (e:=l) (by rw [hH]; exact trivial) (.inl rfl) (λb' u hb hu=>(dj s.heap (Obj.mapSeq f) (Ne.symm hb)).trans hu) ⟨_,q⟩ ?_
 exact ⟨hz,its',_,hv,q⟩
theorem zE.lnew {its:List Value} {t':Nat} (I:zE X pins σ H s) (hv:zJ ys its) (hz:ys.length<=sizeLine) :
  zE X pins σ (zV H s.heap.objs.size (.lst ys)) { s with heap:=s.heap.push { cls:=.type "list",data:=.seq its.toArray },toks:=t' }:=
 I.laid (λ_ _ q=>ck _ q) (cL _) ⟨hz,its,0,hv,cG _ rfl⟩
theorem zE.fresh (I:zE X pins σ H s):H s.heap.objs.size=none:=I.hok.fresh (cL _)
theorem zE.lstM (I:zE X pins σ H s) (hH:H l=some (.lst xs)):xs.length<=sizeLine/\∃ (its:List Value) (n:Nat),zJ xs its/\xs.length=its.length/\s.heap.get? l=some { cls:=.type "list",data:=.seq its.toArray n }:=by
 obtain ⟨z,its,n,r,e⟩:=I.hok l _ hH
 exact ⟨z,its,n,r,r.length,e⟩
theorem zNL {n:Nat} (h:n<=sizeLine):Builtin.List.listTooLong n=false:=by
 unfold Builtin.List.listTooLong
 exact decide_eq_false (by omega)
end
section
variable {X:Cx}
def zOp:V->List V->Hp->VK->Prop:=λx vs H Q=>∃ l xs y,x=.ref l/\vs=[y]/\H l=some (.lst xs)/\xs.length < sizeLine/\Q .non (zV H l (.lst (xs++[y])))
theorem zLL:UL X "list.append" zOp:=by
 intro pins s σ H x vs v us Q I rx rv h
 obtain ⟨l,xs,y,rfl,rfl,hH,hz,q⟩:=h
 cases rx
 obtain ⟨u,rfl,ru⟩:=rv.one
 obtain ⟨z,its,n,r,hl,e⟩:=I.lstM hH
 refine call_meets F.slot_list_append ⟨_,e,rfl⟩ F.entry_list_append (F.args_list_append_2 _ _) (PySem.list_append l its.toArray n u (by rw [cy]; omega)) ⟨e,?_⟩
 refine ⟨.non,_,I.lset (its':=its++[u]) hH e (by simp) (r.append (.cons ru .nil)) ?_,rfl,q⟩
 rw [b_,eT]
 omega
def zNz:V->List V->Hp->VK->Prop:=λx vs H Q=>∃ l xs,x=.ref l/\vs=[]/\H l=some (.lst xs)/\Q .non (zV H l (.lst []))
theorem UN:UL X "list.clear" zNz:=by
 intro pins s σ H x vs v us Q I rx rv h
 obtain ⟨l,xs,rfl,rfl,hH,q⟩:=h
 cases rx
 have hus:=rv.zero
 subst hus
 obtain ⟨z,its,n,r,hl,e⟩:=I.lstM hH
 refine call_meets F.slot_list_clear ⟨_,e,rfl⟩ F.entry_list_clear (F.args_list_clear_1 _) (AutoSeq1.list_clear_list_0 l its.toArray n (by rw [cy]; omega)) ⟨e,?_⟩
 exact ⟨.non,_,I.lset (its':=[]) (ys:=[]) hH e rfl .nil (eg _),rfl,q⟩
def ZS:R2:=λx y H Q=>∃ l k xs,x=.ref l/\y=.int k/\H l=some (.lst xs)/\-(2 ^ 63)<=k/\k < 2 ^ 63/\xs.length * k.toNat<=sizeLine∧
 ∀ p,H p=none->Q (.ref p) (zV H p (.lst (cj k.toNat xs).flatten))
theorem UO {α:Type} (xs:List α) (k:Nat):(cj k xs).flatten.length=k * xs.length:=by
 induction k with
 | zero=>simp
 | succ k ih=>rw [dm,dY,b_,ih,Nat.succ_mul,Nat.add_comm]
theorem zQe:yt X (binaryOp .Mult) ZS:=by
 intro pins s σ H x y v u Q I rx ry h
 obtain ⟨l,k,xs,rfl,rfl,hH,h1,h2,hz,q⟩:=h
 cases rx
 obtain ⟨t,rfl⟩:=ry
 obtain ⟨z,its,n,r,hl,e⟩:=I.lstM hH
 have hlen:its.toArray.size * k.toNat<=sizeLine:=by rw [cy,<- hl]; exact hz
 have hcap:¬ its.toArray.size * k.toNat > (2 ^ 63 - 1) / 8:=by
  have:(sizeLine:Nat)<=(2 ^ 63 - 1) / 8:=by decide
  omega
 have hfit:¬ (!Builtin.List.listFitsIndex k)=true:=by
  rw [fitsIndex_both h1 h2]
  exact cU
 have hlong:¬ Builtin.List.listTooLong (its.toArray.size * k.toNat)=true:=by
  rw [zNL hlen]
  exact cU
 have hnew:lW (λx1 x2=>x1++x2) #[] (cj (if its.toArray.isEmpty=true then 0 else k.toNat) its.toArray)=(cj k.toNat its).flatten.toArray:=by
  have f0:∀ m:Nat,lW (λx1 x2=>x1++x2) #[] (cj m its.toArray)=(cj m its).flatten.toArray:=λm=>by
   have:=UM its m []
   rw [iB] at this
   exact this
  rw [f0]
  cases its with
  | nil=>simp
  | cons a r'=>rw [if_neg (by simp)]
 refine wpAny_binaryOp_repeat_ref (T:="list") (U:="int") (by decide) ⟨_,e,rfl⟩ (λs'=>typeIs_int s' k t) noFill_list_mul F.fills_int_mul F.slot_int_rmul repeat_list F.slot_int_index.lookup
  (call_meets F.slot_int_rmul (typeIs_int s k t) F.entry_int_rmul (F.args_int_rmul_2 _ _) (int___rmul___int_list k t l its.toArray n)
   ⟨e,rfl,⟨_,e,rfl⟩,call_meets F.slot_list_mul ⟨_,e,rfl⟩ F.entry_list_mul (F.args_list_mul_2 _ _) (AutoListH.list___mul___list_int_3 l its.toArray n k t hfit hcap hlong) ⟨e,?_⟩⟩)
 rw [hnew]
 exact ⟨.ref _,_,I.lnew (t':=s.toks) (r.rep k.toNat) (by rw [UO,Nat.mul_comm]; exact hz),rfl,q _ I.fresh⟩
end
end L2
namespace Att
open PySem PySem.W PySem.Calls PyProof.Rows
theorem zFs {P:Params} {h:Heap}:∀ (ns:List Int) (vs:List Value),WellAll P h vs (ns.map WData.int)->IntsAre vs ns:=by
 intro ns
 induction ns with
 | nil=>
  intro vs w
  rw [iC] at w
  cases w
  exact .nil
 | cons n ns ih=>
  intro vs w
  rw [cT] at w
  cases w with
  | cons a b=>
   cases a
   exact .cons _ _ (ih _ b)
theorem zKd {l:OpenLaw} {n:Nat} (hn:l.most=some n) {P:Params} {h:Heap} {args:List WData} {vals:List Value}
  (hpre:l.row.toRowW.claim.pre args=true) (hwl:WellAll P h vals args) :
  ∃ a vs ns,vals=[Value.ref a]/\args=[WData.list (ns.map WData.int)]/\h.get? a=some { cls:=.type "list",data:=.seq vs.toArray }/\IntsAre vs ns/\ns.length<=n:=by
 have hsh:WShape.hasAll [] args [.list .int]=true:=(pre_splitW hpre).1
 have hc:l.pre.holds [] { args:=args }=true:=(pre_splitW hpre).2
 obtain ⟨d,r,rfl,h1,h2⟩:=hasAllW_cons hsh
 obtain rfl:=hasAllW_nil h2
 obtain ⟨xs,rfl,h3⟩:=hasW_list h1
 obtain ⟨ns,rfl⟩:=items_int h3
 have hlen:ns.length<=n:=by
  unfold OpenLaw.pre at hc
  have h4:(WTm.not (.lt (.lit (.int (n:Int))) (.len (.arg 0)))).holds [] { args:=[.list (ns.map .int)] }=true:=by
   have h4:=(holds_andW hc).1
   rw [hn] at h4
   exact h4
  have h5:=condW_of h4 (w_not (w_lt w_lit (w_len_list (w_arg rfl))))
  rw [a_] at h5
  refine Nat.le_of_not_lt λq=>?_
  have q':(n:Int) < ((ns.length:Nat):Int):=by omega
  first
   | (rw [decide_eq_true q'] at h5; exact absurd h5 (by decide))
   | (simp at h5; omega)
 cases hwl with
 | cons w1 w2=>
  cases w2
  cases w1 with
  | list ho hall=>exact ⟨_,_,ns,rfl,rfl,ho,zFs ns _ hall,hlen⟩
theorem zKs (l:OpenLaw) (args:List WData):l.row.toRowW.claim.post args (.bool true) args=true:=
 postW_of (r:=l.row.toRowW) (X:=(true == true))
  (show WShape.has [] (.bool true) .bool=true by first | rfl | decide | simp [WShape.has,WShape.arms,WShape.armsAll])
  (show (WTm.eq .res (.lit (.bool true))).value [] { args:=args,res:=some (.bool true),after:=args }=some (.bool (true == true)) from w_eq_bool (w_res rfl) w_lit) rfl
theorem attach_call {l:OpenLaw} {n:Nat} {q:Program} {loose:List Str} {XP:(Str->Option Value)->Heap->Prop} {YP:World->Heap->Prop} {d:DefRec}
  (hn:l.most=some n) (hdf:d.params.defaults=[])
  (call:∀ (w:World) (s₀ s₁:Shared) (mg mb:Str->Option Value) (fa:Addr) (o:Obj) (pm cd doc:Value) (a:Addr) (vs:List Value) (ns:List Int),
   Ground q loose [] XP w s₀ mg mb s₁.heap->YP w s₁.heap->
   s₁.heap.get? fa=some o->o.data=.func (docDef d.name d.params d.body d.scope pm cd doc)->s₁.heap.CodeRec cd d.name->mg d.name=some (.ref fa)->
   s₁.heap.get? a=some { cls:=.type "list",data:=.seq vs.toArray }->IntsAre vs ns->ns.length<=n->s₁.gens=#[]->
   codeAny (model l.prog w) callerA (.call (.ref fa) ⟨[.ref a],[]⟩) (λr s'=>r=.ok (.ret (.bool true))/\OldK s₁.heap s'.heap/\s'.os=s₁.os/\AllBare s'.gens) s₁) :
  WalkO q loose XP YP l.row.toRowW d [] (λf vs=>PySem.call f vs):=by
 intro w s₀ s₁ mg mb G Y fa o pm cd doc dV kV ho hd hcd hD hmg hg args vals as hpre hlay hrd hwl hlo
 obtain rfl:dV=.none:=Dflts.none hD hdf
 obtain rfl:kV=.none:=Dflts.noKw hD
 obtain ⟨a,vs,ns,rfl,rfl,hobj,hints,hlen⟩:=zKd hn hpre hwl
 refine enter_call (codeAny_mono (call w s₀ s₁ mg mb fa o pm cd doc a vs ns G Y ho (fd_plain hd) hcd hmg hobj hints hlen hg) λr s' hq=>?_)
 obtain ⟨rfl,h2,h3,h4⟩:=hq
 exact ⟨.inl ⟨.bool true,.bool true,[],rfl,λ_=>rfl,.bool true,zKs l _,λ_=>⟨List.Pairwise.nil,λ_ hm=>(nomatch hm)⟩⟩,h2,h3,h4⟩
end Att
namespace L2
open PySem PySem.Spec PyProof.Rows
theorem zHW:∀ {vs:List Value} {ns:List Int},IntsAre vs ns->zJ (ns.map V.int) vs
 | _,_,.nil=>.nil
 | _,_,.cons n t h=>.cons ⟨t,rfl⟩ (zHW h)
def qB (H:Hp):Prop:=∀ b,H b=none\/∃ o xs,H b=some (.frz o (.lst xs))
theorem law_call {P:Program} {w:World} {K:cg} {mg mb:Str->Option Value} {CX:vZ} {k:Nat} {fa a:Addr} {fd:FuncData} {x:Str} {sp:Sp} {s₁:Shared} {vs:List Value} {ns:List Int}
  (KX:K.In s₁.heap) (hns:s₁.heap.Ns mainGlobals mg) (hb:s₁.heap.Ns builtinsNs mb) (hbb:∀ x:Str,x≠"__name__"->mb x=bootBuiltins x) (hlim:s₁.heap.NoLimit) (hg:s₁.gens=#[])
  (ha:s₁.heap.get? a=some { cls:=.type "list",data:=.seq vs.toArray }) (hi:IntsAre vs ns) (hl:ns.length<=sizeLine) (hr:zZ k callerA)
  (F:∀ base:Heap,K.In base->base.Ns mainGlobals mg->zF P w K mg base CX k fa fd [x] sp) (hbind:∀ (s:Shared) (u:Value),BindsTo s fd ⟨[u],[]⟩ [(x,u)])
  (hsp:∀ H:Hp,qB H->zw K H a (ns.map V.int)->sp [.ref a] H (λv _=>v=.bl true) λ_ _ _=>False)
  (hCX:∀ H e s',CX [] H s₁ (λ_ _ _=>False) e s'->False) :
  codeAny (model P w) callerA (.call (.ref fa) ⟨[.ref a],[]⟩) (λr s'=>r=.ok (.ret (.bool true))/\OldK s₁.heap s'.heap/\s'.os=s₁.os/\AllBare s'.gens) s₁:=by
 have rv:=zHW hi
 have lenV:=hi.length
 have core:∀ H:Hp,qB H->zw K H a (ns.map V.int)->yn P w H s₁.heap->(∀ b,H b≠none->b=a)->(H a≠none->K.lookup a=none)->
   codeAny (model P w) callerA (.call (.ref fa) ⟨[.ref a],[]⟩) (λr s'=>r=.ok (.ret (.bool true))/\OldK s₁.heap s'.heap/\s'.os=s₁.os/\AllBare s'.gens) s₁:=by
  intro H hO hS hok hA hK
  have base_of:∀ {b:Addr} {o:Obj},s₁.heap.get? b=some o->H b=none->(wR s₁.heap H).get? b=some o:=λe n=>zNT e n
  have noA:∀ {b:Addr} {o:Obj} {es:Array DictEntry} {ep:Nat},s₁.heap.get? b=some o->o.data=.dict es ep->H b=none:=λ{b o es ep} e d=>by
   cases q:H b with
   | none=>rfl
   | some u=>
    have e':b=a:=hA b (by rw [q]; simp)
    subst e'
    rw [ha] at e; cases e
    have d':Data.seq vs.toArray _=Data.dict es ep:=d
    cases d'
  have nsK:∀ {b:Addr} {m:Str->Option Value},s₁.heap.Ns b m->(wR s₁.heap H).Ns b m:=λ{b m} ⟨o,es,ep,e,d,r⟩=>⟨o,es,ep,base_of e (noA e d),d,r⟩
  have hKb:K.In (wR s₁.heap H):=λb o e=>base_of (KX b o e) (by
   cases q:H b with
   | none=>rfl
   | some u=>
    have e':b=a:=hA b (by rw [q]; simp)
    subst e'
    rw [hK (by rw [q]; simp)] at e; cases e)
  have hM:Mod K mg (wR s₁.heap H):=⟨hKb,nsK hns,⟨mb,nsK hb,hbb⟩,let ⟨mc,h1,h2⟩:=hlim; ⟨mc,nsK h1,h2⟩⟩
  have e0:vI P w K mg (wR s₁.heap H) callerA [] s₁ H:=⟨rfl,hM,λb o e=>zPN e,Nat.le_of_eq (zLW _ _),trivial,λb hb=>absurd (show b∈([]:List Addr) from hb) (by simp),hok,.of_eq hg⟩
  refine codeAny_mono ((F _ hKb (nsK hns)).run callerA [] s₁ H ⟨[.ref a],[]⟩ [.ref a] [.ref a] _ _ hr e0 (hbind s₁ (.ref a)) (.cons rfl .nil) (hsp H hO hS)) λr s' h=>?_
  cases r with
  | error e=>exact (hCX H e s' h).elim
  | ok fl=>
   cases fl with
   | next=>exact False.elim h
   | brk=>exact False.elim h
   | cont=>exact False.elim h
   | ret u=>
    obtain ⟨v,H',os,bare,un,hok',r',q⟩:=h
    have q':v=.bl true:=q
    subst q'
    obtain rfl:u=Value.bool true:=r'
    refine ⟨rfl,OldK.of_keep λb o e=>?_,os,bare⟩
    cases q:H b with
    | none=>exact un.keep b o e q (by intro z; exact absurd (show b∈([]:List Addr) from z) (by simp)) (by simp)
    | some u=>
     rcases hO b with z | ⟨ob,xs,z⟩
     ·rw [q] at z; cases z
     ·have z2:=un.frzs b ob _ z
      obtain ⟨e1,_⟩:=hok b _ z
      obtain ⟨e2,_⟩:=hok' b _ z2
      rw [e] at e1; cases e1
      exact e2
 cases hk:K.lookup a with
 | some o=>
  have e:=KX a o hk
  rw [ha] at e
  cases e
  refine core (λ_=>none) (λ_=>.inl rfl) (.inr ⟨_,vs.toArray,_,hk,rfl,rfl,rfl,by rw [cy,lenV]; exact hl,by simpa using rv⟩) (λb u z=>by have z':(none:Option HO)=some u:=z; cases z') (λb z=>absurd rfl z) λz=>absurd rfl z
 | none=>
  refine core (λb=>if b=a then some (.frz { cls:=.type "list",data:=.seq vs.toArray } (.lst (ns.map V.int))) else none) (λb=>?_) (.inl (.inr ⟨{ cls:=.type "list",data:=.seq vs.toArray },if_pos rfl⟩)) (λb u z=>?_) (λb z=>?_) λ_=>hk
  ·by_cases hb:b=a
   ·exact .inr ⟨_,_,if_pos hb⟩
   ·exact .inl (if_neg hb)
  ·by_cases hb:b=a
   ·have z':=(if_pos hb).symm.trans z
    cases z'
    subst hb
    exact ⟨ha,by rw [a_]; exact hl,vs,_,rv,ha⟩
   ·have z':=(if_neg hb).symm.trans z
    cases z'
  ·by_cases hb:b=a
   ·exact hb
   ·exact absurd (if_neg hb) z
end L2
namespace L2
open PySem PySem.Spec PyProof.Rows
theorem zOd {l:lO} {n k:Nat} {q:Program} {loose:List Str} {XP:(Str->Option Value)->Heap->Prop} {YP:World->Heap->Prop} {d:DefRec} {K:Params->cg} {CX:World->vZ} {sp:World->Sp} {x:Str}
  (hn:l.most=some n) (hn2:n<=sizeLine) (hdf:d.params.defaults=[]) (hr:zZ k callerA)
  (hY:∀ (w:World) (h:Heap),YP w h->(K w.params).In h)
  (F:∀ (w:World) (mg:Str->Option Value) (fa:Addr) (h:Heap),(K w.params).In h->h.Ns mainGlobals mg->mg d.name=some (.ref fa)->
   ∃ fd:FuncData,(∀ (s:Shared) (u:Value),BindsTo s fd ⟨[u],[]⟩ [(x,u)])∧
    ∀ base:Heap,(K w.params).In base->base.Ns mainGlobals mg->zF l.prog w (K w.params) mg base (CX w) k fa fd [x] (sp w))
  (hsp:∀ (w:World) (H:Hp) (a:Addr) (ns:List Int),ns.length<=n->qB H->zw (K w.params) H a (ns.map V.int)->sp w [.ref a] H (λv _=>v=.bl true) λ_ _ _=>False)
  (hCX:∀ (w:World) (H:Hp) (s:Shared) (e:Value) (s':Shared),CX w [] H s (λ_ _ _=>False) e s'->False) :
  lZ q loose XP YP l.row.toRowW d [] (λf vs=>PySem.call f vs):=by
 refine Att.attach_call hn hdf λw s₀ s₁ mg mb fa o pm cd doc a vs ns G Y ho hd hcd hmg hobj hints hlen hg=>?_
 have KX:=hY w _ Y
 obtain ⟨fd,hb,hF⟩:=F w mg fa _ KX G.T.g hmg
 exact law_call KX G.T.g G.T.b G.T.builtins G.T.nolimit hg hobj hints (dz hlen hn2) hr hF hb (λH hO hS=>hsp w H a ns hlen hO hS) λH e s'=>hCX w H s₁ e s'
end L2
namespace L2
open PySem PySem.Spec PyProof.Rows
def qC (s:Stmt) (j:Nat):Stmt:=match s with
 | .ClassDef _ _ _ body _ _ _ _ _ _ _=>body.getD j (.Pass ⟨0,0,0,0⟩)
 | _=>.Pass ⟨0,0,0,0⟩
def vA (s:Stmt):Arguments:=match s with
 | .FunctionDef _ a _ _ _ _ _ _ _ _=>a
 | _=>{ posonlyargs:=[],args:=[],vararg:=none,kwonlyargs:=[],kw_defaults:=[],kwarg:=none,defaults:=[] }
def xo (s:Stmt):List Stmt:=match s with
 | .FunctionDef _ _ b _ _ _ _ _ _ _=>b
 | _=>[]
def zP (s:Stmt):Scope:=match s with
 | .FunctionDef _ _ _ _ _ _ sc _ _ _=>sc
 | _=>{ kind:=.function,names:=[],isGenerator:=false,isCoroutine:=false }
abbrev zT:vZ:=λ_ _ _ _ _ _=>False
abbrev E0:XK:=λ_ _ _=>False
theorem Xi {X:Cx}:j9 zT X E0:=λ_ _ _ _ _ _ _ h=>h.elim
structure ze (K:cg) (x qual:Str) (st:Stmt) (f:Addr) (fd:FuncData):Prop where
 ex:∃ (oc:Value) (od:Option Addr) (kV doc pm:Value) (an:Option Addr) (cdv ct:Value) (osl:Array (Option Value)),
  fd=dX x qual (vA st) (xo st) (zP st) .none kV doc pm an cdv ct/\K.lookup f=some ⟨oc,od,.func fd,osl⟩/\fM K cdv qual=true
 kp:dN K (.ref f)=true
section
variable {P:Program} {w:World} {K:cg} {mg:Str->Option Value} {base:Heap}
theorem ze.ok {x qual:Str} {st:Stmt} {f:Addr} {fd:FuncData} {N ps:List Str} {k:Nat} {sp:Sp} (F:ze K x qual st f fd) (S:zb N ps (zP st)) (len:∀ vs H Q E,sp vs H Q E->vs.length=ps.length)
  (hbody:∀ (cdv:Value) (A:Around) (outer:List Env) (s:Shared) (H:Hp) (vs:List V) (Q:VK) (E:XK),zZ k (A.deeper (envOfC qual (zP st) s.heap.objs.size f cdv))->sp vs H Q E->
   ∃ t,yT (zW zT P w K mg base N qual (zP st) f cdv A outer s H E).nox (xo st) t/\t { nx:=λ_ H'=>Q .non H',rt:=Q } (xw N vs) H):zF P w K mg base zT (k + 1) f fd ps sp:=by
 obtain ⟨oc,od,kV,doc,pm,an,cdv,ct,osl,rfl,lk,hcd⟩:=F.ex
 refine UD lk hcd S len λA outer s H vs Q E hr hsp=>?_
 obtain ⟨t,h,q⟩:=hbody cdv A outer s H vs Q E hr hsp
 exact ⟨t,h.nox,q⟩
theorem ze.binds {x qual:Str} {st:Stmt} {f:Addr} {fd:FuncData} {ps:List Str} (F:ze K x qual st f fd)
  (h:∀ (kV doc pm:Value) (an:Option Addr) (cdv ct:Value) (us:List Value),us.length=ps.length->bindArgs (dX x qual (vA st) (xo st) (zP st) .none kV doc pm an cdv ct) ⟨us,[]⟩=pure (ps.zip us)):w6 K fd ps []:=by
 obtain ⟨oc,od,kV,doc,pm,an,cdv,ct,osl,rfl,lk,hcd⟩:=F.ex
 exact .all (h kV doc pm an cdv ct)
theorem zOJ {x qual:Str} {st:Stmt} {f:Addr} {oc:Value} {od an:Option Addr} {osl:Array (Option Value)} {kV doc pm cdv ct:Value} (l:K.lookup f=some ⟨oc,od,.func (dX x qual (vA st) (xo st) (zP st) .none kV doc pm an cdv ct),osl⟩)
  (c:fM K cdv qual=true) (k:dN K (.ref f)=true):ze K x qual st f (dX x qual (vA st) (xo st) (zP st) .none kV doc pm an cdv ct):=⟨⟨oc,od,kV,doc,pm,an,cdv,ct,osl,rfl,l,c⟩,k⟩
end
theorem UP {n:Nat} (h:n<=1000):n < sizeLine:=iY h (by decide)
def zL (H H':Hp):Prop:=∀ b o,H b=some o->H' b=some o
theorem zL.refl (H:Hp):zL H H:=λ_ _ h=>h
theorem zL.trans {H H1 H2:Hp} (a:zL H H1) (b:zL H1 H2):zL H H2:=λc o h=>b c o (a c o h)
end L2
set_option maxHeartbeats 4000000
namespace Sh
def va (ns:List Int):Int:=ns.foldl (λc n=>(l7 c n:Int)) 0
theorem zIp (ns:List Int) (n:Int):va (ns++[n])=(l7 (va ns) n:Int):=by
 unfold va
 rw [List.foldl_append]
 rfl
theorem zHK (ns:List Int):0<=va ns:=by
 rcases List.eq_nil_or_concat ns with rfl | ⟨l,a,rfl⟩
 ·exact eG 0
 ·rw [List.concat_eq_append,zIp]
  exact Int.natCast_nonneg _
def cm (t b:Int):Int:=if b < 0 then -(l7 t b:Int) else (l7 t b:Int)
def UQ (t b:Int):Int:=t.fdiv (cm t b)
def UR (t b:Int):Int:=b.fdiv (cm t b)
end Sh
namespace Sh
def zRb (st:Int × Int) (p:Int × Int × Int):Int × Int:=(st.1 * p.2.2 + p.1 * p.2.1 * st.2,st.2 * p.2.2)
def jT (ws:List Int) (pts:List (Int × Int)):Int × Int:=(ws.zip pts).foldl zRb (0,1)
end Sh
namespace Sh
def ZT (ws:List Int):List Int:=ws.map (·.fdiv (va ws))
section
variable {β γ:Type}
def look (m:List (List Int × β)) (k:List Int):Option β:=(m.find? λkv=>decide (kv.1=k)).map (·.2)
def put (m:List (List Int × β)) (k:List Int) (v:β):List (List Int × β):=
 if (m.any λkv=>decide (kv.1=k))=true then m.map (λkv=>if kv.1=k then (kv.1,v) else kv) else m++[(k,v)]
theorem zJQ (m:List (List Int × β)) (k:List Int):(m.any λkv=>decide (kv.1=k))=(look m k).isSome:=by
 induction m with
 | nil=>rfl
 | cons p r ih=>
  unfold look at ih |-
  rw [List.any_cons,List.find?_cons,ih]
  by_cases e:p.1=k
  ·rw [decide_eq_true e]; rfl
  ·rw [decide_eq_false e]; rfl
theorem Xj {m:List (List Int × β)} {k:List Int} (h:look m k=none):∀ p∈m,p.1≠k:=by
 intro p hp e
 have a:(m.any λkv=>decide (kv.1=k))=true:=List.any_eq_true.mpr ⟨p,hp,decide_eq_true e⟩
 rw [zJQ,h] at a
 cases a
theorem zLN {m:List (List Int × β)} {k:List Int} {v:β} {p:List Int × β} (h:p∈put m k v):p=(k,v)\/p∈m:=by
 unfold put at h
 split at h
 ·obtain ⟨q,hq,e⟩:=cw.mp h
  by_cases c:q.1=k
  ·rw [if_pos c] at e
   exact .inl (by rw [<- e,c])
  ·rw [if_neg c] at e
   exact .inr (e ▸ hq)
 ·rcases cN.mp h with h | h
  ·exact .inr h
  ·exact .inl (cn.mp h)
theorem zNQ (m:List (List Int × β)) (k:List Int) (v:β):(put m k v).map (·.1)=if (look m k).isSome=true then m.map (·.1) else m.map (·.1)++[k]:=by
 unfold put
 rw [zJQ]
 split
 ·rw [cA]
  refine cX λp _=>?_
  show (if p.1=k then (p.1,v) else p).1=p.1
  split <;> rfl
 ·rw [cq]
  rfl
theorem zLJ {m:List (List Int × β)} (k:List Int) (v:β) (h:(m.map (·.1)).Nodup):((put m k v).map (·.1)).Nodup:=by
 rw [zNQ]
 split
 ·exact h
 ·rename_i c
  have n:look m k=none:=by
   cases e:look m k with
   | none=>rfl
   | some u=>rw [e] at c; exact absurd rfl c
  refine List.nodup_append.mpr ⟨h,by simp,λa ha b hb e=>?_⟩
  obtain ⟨p,hp,e1⟩:=cw.mp ha
  rw [cn.mp hb] at e
  exact Xj n p hp (e1.trans e)
end
abbrev ZU:=List (List Int × (List Int × Int)) × Option (List Int)
def zRR (st:ZU) (r:List Int × Int):ZU:=
 if va r.1≠0 then
  match look st.1 (ZT r.1) with
  | none=>(put st.1 (ZT r.1) r,st.2)
  | some o=>if r.2 * va o.1 < o.2 * va r.1 then (put st.1 (ZT r.1) r,st.2) else st
 else if r.2 < 0 then (st.1,some r.1) else st
structure gc (st:ZU):Prop where
 g0:∀ p∈st.1,0 < va p.2.1
 way:∀ p∈st.1,p.1=ZT p.2.1
 nd:(st.1.map (·.1)).Nodup
 z:∀ ws,st.2=some ws->va ws=0
theorem US {ws:List Int} (h:va ws≠0):0 < va ws:=by
 have:=zHK ws
 omega
theorem gc.put {st:ZU} (h:gc st) {r:List Int × Int} (g:va r.1≠0):gc (Sh.put st.1 (ZT r.1) r,st.2):=by
 refine ⟨λp hp=>?_,λp hp=>?_,zLJ _ _ h.nd,h.z⟩
 ·rcases zLN hp with e | hp
  ·rw [e]; exact US g
  ·exact h.g0 p hp
 ·rcases zLN hp with e | hp
  ·rw [e]
  ·exact h.way p hp
theorem gc.step {st:ZU} (h:gc st) (r:List Int × Int):gc (zRR st r):=by
 unfold zRR
 split
 ·rename_i g
  split
  ·exact h.put g
  ·split
   ·exact h.put g
   ·exact h
 ·rename_i g
  have g0:va r.1=0:=Decidable.of_not_not g
  split
  ·refine ⟨h.g0,h.way,h.nd,λws e=>?_⟩
   cases e
   exact g0
  ·exact h
section
variable (num:List Int->Int) (den:Int)
def hl (r:List Int × Int):Bool:=decide (num r.1<=r.2 * den)
variable (hden:0 < den) (lin:∀ (ws:List Int) (c:Int),num (ws.map (· * c))=num ws * c)
include hden lin
end
end Sh
namespace L2
open PySem
def uO (env:Env) (cs:List (Str × Addr)) (p:Str × NameKind):List (Str × Addr):=if (p.2 == .free)=true then (p.1,(env.cells.lookup p.1).getD 0) :: cs else cs
def vL (scope:Scope) (env:Env):List (Str × Addr):=scope.names.foldl (uO env) []
theorem zKF {env:Env}:∀ (names:List (Str × NameKind)) (cs:List (Str × Addr)),(∀ p∈names,p.2=.free->(env.cells.lookup p.1).isSome=true)->
  (forIn names cs (λ(p:Str × NameKind) (r:List (Str × Addr))=>(if (p.2 == .free)=true then do let a <- cellOf env p.1; pure (ForInStep.yield ((p.1,a) :: r)) else pure (ForInStep.yield r):Sem (ForInStep (List (Str × Addr))))))=pure (names.foldl (uO env) cs):=by
 intro names
 induction names with
 | nil=>intro cs _; rfl
 | cons p r ih=>
  intro cs h
  obtain ⟨n,k⟩:=p
  rw [iE]
  by_cases hk:k=.free
  ·subst hk
   obtain ⟨c,hc⟩:=dR.mp (h (n,.free) cv rfl)
   have e:cellOf env n=pure c:=by unfold cellOf; dsimp only at hc; rw [hc]
   have z:uO env cs (n,.free)=(n,c) :: cs:=by unfold uO; dsimp only at hc |-; rw [hc]; rfl
   simp only [e,beq_self_eq_true,if_true,pure_bind,fo,z]
   exact ih _ λq hq=>h q (cr _ hq)
  ·have b:(k == NameKind.free)=false:=by simpa using hk
   have z:uO env cs (n,k)=cs:=by unfold uO; dsimp only; rw [b]; rfl
   simp only [b,dJ,if_false,pure_bind,fo,z]
   exact ih _ λq hq=>h q (cr _ hq)
theorem zGU {scope:Scope} {env:Env} (h:∀ p∈scope.names,p.2=.free->(env.cells.lookup p.1).isSome=true):closureFor scope env=pure (vL scope env):=by
 unfold closureFor vL
 have:=zKF scope.names [] h
 exact (congrArg (λm=>m >>= λr=>pure r) this).trans rfl
theorem zL5 {env:Env}:∀ (names:List (Str × NameKind)) (cs:List (Str × Addr)) (x:Str) (c:Addr),(x,c)∈names.foldl (uO env) cs->(x,c)∈cs\/((x,NameKind.free)∈names/\c=(env.cells.lookup x).getD 0):=by
 intro names
 induction names with
 | nil=>intro cs x c h; exact .inl h
 | cons p r ih=>
  intro cs x c h
  obtain ⟨n,k⟩:=p
  rw [fo] at h
  rcases ih _ x c h with h1 | ⟨h1,h2⟩
  ·unfold uO at h1
   dsimp only at h1
   by_cases hk:k=.free
   ·subst hk
    simp only [beq_self_eq_true,if_true] at h1
    rcases cz.mp h1 with e | h1
    ·injection e with e1 e2
     subst e1; subst e2
     exact .inr ⟨cv,rfl⟩
    ·exact .inl h1
   ·have b:(k == NameKind.free)=false:=by simpa using hk
    simp only [b,dJ,if_false] at h1
    exact .inl h1
  ·exact .inr ⟨cr _ h1,h2⟩
theorem gd {α β:Type} [BEq α] [LawfulBEq α]:∀ {l:List (α × β)} {a:α} {b:β},l.lookup a=some b->(a,b)∈l
 | [],_,_,h=>by simp at h
 | (x,y) :: r,a,b,h=>by
  rw [du] at h
  by_cases e:a=x
  ·subst e
   simp only [beq_self_eq_true,if_true] at h
   cases h
   exact cv
  ·have:(a == x)=false:=by simpa using e
   simp only [this] at h
   exact cr _ (gd h)
theorem zFl {α β:Type} [BEq α] [LawfulBEq α]:∀ {l:List (α × β)} {a:α} {b:β},(a,b)∈l->∃ c,l.lookup a=some c
 | [],_,_,h=>by cases h
 | (x,y) :: r,a,b,h=>by
  rw [du]
  by_cases e:a=x
  ·subst e
   exact ⟨y,by simp⟩
  ·have z:(a == x)=false:=by simpa using e
   rcases cz.mp h with q | q
   ·injection q with q1 _; exact absurd q1 e
   ·obtain ⟨c,hc⟩:=zFl q
    exact ⟨c,by simp only [z]; exact hc⟩
theorem zL6 {env:Env}:∀ (names:List (Str × NameKind)) (cs:List (Str × Addr)) (x:Str),((x,NameKind.free)∈names\/∃ c,(x,c)∈cs)->∃ c,(x,c)∈names.foldl (uO env) cs:=by
 intro names
 induction names with
 | nil=>
  intro cs x h
  rcases h with h | h
  ·cases h
  ·exact h
 | cons p r ih=>
  intro cs x h
  rw [fo]
  refine ih _ x ?_
  rcases h with h | ⟨c,h⟩
  ·rcases cz.mp h with e | h
   ·subst e
    exact .inr ⟨_,by unfold uO; simp only [beq_self_eq_true,if_true]; exact cv⟩
   ·exact .inl h
  ·refine .inr ⟨c,?_⟩
   unfold uO
   split
   ·exact cr _ h
   ·exact h
theorem qD {scope:Scope} {env:Env} (h:∀ p∈scope.names,p.2=.free->(env.cells.lookup p.1).isSome=true) {x:Str} {c:Addr} (e:(vL scope env).lookup x=some c) :
  env.cells.lookup x=some c/\(x,NameKind.free)∈scope.names:=by
 rcases zL5 scope.names [] x c (gd e) with z | ⟨z,q⟩
 ·cases z
 ·obtain ⟨d,hd⟩:=dR.mp (h _ z rfl)
  dsimp only at hd
  rw [hd] at q
  exact ⟨by rw [hd,q]; rfl,z⟩
theorem UT {scope:Scope} {env:Env} {x:Str} (h:(x,NameKind.free)∈scope.names):∃ c,(vL scope env).lookup x=some c:=by
 obtain ⟨c,hc⟩:=zL6 (env:=env) scope.names [] x (.inl h)
 exact zFl hc
theorem zE2 {scope:Scope} {env:Env} {x:Str} {k:NameKind} (h:(relabel scope env).names.lookup x=some k):(k=.cell/\((x,NameKind.free)∈scope.names\/(x,NameKind.cell)∈scope.names))\/(x,k)∈scope.names:=by
 have m:=gd h
 unfold relabel at m
 obtain ⟨⟨n,j⟩,hm,e⟩:=cw.mp m
 dsimp only at e
 split at e
 ·rename_i q
  injection e with e1 e2
  subst e1; subst e2
  have q1:j=NameKind.free:=by
   have:=(eX.mp (eX.mp q).1).1
   exact eq_of_beq this
  subst q1
  exact .inl ⟨rfl,.inl hm⟩
 ·injection e with e1 e2
  subst e1; subst e2
  exact .inr hm
end L2
namespace L2
open PySem PySem.Spec PyProof.Rows
def Bd (n:Nat) (i:Int):Prop:=i.natAbs < 2 ^ n
theorem Bd.mono {n m:Nat} {i:Int} (h:Bd n i) (k:n<=m:=by decide):Bd m i:=cF h (Nat.pow_le_pow_right (by decide) k)
theorem Bd.of_le {n:Nat} {i j:Int} (h:Bd n j) (k:i.natAbs<=j.natAbs):Bd n i:=iY k h
theorem Bd.mul {n m:Nat} {i j:Int} (h:Bd n i) (k:Bd m j):Bd (n + m) (i * j):=by
 unfold Bd
 rw [Int.natAbs_mul,Nat.pow_add]
 rcases Nat.eq_zero_or_pos j.natAbs with z | z
 ·rw [z,Nat.mul_zero]
  exact Nat.mul_pos (f_ _) (f_ _)
 ·exact cF (Nat.mul_lt_mul_of_pos_right h z) (Nat.mul_le_mul_left _ (hV k))
theorem Bd.add {n:Nat} {i j:Int} (h:Bd n i) (k:Bd n j):Bd (n + 1) (i + j):=by
 have h':i.natAbs < 2 ^ n:=h
 have k':j.natAbs < 2 ^ n:=k
 unfold Bd
 rw [Nat.pow_succ]
 have:=Int.natAbs_add_le i j
 omega
theorem Bd.neg {n:Nat} {i:Int} (h:Bd n i):Bd n (-i):=by
 unfold Bd
 rw [Int.natAbs_neg]
 exact h
theorem Bd.sub {n:Nat} {i j:Int} (h:Bd n i) (k:Bd n j):Bd (n + 1) (i - j):=by
 rw [Int.sub_eq_add_neg]
 exact h.add k.neg
theorem Bd.lit {n:Nat} {i:Int} (h:i.natAbs < 2 ^ n:=by decide):Bd n i:=h
theorem Bd.bits {n:Nat} {i:Int} (h:Bd n i):Builtin.Int.intBits i<=n:=by
 have h':i.natAbs < 2 ^ n:=h
 unfold Builtin.Int.intBits
 split
 ·exact eg _
 ·rename_i z
  have nz:i.natAbs≠0:=by
   intro q
   apply z
   rw [iZ.mp q]
   rfl
  exact (Nat.log2_lt nz).mpr h'
theorem Bd.fdiv {n:Nat} {i:Int} (h:Bd n i) (j:Int):Bd n (i.fdiv j):=
 h.of_le (Int.natAbs_fdiv_le_natAbs i j)
def Xk (i j:Int):Prop:=Bd 60000 i/\Bd 60000 j
def zRg (_ j:Int):Prop:=j≠0/\Bd 8000 j
section
variable {X:Cx}
theorem Xk.ok {i j:Int} (h:Xk i j):IntMulOk i j:=by
 have h1:=h.1.bits
 have h2:=h.2.bits
 have hc:Builtin.Int.intTooBig (Builtin.Int.intBits i + Builtin.Int.intBits j)=false:=by
  unfold Builtin.Int.intTooBig
  rw [bitsLine_eq]
  exact decide_eq_false (by omega)
 unfold IntMulOk
 rw [hc]
 simp
theorem zPA:yt X (binaryOp .Mult) (rI Xk λi j=>.int (i * j)):=XZ λ_ _ _ _ _ _ _ hc q=>mul_int q hc.ok
theorem zM4:yt X (binaryOp .FloorDiv) (rI zRg λi j=>.int (i.fdiv j)):=XZ λ_ _ _ _ _ _ _ hc q=>by
 refine floordiv_int hc.1 q (.inl (PyProof.noPylong_of_log2 ?_))
 have h':_ < 2 ^ 8000:=hc.2
 have nz:_≠0:=λz=>hc.1 (iZ.mp z)
 exact Nat.lt_trans ((Nat.log2_lt nz).mpr h') (by decide)
end
section
variable {X:Cx}
def zP9 (K:cg):List V->Hp->VK->Prop:=λxs H Q=>∃ x c t b,xs=[x,.ty c]/\yQ K H x t/\cE K t (.type c)=some b/\Q (.bl b) H
theorem vB:vG X (.builtin "isinstance") (zP9 X.K):=by
 intro pins s σ H xs us Q I r h
 obtain ⟨x,c,t,b,rfl,ty,e,q⟩:=h
 obtain ⟨u,v,rfl,ru,rv⟩:=ZK r
 cases (show v=Value.type c from rv)
 exact K2 I ru ty e λtk=>⟨.bl b,H,I.tok tk,rfl,q⟩
end
mutual
inductive Dp (K:cg) (H:Hp):V->PyData->Prop where
 | non:Dp K H .non .none
 | bl (b:Bool):Dp K H (.bl b) (.bool b)
 | int (i:Int):Dp K H (.int i) (.int i)
 | str (x:Str):Dp K H (.str x) (.str x)
 | lst {a:Addr} {xs:List V} {ds:List PyData} (e:zw K H a xs) (h:uP K H xs ds):Dp K H (.ref a) (.list ds)
 | tup {a:Addr} {xs:List V} {ds:List PyData} (e:yH K H a xs) (h:uP K H xs ds):Dp K H (.ref a) (.tuple ds)
inductive uP (K:cg) (H:Hp):List V->List PyData->Prop where
 | nil:uP K H [] []
 | cons {x:V} {xs:List V} {d:PyData} {ds:List PyData} (h:Dp K H x d) (t:uP K H xs ds):uP K H (x :: xs) (d :: ds)
end
section
variable {X:Cx} {pins:List (Addr × Obj)} {σ:St} {H:Hp} {s:Shared}
mutual
theorem Dp.reads (I:zE X pins σ H s):∀ {x:V} {d:PyData} {u:Value},Dp X.K H x d->zR x u->∃ as,Reads s.heap u d as
 | _,_,_,.non,r=>by cases r; exact ⟨_,.none⟩
 | _,_,_,.bl b,r=>by cases r; exact ⟨_,.bool b⟩
 | _,_,_,.int i,r=>by obtain ⟨t,rfl⟩:=r; exact ⟨_,.int i t⟩
 | _,_,_,.str x,r=>by obtain ⟨t,rfl⟩:=r; exact ⟨_,.str x t⟩
 | _,_,_,.lst e h,r=>by
  cases r
  obtain ⟨its,rv,⟨o,n,e1,e2,_,e3⟩,_⟩:=I.list e
  obtain ⟨as,q⟩:=uP.reads I h rv
  exact ⟨_,.list e1 e2 e3 (by simpa using q)⟩
 | _,_,_,.tup e h,r=>by
  cases r
  obtain ⟨its,rv,⟨o,e1,e2,n,e3⟩,_⟩:=I.tuple e
  obtain ⟨as,q⟩:=uP.reads I h rv
  exact ⟨_,.tuple e1 e2 e3 (by simpa using q)⟩
theorem uP.reads (I:zE X pins σ H s):∀ {xs:List V} {ds:List PyData} {us:List Value},uP X.K H xs ds->zJ xs us->∃ as,ReadsAll s.heap us ds as
 | _,_,_,.nil,r=>by cases r; exact ⟨_,.nil⟩
 | _,_,_,.cons h t,r=>by
  cases r with
  | cons r1 r2=>
   obtain ⟨_,q1⟩:=Dp.reads I h r1
   obtain ⟨_,q2⟩:=uP.reads I t r2
   exact ⟨_,.cons q1 q2⟩
end
end
section
variable {X:Cx}
theorem vM (hc:X.calm=true):vG X (.builtin "all") (λxs H Q=>∃ (p:Addr) (bs:List Bool),xs=[.ref p]/\zw X.K H p (bs.map V.bl)/\Q (.bl (bs.all id)) H):=by
 intro pins s σ H xs us Q I r h
 obtain ⟨p,bs,rfl,hq,q⟩:=h
 obtain ⟨u,rfl,ru⟩:=jS r
 cases ru
 obtain ⟨its,rv,pl,hz⟩:=I.list hq
 have hh:X.A.in1.handled=none:=I.ok.hd hc
 have hlt:p < s.heap.objs.size:=by obtain ⟨o,n,e,_⟩:=pl; exact cB e
 refine call_all_walk (wpAny_pyIter_list pl.isList ?_)
 have hlen:its.length=bs.length:=by rw [<- rv.length,a_]
 refine ⟨s.heap.objs.size,_,_,_,_,_,λi=>bs.getD i true,rfl,Walks.list hh s.heap.objs.size p (dg hlt) its.toArray,⟨⟨_,cG _ rfl,rfl,rfl⟩,pl.isList.push _⟩,?_,λh' tk kk=>?_⟩
 ·intro i v s' Q' E' hP hQ'
  have e1:its[i]? = some v:=by simpa using hP
  have hi:i < its.length:=(cP.mp e1).1
  have hb:(bs.map V.bl)[i]? = some (.bl (bs.getD i true)):=by
   rw [cV,cu (by omega),ci,cu (by omega)]
   rfl
  obtain ⟨u',e2,r2⟩:=rv.get hb
  rw [e1] at e2
  cases e2
  cases r2
  exact wpAny_truthy_bool hQ'
 ·have e:(cO its.toArray.size).all (λi=>bs.getD i true)=bs.all id:=by
   rw [cy,hlen]
   rw [fi,cR,cR]
   constructor
   ·intro z b hb
    obtain ⟨i,hi,rfl⟩:=List.mem_iff_getElem.mp hb
    have:=z i (eQ.mpr hi)
    rw [ci,cu hi] at this
    exact this
   ·intro z i hi
    have hi':=eQ.mp hi
    rw [ci,cu hi']
    exact z _ (ek hi')
  refine ⟨.bl (bs.all id),H,I.kept (h':=h') (t':=tk) λb o eb=>kk b o ?_ (ck _ eb),?_,q⟩
  ·intro hb
   have:b=s.heap.objs.size:=by simpa using hb
   rw [this] at eb
   exact absurd (cB eb) (da _)
  ·rw [e]
   rfl
end
end L2
namespace L2
open PySem PySem.Spec PyProof.Rows
def vo (own:List Str) (caps:List (Nat × Str)) (σ:St):St:=own.map (λ_=>none)++caps.map λp=>(σ[p.1]?).getD none
abbrev zm (own:List Str) (caps:List (Nat × Str)):List Str:=own++caps.map (·.2)
theorem zE1 {scope:Scope} {env:Env} {x:Str}:(relabel scope env).names.lookup x=(scope.names.lookup x).map λk=>if (k == .free && env.scope.kind == .function && env.kindOf x == some .cell)=true then .cell else k:=by
 unfold relabel
 generalize scope.names=l
 induction l with
 | nil=>rfl
 | cons p r ih=>
  obtain ⟨n,k⟩:=p
  rw [cT]
  by_cases e:x=n
  ·subst e
   by_cases c:(k == NameKind.free && env.scope.kind == .function && env.kindOf x == some .cell)=true
   ·simp only [c,if_true,du,beq_self_eq_true,fq]
   ·simp only [c,if_false,du,beq_self_eq_true,fq,dJ]
  ·have z:(x == n)=false:=by simpa using e
   dsimp only
   split <;> simp only [du,z] <;> exact ih
section
variable {X:Cx} {scope:Scope} {own:List Str} {caps:List (Nat × Str)} {pins:List (Addr × Obj)} {σ:St} {H:Hp} {s s4:Shared} {C D:Addr} {fp:List Addr}
theorem zNf {i:Nat} {x:Str} {v:V} (h1:(zm own caps)[i]? = some x) (h2:(vo own caps σ)[i]? = some (some v)):∃ j,(j,x)∈caps/\σ[j]? = some (some v):=by
 unfold vo at h2
 by_cases hi:i < own.length
 ·rw [de (by simpa using hi),cV] at h2
  cases e:own[i]? with
  | none=>rw [e] at h2; cases h2
  | some a=>rw [e] at h2; cases h2
 ·rw [cY (by simpa using hi),a_,cV] at h2
  unfold zm at h1
  rw [cY (by omega),cV] at h1
  cases e:caps[i - own.length]? with
  | none=>rw [e] at h1; cases h1
  | some p=>
   obtain ⟨j,n⟩:=p
   rw [e] at h1 h2
   cases h1
   refine ⟨j,dh e,?_⟩
   simp only [fq,Option.some.injEq] at h2
   cases q:σ[j]? with
   | none=>rw [q] at h2; cases h2
   | some o=>rw [q] at h2; exact congrArg some h2
abbrev xf (its:List Value) (k:Nat):Obj:={ cls:=.type "list",data:=.seq its.toArray k }
theorem zNg {Y:Cx} {its:List Value} {k:Nat} {y:Value} {pl:List (Addr × Obj)} {Q:Value->Shared->Prop} {E:Value->Shared->Prop} (I:zE Y ((D,xf its k) :: pl) σ H s) (hn:yz Y [] H D) (hp:Y.pn=[]) (hz:its.length<=sizeLine)
  (q:∀ h' k' tk,(∀ b o,b≠D->s.heap.get? b=some o->h'.get? b=some o)->zE Y [(D,xf (its++[y]) k')] σ H { s with heap:=h',toks:=tk }->Q .none { s with heap:=h',toks:=tk }) :
  wpAny (model Y.prog Y.w) Y.A (call (.builtin "list.append") [.ref D,y]) Q E s:=by
 have pD:=I.pin (D,xf its k) (cS _ cv)
 have e:s.heap.get? D=some (xf its k):=pD.1
 refine call_meets F.slot_list_append ⟨_,e,rfl⟩ F.entry_list_append (F.args_list_append_2 _ _) (PySem.list_append D its.toArray k y (by rw [cy]; exact hz)) ⟨e,?_⟩
 have e2:=PySem.IsL.update e (·.push y)
 have ea:its.toArray.push y=(its++[y]).toArray:=by simp
 have keep:∀ b o,b≠D->s.heap.get? b=some o->(s.heap.update D (Obj.mapSeq (·.push y))).get? b=some o:=λb o hb eb=>(dj s.heap _ (Ne.symm hb)).trans eb
 have I0:zE Y [] σ H s:=I.pins_of λp hp'=>by cases hp'
 have I1:zE Y [] σ H { s with heap:=s.heap.update D (Obj.mapSeq (·.push y)),toks:=s.toks }:=I0.turned keep hn.1 hn.2.1 hn.2.2.2.1 hn.2.2.2.2.1 hn.2.2.2.2.2
 have e3:(s.heap.update D (Obj.mapSeq (·.push y))).get? D=some (xf (its++[y]) _):=e2.trans (by rw [ea])
 have I2:zE Y [(D,xf (its++[y]) (if ((its++[y]).toArray.size == its.toArray.size)=true then k else k + 1))] σ H { s with heap:=s.heap.update D (Obj.mapSeq (·.push y)),toks:=s.toks }:=I1.pins_of λp hp'=>by
  rw [cn.mp hp']
  exact ⟨e3,hn.1,hn.2.1,hn.2.2.1,λv z=>by cases z⟩
 exact q _ _ s.toks keep I2
end
end L2
namespace L2
open PySem PySem.Spec PyProof.Rows
structure Fn (P:Program) (w:World) (K:cg) (mg:Str->Option Value) (base:Heap) (x:Str) (ps:List Str) (k:Nat) (sp:Sp):Prop where
 ex:∃ f fd,zF P w K mg base zT k f fd ps sp/\mg x=some (.ref f)/\dN K (.ref f)=true/\w6 K fd ps []
theorem Fn.mono {P:Program} {w:World} {K:cg} {mg:Str->Option Value} {base:Heap} {x:Str} {ps:List Str} {j k:Nat} {sp:Sp} (F:Fn P w K mg base x ps j sp) (h:j<=k:=by decide):Fn P w K mg base x ps k sp:=by
 obtain ⟨f,fd,a,b,c,d⟩:=F.ex
 exact ⟨f,fd,a.mono h,b,c,d⟩
theorem UU {X:Cx} {x:Str} {ps:List Str} {k:Nat} {sp:Sp} {e:Expr} {es:List Expr} {t:TA} {p pos:Pos} (F:Fn X.prog X.w X.K X.mg X.base x ps k sp) (hr:zZ k X.A) (hg:Gl X x) (ha:PA X (e :: es) t)
  (hdb:(x == ("__debug__" : Str))=false:=by decide) (he:starEach (e :: es) X.env=(false,eval e X.env) :: starEach es X.env:=by rfl) (hpl:(backTo pos (starEach es X.env)).any (·.1)=false:=by rfl) :
  PE X (.Call (.Name x p) (e :: es) [] pos) (jC sp [] E0 t):=by
 obtain ⟨f,fd,a,b,c,d⟩:=F.ex
 exact UC a hr hg b c d .nil Xi ha hdb he hpl
end L2
namespace L2
open PySem PySem.Spec PyProof.Rows
theorem xq:bootBuiltins "isinstance" = some (.builtin "isinstance"):=by decide +kernel
theorem yw:bootBuiltins "len" = some (.builtin "len"):=by decide +kernel
theorem vN:bootBuiltins "all" = some (.builtin "all"):=by decide +kernel
theorem UV:bootBuiltins "int" = some (.type "int"):=by decide +kernel
theorem zGV:bootBuiltins "bool" = some (.type "bool"):=by decide +kernel
theorem wH:bootBuiltins "tuple" = some (.type "tuple"):=by decide +kernel
theorem xg:bootBuiltins "list" = some (.type "list"):=by decide +kernel
structure xh (K:cg) (x qual:Str) (st:Stmt) (f:Addr) (fd:FuncData) (d:Value):Prop where
 ex:∃ (oc:Value) (od:Option Addr) (kV doc pm:Value) (an:Option Addr) (cdv ct:Value) (osl:Array (Option Value)) (T:Addr) (oT:Obj) (n:Nat),
  fd=dX x qual (vA st) (xo st) (zP st) (.ref T) kV doc pm an cdv ct/\K.lookup f=some ⟨oc,od,.func fd,osl⟩/\fM K cdv qual=true/\K.lookup T=some oT/\oT.data=.seq #[d] n
 kp:dN K (.ref f)=true
theorem xh.ok {P:Program} {w:World} {K:cg} {mg:Str->Option Value} {base:Heap} {x qual:Str} {st:Stmt} {f:Addr} {fd:FuncData} {d:Value} {N ps:List Str} {k:Nat} {sp:Sp} (F:xh K x qual st f fd d) (S:zb N ps (zP st))
  (len:∀ vs H Q E,sp vs H Q E->vs.length=ps.length)
  (hbody:∀ (cdv:Value) (A:Around) (outer:List Env) (s:Shared) (H:Hp) (vs:List V) (Q:VK) (E:XK),zZ k (A.deeper (envOfC qual (zP st) s.heap.objs.size f cdv))->sp vs H Q E->
   ∃ t,yT (zW zT P w K mg base N qual (zP st) f cdv A outer s H E).nox (xo st) t/\t { nx:=λ_ H'=>Q .non H',rt:=Q } (xw N vs) H):zF P w K mg base zT (k + 1) f fd ps sp:=by
 obtain ⟨oc,od,kV,doc,pm,an,cdv,ct,osl,T,oT,n,rfl,lk,hcd,_⟩:=F.ex
 refine UD lk hcd S len λA outer s H vs Q E hr hsp=>?_
 obtain ⟨t,h,q⟩:=hbody cdv A outer s H vs Q E hr hsp
 exact ⟨t,h.nox,q⟩
end L2
namespace L2
open PySem PySem.Spec PyProof.Rows
theorem zPZ {K:cg} {x qual:Str} {st:Stmt} {f T:Addr} {oc kV doc pm cdv ct d:Value} {od an:Option Addr} {osl:Array (Option Value)} {oT:Obj} {n:Nat} (l:K.lookup f=some ⟨oc,od,.func (dX x qual (vA st) (xo st) (zP st) (.ref T) kV doc pm an cdv ct),osl⟩)
  (c:fM K cdv qual=true) (k:dN K (.ref f)=true) (t:K.lookup T=some oT) (e:oT.data=.seq #[d] n):xh K x qual st f (dX x qual (vA st) (xo st) (zP st) (.ref T) kV doc pm an cdv ct) d:=
 ⟨⟨oc,od,kV,doc,pm,an,cdv,ct,osl,T,oT,n,rfl,l,c,t,e⟩,k⟩
theorem xh.binds {K:cg} {x qual:Str} {st:Stmt} {f:Addr} {fd:FuncData} {d:Value} {ps:List Str} (F:xh K x qual st f fd d)
  (h:∀ (T:Addr) (kV doc pm:Value) (an:Option Addr) (cdv ct:Value) (us:List Value),us.length=ps.length->∃ k:Option (Array Value)->Sem (List (Str × Value)),
   bindArgs (dX x qual (vA st) (xo st) (zP st) (.ref T) kV doc pm an cdv ct) ⟨us,[]⟩=seqItems? (.ref T) >>= k/\k (some #[d])=pure (ps.zip us)):w6 K fd ps []:=by
 obtain ⟨oc,od,kV,doc,pm,an,cdv,ct,osl,T,oT,n,rfl,lk,hcd,t,e⟩:=F.ex
 intro s us X hl
 rw [dQ] at hl |-
 obtain ⟨k,h1,h2⟩:=h T kV doc pm an cdv ct us hl
 exact .of_defaults (T:=T) rfl (X T oT t) e h1 h2
end L2
namespace L2
open PySem PySem.Spec PyProof.Rows
structure vp (P:Program) (w:World) (K:cg) (mg:Str->Option Value) (base:Heap) (x:Str) (ps:List Str) (k:Nat) (sp:Sp) (dv:V):Prop where
 ex:∃ f fd d,zF P w K mg base zT k f fd ps sp/\mg x=some (.ref f)/\dN K (.ref f)=true/\w6 K fd ps []/\w6 K fd ps [d]/\zR dv d
theorem vp.mono {P:Program} {w:World} {K:cg} {mg:Str->Option Value} {base:Heap} {x:Str} {ps:List Str} {j k:Nat} {sp:Sp} {dv:V} (F:vp P w K mg base x ps j sp dv) (h:j<=k:=by decide):vp P w K mg base x ps k sp dv:=by
 obtain ⟨f,fd,d,a,b,c,e⟩:=F.ex
 exact ⟨f,fd,d,a.mono h,b,c,e⟩
theorem vp.fn {P:Program} {w:World} {K:cg} {mg:Str->Option Value} {base:Heap} {x:Str} {ps:List Str} {k:Nat} {sp:Sp} {dv:V} (F:vp P w K mg base x ps k sp dv):Fn P w K mg base x ps k sp:=by
 obtain ⟨f,fd,d,a,b,c,e,_⟩:=F.ex
 exact ⟨f,fd,a,b,c,e⟩
theorem zK1 {X:Cx} {x:Str} {ps:List Str} {k:Nat} {sp:Sp} {e:Expr} {es:List Expr} {t:TA} {p pos:Pos} {dv:V} (F:vp X.prog X.w X.K X.mg X.base x ps k sp dv) (hr:zZ k X.A) (hg:Gl X x) (ha:PA X (e :: es) t)
  (hdb:(x == ("__debug__" : Str))=false:=by decide) (he:starEach (e :: es) X.env=(false,eval e X.env) :: starEach es X.env:=by rfl) (hpl:(backTo pos (starEach es X.env)).any (·.1)=false:=by rfl) :
  PE X (.Call (.Name x p) (e :: es) [] pos) (jC sp [dv] E0 t):=by
 obtain ⟨f,fd,d,a,b,c,_,h2,r⟩:=F.ex
 exact UC a hr hg b c h2 (.cons r .nil) Xi ha hdb he hpl
theorem xh.binds1 {K:cg} {x qual:Str} {st:Stmt} {f:Addr} {fd:FuncData} {d:Value} {ps:List Str} (F:xh K x qual st f fd d)
  (h:∀ (T:Addr) (kV doc pm:Value) (an:Option Addr) (cdv ct:Value) (us:List Value),us.length + 1=ps.length->∃ k:Option (Array Value)->Sem (List (Str × Value)),
   bindArgs (dX x qual (vA st) (xo st) (zP st) (.ref T) kV doc pm an cdv ct) ⟨us,[]⟩=seqItems? (.ref T) >>= k/\k (some #[d])=pure (ps.zip (us++[d]))):w6 K fd ps [d]:=by
 obtain ⟨oc,od,kV,doc,pm,an,cdv,ct,osl,T,oT,n,rfl,lk,hcd,t,e⟩:=F.ex
 intro s us X hl
 rw [b_,eT] at hl
 obtain ⟨k,h1,h2⟩:=h T kV doc pm an cdv ct us hl
 exact .of_defaults (T:=T) rfl (X T oT t) e h1 h2
end L2
namespace L2
theorem UW {b:Bool} {A B:Prop} (e:b=true) (h:A):if b=true then A else B:=by
 rw [if_pos e]
 exact h
theorem zQ3 {b:Bool} {A B:Prop} (e:b=false) (h:B):if b=true then A else B:=by
 rw [if_neg (by rw [e]; exact cU)]
 exact h
end L2
set_option maxRecDepth 100000
namespace L2
open PySem
section
variable {prog:Program} {w:World} {A:Around} {E:Value->Shared->Prop} {s:Shared}
theorem zLz (hh:A.handled=none) (it t:Addr) (hne:t≠it) (items:Array Value) :
  Draws prog w A it [it,t] items.size (λi v=>items[i]? = some v) (λi h=>h.IsTupleIter it t i/\h.IsTuple t items) where
 live:=λ_ _ st=>let ⟨o,ho,_⟩:=st.1; ⟨o,ho⟩
 frame:=λ_ _ _ st hk=>⟨let ⟨o,e,r⟩:=st.1; ⟨o,hk it (by simp) o e,r⟩,let ⟨o,e,r⟩:=st.2; ⟨o,hk t (by simp) o e,r⟩⟩
 item:=λi s Q E hi st hQ=>by
  obtain ⟨hit,ht⟩:=st
  obtain ⟨o,ho,hc,hd⟩:=id hit
  obtain ⟨ol,hol,_,nl,hdl⟩:=id ht
  have hx:items[i]? = some items[i]:=by simp [hi]
  unfold Builtin.SmallTypes.nextOf
  refine wpAny_bind (wpAny_callSpecial?_slot (name:=dU "__next__") hit.typeIs F.slot_tuple_iterator_next (wpAny_call_entry F.slot_tuple_iterator_next hit.typeIs F.entry_tuple_iterator_next ?_ (F.args_tuple_iterator_next_1 _)))
  change wpAny _ _ (field (.ref it) 0 >>= _) _ _ s
  refine wpAny_bind (wpAny_field ho hd (x:=.ref t) rfl ?_)
  change wpAny _ _ (if (Value.ref t == Value.none)=true then _ else _) _ _ s
  rw [if_neg (show (Value.ref t == Value.none)≠true from cU)]
  change wpAny _ _ (field (.ref it) 1 >>= _) _ _ s
  refine wpAny_bind (wpAny_field ho hd (x:=.int i 0) rfl ?_)
  change wpAny _ _ (seqItems? (.ref t) >>= _) _ _ s
  refine wpAny_bind (wpAny_seqItems hol hdl ?_)
  simp only [ij,hx]
  refine wpAny_bind (wpAny_setField ho hd (by simp) (wpAny_pure ⟨items[i],rfl,wpAny_pure (hQ _ _ s.toks hx ⟨?_,?_⟩ (Heap.SameBut.update ..))⟩))
  ·exact ⟨_,eS _ ho (Obj.isFreed_of_fields (Obj.data_mapFields hd _)),(Obj.cls_mapFields ..).trans hc,by rw [Obj.data_mapFields hd]; simp [rawInt]⟩
  ·exact ht.extBut (Heap.SameBut.update ..).extBut hne
 done:=λs Q E st hE=>by
  obtain ⟨hit,ht⟩:=st
  obtain ⟨o,ho,hc,hd⟩:=id hit
  obtain ⟨ol,hol,_,nl,hdl⟩:=id ht
  have hx:items[items.size]? = none:=by simp
  unfold Builtin.SmallTypes.nextOf
  refine wpAny_bind (wpAny_callSpecial?_slot (name:=dU "__next__") hit.typeIs F.slot_tuple_iterator_next (wpAny_call_entry F.slot_tuple_iterator_next hit.typeIs F.entry_tuple_iterator_next ?_ (F.args_tuple_iterator_next_1 _)))
  change wpAny _ _ (field (.ref it) 0 >>= _) _ _ s
  refine wpAny_bind (wpAny_field ho hd (x:=.ref t) rfl ?_)
  change wpAny _ _ (if (Value.ref t == Value.none)=true then _ else _) _ _ s
  rw [if_neg (show (Value.ref t == Value.none)≠true from cU)]
  change wpAny _ _ (field (.ref it) 1 >>= _) _ _ s
  refine wpAny_bind (wpAny_field ho hd (x:=.int items.size 0) rfl ?_)
  change wpAny _ _ (seqItems? (.ref t) >>= _) _ _ s
  refine wpAny_bind (wpAny_seqItems hol hdl ?_)
  simp only [ij,hx]
  refine wpAny_bind (wpAny_rule (wpAny_bind (wpAny_setField ho hd (by simp) ?_)))
  change wpAny _ _ (newExc (.type "StopIteration") [] >>= _) _ _ _
  refine wpAny_bind ?_
  simp only [newExc,newTuple]
  refine wpAny_bind (wpAny_newObj_type ?_ (by size_fits))
  refine wpAny_bind (m:=firstArgMember _ _) (wpAny_of_eq (a:=Value.none) (by first | rfl | (simp only [firstArgMember]; rfl)) ?_)
  refine wpAny_newObj_type ?_ (by size_fits)
  simp only [raiseNew]
  refine wpAny_bind (wpAny_handled ?_)
  first | rw [show A.in1.handled=none from hh] | rw [hh]
  refine wpAny_bind (wpAny_pure (wpAny_throw ?_))
  exact hE _ _ (((Heap.SameBut.update ..).extBut.push _).push _) ⟨_,cG _ rfl,rfl⟩
structure Zp (z TI TO i1 i2:Addr) (f1 f2:List Addr):Prop where
 a1:TI≠z
 a2:TO≠z
 a3:i1≠z
 a4:i2≠z
 a5:TI≠TO
 a6:TI≠i1
 a7:TI≠i2
 a8:TO≠i1
 a9:TO≠i2
 b1:z∉f1
 b2:z∉f2
 b3:TO∉f1
 b4:TO∉f2
 b5:i1∉f2
 b6:i2∉f1
theorem zMQ {z TI TO i1 i2:Addr} {f1 f2:List Addr} {n1 n2 k:Nat} {P1 P2:Nat->Value->Prop} {S1 S2:Nat->Heap->Prop} {a b:Value} {Q:Value->Shared->Prop}
  (D1:Draws prog w A i1 f1 n1 P1 S1) (D2:Draws prog w A i2 f2 n2 P2 S2) (Z:Zp z TI TO i1 i2 f1 f2) (hz:IsZip s.heap z TI TO .none) (hI:IsPair s.heap TI (.ref i1) (.ref i2)) (hO:IsPair s.heap TO a b)
  (s1:S1 k s.heap) (s2:S2 k s.heap) (k1:k < n1) (k2:k < n2)
  (hQ:∀ x y h' tk,P1 k x->P2 k y->IsZip h' z TI TO (rawInt s.heap.objs.size)->IsPair h' TI (.ref i1) (.ref i2)->IsPair h' TO x y->S1 (k + 1) h'->S2 (k + 1) h'->IsPair h' s.heap.objs.size x y->
   (∀ c o,c≠z->c≠TO->c≠i1->c≠i2->s.heap.get? c=some o->h'.get? c=some o)->Q (.ref s.heap.objs.size) { s with heap:=h',toks:=tk }) :
  wpAny (model prog w) A (Builtin.«zip.__next__» ⟨[.ref z],[]⟩) (λfin s'=>∃ v,fin=.done (.ret v)/\Q v s') E s:=by
 change wpAny _ _ (field (.ref z) 2 >>= _) _ _ _
 refine wpAny_bind (wpAny_field hz rfl (x:=.bool false) rfl ?_)
 change wpAny _ _ (field (.ref z) 3 >>= _) _ _ _
 refine wpAny_bind (wpAny_field hz rfl (x:=.ref TI) rfl ?_)
 refine wpAny_bind (wpAny_seqItems hI rfl ?_)
 change wpAny _ _ (Builtin.SmallTypes.ownedTupleIsFree (.ref z) >>= _) _ _ _
 refine wpAny_bind ?_
 unfold Builtin.SmallTypes.ownedTupleIsFree
 refine wpAny_bind (wpAny_field hz rfl (x:=.none) rfl (wpAny_pure ?_))
 simp only [if_true]
 refine wpAny_bind (wpAny_rule ?_)
 refine wpAny_bind (wpAny_field hz rfl (x:=.ref TO) rfl ?_)
 refine wpAny_bind (wpAny_setField_rec hz (by simp) λg1 z1 m1=>?_)
 replace z1:IsZip g1 z TI TO .ellipsis:=z1
 refine wpAny_bind ?_
 simp only [lF,lQ,iE,iO]
 refine wpAny_bind (wpAny_bind (wpAny_onRaise ?_))
 change wpAny _ _ (Builtin.SmallTypes.nextOf (.ref i1) >>= _) _ _ _
 refine wpAny_bind (D1.item k _ _ _ k1 (D1.frame _ _ _ s1 λc hc o e=>m1.extBut c o (λq=>Z.b1 (q ▸ hc)) e) λx g2 t2 px s12 m2=>wpAny_pure ?_)
 have o2:IsPair g2 TO a b:=m2.extBut _ _ Z.a8 (m1.extBut _ _ Z.a2 hO)
 refine wpAny_bind (wpAny_seqItems o2 rfl ?_)
 refine wpAny_bind (wpAny_updateSeq_pair o2 λg3 o3 m3=>?_)
 replace o3:IsPair g3 TO x b:=o3
 refine wpAny_bind (wpAny_letGo (wpAny_pure ?_))
 refine wpAny_bind (wpAny_bind (wpAny_onRaise ?_))
 change wpAny _ _ (Builtin.SmallTypes.nextOf (.ref i2) >>= _) _ _ _
 refine wpAny_bind (D2.item k _ _ _ k2 (D2.frame _ _ _ s2 λc hc o e=>m3.extBut c o (λq=>Z.b4 (q ▸ hc)) (m2.extBut c o (λq=>Z.b5 (q ▸ hc)) (m1.extBut c o (λq=>Z.b2 (q ▸ hc)) e))) λy g4 t4 py s24 m4=>wpAny_pure ?_)
 have o4:IsPair g4 TO x b:=m4.extBut _ _ Z.a9 o3
 refine wpAny_bind (wpAny_seqItems o4 rfl ?_)
 refine wpAny_bind (wpAny_updateSeq_pair o4 λg5 o5 m5=>?_)
 replace o5:IsPair g5 TO x y:=o5
 refine wpAny_bind (wpAny_letGo (wpAny_pure (wpAny_pure ?_)))
 refine wpAny_bind (wpAny_seqItems o5 rfl ?_)
 refine wpAny_bind (wpAny_newTuple ?_)
 have sz:g5.objs.size=s.heap.objs.size:=by
  have q5:g5.objs.size=g4.objs.size:=m5.1
  have q4:g4.objs.size=g3.objs.size:=m4.1
  have q3:g3.objs.size=g2.objs.size:=m3.1
  have q2:g2.objs.size=g1.objs.size:=m2.1
  have q1:g1.objs.size=s.heap.objs.size:=m1.1
  omega
 have all5:∀ c o,c≠z->c≠TO->c≠i1->c≠i2->s.heap.get? c=some o->g5.get? c=some o:=λc o c1 c2 c3 c4 e=>m5.extBut _ _ c2 (m4.extBut _ _ c4 (m3.extBut _ _ c2 (m2.extBut _ _ c3 (m1.extBut _ _ c1 e))))
 have z5:IsZip g5 z TI TO .ellipsis:=m5.extBut _ _ Z.a2.symm (m4.extBut _ _ Z.a4.symm (m3.extBut _ _ Z.a2.symm (m2.extBut _ _ Z.a3.symm z1)))
 have I5:IsPair g5 TI (.ref i1) (.ref i2):=all5 _ _ Z.a1 Z.a5 Z.a6 Z.a7 hI
 have u1:S1 (k + 1) g5:=D1.frame _ _ _ s12 λc hc o e=>m5.extBut c o (λq=>Z.b3 (q ▸ hc)) (m4.extBut c o (λq=>Z.b6 (q ▸ hc)) (m3.extBut c o (λq=>Z.b3 (q ▸ hc)) e))
 have u2:S2 (k + 1) g5:=D2.frame _ _ _ s24 λc hc o e=>m5.extBut c o (λq=>Z.b4 (q ▸ hc)) e
 have lt:z < g5.objs.size:=cB z5
 change wpAny _ _ (Builtin.SmallTypes.ownedTupleHandOut (.ref z) (.ref g5.objs.size) >>= _) _ _ _
 refine wpAny_bind ?_
 unfold Builtin.SmallTypes.ownedTupleHandOut
 have z6:IsZip (g5.push { cls:=.type "tuple",data:=.seq #[x,y] }) z TI TO .ellipsis:=ck _ z5
 refine wpAny_bind (wpAny_setField_rec z6 (by simp) λg7 z7 m7=>?_)
 replace z7:IsZip g7 z TI TO (rawInt g5.objs.size):=z7
 refine wpAny_setField_rec z7 (by simp) λg8 z8 m8=>?_
 replace z8:IsZip g8 z TI TO (rawInt g5.objs.size):=z8
 have up:∀ c o,c≠z->g5.get? c=some o->g8.get? c=some o:=λc o c1 e=>m8.extBut _ _ c1 (m7.extBut _ _ c1 (ck _ e))
 have T8:IsPair g8 g5.objs.size x y:=m8.extBut _ _ (fN lt) (m7.extBut _ _ (fN lt) (cG _ rfl))
 rw [sz] at z8 T8
 refine wpAny_pure ⟨_,rfl,?_⟩
 change Q (.ref g5.objs.size) _
 rw [sz]
 exact hQ x y g8 _ px py z8 (up _ _ Z.a1 I5) (up _ _ Z.a2 o5) (D1.frame _ _ _ u1 λc hc o e=>up c o (λq=>Z.b1 (q ▸ hc)) e) (D2.frame _ _ _ u2 λc hc o e=>up c o (λq=>Z.b2 (q ▸ hc)) e) T8
  λc o c1 c2 c3 c4 e=>up c o c1 (all5 c o c1 c2 c3 c4 e)
theorem zMN {z TI TO i1 i2:Addr} {f1 f2:List Addr} {n1 n2 k:Nat} {P1 P2:Nat->Value->Prop} {S1 S2:Nat->Heap->Prop} {a b:Value} {Q:Fin->Shared->Prop}
  (D1:Draws prog w A i1 f1 n1 P1 S1) (D2:Draws prog w A i2 f2 n2 P2 S2) (Z:Zp z TI TO i1 i2 f1 f2) (hz:IsZip s.heap z TI TO .none) (hI:IsPair s.heap TI (.ref i1) (.ref i2)) (hO:IsPair s.heap TO a b)
  (s1:S1 k s.heap) (s2:S2 k s.heap) (k1:k<=n1) (k2:k<=n2) (ke:k=n1\/k=n2)
  (hE:∀ h' e tk,(∀ c o,c≠z->c≠TO->c≠i1->c≠i2->s.heap.get? c=some o->h'.get? c=some o)->(∃ o,h'.get? e=some o/\o.cls=.type "StopIteration")->E (.ref e) { s with heap:=h',toks:=tk }) :
  wpAny (model prog w) A (Builtin.«zip.__next__» ⟨[.ref z],[]⟩) Q E s:=by
 change wpAny _ _ (field (.ref z) 2 >>= _) _ _ _
 refine wpAny_bind (wpAny_field hz rfl (x:=.bool false) rfl ?_)
 change wpAny _ _ (field (.ref z) 3 >>= _) _ _ _
 refine wpAny_bind (wpAny_field hz rfl (x:=.ref TI) rfl ?_)
 refine wpAny_bind (wpAny_seqItems hI rfl ?_)
 change wpAny _ _ (Builtin.SmallTypes.ownedTupleIsFree (.ref z) >>= _) _ _ _
 refine wpAny_bind ?_
 unfold Builtin.SmallTypes.ownedTupleIsFree
 refine wpAny_bind (wpAny_field hz rfl (x:=.none) rfl (wpAny_pure ?_))
 simp only [if_true]
 refine wpAny_bind (wpAny_rule ?_)
 refine wpAny_bind (wpAny_field hz rfl (x:=.ref TO) rfl ?_)
 refine wpAny_bind (wpAny_setField_rec hz (by simp) λg1 z1 m1=>?_)
 replace z1:IsZip g1 z TI TO .ellipsis:=z1
 refine wpAny_bind ?_
 simp only [lF,lQ,iE,iO]
 refine wpAny_bind (wpAny_bind (wpAny_onRaise ?_))
 change wpAny _ _ (Builtin.SmallTypes.nextOf (.ref i1) >>= _) _ _ _
 have s1':S1 k g1:=D1.frame _ _ _ s1 λc hc o e=>m1.extBut c o (λq=>Z.b1 (q ▸ hc)) e
 by_cases c1:k=n1
 ·subst c1
  refine wpAny_bind (D1.done _ _ _ s1' λg2 e m2 he=>?_)
  obtain ⟨oe,he1,he2⟩:=he
  have z2:IsZip g2 z TI TO .ellipsis:=m2 _ _ Z.a3.symm z1
  have nez:e≠z:=λq=>by subst q; rw [z2] at he1; cases he1; simp at he2
  exact wpAny_setField_rec z2 (by simp) λg3 _ m3=>hE g3 e _ (λc o c1 c2 c3 c4 q=>m3.extBut _ _ c1 (m2 _ _ c3 (m1.extBut _ _ c1 q))) ⟨oe,m3.extBut _ _ nez he1,he2⟩
 ·have c2:k=n2:=ke.resolve_left c1
  subst c2
  refine wpAny_bind (D1.item k _ _ _ (by omega) s1' λx g2 t2 px s12 m2=>wpAny_pure ?_)
  have o2:IsPair g2 TO a b:=m2.extBut _ _ Z.a8 (m1.extBut _ _ Z.a2 hO)
  refine wpAny_bind (wpAny_seqItems o2 rfl ?_)
  refine wpAny_bind (wpAny_updateSeq_pair o2 λg3 o3 m3=>?_)
  refine wpAny_bind (wpAny_letGo (wpAny_pure ?_))
  refine wpAny_bind (wpAny_bind (wpAny_onRaise ?_))
  change wpAny _ _ (Builtin.SmallTypes.nextOf (.ref i2) >>= _) _ _ _
  refine wpAny_bind (D2.done _ _ _ (D2.frame _ _ _ s2 λc hc o e=>m3.extBut c o (λq=>Z.b4 (q ▸ hc)) (m2.extBut c o (λq=>Z.b5 (q ▸ hc)) (m1.extBut c o (λq=>Z.b2 (q ▸ hc)) e))) λg4 e m4 he=>?_)
  obtain ⟨oe,he1,he2⟩:=he
  have z4:IsZip g4 z TI TO .ellipsis:=m4 _ _ Z.a4.symm (m3.extBut _ _ Z.a2.symm (m2.extBut _ _ Z.a3.symm z1))
  have nez:e≠z:=λq=>by subst q; rw [z4] at he1; cases he1; simp at he2
  exact wpAny_setField_rec z4 (by simp) λg5 _ m5=>hE g5 e _ (λc o c1 c2 c3 c4 q=>m5.extBut _ _ c1 (m4 _ _ c4 (m3.extBut _ _ c2 (m2.extBut _ _ c3 (m1.extBut _ _ c1 q))))) ⟨oe,m5.extBut _ _ nez he1,he2⟩
end
section
variable {prog:Program} {w:World} {A:Around} {E:Value->Shared->Prop} {s:Shared}
theorem zMO {z TI TO i1 i2:Addr} {f1 f2:List Addr} {n1 n2 k:Nat} {P1 P2:Nat->Value->Prop} {S1 S2:Nat->Heap->Prop} {a b:Value} {Q:Option Value->Shared->Prop}
  (D1:Draws prog w A.in1 i1 f1 n1 P1 S1) (D2:Draws prog w A.in1 i2 f2 n2 P2 S2) (Z:Zp z TI TO i1 i2 f1 f2) (hz:IsZip s.heap z TI TO .none) (hI:IsPair s.heap TI (.ref i1) (.ref i2)) (hO:IsPair s.heap TO a b)
  (s1:S1 k s.heap) (s2:S2 k s.heap) (k1:k < n1) (k2:k < n2)
  (hQ:∀ x y h' tk,P1 k x->P2 k y->IsZip h' z TI TO (rawInt s.heap.objs.size)->IsPair h' TI (.ref i1) (.ref i2)->IsPair h' TO x y->S1 (k + 1) h'->S2 (k + 1) h'->IsPair h' s.heap.objs.size x y->
   (∀ c o,c≠z->c≠TO->c≠i1->c≠i2->s.heap.get? c=some o->h'.get? c=some o)->Q (some (.ref s.heap.objs.size)) { s with heap:=h',toks:=tk }) :
  wpAny (model prog w) A (pyNext (.ref z)) Q E s:=by
 have ty:s.TypeIs (.ref z) "zip":=⟨_,hz,rfl⟩
 unfold pyNext
 refine wpAny_bind (wpAny_attempt (wpAny_callSpecial?_slot (name:=dU "__next__") ty F.slot_zip_next (wpAny_call_entry F.slot_zip_next ty F.entry_zip_next ?_ (F.args_zip_next_1 _))))
 exact zMQ D1 D2 Z hz hI hO s1 s2 k1 k2 λx y h' tk c1 c2 c3 c4 c5 c6 c7 c8 c9=>wpAny_pure (hQ x y h' tk c1 c2 c3 c4 c5 c6 c7 c8 c9)
theorem zOc {z TI TO i1 i2:Addr} {f1 f2:List Addr} {n1 n2 k:Nat} {P1 P2:Nat->Value->Prop} {S1 S2:Nat->Heap->Prop} {a b:Value} {Q:Option Value->Shared->Prop}
  (D1:Draws prog w A.in1 i1 f1 n1 P1 S1) (D2:Draws prog w A.in1 i2 f2 n2 P2 S2) (Z:Zp z TI TO i1 i2 f1 f2) (hz:IsZip s.heap z TI TO .none) (hI:IsPair s.heap TI (.ref i1) (.ref i2)) (hO:IsPair s.heap TO a b)
  (s1:S1 k s.heap) (s2:S2 k s.heap) (k1:k<=n1) (k2:k<=n2) (ke:k=n1\/k=n2)
  (hQ:∀ h' tk,(∀ c o,c≠z->c≠TO->c≠i1->c≠i2->s.heap.get? c=some o->h'.get? c=some o)->Q none { s with heap:=h',toks:=tk }) :
  wpAny (model prog w) A (pyNext (.ref z)) Q E s:=by
 have ty:s.TypeIs (.ref z) "zip":=⟨_,hz,rfl⟩
 unfold pyNext
 refine wpAny_bind (wpAny_attempt (wpAny_callSpecial?_slot (name:=dU "__next__") ty F.slot_zip_next (wpAny_call_entry F.slot_zip_next ty F.entry_zip_next
  (zMN D1 D2 Z hz hI hO s1 s2 k1 k2 ke λh' e tk keep he=>?_) (F.args_zip_next_1 _))))
 obtain ⟨o,ho,hc⟩:=he
 refine wpAny_bind (wpAny_isInstance (T:="StopIteration") (b:=true) ⟨o,ho,hc⟩ isSubtype_stop ?_)
 exact wpAny_pure (hQ _ _ keep)
end
end L2
namespace L2
open PySem PySem.Spec PyProof.Rows
theorem ZV {vs:Array Value} (v:Option Value):Data.fields vs≠Data.cell v:=λz=>by cases z
theorem zFK {vs:Array Value} {n:Nat} (v:Option Value):Data.seq vs n≠Data.cell v:=λz=>by cases z
theorem zE.turnT {X:Cx} {pins:List (Addr × Obj)} {σ:St} {H:Hp} {s:Shared} {h':Heap} {tk:Nat} {ch:List Addr} {T:Addr} {x y:V} {u v:Value} (I:zE X pins σ H s) (hf:∀ b∈ch,yz X pins H b) (keep:∀ b o,b∉ch->s.heap.get? b=some o->h'.get? b=some o)
  (hT:s.heap.objs.size<=T) (p:IsPair h' T u v) (rx:zR x u) (ry:zR y v):zE X pins σ (zV H T (.tup [x,y])) { s with heap:=h',toks:=tk }:=by
 have fr:H T=none:=I.hok.fresh hT
 have nT:∀ b o,s.heap.get? b=some o->b≠T:=λb o e z=>by rw [z] at e; exact absurd (cF (cB e) hT) (da _)
 have ul:∀ b o,H b=some o->b∉ch:=λb o e z=>by rw [(hf b z).1] at e; cases e
 refine I.step (ch:=ch) (λb hb=>⟨(hf b hb).2.2.2.1,(hf b hb).2.1,(hf b hb).2.2.2.2.1,(hf b hb).2.2.2.2.2⟩) (λb o _ _ hc e _=>keep b o hc e) (λb o _ _ hc e _=>⟨o.slots,keep b o hc e⟩)
  (λb o _ e n=>by rw [zl (nT b o e)]; exact n) (λb o hc e=>⟨o,keep b o hc e⟩) (λb xs e=>by rw [zl (wC e fr)]; exact e) (λb o w e=>by rw [zl (wC e fr)]; exact e)
  (λb ps e=>⟨#[],by rw [zl (wC e fr),e]; simp⟩) (λm hm=>?_) (λb w e=>?_) I.bare
 ·obtain ⟨o,es,ep,ho,r⟩:=hm
  exact ⟨o,es,ep,keep _ o (λz=>(hf _ z).2.1 rfl) ho,r⟩
 ·by_cases hb:b=T
  ·subst hb
   rw [xv] at e
   cases e
   exact ⟨by show 2<=sizeLine; decide,[u,v],.cons rx (.cons ry .nil),⟨_,p,rfl,_,rfl⟩⟩
  ·rw [zl hb] at e
   refine (I.hok b w e).stay (λc q hc ec=>keep c q ?_ ec) (λc ec=>by rw [zl (wC ec fr)]; exact ec) λc xs ec=>by rw [zl (wC ec fr)]; exact ec
   rcases hc with z | z
   ·rw [z]
    exact ul b w e
   ·exact ul c _ z
theorem zE.turnN {X:Cx} {pins:List (Addr × Obj)} {σ:St} {H:Hp} {s:Shared} {h':Heap} {tk:Nat} {ch:List Addr} (I:zE X pins σ H s) (hf:∀ b∈ch,yz X pins H b) (keep:∀ b o,b∉ch->s.heap.get? b=some o->h'.get? b=some o) :
  zE X pins σ H { s with heap:=h',toks:=tk }:=by
 have ul:∀ b o,H b=some o->b∉ch:=λb o e z=>by rw [(hf b z).1] at e; cases e
 refine I.step (ch:=ch) (λb hb=>⟨(hf b hb).2.2.2.1,(hf b hb).2.1,(hf b hb).2.2.2.2.1,(hf b hb).2.2.2.2.2⟩) (λb o _ _ hc e _=>keep b o hc e) (λb o _ _ hc e _=>⟨o.slots,keep b o hc e⟩)
  (λb o _ e n=>n) (λb o hc e=>⟨o,keep b o hc e⟩) (λb xs e=>e) (λb o w e=>e) (λb ps e=>⟨#[],by rw [e]; simp⟩) (λm hm=>?_) (λb w e=>?_) I.bare
 ·obtain ⟨o,es,ep,ho,r⟩:=hm
  exact ⟨o,es,ep,keep _ o (λz=>(hf _ z).2.1 rfl) ho,r⟩
 ·refine (I.hok b w e).stay (λc q hc ec=>keep c q ?_ ec) (λc ec=>ec) λc xs ec=>ec
  rcases hc with z | z
  ·rw [z]
   exact ul b w e
  ·exact ul c _ z
theorem vq {x y z:Nat} (h1:x≠y) (h2:x≠z):x∉[y,z]:=by simp [h1,h2]
theorem ZW (n a b:Nat) (la:a < n) (lb:b < n):Zp (n + 4) (n + 2) (n + 3) n (n + 1) [n,a] [n + 1,b]:=by
 have e:∀ x y:Nat,x≠y->(x:Addr)≠y:=λ_ _ h=>h
 exact ⟨e _ _ (by omega),e _ _ (by omega),e _ _ (by omega),e _ _ (by omega),e _ _ (by omega),e _ _ (by omega),e _ _ (by omega),e _ _ (by omega),e _ _ (by omega),
  vq (by omega) (by omega),vq (by omega) (by omega),vq (by omega) (by omega),vq (by omega) (by omega),vq (by omega) (by omega),vq (by omega) (by omega)⟩
end L2
namespace L2
open PySem PySem.Spec PyProof.Rows
def UX (J:It) (g:TG) (tc:TT) (te:TE) (Q:VK) (σ0:St) (H0:Hp):Prop:=∃ W:Nat->Nat->List V->St->Hp->Prop,(∃ m,W 0 m [] σ0 H0)/\∀ i m ys σ1 H,W i m ys σ1 H->
 (J.stop i H/\∀ p,H p=none->Q (.ref p) (zV H p (.lst ys)))\/(J.go i H/\ys.length < sizeLine/\∃ (N:V->St->Hp->Prop) (N0:St->Hp->Prop),(∀ y σ' H',N y σ' H'->∃ m',m' < m/\W (i + 1) m' (ys++[y]) σ' H')/\(∀ σ' H',N0 σ' H'->∃ m',m' < m/\W (i + 1) m' ys σ' H')∧
    ∀ x H',J.yld i H x H'->g x σ1 H' λσ2 H2=>tc σ2 H2 λb H3=>if b=true then te σ2 H3 λy H4=>N y σ2 H4 else N0 σ2 H3)
def zNr (own:List Str) (caps:List (Nat × Str)) (wi:TI) (g:TG) (tc:TT) (te:TE):TE:=λσ H Q=>wi σ H λJ H1=>UX J g tc te Q (vo own caps σ) H1
end L2
namespace L2
open PySem PySem.Spec PyProof.Rows
section
variable {X:Cx}
theorem zOA (hu:X.A.units + 64 < cLine):yt X (compareOp .NotEq) (λx y H Q=>∃ d e:PyData,Dp X.K H x d/\Dp X.K H y e/\d.canLay0=true/\e.canLay0=true/\d.depth<=60/\e.depth<=60/\Q (.bl (!PyData.eqv d e)) H):=by
 intro pins s σ H x y v u Q I rx ry h
 obtain ⟨d,e,hx,hy,hc,hc',hd,hd',q⟩:=h
 obtain ⟨_,r1⟩:=hx.reads I rx
 obtain ⟨_,r2⟩:=hy.reads I ry
 exact SeqAt.compareNe_reads r1 r2 hc hc' (by omega) ⟨.bl _,H,I,rfl,q⟩
end
end L2
namespace L2
open PySem PySem.Spec PyProof.Rows
theorem UY:fillsNumberSlot (.type "tuple") "mul" = pure false:=PySem.fillsNumberSlot_seq (id:="tuple.__mul__") (r:=some (.builtin "tuple.__rmul__")) F.slot_tuple_mul.lookup (by decide +kernel) F.slot_tuple_rmul.lookup (by decide +kernel)
theorem UZ:seqRepeat? (.type "tuple")=pure (some (.builtin "tuple.__mul__")):=by
 unfold seqRepeat?
 rw [PySem.seqSlot_of (T:="tuple") (name:="__mul__") (id:="tuple.__mul__") F.slot_tuple_mul.lookup (by decide +kernel),PySem.seqSlot_of (T:="tuple") (name:="__rmul__") (id:="tuple.__rmul__") F.slot_tuple_rmul.lookup (by decide +kernel)]
 rfl
theorem Ua (a:Int) (t:Tok) (l:Addr) (dd:Option Addr) (items:Array Value) (n:Nat) (sl:Array (Option Value)) :
  Meets (Builtin.«int.__rmul__» ⟨[.int a t,.ref l],[]⟩) (λ_ R s=>s.heap.get? l=some { cls:=.type "tuple",dict:=dd,data:=.seq items n,slots:=sl }/\R (.ok (.ret Value.notImplemented)) s):=
 .of_wp λprog w A R s h=>by
  obtain ⟨hp,g,d,tk,os⟩:=s
  obtain ⟨hl,h⟩:=h
  wp_walk
  exact ⟨_,rfl,h⟩
theorem zOf (l:Addr) (items:Array Value) (n:Nat) (dd:Option Addr) (sl:Array (Option Value)) (x:Int) (u:Tok) (h1:¬ (items.isEmpty || x == 1)=true) (h2:¬ (decide (x < -(2 ^ 63)) || decide (x ≥ 2 ^ 63))=true) (h3:¬ (decide (x<=0) || items.isEmpty)=true)
  (h4:¬ (items.size:Int) * x > (2 ^ 63 - 1) / 8) (h5:¬ Builtin.Tuple.tupleTooMany ((items.size:Int) * x)=true) (h6:((cj x.toNat items).foldl (·++·) #[]).size<=sizeLine) :
  Meets (Builtin.«tuple.__mul__» ⟨[.ref l,.int x u],[]⟩) (λ_ R s=>s.heap.get? l=some { cls:=.type "tuple",dict:=dd,data:=.seq items n,slots:=sl }∧
   R (.ok (.ret (.ref s.heap.objs.size))) { s with heap:=s.heap.push { cls:=.type "tuple",data:=.seq ((cj x.toNat items).foldl (·++·) #[]) } }):=
 .of_wp λprog w A R s h=>by
  obtain ⟨hp,g,d,tk,os⟩:=s
  obtain ⟨hl,h⟩:=h
  wp_walk
  rw [if_neg h2]
  wp_walk
  rw [if_neg h4]
  dsimp only
  rw [if_neg h5]
  unfold Builtin.Tuple.tupleExact
  refine wpAny_bind (wpAny_newObj_type (wpAny_pure ⟨_,rfl,h⟩) ?_)
  exact h6
section
variable {X:Cx}
def ZX (K:cg):R2:=λx y H Q=>∃ a k xs,x=.ref a/\y=.int k/\yH K H a xs/\xs≠[]/\2<=k/\k<=1000/\xs.length<=1000/\∀ p,H p=none->Q (.ref p) (zV H p (.tup (cj k.toNat xs).flatten))
theorem zO9:yt X (binaryOp .Mult) (ZX X.K):=by
 intro pins s σ H x y v u Q I rx ry h
 obtain ⟨a,k,xs,rfl,rfl,ha,hne,h2,h3,hz,q⟩:=h
 cases rx
 obtain ⟨t,rfl⟩:=ry
 obtain ⟨its,r,p,_⟩:=I.tuple ha
 obtain ⟨⟨cls,dd,data,sl⟩,ho,hc,n,hd⟩:=id p
 simp only at hc hd
 subst hc hd
 have hl:its.length=xs.length:=r.length.symm
 have pl:0 < its.length:=by
  rw [hl]
  exact iR.mpr hne
 have em:its.toArray.isEmpty=false:=by
  cases its with
  | nil=>exact absurd pl (da _)
  | cons a b=>rfl
 have hm:(its.length:Int) * k<=1000 * 1000:=lU (by omega) h3 (by omega) (by omega)
 have hnew:(cj k.toNat its.toArray).foldl (·++·) #[]=(cj k.toNat its).flatten.toArray:=by
  have z:=UM its k.toNat []
  rw [iB] at z
  exact z
 have len:(cj k.toNat its).flatten.length=k.toNat * its.length:=UO its k.toNat
 have big:k.toNat * its.length<=sizeLine:=by
  have z:k.toNat * its.length<=1000 * 1000:=Nat.mul_le_mul (by omega) (by omega)
  exact dz z (by decide)
 refine wpAny_binaryOp_repeat_ref (T:="tuple") (U:="int") (by decide) ⟨_,ho,rfl⟩ (λs'=>typeIs_int s' k t) UY F.fills_int_mul F.slot_int_rmul UZ F.slot_int_index.lookup
  (call_meets F.slot_int_rmul (typeIs_int s k t) F.entry_int_rmul (F.args_int_rmul_2 _ _) (Ua k t a dd its.toArray n sl)
   ⟨ho,rfl,⟨_,ho,rfl⟩,call_meets F.slot_tuple_mul ⟨_,ho,rfl⟩ F.entry_tuple_mul (F.args_tuple_mul_2 _ _) (zOf a its.toArray n dd sl k t ?_ ?_ ?_ ?_ ?_ ?_) ⟨ho,?_⟩⟩)
 ·rw [em,Bool.false_or]
  intro z
  have:=beq_iff_eq.mp z
  omega
 ·intro z
  rcases Bool.or_eq_true_iff.mp z with z | z
  ·have:=of_decide_eq_true z
   omega
  ·have:=of_decide_eq_true z
   omega
 ·rw [em,l4]
  intro z
  have:=of_decide_eq_true z
  omega
 ·rw [cy]
  omega
 ·rw [cy]
  unfold Builtin.Tuple.tupleTooMany
  intro z
  have:=of_decide_eq_true z
  have:((sizeLine:Nat):Int) ≥ 1000 * 1000:=by decide
  omega
 ·rw [hnew,cy,len]
  exact big
 ·rw [hnew]
  refine ⟨.ref s.heap.objs.size,_,I.laid (t':=s.toks) (o:=.tup (cj k.toNat xs).flatten) (λb ob q=>ck _ q) (cL _) ?_,rfl,q _ (I.hok.fresh (cL _))⟩
  refine ⟨?_,_,r.rep k.toNat,IsTup.new _ _⟩
  rw [UO,<- hl]
  exact big
end
end L2
namespace L2
open PySem
theorem gf:bootBuiltins "max" = some (.builtin "max"):=by decide +kernel
end L2
namespace L2
open PySem PySem.Spec PyProof.Rows
theorem gg:bootBuiltins "sum" = some (.builtin "sum"):=by decide +kernel
theorem zHt:∀ {ns:List Int} {its:List Value},zJ (ns.map V.int) its->∃ zs:List (Int × Tok),its=zs.map (λp=>Value.int p.1 p.2)/\zs.map (·.1)=ns
 | [],_,.nil=>⟨[],rfl,rfl⟩
 | n :: r,_,.cons h t=>by
  obtain ⟨zs,e1,e2⟩:=zHt t
  obtain ⟨tk,rfl⟩:=h
  exact ⟨(n,tk) :: zs,by rw [e1]; rfl,by rw [cT,e2]⟩
section
variable {X:Cx}
theorem gh (hc:X.calm=true):vG X (.builtin "sum") (λxs H Q=>∃ (p:Addr) (ns:List Int),xs=[.ref p]/\zw X.K H p (ns.map V.int)/\Q (.int ns.sum) H):=by
 intro pins s σ H xs us Q I r h
 obtain ⟨p,ns,rfl,hq,q⟩:=h
 obtain ⟨u,rfl,ru⟩:=jS r
 cases ru
 obtain ⟨its,rv,pl,hz⟩:=I.list hq
 obtain ⟨zs,e1,e2⟩:=zHt rv
 have e3:its.toArray=intItems zs.toArray:=by
  rw [e1]
  unfold intItems
  simp
 have hl:=pl.isList
 rw [e3] at hl
 refine sum_intListG (I.ok.hd hc) hl λh' tk t' kk=>⟨.int ns.sum,H,I.kept (h':=h') (t':=tk) kk,⟨t',?_⟩,q⟩
 rw [preSum_eq,c_ (by simp),e2]
end
end L2
namespace L2
open PySem PySem.Spec PyProof.Rows
theorem ZY {a b c d:Nat} (h1:a < b) (h2:b<=c) (h3:c + 1<=d):d≠a:=by omega
theorem Ub {a b c:Nat} (h1:c=a + 1) (h2:c + 1<=b):b≠a:=by omega
theorem Xl {x:Str} {c:Addr}:∀ (names:List (Str × NameKind)) (n:Nat) (acc:List (Str × Addr)),(cellsFrom n names acc).lookup x=some c->((x,NameKind.cell)∈names/\n<=c)\/acc.lookup x=some c
 | [],_,_,h=>.inr h
 | (y,k) :: r,n,acc,h=>by
  unfold cellsFrom at h
  split at h
  ·rename_i hk
   rcases Xl r (n + 1) ((y,n) :: acc) h with ⟨a,b⟩ | z
   ·exact .inl ⟨cr _ a,by omega⟩
   ·rw [du] at z
    by_cases e:(x == y)=true
    ·simp only [e] at z
     have e1:x=y:=eq_of_beq e
     have e2:k=.cell:=eq_of_beq hk
     subst e1
     subst e2
     cases z
     exact .inl ⟨cv,cL _⟩
    ·have e':(x == y)=false:=by simpa using e
     simp only [e'] at z
     exact .inr z
  ·rcases Xl r n acc h with ⟨a,b⟩ | z
   ·exact .inl ⟨cr _ a,b⟩
   ·exact .inr z
theorem Uc {x:Str}:∀ (names:List (Str × NameKind)) (n:Nat) (acc:List (Str × Addr)),(x,NameKind.cell)∉names->(cellsFrom n names acc).lookup x=acc.lookup x
 | [],_,_,_=>rfl
 | (y,k) :: r,n,acc,h=>by
  have hr:(x,NameKind.cell)∉r:=λz=>h (cr _ z)
  unfold cellsFrom
  split
  ·rename_i hk
   have e2:k=.cell:=eq_of_beq hk
   rw [Uc r _ _ hr,du]
   have e':(x == y)=false:=by
    cases q:x == y with
    | false=>rfl
    | true=>exact absurd (by rw [eq_of_beq q,e2]; exact cv) h
   simp only [e']
  ·exact Uc r _ _ hr
theorem Ud:∀ (names:List (Str × NameKind)) (n:Nat) (acc:List (Str × Addr)),(∀ x c,acc.lookup x=some c->c < n)->(∀ x y c,acc.lookup x=some c->acc.lookup y=some c->x=y)->
  ∀ x y c,(cellsFrom n names acc).lookup x=some c->(cellsFrom n names acc).lookup y=some c->x=y
 | [],_,_,_,h2=>h2
 | (z,k) :: r,n,acc,h1,h2=>by
  unfold cellsFrom
  split
  ·have look:∀ x c,((z,n) :: acc).lookup x=some c->(x=z/\c=n)\/acc.lookup x=some c:=λx c e=>by
    rw [du] at e
    cases q:x == z with
    | true=>
     simp only [q] at e
     exact .inl ⟨eq_of_beq q,(Option.some.inj e).symm⟩
    | false=>
     simp only [q] at e
     exact .inr e
   refine Ud r (n + 1) ((z,n) :: acc) (λx c e=>?_) λx y c e1 e2=>?_
   ·rcases look x c e with ⟨_,e⟩ | e
    ·rw [e]
     exact iu n
    ·exact lf (h1 x c e)
   ·rcases look x c e1 with ⟨a1,b1⟩ | a1 <;> rcases look y c e2 with ⟨a2,b2⟩ | a2
    ·rw [a1,a2]
    ·have:=h1 y c a2
     rw [b1] at this
     exact absurd this (da n)
    ·have:=h1 x c a1
     rw [b2] at this
     exact absurd this (da n)
    ·exact h2 x y c a1 a2
  ·exact Ud r n acc h1 h2
theorem Ue {x:Str} {c:Addr}:∀ (names:List (Str × NameKind)) (h:Heap) (acc:List (Str × Addr)),(cellsFrom h.objs.size names acc).lookup x=some c->acc.lookup x=some c\/(pushCells h names).IsCell c none
 | [],_,_,e=>.inl e
 | (y,k) :: r,h,acc,e=>by
  unfold cellsFrom at e
  unfold pushCells
  split at e
  ·rename_i hk
   rw [if_pos hk]
   have q:=Ue (x:=x) (c:=c) r (h.push { cls:=.type "cell",data:=.cell none }) ((y,h.objs.size) :: acc) (by rw [dW]; exact e)
   rcases q with q | q
   ·rw [du] at q
    cases z:x == y with
    | true=>
     simp only [z] at q
     cases q
     exact .inr ⟨_,pushCells_keeps r _ _ _ (cG _ rfl),rfl⟩
    | false=>
     simp only [z] at q
     exact .inl q
   ·exact .inr q
  ·rename_i hk
   rw [if_neg hk]
   exact Ue r h acc e
theorem gj:∀ {l:List (Str × NameKind)} {x:Str} {k:NameKind},(l.map (·.1)).Nodup->(x,k)∈l->l.lookup x=some k
 | [],_,_,_,h=>by cases h
 | (y,j) :: r,x,k,nd,h=>by
  rw [cT,fj] at nd
  rw [du]
  rcases cz.mp h with e | h
  ·cases e
   rw [beq_self_eq_true]
  ·have ne:(x == y)=false:=by
    cases q:x == y with
    | false=>rfl
    | true=>exact absurd (by rw [<- eq_of_beq q]; exact cw.mpr ⟨(x,k),h,rfl⟩) nd.1
   simp only [ne]
   exact gj nd.2 h
theorem zHE {M:Model} {A:Around} {E:Value->Shared->Prop} {s:Shared} {scope:Scope} {globals:Addr} {closure:List (Str × Addr)} {qual:Str} {func:Option Addr} {code:Value} {env:Env} {builtins:Addr} {Q:Env->Shared->Prop}
  (h:Q (newEnv scope s.heap.objs.size globals (cellsFrom (s.heap.objs.size + 1) scope.names closure) qual func code (some env) builtins) { s with heap:=pushCells (s.heap.push { cls:=.type "dict",data:=.dict #[] }) scope.names }) :
  wpAny M A (newFunctionEnv scope globals closure [] qual func code (some env) builtins) Q E s:=by
 simp only [newFunctionEnv,Option.isSome_some,if_true]
 refine wpAny_bind (wpAny_alloc ?_)
 refine wpAny_bind (wpAny_layCells _ (λname kind cells=>by cases hkc:kind == NameKind.cell <;> simp [hkc]) _ _ _ _ ?_)
 rw [show ({ s with heap:=s.heap.push { cls:=.type "dict",data:=.dict #[] } }:Shared).heap.objs.size=s.heap.objs.size + 1 from dW ..]
 simp only [iO]
 exact wpAny_bind (wpAny_pure (wpAny_pure h))
abbrev xM (X:Cx) (scope:Scope) (N:List Str) (C:Addr) (s₀:Shared) (H₀:Hp) (ex:List Addr):Cx:=
 { X with N:=N,s₀:=s₀,H₀:=H₀,env:=compEnvC scope (cellsFrom (C + 1) scope.names (vL scope X.env)) C X.env,outer:=X.stack,ex:=ex,fn:=λx=>scope.names.lookup x == some .cell,pn:=[],xe:=λ_ _=>False }
structure uA (X:Cx) (scope:Scope) (own:List Str) (caps:List (Nat × Str)):Prop where
 kind:scope.kind=.function
 nod:(scope.names.map (·.1)).Nodup
 locs:∀ y∈scope.names,y.2=.local->scope.names.lookup y.1=some .local
 free:∀ y∈scope.names,y.2=.free->(X.env.cells.lookup y.1).isSome=true
 caps:∀ p∈caps,X.N[p.1]? = some p.2/\scope.names.lookup p.2=some .free/\(X.env.kindOf p.2=some .cell\/X.env.kindOf p.2=some .free)
section
variable {X:Cx} {scope:Scope} {own:List Str} {caps:List (Nat × Str)} {pins:List (Addr × Obj)} {σ:St} {H:Hp} {s s4:Shared} {C D:Addr} {fp:List Addr}
theorem Xm (B:uA X scope own caps) {x:Str} {c n:Nat} (e:(cellsFrom n scope.names (vL scope X.env)).lookup x=some c):((x,NameKind.cell)∈scope.names/\n<=c)\/X.env.cells.lookup x=some c:=
 (Xl _ _ _ e).imp id λz=>(qD B.free z).1
theorem zJe (I:zE X pins σ H s) {x:Str} {c:Addr} (e:X.env.cells.lookup x=some c):c < s.heap.objs.size:=by
 obtain ⟨v,o,ho,_⟩:=I.cell x c e
 exact cB ho
theorem zPk (B:uA X scope own caps) (I:zE X pins σ H s) (hf:∀ b∈fp,yz X pins H b) (hC:s.heap.objs.size<=C) (hlt:∀ b∈fp,b < s.heap.objs.size):(xM X scope (zm own caps) C s H fp).Ok where
 mod:=I.ok.mod
 kind:=B.kind
 glob:=I.ok.glob
 blt:=I.ok.blt
 above:=hC
 inj:=Ud _ _ _ (λx c e=>cF (zJe I (qD B.free e).1) (Nat.le_succ_of_le hC)) λx y c h1 h2=>I.ok.inj x y c (qD B.free h1).1 (qD B.free h2).1
 has:=λx h=>by
  have fr:(x,NameKind.free)∈scope.names->∃ c,(cellsFrom (C + 1) scope.names (vL scope X.env)).lookup x=some c:=λz=>by
   obtain ⟨c,e⟩:=UT (env:=X.env) z
   exact dR.mp (dL _ _ _ (.inr (by rw [e]; rfl)))
  have ce:(x,NameKind.cell)∈scope.names->∃ c,(cellsFrom (C + 1) scope.names (vL scope X.env)).lookup x=some c:=λz=>
   dR.mp (dL _ _ _ (.inl (gj B.nod z)))
  rcases h with h | h
  ·rcases zE2 (show (relabel scope X.env).names.lookup x=some .cell from h) with ⟨_,z | z⟩ | z
   ·exact fr z
   ·exact ce z
   ·exact ce z
  ·rcases zE2 (show (relabel scope X.env).names.lookup x=some .free from h) with ⟨z,_⟩ | z
   ·cases z
   ·exact fr z
 cab:=λx c h e=>by
  have hx:scope.names.lookup x=some .cell:=eq_of_beq h
  rcases Xl _ _ _ e with ⟨_,z⟩ | z
  ·exact dz hC (lh z)
  ·have:=gj B.nod (qD B.free z).2
   rw [hx] at this
   cases this
 hd:=I.ok.hd
 frames:=I.ok.frames
 stk:=.inl rfl
 exf:=λb hb=>⟨λe=>by have:=hlt b hb; rw [e] at this; exact absurd (cF this hC) (da _),λx c e=>by
  rcases Xm B e with ⟨_,z⟩ | z
  ·exact ZY (hlt b hb) hC z
  ·exact (hf b hb).2.2.2.2.1 x c z⟩
 bs:=I.bs
 bsz:=dz I.ok.bsz I.sz
 noex:=λb o e hb=>by
  rcases (hf b hb).2.2.2.1 with z | z
  ·exact I.ok.noex b o e z
  ·exact absurd (cF (cB e) (dz I.ok.bsz z)) (da _)
 exfs:=λb hb z=>by
  rcases cz.mp (I.stkSub b z) with e | z
  ·exact (hf b hb).2.1 e
  ·exact (hf b hb).2.2.1 z
 funs:=I.stack
 frf:=I.stkFree
theorem zNh (B:uA X scope own caps) (I:zE X pins σ H s) (hf:∀ b∈fp,yz X pins H b) (hC:s.heap.objs.size<=C) (hlt:∀ b∈fp,b < s.heap.objs.size)
  {m:Str->Option Value} (hn:s4.heap.Ns C m) (hk:∀ b o,s.heap.get? b=some o->s4.heap.get? b=some o) (hcell:∀ x c,(cellsFrom (C + 1) scope.names (vL scope X.env)).lookup x=some c->(vL scope X.env).lookup x=some c\/s4.heap.IsCell c none) (ho:s4.os=s.os) (hb:AllBare s4.gens) :
  zE (xM X scope (zm own caps) C s H fp) [] (vo own caps σ) H s4 where
 ok:=zPk B I hf hC hlt
 os:=ho
 bare:=hb
 base:=Un.kept hk
 loc:=⟨m,hn,λi x v h1 h2 h3=>by
  obtain ⟨j,hm,hs⟩:=zNf h1 h2
  obtain ⟨c1,c2,c3⟩:=B.caps _ hm
  obtain ⟨m',_,hl⟩:=I.loc
  have vis:gR X.env.scope x:=c3.elim (λz=>.inr (.inl z)) λz=>.inr (.inr z)
  obtain ⟨u,r,l⟩:=hl j x v c1 hs vis
  refine ⟨u,r,.inr ?_⟩
  have hm2:(x,NameKind.free)∈scope.names:=gd c2
  obtain ⟨c',hc'⟩:=UT (env:=X.env) hm2
  have hc2:=(qD B.free hc').1
  have noc:(x,NameKind.cell)∉scope.names:=λz=>by
   have:=gj B.nod z
   rw [c2] at this
   cases this
  refine ⟨?_,c',(Uc _ _ _ noc).trans hc',?_⟩
  ·show (relabel scope X.env).names.lookup x=some .cell\/(relabel scope X.env).names.lookup x=some .free
   rw [zE1,c2,fq]
   split
   ·exact .inl rfl
   ·exact .inr rfl
  ·rcases l with ⟨k,_⟩ | ⟨_,c,e,z⟩
   ·rcases c3 with c3 | c3 <;> rw [c3] at k <;> cases k
   ·rw [hc2] at e
    cases e
    obtain ⟨o,e1,e2⟩:=z
    exact ⟨o,hk _ o e1,e2⟩⟩
 cell:=λx c e=>by
  rcases hcell x c e with z | z
  ·obtain ⟨v,o,e1,e2⟩:=I.cell x c (qD B.free z).1
   exact ⟨v,o,hk _ o e1,e2⟩
  ·exact ⟨none,z⟩
 free:=I.hok.fresh hC
 freeC:=λx c e=>by
  rcases Xm B e with ⟨_,z⟩ | z
  ·exact I.hok.fresh (dz hC (lh z))
  ·exact I.freeC x c z
 pin:=λp hp=>by simp at hp
 hok:=I.hok.kept hk
 len:=by
  show (vo own caps σ).length=(zm own caps).length
  unfold vo zm
  simp
end
theorem zNi {X:Cx} {scope S:Scope} {own N:List Str} {caps:List (Nat × Str)} (k:scope.kind=.function) (nd:(scope.names.map (·.1)).Nodup)
  (hS:X.env.scope=S) (hc:∃ n,X.env.cells=cellsFrom n S.names []) (hN:X.N=N) (fr:scope.names.all (λy=>y.2 != .free || S.names.lookup y.1 == some .cell)=true)
  (cp:caps.all (λp=>N[p.1]? == some p.2 && scope.names.lookup p.2 == some .free && S.names.lookup p.2 == some .cell)=true):uA X scope own caps:=by
 obtain ⟨nn,hc⟩:=hc
 refine ⟨k,nd,λy hy e=>?_,λy hy e=>?_,λp hp=>?_⟩
 ·exact gj nd (by rw [<- e]; exact hy)
 ·have q:=cR.mp fr y hy
  rw [e] at q
  have q2:S.names.lookup y.1=some .cell:=by simpa using q
  rw [hc]
  exact dL S.names nn [] (.inl q2)
 ·have q:=cR.mp cp p hp
  simp only [dq,beq_iff_eq] at q
  refine ⟨by rw [hN]; exact q.1.1,q.1.2,.inl ?_⟩
  show X.env.scope.names.lookup p.2=some .cell
  rw [hS]
  exact q.2
theorem zRZ {Y:Cx} {scope S:Scope} {own own0:List Str} {caps caps0:List (Nat × Str)} {C:Addr} {s₀:Shared} {H₀:Hp} {ex:List Addr} (k:scope.kind=.function) (nd:(scope.names.map (·.1)).Nodup)
  (ndS:(S.names.map (·.1)).Nodup) (fr:scope.names.all (λy=>y.2 != .free || S.names.lookup y.1 == some .cell || S.names.lookup y.1 == some .free)=true)
  (cp:caps.all (λp=>(zm own0 caps0)[p.1]? == some p.2 && scope.names.lookup p.2 == some .free)=true):uA (xM Y S (zm own0 caps0) C s₀ H₀ ex) scope own caps:=by
 have fr':∀ y∈scope.names,y.2=.free->S.names.lookup y.1=some .cell\/S.names.lookup y.1=some .free:=λy hy e=>by
  have q:=cR.mp fr y hy
  rw [e] at q
  simpa using q
 refine ⟨k,nd,λy hy e=>?_,λy hy e=>?_,λp hp=>?_⟩
 ·exact gj nd (by rw [<- e]; exact hy)
 ·show ((cellsFrom (C + 1) S.names (vL S Y.env)).lookup y.1).isSome=true
  refine dL _ _ _ ?_
  rcases fr' y hy e with z | z
  ·exact .inl z
  ·obtain ⟨c,e⟩:=UT (env:=Y.env) (gd z)
   exact .inr (by rw [e]; rfl)
 ·have q:=cR.mp cp p hp
  simp only [dq,beq_iff_eq] at q
  refine ⟨q.1,q.2,?_⟩
  show (relabel S Y.env).names.lookup p.2=some .cell\/(relabel S Y.env).names.lookup p.2=some .free
  rw [zE1]
  rcases fr' _ (gd q.2) rfl with z | z
  ·left
   show (S.names.lookup p.2).map _=_
   rw [z]
   rfl
  ·show (S.names.lookup p.2).map _=_\/(S.names.lookup p.2).map _=_
   rw [z,fq]
   split
   ·exact .inl rfl
   ·exact .inr rfl
end L2
namespace Sh
open PySem L2
theorem jD {H:Hp} {p:Addr} (h:H p=none) (o:HO):zL H (zV H p o):=λb u q=>by rw [zl (wC q h)]; exact q
def Tp (H:Hp) (v:V) (xs:List V):Prop:=∃ a,v=.ref a/\H a=some (.tup xs)
theorem Uf {α β:Type} {R:α->β->Prop}:∀ {xs:List α} {ys:List β} {i:Nat} {x:α},Paired R xs ys->xs[i]? = some x->∃ y,ys[i]? = some y/\R x y
 | _,_,_,_,.nil,e=>by simp at e
 | _,_,0,_,.cons r _,e=>by simp at e; subst e; exact ⟨_,rfl,r⟩
 | _,_,i + 1,x,.cons _ t,e=>by
  obtain ⟨y,h1,h2⟩:=Uf (i:=i) (x:=x) t (by simpa using e)
  exact ⟨y,by simpa using h1,h2⟩
theorem ZZ {α β:Type} {R:α->β->Prop} {x:α} {y:β} (r:R x y):∀ {xs:List α} {ys:List β},Paired R xs ys->Paired R (xs++[x]) (ys++[y])
 | _,_,.nil=>.cons r .nil
 | _,_,.cons q t=>.cons q (ZZ r t)
theorem qF {α β:Type} {R:α->β->Prop}:∀ {xs zs:List α} {ys us:List β},Paired R xs ys->Paired R zs us->Paired R (xs++zs) (ys++us)
 | _,_,_,_,.nil,h=>h
 | _,_,_,_,.cons q t,h=>.cons q (qF t h)
theorem qG {α:Type} {l:List α} {i:Nat} {x:α} (h:l[i]? = some x):l.take (i + 1)=l.take i++[x]:=by
 obtain ⟨hi,e⟩:=cP.mp h
 rw [fF hi,e]
abbrev Za (H:Hp) (vs:List V) (ks:List (List Int)):Prop:=Paired (λv (k:List Int)=>Tp H v (k.map V.int)) vs ks
end Sh
namespace L2
open PySem PySem.Spec PyProof.Rows
section
variable {X:Cx}
def Zb (K:cg):R2:=λx y H Q=>∃ d e:PyData,Dp K H x d/\Dp K H y e/\d.canLay0=true/\e.canLay0=true/\d.depth<=60/\e.depth<=60/\Q (.bl (ik d e)) H
theorem zOB (hu:X.A.units + 64 < cLine):yt X (compareOp .Eq) (Zb X.K):=by
 intro pins s σ H x y v u Q I rx ry h
 obtain ⟨d,e,hx,hy,hc,hc',hd,hd',q⟩:=h
 obtain ⟨_,r1⟩:=hx.reads I rx
 obtain ⟨_,r2⟩:=hy.reads I ry
 exact SeqAt.compareEq_reads r1 r2 hc hc' (by omega) ⟨.bl _,H,I,rfl,q⟩
end
end L2
namespace Sh
open PySem L2
theorem zHw:∀ ns ms:List Int,fu (ns.map PyData.int) (ms.map PyData.int)=decide (ns=ms)
 | [],[]=>by simp [fu]
 | [],_ :: _=>by simp [fu]
 | _ :: _,[]=>by simp [fu]
 | a :: r,b :: t=>by
  have ih:=zHw r t
  simp only [cT,fu,ik,ih,List.cons.injEq]
  by_cases h1:a=b <;> by_cases h2:r=t <;> simp [h1,h2]
structure vO (ws:List Int) (n:Nat):Prop where
 len:ws.length=n
 bd:∀ w∈ws,Bd 1000 w
def ya (rows:List (List Int)) (nums:List Int) (j:Nat):Int:=((rows.zip nums).map λp=>p.1.getD j 0 * p.2).sum
def uQ (rows:List (List Int)) (tw:List Int) (o:Int) (nums:List Int) (n:Nat):Bool:=
 if o=0 then ((cO n).map (ya rows nums)).all (λx=>decide (x=0)) && decide (ya rows nums n < 0)
 else decide ((cO n).map (ya rows nums)=(tw.take n).map (o * ·)) && decide (ya rows nums n<=o * tw.getD n 0)
def lin (n:Nat) (c:Nat->Int) (r:List Int):Int:=((cO n).map λi=>r.getD i 0 * c i).sum
end Sh
namespace L2
open PySem PySem.Spec PyProof.Rows
theorem zQq {c x y:Addr} (h:c∉[x,y]):c≠x/\c≠y:=by
 simp only [cz,cZ,or_false,not_or] at h
 exact h
end L2
namespace L2
open PySem PySem.Spec PyProof.Rows
section
variable {prog:Program} {w:World} {A:Around} {E:Value->Shared->Prop} {s:Shared}
theorem zJm {T nw ini:String} {B1 B2:Builtin} {xs:List Value} {kw:List (Str × Value)} {S:PySem.Spec} {Q R1:Value->Shared->Prop} (ft:TypeCalled T nw ini)
  (c1:checkTypeCall T ⟨xs,kw⟩=pure ()) (c2:checkBuiltinCall nw ⟨.type T :: xs,kw⟩=pure ())
  (e1:entryFor table nw=some B1) (e2:entryFor table ini=some B2) (m1:Meets (B1 ⟨.type T :: xs,kw⟩) S)
  (hS:S A.in1 (wants R1 E) s)
  (nxt:∀ o s1,R1 o s1->s1.TypeIs o T/\argsOk ini ⟨o :: xs,kw⟩/\∃ S2,Meets (B2 ⟨o :: xs,kw⟩) S2/\S2 A.in1 (wants (λr s2=>r=.none/\Q o s2) E) s1) :
  wpAny (model prog w) A (call (.type T) xs kw) Q E s:=by
 obtain ⟨c,tl,k1⟩:=ft.mro
 have k2:=ft.made
 have k3:=ft.sub
 have k4:=ft.notType
 have k5:=ft.canCreate
 refine wpAny_call (codeAny_of_tree ?_)
 show wpAny _ _ (callAny (.type T) _) _ _ _
 refine wpAny_pure ⟨Code.quiet_builtin _ (by decide +kernel),codeAny_builtin F.entry_type_call ?_⟩
 rw [Around.under_plain (weight_type_call_type T xs kw) (units_type_call_type T xs kw)]
 repeat (any_goals (first | assumption | wp_step))
 refine codeAny_mono (codeAny_call_builtin ft.plain e1 (wpAny_of_eq c2 (m1 prog w A.in1 _ s hS))) λr s1 z=>?_
 cases r with
 | error e=>exact z
 | ok fl=>
  cases fl with
  | ret o=>
   obtain ⟨hT,ok,S2,m2,z2⟩:=nxt _ _ z
   have l1:=ft.init.lookup
   have l2:=ft.init.bind o
   repeat (any_goals (first | assumption | wp_step))
   refine codeAny_mono (codeAny_call_builtin ft.init.plain e2 (ft.init.check _ _ _ _ _ _ _ _ hT ok (m2 prog w A.in1 _ s1 z2))) λr2 s2 y=>?_
   cases r2 with
   | error e=>exact y
   | ok fl2=>
    cases fl2 with
    | ret r=>
     obtain ⟨rfl,y⟩:=y
     repeat (any_goals (first | assumption | wp_step))
    | _=>exact y.elim
  | _=>exact z.elim
theorem zNH {T nw:String} {o a:Value} {kw:List (Str × Value)} (h1:typeLookup (.type T) "__init__" = pure (some (.builtin "object.__init__")))
  (h2:Bind.madeBy (.type T)=pure (some nw)) (h3:(some nw != some "object.__new__")=true) :
  Meets (Builtin.«object.__init__» ⟨[o,a],kw⟩) (λ_ R s=>s.TypeIs o T/\R (.ok (.ret .none)) s):=by
 refine Meets.of_wp λprog w A R s z=>?_
 obtain ⟨hT,q⟩:=z
 repeat (any_goals (first | assumption | wp_step))
 exact ⟨_,rfl,q⟩
theorem zNJ (o a v:Value):argsOk "object.__init__" ⟨[o,a],[("start",v)]⟩:=by
 unfold argsOk
 rw [signature?_of (id:="object.__init__") (n:=['_','_','t','i','n','i','_','_'])
  (o:=['t','c','e','j','b','o']) (by kernel_rfl) F.owner_object]
 kernel_rfl
theorem zRK (a v:Value):checkTypeCall "enumerate" ⟨[a],[("start",v)]⟩=pure ():=by kernel_rfl
theorem zRN (a v:Value):checkBuiltinCall "enumerate.__new__" ⟨[.type "enumerate",a],[("start",v)]⟩=pure ():=by kernel_rfl
end
open AutoSeq1 in
theorem zIk (l:Addr) (its:Array Value) (m:Nat) (dct:Option Addr) (sl:Array (Option Value)) (n:Int) (tn:Tok) (fit:Builtin.SmallTypes.fitsIndex n=true) :
  Meets (Builtin.«enumerate.__new__» ⟨[.type "enumerate",.ref l],[("start",.int n tn)]⟩) (λ_ R s=>s.heap.get? l=some { cls:=.type "list",dict:=dct,data:=.seq its m,slots:=sl }∧
   R (.ok (.ret (.ref (s.heap.push { cls:=.type "list_iterator",data:=.fields #[.ref l,.int 0 0] }).objs.size)))
    { s with heap:=(s.heap.push { cls:=.type "list_iterator",data:=.fields #[.ref l,.int 0 0] }).push { cls:=.type "enumerate",data:=.fields #[.none,.bool false,.ref s.heap.objs.size,rawInt n,.none,.none] } }):=
 .of_wp λprog w A R s z=>by
  obtain ⟨hp,g,d,tk,os⟩:=s
  obtain ⟨e1,z⟩:=z
  have k0:=sub_enumerate
  have k1:Heap.IsList (Shared.heap ⟨hp,g,d,tk,os⟩) l its:=⟨_,e1,rfl,m,rfl⟩
  wp_walk using wpAny_loadPart' e1
  refine wpAny_stack_any λst=>wpAny_pure ?_
  split
  ·rename_i c _ _ _ _ _
   cases (c == Value.type "enumerate")
   ·wp_walk using wpAny_loadPart' e1,wpAny_pyIter_list k1
    simp only [fit,i0,dJ,if_false]
    wp_walk using wpAny_loadPart' e1,wpAny_pyIter_list k1
    exact ⟨_,rfl,z⟩
   ·wp_walk using wpAny_loadPart' e1,wpAny_pyIter_list k1
    simp only [fit,i0,dJ,if_false]
    wp_walk using wpAny_loadPart' e1,wpAny_pyIter_list k1
    exact ⟨_,rfl,z⟩
  ·wp_walk using wpAny_loadPart' e1,wpAny_pyIter_list k1
   simp only [fit,i0,dJ,if_false]
   wp_walk using wpAny_loadPart' e1,wpAny_pyIter_list k1
   exact ⟨_,rfl,z⟩
section
variable {prog:Program} {w:World} {A:Around} {E:Value->Shared->Prop} {s:Shared}
theorem zKG {l:Addr} {its:Array Value} {n:Int} {tn:Tok} {Q:Value->Shared->Prop} (hL:s.heap.IsList l its) (fit:Builtin.SmallTypes.fitsIndex n=true)
  (k:∀ g,IsEnum g (s.heap.objs.size + 1) s.heap.objs.size n .none->g.IsListIter s.heap.objs.size l 0->
   (∀ b o,s.heap.get? b=some o->g.get? b=some o)->Q (.ref (s.heap.objs.size + 1)) { s with heap:=g }) :
  wpAny (model prog w) A (call (.type "enumerate") [.ref l] [("start",.int n tn)]) Q E s:=by
 obtain ⟨⟨c,dc,dt,sl⟩,el,ec,m,ed⟩:=hL
 replace ec:c=.type "list":=ec
 replace ed:dt=.seq its m:=ed
 subst ec ed
 refine zJm (R1:=λo s1=>s1.TypeIs o "enumerate"/\Q o s1) F.called_enumerate (zRK _ _) (zRN _ _) F.entry_enumerate_new F.entry_object_init
  (zIk l its m dc sl n tn fit) ⟨el,?_⟩ (λo s1 q=>⟨q.1,zNJ o _ _,_,zNH F.called_enumerate.init.lookup F.called_enumerate.made (by decide),q.1,rfl,q.2⟩)
 have sz:(s.heap.push { cls:=.type "list_iterator",data:=.fields #[.ref l,.int 0 0] }).objs.size=s.heap.objs.size + 1:=
  dW ..
 show _/\_
 rw [sz]
 have ee:IsEnum ((s.heap.push { cls:=.type "list_iterator",data:=.fields #[.ref l,.int 0 0] }).push
   { cls:=.type "enumerate",data:=.fields #[.none,.bool false,.ref s.heap.objs.size,rawInt n,.none,.none] }) (s.heap.objs.size + 1) s.heap.objs.size n .none:=by
  have y:=cG (s.heap.push { cls:=.type "list_iterator",data:=.fields #[.ref l,.int 0 0] })
   (o:={ cls:=.type "enumerate",data:=.fields #[.none,.bool false,.ref s.heap.objs.size,rawInt n,.none,.none] }) rfl
  rw [sz] at y
  exact y
 exact ⟨⟨_,ee,rfl⟩,k _ ee ⟨_,ck _ (cG _ rfl),rfl,rfl⟩ λb o x=>ck _ (ck _ x)⟩
theorem zOW {it l:Addr} {its:Array Value} (k:Nat) (hh:A.handled=none) (ne:l≠it) :
  Draws prog w A it [it,l] (k + its.size) (λj x=>its[j - k]? = some x) (λj h=>k<=j/\h.IsListIter it l (j - k)/\h.IsList l its) where
 live:=λj h ⟨_,⟨o,e,_⟩,_⟩=>⟨o,e⟩
 frame:=λj h h' ⟨a,⟨o,e,r⟩,⟨o2,e2,r2⟩⟩ kp=>⟨a,⟨o,kp it (by simp) o e,r⟩,⟨o2,kp l (by simp) o2 e2,r2⟩⟩
 item:=λj s Q E lt ⟨le,hi,hl⟩ kQ=>by
  have jl:j - k < its.size:=by omega
  refine wpAny_nextOf_list_item hi hl (x:=its[j - k]) (by simp [jl]) λg gi same=>?_
  refine kQ _ g s.toks (by simp [jl]) ⟨by omega,?_,hl.extBut same.extBut ne⟩ same
  rw [show j + 1 - k=j - k + 1 by omega]
  exact gi
 done:=λs Q E ⟨le,hi,hl⟩ kE=>wpAny_nextOf_list_end hh hi hl (by simp) kE
end
section
variable {M:Model} {A:Around} {E:Value->Shared->Prop} {s:Shared}
theorem zPi {pos:Pos} {T:String} {x:Sem Value} {more:List (Bool × Sem Value)} {kws:List (Option Str × Sem Value)} {Q:Value->Shared->Prop}
  (p1:more.any (·.1)=false) (p2:kws.any (·.1.isNone)=false) (p3:kws.all (·.1.isSome)=true)
  (h:wpAny M A (spliced ((false,x) :: more)) (λvs s1=>wpAny M A (evalAll (kws.map (·.2))) (λks s2=>wpAny M A (call (.type T) vs ((kws.filterMap (·.1)).zip ks)) Q E s2) E s1) E s) :
  wpAny M A (callWith pos (.type T) [] ((false,x) :: more) kws) Q E s:=by
 unfold callWith
 refine wpAny_bind (wpAny_holding (wpAny_mono (evalArgs_kwB (f:=.type T) (Q:=λa s1=>wpAny M A (call (.type T) a.pos a.kw) Q E s1) p3 h) (λa s1 q=>wpAny_bind (wpAny_standAt ?_)) λ_ _ z=>z))
 have e:(((false,x) :: more).any (·.1))=false:=by
  show (false || more.any (·.1))=false
  rw [p1]
  rfl
 simp only [e,p2,l4]
 refine wpAny_bind (wpAny_pure ?_)
 exact wpAny_bind (wpAny_mono q (λr s2 y=>wpAny_bind (wpAny_holding (wpAny_point (wpAny_pure y)))) λ_ _ z=>z)
end
def qH (K:cg) (a:Addr) (k:Nat):It:=
 ⟨λi H=>∃ xs x,zw K H a xs/\xs[i]? = some x,
  λi H v H'=>∃ T x,v=.ref T/\H T=none/\H'=zV H T (.tup [.int ((k + i:Nat):Int),x])/\∀ xs,zw K H a xs->xs[i]? = some x,
  λi H=>∃ xs,zw K H a xs/\i=xs.length⟩
theorem zJp {P:Program} {w:World} {K:cg} {es:List Expr} {kk:Nat} {tp:Pos} {a e it:Addr} {k:Nat} (ne:e≠it) (nl:a≠it) :
  vF P w K (.Tuple es kk tp) (qH K a k) [e,it] e (λi h=>(∃ old,IsEnum h e it ((k + i:Nat):Int) old)/\h.IsListIter it a i) where
 mem:=by simp
 obj:=λi h ⟨⟨old,t1⟩,t2⟩ c hc=>by
  simp only [cz,cZ,or_false] at hc
  rcases hc with rfl | rfl
  ·exact ⟨_,t1,ZV⟩
  ·obtain ⟨o,e,_,d⟩:=t2
   exact ⟨o,e,by rw [d]; exact ZV⟩
 keep:=λi h h' ⟨⟨old,t1⟩,t2⟩ z=>⟨⟨old,z e (by simp) _ t1⟩,(by obtain ⟨o,q,r⟩:=t2; exact ⟨o,z it (by simp) o q,r⟩)⟩
 item:=by
  intro X hP hw hK hc i pins s σ H E I hf ⟨⟨old,t1⟩,t2⟩ hg
  subst hP hw hK
  obtain ⟨xs,x,hq,hx⟩:=hg
  obtain ⟨its,rv,p,_⟩:=I.list hq
  obtain ⟨u,hu,ru⟩:=rv.get hx
  have li:i < its.length:=(cP.mp hu).1
  have nea:e≠a:=λz=>by
   obtain ⟨o,eo,cl,_⟩:=p.isList
   rw [z] at t1
   rw [t1] at eo
   cases eo
   have cl2:Value.type "enumerate" = Value.type "list":=cl
   exact absurd (Value.type.inj cl2) (by decide)
  have D:=zOW (prog:=X.prog) (w:=X.w) (A:=X.A.in1) (it:=it) (l:=a) (its:=its.toArray) k (I.ok.hd hc) nl
  refine wpAny_pyNext_enum_itemD D (i:=k + i) t1 ⟨by omega,by rw [io]; exact t2,p.isList⟩ (by simp; omega) ne (by simp [ne,nea]) ?_
  intro v h1 tk hv z1 z2 z3 z4 keep
  rw [io] at hv
  have ev:v=u:=by
   have:its[i]? = some v:=by simpa using hv
   rw [hu] at this
   exact (Option.some.inj this).symm
  subst ev
  refine ⟨_,rfl,wpAny_letOwnedTupleGo_enum (s:={ s with heap:=h1,toks:=tk + 1 }) z1 λh2 z5 sb=>?_⟩
  have elt:e < s.heap.objs.size:=cB t1
  have keep2:∀ c o,c∉[e,it]->s.heap.get? c=some o->h2.get? c=some o:=λc o hc q=>by
   obtain ⟨c1,c2⟩:=zQq hc
   exact sb.extBut c o c1 (keep c o c1 c2 q)
  have pT:IsPair h2 s.heap.objs.size (.int ((k + i:Nat):Int) tk) v:=sb.extBut _ _ (fN elt) z3
  have I':=I.turnT (h':=h2) (tk:=tk + 1) (ch:=[e,it]) (x:=.int ((k + i:Nat):Int)) (y:=x) hf keep2 (cL _) pT ⟨_,rfl⟩ ru
  have z2':h1.IsListIter it a (i + 1):=by
   have:=z2.2.1
   rw [show k + i + 1 - k=i + 1 by omega] at this
   exact this
  refine ⟨.ref s.heap.objs.size,_,I',rfl,⟨s.heap.objs.size,x,rfl,I.hok.fresh (cL _),rfl,λxs' q=>by rw [I.list_inj q hq]; exact hx⟩,
   ⟨⟨v,by rw [show ((k + (i + 1):Nat):Int)=((k + i:Nat):Int) + 1 by omega]; exact z5⟩,z2'.extBut sb.extBut (Ne.symm ne)⟩,λc hc=>?_⟩
  have:=(hf c hc).1
  rw [zl]
  ·exact this
  ·intro q
   obtain ⟨o,e1⟩:∃ o,s.heap.get? c=some o:=by
    simp only [cz,cZ,or_false] at hc
    rcases hc with rfl | rfl
    ·exact ⟨_,t1⟩
    ·obtain ⟨o,e1,_⟩:=t2; exact ⟨o,e1⟩
   rw [q] at e1
   exact absurd (cB e1) (da _)
 done:=by
  intro X hP hw hK hc i pins s σ H E I hf ⟨⟨old,t1⟩,t2⟩ hg
  subst hP hw hK
  obtain ⟨xs,hq,e1⟩:=hg
  obtain ⟨its,rv,p,_⟩:=I.list hq
  have n1:its.length=xs.length:=rv.length.symm
  have D:=zOW (prog:=X.prog) (w:=X.w) (A:=X.A.in1) (it:=it) (l:=a) (its:=its.toArray) k (I.ok.hd hc) nl
  refine wpAny_pyNext_enum_endD D t1 ⟨by simp,by simp; rw [n1,<- e1]; exact t2,p.isList⟩ ?_
  intro h1 ext
  refine ⟨rfl,I.turnN (h':=h1) (tk:=s.toks) (ch:=[e,it]) hf λc o hc q=>?_⟩
  exact ext c o (zQq hc).2 q
 self:=λ_ _ _ _ _ ⟨⟨_,st⟩,_⟩ h=>wpAny_pyIter_enum st h
section
variable {X:Cx} {es:List Expr} {kk:Nat} {tp:Pos}
def zQ9 (K:cg) (ta:TA) (te:TE):TI:=λσ H R=>ta σ H λvs H1=>∃ a,vs=[.ref a]/\te σ H1 λv H2=>∃ k:Nat,v=.int (k:Int)/\Builtin.SmallTypes.fitsIndex (k:Int)=true/\(∃ xs,zw K H2 a xs)/\R (qH K a k) H2
theorem zMv {e1 e2:Expr} {ta:TA} {te:TE} {p pos kp:Pos} (hg:Gl X "enumerate") (hm:X.mg "enumerate" = none) (ha:PA X [e1] ta) (he:PE X e2 te) (hs:starEach [e1] X.env=[(false,eval e1 X.env)]:=by rfl) (hs2:starEach [] X.env=[]:=by rfl) :
  PI X (.Tuple es kk tp) (.Call (.Name "enumerate" p) [e1] [⟨some "start",e2,kp⟩] pos) (zQ9 X.K ta te):=by
 intro pins s σ H R I h
 refine wpAny_Call_Name_kw (gT I hg hm (show bootBuiltins "enumerate" = some (.type "enumerate") by decide +kernel) ?_)
 have h1:=ha pos pins s σ H _ I h
 rw [hs] at h1 |-
 refine zPi (T:="enumerate") rfl rfl rfl (zk h1 λus s1 ⟨vs,H1,I1,r1,q1⟩=>?_)
 obtain ⟨a,e,q2⟩:=q1
 subst e
 obtain ⟨u,rfl,ru⟩:=jS r1
 cases ru
 refine kws_cons (zk (he pins s1 σ H1 _ I1 q2) λu2 s2 ⟨v,H2,I2,r2,q3⟩=>kws_nil ?_)
 obtain ⟨k,rfl,fit,⟨xs,hx⟩,q⟩:=q3
 obtain ⟨tk,rfl⟩:=r2
 obtain ⟨its,rv,p1,_⟩:=I2.list hx
 have la:a < s2.heap.objs.size:=by obtain ⟨o,n,e,_⟩:=p1; exact cB e
 refine zKG p1.isList fit λh' z1 z2 keep=>wpAny_pyIter_enum z1 ?_
 have I3:zE X pins σ H2 { s2 with heap:=h' }:=I2.kept (t':=s2.toks) keep
 refine ⟨s2.heap.objs.size + 1,[s2.heap.objs.size + 1,s2.heap.objs.size],_,_,H2,rfl,I3,zJp (a:=a) (k:=k) (Nat.succ_ne_self _) (dg la),⟨⟨_,z1⟩,z2⟩,λc hc=>?_,q⟩
 have ge:s2.heap.objs.size<=c:=by
  simp only [cz,cZ,or_false] at hc
  rcases hc with rfl | rfl
  ·exact eM _ 1
  ·exact cL _
 exact I2.fpOk ge (I2.hok.fresh ge)
end
end L2
namespace Sh
open PySem L2
inductive Kd where
 | int | bool | non | str | lst | tup | dic
 deriving DecidableEq
def Kd.nm:Kd->String
 | .int=>"int" | .bool=>"bool" | .non=>"NoneType" | .str=>"str" | .lst=>"list" | .tup=>"tuple" | .dic=>"dict"
def Kd.whole:Kd->Bool
 | .int=>true
 | _=>false
def Kd.isInt:Kd->Bool
 | .int=>true
 | .bool=>true
 | _=>false
def Kd.isBool:Kd->Bool
 | .bool=>true
 | _=>false
def Kd.isTup:Kd->Bool
 | .tup=>true
 | _=>false
def Kd.isLst:Kd->Bool
 | .lst=>true
 | _=>false
section
variable (K:cg)
theorem qI (k:Kd):cE K (.type k.nm) (.type "int")=some k.isInt:=by
 cases k <;> first | rfl | decide +kernel | (unfold cE; rw [if_pos (by decide +kernel)]; rfl) | (unfold cE; rw [if_neg (by decide +kernel)]; rfl)
theorem qJ (k:Kd):cE K (.type k.nm) (.type "bool")=some k.isBool:=by
 cases k <;> first | rfl | decide +kernel | (unfold cE; rw [if_pos (by decide +kernel)]; rfl) | (unfold cE; rw [if_neg (by decide +kernel)]; rfl)
theorem uo (k:Kd):cE K (.type k.nm) (.type "tuple")=some k.isTup:=by
 cases k <;> first | rfl | decide +kernel | (unfold cE; rw [if_pos (by decide +kernel)]; rfl) | (unfold cE; rw [if_neg (by decide +kernel)]; rfl)
theorem uq (k:Kd):cE K (.type k.nm) (.type "list")=some k.isLst:=by
 cases k <;> first | rfl | decide +kernel | (unfold cE; rw [if_pos (by decide +kernel)]; rfl) | (unfold cE; rw [if_neg (by decide +kernel)]; rfl)
end
end Sh
namespace L2
open PySem PySem.Spec PyProof.Rows
structure yo (K:cg) (mg:Str->Option Value) (x:Str) (C:Addr):Prop where
 cl:uN K C
 mgC:mg x=some (.ref C)
 ha:dI K (.ref C) "__class__" = some (some (.builtin "object.__class__"))
 hn:i9 K (.builtin "object.__class__") "__get__" = some (some (.builtin "getset_descriptor.__get__"))
 htk:lM K (.builtin "object.__class__")=some true
 hm:lY K C (.type "object")=some true
theorem yo.ty {K:cg} {mg:Str->Option Value} {x:Str} {C a dx:Addr} {H:Hp} {fs:List (Str × V)} (T:yo K mg x C) (e:H a=some (.ins C dx fs)):yQ K H (.ref a) (.ref C):=.ins e T.cl T.ha T.hn T.htk T.hm
structure uB (P:Program) (w:World) (K:cg) (mg:Str->Option Value) (base:Heap) (C:Addr) (m:Str) (ps:List Str) (k:Nat) (sp:Sp):Prop where
 ex:∃ f fd,zF P w K mg base zT k f fd ps sp/\j8 K C m f/\w6 K fd ps []
structure ur (P:Program) (w:World) (K:cg) (mg:Str->Option Value) (base:Heap) (C:Addr) (ps:List Str) (k:Nat) (sp:Sp):Prop where
 ex:∃ f fd,zF P w K mg base zT k f fd ps sp/\Mk K C f/\w6 K fd ps []
theorem uB.mono {P:Program} {w:World} {K:cg} {mg:Str->Option Value} {base:Heap} {C:Addr} {m:Str} {ps:List Str} {j k:Nat} {sp:Sp} (F:uB P w K mg base C m ps j sp) (h:j<=k:=by decide):uB P w K mg base C m ps k sp:=by
 obtain ⟨f,fd,a,b,c⟩:=F.ex
 exact ⟨f,fd,a.mono h,b,c⟩
theorem ur.mono {P:Program} {w:World} {K:cg} {mg:Str->Option Value} {base:Heap} {C:Addr} {ps:List Str} {j k:Nat} {sp:Sp} (F:ur P w K mg base C ps j sp) (h:j<=k:=by decide):ur P w K mg base C ps k sp:=by
 obtain ⟨f,fd,a,b,c⟩:=F.ex
 exact ⟨f,fd,a.mono h,b,c⟩
section
variable {X:Cx} {C:Addr} {m x:Str} {ps:List Str} {k:Nat} {sp:Sp} {o e:Expr} {es:List Expr} {ta:TE} {t:TA} {p pos apos:Pos} {dv:V}
theorem zKx {pl:Sem Bool} (F:uB X.prog X.w X.K X.mg X.base C m ps k sp) (T:yo X.K X.mg x C) (hr:zZ k X.A) (he:PE X o ta)
  (ht:eval (.Call (.Attribute o m apos) [] [] pos) X.env=(do
   let ov <- eval o X.env
   standAt apos.atName
   let (f,first) <- holding [ov] (getMethod ov m pl)
   callWith pos f first (backTo pos (starEach [] X.env)) (backToKw pos (keywordEach [] X.env))):=by rfl) :
  PE X (.Call (.Attribute o m apos) [] [] pos) (K5 C m sp [] E0 ta wS):=by
 obtain ⟨f,fd,a,b,c⟩:=F.ex
 exact zMw he T.cl b a hr c .nil Xi ht
theorem zMx (F:ur X.prog X.w X.K X.mg X.base C ps k sp) (T:yo X.K X.mg x C) (hr:zZ (k + 1) X.A) (hg:Gl X x) (ha:PA X (e :: es) t)
  (hdb:(x == ("__debug__" : Str))=false:=by decide) (he:starEach (e :: es) X.env=(false,eval e X.env) :: starEach es X.env:=by rfl) (hpl:(backTo pos (starEach es X.env)).any (·.1)=false:=by rfl) :
  PE X (.Call (.Name x p) (e :: es) [] pos) (Xf C sp [] E0 t):=by
 obtain ⟨f,fd,a,b,c⟩:=F.ex
 exact zO4 b a hr hg T.mgC c .nil Xi ha hdb he hpl
theorem qK (T:yo X.K X.mg x C) (hg:Gl X x) (hd:(x == ("__debug__" : Str))=false:=by decide):PE X (.Name x pos) (tC (.ref C)):=Kl hg T.mgC rfl hd
def zNy (K:cg):List V->Hp->VK->Prop:=λxs H Q=>∃ x C t b,xs=[x,.ref C]/\yQ K H x t/\cE K t (.ref C)=some b/\Q (.bl b) H
theorem qL:vG X (.builtin "isinstance") (zNy X.K):=by
 intro pins s σ H xs us Q I r h
 obtain ⟨x,C,t,b,rfl,ty,e,q⟩:=h
 obtain ⟨u,v,rfl,ru,rv⟩:=ZK r
 cases (show v=Value.ref C from rv)
 exact K2 I ru ty e λtk=>⟨.bl b,H,I.tok tk,rfl,q⟩
end
end L2
namespace L2
open PySem PySem.Spec PyProof.Rows
open PySem
def SqE (K:cg) (H:Hp) (a:Addr) (xs:List V):Prop:=yH K H a xs\/zw K H a xs
section
variable {X:Cx} {es:List Expr} {kk:Nat} {tp:Pos}
theorem Ug {pins:List (Addr × Obj)} {σ:St} {H:Hp} {s:Shared} (I:zE X pins σ H s) {c:Addr} (hc:c∈[s.heap.objs.size + 4,s.heap.objs.size + 2,s.heap.objs.size + 3,s.heap.objs.size,s.heap.objs.size + 1]):yz X pins H c:=by
 have ge:s.heap.objs.size<=c:=by
  simp only [cz,cZ,or_false] at hc
  rcases hc with rfl | rfl | rfl | rfl | rfl
  ·exact eM _ 4
  ·exact eM _ 2
  ·exact eM _ 3
  ·exact cL _
  ·exact eM _ 1
 exact I.fpOk ge (I.hok.fresh ge)
def Zc (K:cg):R2:=λx y H Q=>∃ p xs i v,x=.ref p/\y=.int i/\SqE K H p xs/\xB xs i=some v/\Q v H
theorem zPT:ZP X (Zc X.K):=by
 intro value slice pins s σ H x y v u Q I rx ry h hs
 obtain ⟨p,xs,i,z,e1,e2,hq,he,q⟩:=h
 rcases hq with hq | hq
 ·exact zOG value slice pins s σ H x y v u Q I rx ry ⟨p,xs,i,z,e1,e2,hq,he,q⟩ hs
 ·exact zLT value slice pins s σ H x y v u Q I rx ry ⟨p,xs,i,z,e1,e2,hq,he,q⟩ hs
end
section
variable {prog:Program} {w:World} {A:Around} {E:Value->Shared->Prop}
theorem zRP {it l:Addr} {xs:Array Value} (ne:l≠it):∀ (m j:Nat) (s:Shared) (R:List Value->Shared->Prop),s.heap.IsListIter it l j->s.heap.IsList l xs->j + m<=xs.size->
  (∀ g,g.IsListIter it l (j + m)->Heap.SameBut it s.heap g->R ((xs.toList.drop j).take m) { s with heap:=g })->wpAny (model prog w) A (draw (.ref it) m) R E s
 | 0,j,s,R,hi,_,_,k=>wpAny_pure (by simpa using k s.heap hi (Heap.SameBut.refl ..))
 | m + 1,j,s,R,hi,hl,le,k=>by
  have lt:j < xs.size:=by omega
  have step:=λg (z:Heap.SameBut it s.heap g)=>(hl.extBut z.extBut ne:g.IsList l xs)
  show wpAny _ _ (pyNext (.ref it) >>= _) R E s
  refine wpAny_bind (wpAny_pyNext_list_item hi hl (x:=xs[j]) (by simp [lt]) λg1 i1 b1=>?_)
  refine wpAny_bind (wpAny_holding (zRP ne m (j + 1) _ _ i1 (step g1 b1) (by omega) λg2 i2 b2=>wpAny_pure ?_))
  have z:=k g2 (by rw [show j + (m + 1)=j + 1 + m by omega]; exact i2) (b1.trans b2)
  rw [show xs.toList.drop j=xs[j] :: xs.toList.drop (j + 1) by simp [List.drop_eq_getElem_cons,lt],gV] at z
  exact z
theorem zQ2 {s:Shared} {l:Addr} {xs:Array Value} {R:List Value->Shared->Prop} (hd:A.handled=none) (hl:s.heap.IsList l xs)
  (k:∀ g,Heap.ExtBut s.heap.objs.size s.heap g->R xs.toList { s with heap:=g }):wpAny (model prog w) A (unpackItems (.ref l) xs.size none) R E s:=by
 have ne:l≠s.heap.objs.size:=by
  obtain ⟨o,eo,_⟩:=hl
  exact dg (cB eo)
 unfold unpackItems
 refine wpAny_bind ?_
 unfold notIterableAtAll
 refine wpAny_bind (wpAny_specialOf hl.typeIs slot_list_iter.lookup ?_)
 refine wpAny_pure ?_
 simp only [dJ,if_false]
 refine wpAny_bind (wpAny_holding (wpAny_pyIter_list hl ?_))
 refine wpAny_bind (wpAny_holding (zRP ne xs.size 0 _ _ ⟨_,cG _ rfl,rfl,rfl⟩ (hl.push _) (by omega) λg1 i1 b1=>?_))
 rw [show List.take xs.size (List.drop 0 xs.toList)=xs.toList by rw [h_]; exact c_ (by simp),if_neg (by simp)]
 refine wpAny_bind (wpAny_holding (wpAny_pyNext_list_end hd i1 ((hl.push _).extBut b1.extBut ne) (by simp) λg2 x2=>?_))
 simp only [Option.isSome_none,dJ,if_false]
 exact wpAny_pure (k g2 λc o n e=>x2 c o n (b1.extBut c o n (ck _ e)))
end
section
variable {X:Cx} {pos:Pos}
def Uh (K:cg) (n:Nat) (t:jA):TG:=λv σ H Q=>∃ a xs,v=.ref a/\zw K H a xs/\xs.length=n/\t xs σ H Q
theorem zQP {es:List Expr} {k:Nat} {t:jA} {n:Nat} (hc:X.calm=true) (h:gX X es t)
  (hn:(assignEach es X.env).length=n:=by rfl) (hst:(assignEach es X.env).findIdx? (·.1)=none:=by rfl):PG X (.Tuple es k pos) (Uh X.K n t):=by
 intro pins s σ H v u Q I r hw
 obtain ⟨a,xs,e1,hq,hl,hw⟩:=hw
 subst e1
 cases r
 obtain ⟨its,rv,ht,hz⟩:=I.list hq
 rw [assign_Tuple]
 refine wpAny_bind (wpAny_standAt ?_)
 unfold unpack
 rw [show (assignEach es X.env).length=its.toArray.size by simp [hn,<- hl,rv.length],hst]
 refine wpAny_bind (wpAny_holding (zQ2 (I.ok.hd hc) ht.isList λg hx=>?_))
 have I1:zE X pins σ H { s with heap:=g }:=I.kept (t':=s.toks) λb o e=>hx b o (dg (cB e)) e
 exact h pins _ σ H xs _ Q I1 (by simpa using rv) hw
end
end L2
namespace L2
open PySem PySem.Spec PyProof.Rows
inductive wU (i:Nat) (σ:St) (H:Hp) (Q:VK):Prop
 | mk (v:V) (_:σ[i]? = some (some v)) (_:Q v H):wU i σ H Q
inductive JIx (S:Hp->Addr->List V->Prop) (x y:V) (H:Hp) (Q:VK):Prop
 | mk (p:Addr) (xs:List V) (i:Int) (v:V) (_:x=.ref p) (_:y=.int i) (_:S H p xs) (_:xB xs i=some v) (_:Q v H):JIx S x y H Q
inductive qM (x:V) (vs:List V) (H:Hp) (Q:VK):Prop
 | mk (l:Addr) (xs:List V) (y:V) (_:x=.ref l) (_:vs=[y]) (_:H l=some (.lst xs)) (_:xs.length < sizeLine) (_:Q .non (zV H l (.lst (xs++[y])))):qM x vs H Q
inductive Ui (K:cg) (xs:List V) (H:Hp) (Q:VK):Prop
 | mk (x:V) (c:String) (t:Value) (b:Bool) (_:xs=[x,.ty c]) (_:yQ K H x t) (_:cE K t (.type c)=some b) (_:Q (.bl b) H):Ui K xs H Q
inductive qN (o i v:V) (H:Hp) (Q:Hp->Prop):Prop
 | mk (p:Addr) (xs:List V) (k:Int) (j:Nat) (_:o=.ref p) (_:i=.int k) (_:H p=some (.lst xs)) (_:vJ xs.length k=some j) (_:Q (zV H p (.lst (xs.set j v)))):qN o i v H Q
section
variable {X:Cx}
theorem yj:UL X "list.append" qM:=λpins s σ H x xs v us Q I rx rv ⟨l,ys,y,h1,h2,h3,h4,q⟩=>zLL pins s σ H x xs v us Q I rx rv ⟨l,ys,y,h1,h2,h3,h4,q⟩
theorem Zd:vG X (.builtin "isinstance") (Ui X.K):=λpins s σ H xs us Q I r ⟨x,c,t,b,h1,h2,h3,q⟩=>vB pins s σ H xs us Q I r ⟨x,c,t,b,h1,h2,h3,q⟩
theorem Uj:j5 X qN:=λpins s σ H o i v ov iv u Q I h1 h2 h3 ⟨p,xs,k,j,a,b,c,d,q⟩=>zMe pins s σ H o i v ov iv u Q I h1 h2 h3 ⟨p,xs,k,j,a,b,c,d,q⟩
theorem yI (i:Nat) {x:Str} {pos:Pos} (hN:X.N[i]? = some x:=by rfl) (hv:gR X.env.scope x:=by first | exact Or.inl rfl | exact Or.inr (Or.inl rfl) | exact Or.inr (Or.inr rfl)) (hd:(x == ("__debug__" : Str))=false:=by decide)
  (hcd:(x == ("__classdict__" : Str))=false:=by decide):PE X (.Name x pos) (wU i):=λpins s σ H Q I ⟨v,e,h⟩=>Kk hN hv hd hcd pins s σ H Q I ⟨v,e,h⟩
theorem zLS:ZP X (JIx (yH X.K)):=λa b pins s σ H x y v u Q I rx ry ⟨p,xs,i,w,hx,hy,hs,ha,q⟩=>zOG a b pins s σ H x y v u Q I rx ry ⟨p,xs,i,w,hx,hy,hs,ha,q⟩
end
end L2
namespace Sh
open PySem L2
def Uk (H:Hp) (v:V) (r:List Int):Prop:=∃ a,v=.ref a/\H a=some (.lst (r.map V.int))
abbrev Ze (H:Hp) (vs:List V) (tab:List (List Int)):Prop:=Paired (Uk H) vs tab
structure MD where
 rows:List (List Int)
 nexts:List (List Int)
 steer:List Int
 push:List (List Int)
 add:List Int
 div:Int
structure wV (m:MD) (n p:Nat):Prop where
 rows:∀ r∈m.rows,r.length=n + 1
 few:m.rows.length<=900
 nexts:m.nexts.length=n/\∀ r∈m.nexts,r.length=n
 steer:m.steer.length=n
 push:m.push.length=n/\∀ r∈m.push,r.length=p
 add:m.add.length=n
 div:1<=m.div
 n3:n<=3
 p6:p<=12
def Zf (r n s p a:V) (d:Int):List (Str × V):=[("rows",r),("nexts",n),("steer",s),("push",p),("add",a),("divisor",.int d)]
structure zOa (C:Addr) (H:Hp) (o:Addr) (m:MD) where
 dx:Addr
 r:Addr
 rv:List V
 n:Addr
 nv:List V
 s:Addr
 p:Addr
 pv:List V
 a:Addr
structure zOa.Ok {C:Addr} {H:Hp} {o:Addr} {m:MD} (M:zOa C H o m):Prop where
 ins:H o=some (.ins C M.dx (Zf (.ref M.r) (.ref M.n) (.ref M.s) (.ref M.p) (.ref M.a) m.div))
 hr:H M.r=some (.lst M.rv)
 hrv:Za H M.rv m.rows
 hn:H M.n=some (.lst M.nv)
 hnv:Ze H M.nv m.nexts
 hs:H M.s=some (.lst (m.steer.map V.int))
 hp:H M.p=some (.lst M.pv)
 hpv:Ze H M.pv m.push
 ha:H M.a=some (.lst (m.add.map V.int))
structure xi (n:Nat) (bs:List (Int × Int)) (ms:List MD):Prop where
 n1:1<=n
 n3:n<=3
 bok:∀ b∈bs,b.1<=b.2
 b6:bs.length<=6
 m1:1<=ms.length
 m40:ms.length<=40
 mok:∀ m∈ms,wV m n bs.length
theorem Ul {K:cg} {C:Addr}:cE K (.ref C) (.ref C)=some true:=by
 unfold cE
 rw [if_pos (by simp)]
end Sh
namespace Sh
open PySem L2
def hide (B:List Addr) (H:Hp):Hp:=λb=>if b∈B then none else H b
theorem zKg {H:Hp} {x dx:Addr} (hx:H x=none) (hdx:H dx=none) (ne:dx≠x) (u o:HO):zL H (zV (zV H dx u) x o):=
 (jD hdx _).trans (jD ((zl (Ne.symm ne)).trans hx) _)
end Sh
namespace L2
open PySem PySem.Spec PyProof.Rows
theorem zF.no {P:Program} {w:World} {K:cg} {mg:Str->Option Value} {base:Heap} {CX:vZ} {k:Nat} {f:Addr} {fd:FuncData} {ps:List Str} {sp:Sp} (hn:∀ vs H Q E,¬ sp vs H Q E):zF P w K mg base CX k f fd ps sp:=
 ⟨λ_ _ _ _ h=>(hn _ _ _ _ h).elim,λ_ _ _ _ _ _ _ _ _ _ _ _ _ h=>(hn _ _ _ _ h).elim⟩
end L2
namespace Sh
inductive RT where
 | str (ns:List Int) (a d:Int)
 | stp (t:RT) (lo hi:Int)
 | prt (row:List Int) (x y:RT)
def RT.dep:RT->Nat
 | .str _ _ _=>1
 | .stp t _ _=>t.dep + 1
 | .prt _ x y=>max x.dep y.dep + 1
def RT.rows:RT->List (List Int)
 | .str _ _ _=>[]
 | .stp t _ _=>t.rows
 | .prt r x y=>[r]++x.rows++y.rows
def xV (pts:List (Int × Int)):RT->Int × Int
 | .str ns a d=>(UQ ((jT ns pts).1 + a * (jT ns pts).2) ((jT ns pts).2 * d),UR ((jT ns pts).1 + a * (jT ns pts).2) ((jT ns pts).2 * d))
 | .stp t lo hi=>if (xV pts t).1 < lo * (xV pts t).2 then (lo,1) else if hi * (xV pts t).2 < (xV pts t).1 then (hi,1) else xV pts t
 | .prt row x y=>if (jT (row.take pts.length) pts).1<=row.getD pts.length 0 * (jT (row.take pts.length) pts).2 then xV pts x else xV pts y
end Sh
namespace L2
open PySem PySem.Spec PyProof.Rows Sh
theorem zMT (l:Addr) (items:Array Value) (n:Nat) (dd:Option Addr) (sl:Array (Option Value)) (x:Int) (u:Tok) (h2:¬ (decide (x < -(2 ^ 63)) || decide (x ≥ 2 ^ 63))=true) (h1:(items.isEmpty || x == 1)=true) :
  Meets (Builtin.«tuple.__mul__» ⟨[.ref l,.int x u],[]⟩) (λ_ R s=>s.heap.get? l=some { cls:=.type "tuple",dict:=dd,data:=.seq items n,slots:=sl }/\R (.ok (.ret (.ref l))) s):=
 .of_wp λprog w A R s h=>by
  obtain ⟨hp,g,d,tk,os⟩:=s
  obtain ⟨hl,h⟩:=h
  wp_walk
  rw [if_neg h2]
  wp_walk
  exact ⟨_,rfl,h⟩
theorem zMU (l:Addr) (items:Array Value) (n:Nat) (dd:Option Addr) (sl:Array (Option Value)) (x:Int) (u:Tok) (h1:¬ (items.isEmpty || x == 1)=true) (h2:¬ (decide (x < -(2 ^ 63)) || decide (x ≥ 2 ^ 63))=true) (h3:(decide (x<=0) || items.isEmpty)=true) :
  Meets (Builtin.«tuple.__mul__» ⟨[.ref l,.int x u],[]⟩) (λ_ R s=>s.heap.get? l=some { cls:=.type "tuple",dict:=dd,data:=.seq items n,slots:=sl }∧
   R (.ok (.ret (.ref s.heap.objs.size))) { s with heap:=s.heap.push { cls:=.type "tuple",data:=.seq #[] } }):=
 .of_wp λprog w A R s h=>by
  obtain ⟨hp,g,d,tk,os⟩:=s
  obtain ⟨hl,h⟩:=h
  wp_walk
  rw [if_neg h2]
  wp_walk
  exact ⟨_,rfl,h⟩
section
variable {X:Cx}
inductive Um (K:cg) (x y:V) (H:Hp) (Q:VK):Prop
 | mk (a:Addr) (k:Int) (xs:List V) (_:x=.ref a) (_:y=.int k) (_:H a=some (.tup xs)) (_:xs≠[]) (_:0<=k) (_:k<=1000) (_:xs.length<=1000) (_:∀ p H',zL H H'->H' p=some (.tup (cj k.toNat xs).flatten)->Q (.ref p) H'):Um K x y H Q
theorem zO8:yt X (binaryOp .Mult) (Um X.K):=by
 intro pins s σ H x y v u Q I rx ry h
 obtain ⟨a,k,xs,rfl,rfl,ha,hne,h0,h3,hz,q⟩:=h
 by_cases k2:2<=k
 ·exact zO9 pins s σ H _ _ v u Q I rx ry ⟨a,k,xs,rfl,rfl,yH.of ha,hne,k2,h3,hz,λp hp=>q p _ (jD hp _) xv⟩
 cases rx
 obtain ⟨t,rfl⟩:=ry
 obtain ⟨its,r,p,_⟩:=I.tuple (yH.of ha)
 obtain ⟨⟨cls,dd,data,sl⟩,ho,hc,n,hd⟩:=id p
 simp only at hc hd
 subst hc hd
 have pl:0 < its.length:=by
  rw [<- r.length]
  exact iR.mpr hne
 have em:its.toArray.isEmpty=false:=by
  cases its with
  | nil=>exact absurd pl (da _)
  | cons a b=>rfl
 rcases (by omega:k=0\/k=1) with rfl | rfl
 ·refine wpAny_binaryOp_repeat_ref (T:="tuple") (U:="int") (by decide) ⟨_,ho,rfl⟩ (λs'=>typeIs_int s' 0 t) UY F.fills_int_mul F.slot_int_rmul UZ F.slot_int_index.lookup
   (call_meets F.slot_int_rmul (typeIs_int s 0 t) F.entry_int_rmul (F.args_int_rmul_2 _ _) (Ua 0 t a dd its.toArray n sl)
    ⟨ho,rfl,⟨_,ho,rfl⟩,call_meets F.slot_tuple_mul ⟨_,ho,rfl⟩ F.entry_tuple_mul (F.args_tuple_mul_2 _ _) (zMU a its.toArray n dd sl 0 t (by rw [em]; decide) (by decide) (by rw [em]; decide)) ⟨ho,?_⟩⟩)
  refine ⟨.ref s.heap.objs.size,_,I.laid (t':=s.toks) (o:=.tup []) (λb ob q=>ck _ q) (cL _) ?_,rfl,q _ _ (jD (I.hok.fresh (cL _)) _) xv⟩
  exact ⟨eg _,_,.nil,IsTup.new _ _⟩
 ·refine wpAny_binaryOp_repeat_ref (T:="tuple") (U:="int") (by decide) ⟨_,ho,rfl⟩ (λs'=>typeIs_int s' 1 t) UY F.fills_int_mul F.slot_int_rmul UZ F.slot_int_index.lookup
   (call_meets F.slot_int_rmul (typeIs_int s 1 t) F.entry_int_rmul (F.args_int_rmul_2 _ _) (Ua 1 t a dd its.toArray n sl)
    ⟨ho,rfl,⟨_,ho,rfl⟩,call_meets F.slot_tuple_mul ⟨_,ho,rfl⟩ F.entry_tuple_mul (F.args_tuple_mul_2 _ _) (zMT a its.toArray n dd sl 1 t (by decide) (by rw [em]; decide)) ⟨ho,?_⟩⟩)
  refine ⟨.ref a,H,I,rfl,q a H (zL.refl _) (ha.trans ?_)⟩
  rw [show (1:Int).toNat=1 from rfl,List.replicate_one,fH]
inductive zQA (K:cg) (x y:V) (H:Hp) (Q:VK):Prop
 | mk (a b:Addr) (xs ys:List V) (_:x=.ref a) (_:y=.ref b) (_:H a=some (.tup xs)) (_:H b=some (.tup ys)) (_:xs≠[]) (_:xs.length + ys.length<=sizeLine) (_:∀ p H',zL H H'->H' p=some (.tup (xs++ys))->Q (.ref p) H'):zQA K x y H Q
theorem zPC:yt X (binaryOp .Add) (zQA X.K):=by
 intro pins s σ H x y v u Q I rx ry h
 obtain ⟨a,b,xs,ys,rfl,rfl,ha,hb,hne,hz,q⟩:=h
 exact zPD pins s σ H _ _ v u Q I rx ry ⟨a,b,xs,ys,rfl,rfl,yH.of ha,yH.of hb,hne,hz,λz=>q a H (zL.refl _) (ha.trans (by rw [z,dQ])),λ_ p hp=>q p _ (jD hp _) xv⟩
end
end L2
namespace Sh
def zn (r:List Int):List Int:=r.map λx=>-x
section
variable {pts:List (Int × Int)} (hp:∀ p∈pts,0 < p.2)
include hp
end
end Sh
namespace Sh
open PySem L2
structure qO (K:cg) (C1 C2 C3:Addr):Prop where
 k21:cE K (.ref C2) (.ref C1)=some false
 k31:cE K (.ref C3) (.ref C1)=some false
 k12:cE K (.ref C1) (.ref C2)=some false
 k32:cE K (.ref C3) (.ref C2)=some false
 k13:cE K (.ref C1) (.ref C3)=some false
end Sh
namespace L2
open PySem PySem.Spec PyProof.Rows
abbrev Xn:=Array Value->Option Addr->Prop
def yb (base:Heap) (l:List Env) (e:Addr) (cls:Value) (P:Xn) (fl:Value) (h:Heap):Prop:=
 base.StaysIn h/\base.get? e=none/\h.FunFrames base l/\∃ (oe:Obj) (vs:Array Value) (T:Addr) (oT:Obj) (ts:Array Value),h.get? e=some oe/\oe.cls=cls/\oe.data=.fields vs/\P vs oe.dict/\vs[1]? = some (.ref T)/\base.get? T=none/\T≠e/\h.get? T=some oT/\oT.data=.fields ts/\ts[3]? = some fl
def gk (P:Xn):Prop:=∀ (vs:Array Value) (d:Option Addr) (v:Value),P vs d->P (vs.setIfInBounds 1 v) d
section
variable {M:Model} {A:Around} {E:Value->Shared->Prop} {s:Shared} {base:Heap} {env:Env} {outer:List Env} {L e:Addr} {cls:Value} {P:Xn} {Q:Unit->Shared->Prop} {oe:Obj} {vs:Array Value}
theorem gl {h:Heap} {T:Addr} {oT:Obj} {ts:Array Value} (hT:h.get? T=some oT) (hd:oT.data=.fields ts) {b:Addr} {o:Obj} (hb:h.get? b=some o) (n:∀ ws,o.data≠.fields ws):b≠T:=by
 rintro rfl
 rw [hT] at hb
 cases hb
 exact n ts hd
theorem zOV {head:Value} {hn:Bool} (st:gk P) (hfr:A.frames=some (env :: outer)) (hl:s.heap.FunFrames base (env :: outer)) (hf:env.frame=some L) (he:s.heap.get? e=some oe) (hkb:base.StaysIn s.heap) (hen:base.get? e=none) (hd:oe.data=.fields vs) (hsz:1 < vs.size) (hP:P vs oe.dict)
  (h:∀ h',yb base (env :: outer) e oe.cls P (rawInt L) h'->s.heap.UpToSlots h'->Q () { s with heap:=h' }) :
  wpAny M A (do let a <- frameOf env; let pl <- entryPlaceOf L hn; let b <- EntryCells.newEntry head a .none (rawInt L) .none pl; setField (.ref e) 1 b) Q E s:=by
 have nf:e∉(env :: outer).filterMap (·.frame):=λz=>by
  obtain ⟨_,o,ho,n⟩:=hl.mem z
  rw [he] at ho
  cases ho
  exact n vs hd
 refine wpAny_bind (wpAny_frameOf_fun hfr hl hf λg sg=>wpAny_bind (wpAny_entryPlaceOf λpl hpl=>?_))
 unfold EntryCells.newEntry newFields
 refine wpAny_bind (wpAny_newObj_type ?_ (hpl.sizeOk5 _ _ _ _ _))
 have e1:g.get? e=some oe:=(sg.2.1 e nf).trans he
 have k1:base.StaysIn g:=λb o q=>(sg.2.1 b λz=>by rw [(hl.mem z).1] at q; cases q).trans (hkb b o q)
 generalize hO:({ cls:=.type "traceback",dict:=none,data:=.fields ([head,.ref L,.none,rawInt L,.none]++(if pl.isEmpty then cj 6 Value.none else pl)).toArray }:Obj)=O
 have dO:∃ ws,O.data=.fields ws/\ws[3]? = some (rawInt L):=by
  rw [<- hO]
  refine ⟨_,rfl,?_⟩
  first | (simp; done) | (rcases hpl with rfl | ⟨_,_,_,_,_,_,_,rfl⟩ <;> simp)
 have fO:O.isFreed=false:=by rw [<- hO]; rfl
 obtain ⟨ws,dw,w3⟩:=dO
 have e2:=ck (h:=g) O e1
 refine wpAny_setField e2 hd hsz (h _ ?_ ?_)
 ·have ne:g.objs.size≠e:=fN (cB e1)
  have d3:=Obj.data_mapFields hd (·.setIfInBounds 1 (Value.ref g.objs.size))
  refine ⟨λb o q=>?_,hen,hl.of_keeps λb o q n=>?_,_,_,g.objs.size,O,ws,eS (Obj.mapFields (·.setIfInBounds 1 (Value.ref g.objs.size))) e2 (Obj.isFreed_of_fields d3),Obj.cls_mapFields _ _,d3,?_,by simp [hsz],k1.fresh,ne,?_,dw,w3⟩
  ·have nb:b≠e:=λz=>by rw [z,hen] at q; cases q
   rw [dj _ _ (Ne.symm nb)]
   exact ck _ (k1 b o q)
  ·obtain ⟨sl,q1⟩:=sg.2.2 b o q
   refine ⟨{ o with slots:=sl },?_,rfl⟩
   rw [dj _ _ (Ne.symm (gl he hd q n))]
   exact ck _ q1
  ·have z:=st vs oe.dict (Value.ref g.objs.size) hP
   first | exact z | (rw [show (oe.mapFields (·.setIfInBounds 1 (Value.ref g.objs.size))).dict=oe.dict by unfold Obj.mapFields; split <;> rfl]; exact z)
  ·rw [dj _ _ (Ne.symm ne)]
   exact cG g fO
 ·intro b o q n
  obtain ⟨sl,q1⟩:=sg.2.2 b o q
  refine ⟨sl,?_⟩
  rw [dj _ _ (Ne.symm (gl he hd q n))]
  exact ck _ q1
theorem zQo (st:gk P) (hfr:A.frames=some (env :: outer)) (hf:env.frame=some L) (x:yb base (env :: outer) e cls P .none s.heap)
  (h:∀ h',yb base (env :: outer) e cls P (rawInt L) h'->s.heap.UpToSlots h'->Q () { s with heap:=h' }):wpAny M A (noteFrame (.ref e) env) Q E s:=by
 obtain ⟨k,en,fr,oe,vs,T,oT,ts,he,rfl,hd,hP,h1,nT,ne,hT,dT,h3⟩:=x
 unfold noteFrame
 simp only [hf]
 refine wpAny_bind (wpAny_field he hd h1 ?_)
 rw [if_pos (show (Value.ref T != Value.none)=true by simp)]
 refine wpAny_bind (wpAny_field hT dT h3 ?_)
 rw [if_neg (show ¬ ((Value.none == rawInt L)=true) by simp [rawInt])]
 refine wpAny_bind (wpAny_setField hT dT (eh.mp h3).1 ?_)
 have oth:∀ b,b≠T->(s.heap.update T (Obj.mapFields (·.setIfInBounds 3 Value.none))).get? b=s.heap.get? b:=λb nb=>dj _ _ (Ne.symm nb)
 refine zOV st hfr (fr.of_keeps λb o q n=>⟨o,(oth b (gl hT dT q n)).trans q,rfl⟩) hf ((oth e (Ne.symm ne)).trans he) (λb o q=>(oth b λz=>by rw [z,nT] at q; cases q).trans (k b o q)) en hd (eh.mp h1).1 hP λh' f u=>h h' f λb o q n=>u b o ((oth b (gl hT dT q n)).trans q) n
theorem zLH (st:gk P) (hfr:A.frames=some (env :: outer)) (hf:env.frame=some L) (hl:s.heap.FunFrames base (env :: outer)) (he:s.heap.get? e=some oe) (hkb:base.StaysIn s.heap) (hen:base.get? e=none) (hd:oe.data=.fields vs) (h1:vs[1]? = some .none) (hP:P vs oe.dict)
  (h:∀ h',yb base (env :: outer) e oe.cls P (rawInt L) h'->s.heap.UpToSlots h'->Q () { s with heap:=h' }):wpAny M A (noteFrame (.ref e) env) Q E s:=by
 unfold noteFrame
 simp only [hf]
 refine wpAny_bind (wpAny_field he hd h1 ?_)
 rw [if_neg (by decide)]
 exact zOV st hfr hl hf he hkb hen hd (eh.mp h1).1 hP h
theorem Xo {l:List Env} {fl:Value} (x:yb base l e cls P fl s.heap) (h:∀ h',yb base l e cls P .none h'->s.heap.UpToSlots h'->Q () { s with heap:=h' }):wpAny M A (setFlight (.ref e) none) Q E s:=by
 obtain ⟨k,en,fr,oe,vs,T,oT,ts,he,hc,hd,hP,h1,nT,ne,hT,dT,h3⟩:=x
 have sz:3 < ts.size:=(eh.mp h3).1
 have oth:∀ b,b≠T->(s.heap.update T (Obj.mapFields (·.setIfInBounds 3 ((none:Option Addr).elim Value.none λf=>rawInt f)))).get? b=s.heap.get? b:=λb nb=>dj _ _ (Ne.symm nb)
 unfold setFlight
 refine wpAny_bind (wpAny_field he hd h1 ?_)
 rw [if_pos (show (Value.ref T != Value.none)=true by simp)]
 refine wpAny_setField hT dT sz (h _ ⟨λb o q=>(oth b λz=>by rw [z,nT] at q; cases q).trans (k b o q),en,fr.of_keeps λb o q n=>⟨o,(oth b (gl hT dT q n)).trans q,rfl⟩,oe,vs,T,_,_,(oth e (Ne.symm ne)).trans he,hc,hd,hP,h1,nT,ne,eS _ hT (Obj.isFreed_of_fields (Obj.data_mapFields dT _)),Obj.data_mapFields dT _,by simp [sz]⟩ λb o q n=>⟨o.slots,(oth b (gl hT dT q n)).trans q⟩)
theorem yb.out {fl:Value} {h:Heap} (x:yb base (env :: outer) e cls P fl h):yb base outer e cls P fl h:=by
 obtain ⟨k,en,⟨_,_,fr⟩,r⟩:=x
 exact ⟨k,en,fr,r⟩
theorem zPQ (st:gk P) (hfr:A.frames=some (env :: outer)) (hf:env.frame=some L) (x:yb base (env :: outer) e cls P .none s.heap)
  (h:∀ h',yb base outer e cls P .none h'->s.heap.UpToSlots h'->Q () { s with heap:=h' }):wpAny M A (leaving env (.ref e)) Q E s:=by
 unfold leaving
 exact wpAny_bind (zQo st hfr hf x λh1 f1 u1=>Xo f1 λh2 f2 u2=>h h2 f2.out (u1.trans u2))
theorem zIo (st:gk P) (hfr:A.frames=some (env :: outer)) (hf:env.frame=some L) (hl:s.heap.FunFrames base (env :: outer)) (he:s.heap.get? e=some oe) (hkb:base.StaysIn s.heap) (hen:base.get? e=none) (hd:oe.data=.fields vs) (h1:vs[1]? = some .none) (hP:P vs oe.dict)
  (h:∀ h',yb base outer e oe.cls P .none h'->s.heap.UpToSlots h'->Q () { s with heap:=h' }):wpAny M A (leaving env (.ref e)) Q E s:=by
 unfold leaving
 exact wpAny_bind (zLH st hfr hf hl he hkb hen hd h1 hP λh1 f1 u1=>Xo f1 λh2 f2 u2=>h h2 f2.out (u1.trans u2))
end
def P0:Xn:=λvs _=>vs[2]? = some .none
theorem Uo:gk P0:=λvs _ _ h=>by
 unfold P0 at h |-
 rw [Array.getElem?_setIfInBounds_ne (by decide)]
 exact h
theorem yb.first {base h:Heap} {l:List Env} {e:Addr} {cls fl:Value} (x:yb base l e cls P0 fl h):∃ oe vs,h.get? e=some oe/\oe.cls=cls/\oe.data=.fields vs/\vs[2]? = some .none:=by
 obtain ⟨_,_,_,oe,vs,_,_,_,he,hc,hd,hP,_⟩:=x
 exact ⟨oe,vs,he,hc,hd,hP⟩
end L2
namespace L2
open PySem PySem.Spec PyProof.Rows
section
variable {P:Program} {w:World} {H:Hp} {h:Heap} {a:Addr}
theorem xU.there {o:HO} (x:xU P w H h a o):∃ ob,h.get? a=some ob:=by
 cases o with
 | lst xs=>obtain ⟨_,_,_,_,e⟩:=x; exact ⟨_,e⟩
 | tup xs=>obtain ⟨_,_,_,p⟩:=x; obtain ⟨ob,e,_⟩:=p; exact ⟨ob,e⟩
 | dK kvs=>obtain ⟨_,_,_,_,ob,_,_,e,_⟩:=x; exact ⟨ob,e⟩
 | dT kvs=>obtain ⟨_,_,_,_,ob,_,_,e,_⟩:=x; exact ⟨ob,e⟩
 | set S n=>obtain ⟨ob,_,_,_,e,_⟩:=x; exact ⟨ob,e⟩
 | ins C dx fs=>obtain ⟨_,_,_,e,_⟩:=x; exact ⟨_,e⟩
 | own y=>exact x
 | xd fs=>obtain ⟨_,⟨ob,_,_,e,_⟩,_⟩:=x; exact ⟨ob,e⟩
 | rng lo hi=>obtain ⟨_,_,_,e⟩:=x; exact ⟨_,e⟩
 | frz ob u=>obtain ⟨e,_⟩:=x; exact ⟨_,e⟩
 | tbl ps=>exact ⟨_,show h.get? a=some _ from x⟩
 | met f y=>exact ⟨_,show h.get? a=some _ from x⟩
 | ext φ=>obtain ⟨_,e,_⟩:=x; exact e
theorem yn.none_of (x:yn P w H h) (e:h.get? a=none):H a=none:=by
 cases q:H a with
 | none=>rfl
 | some o=>
  obtain ⟨ob,z⟩:=(x a o q).there
  rw [e] at z
  cases z
theorem yn.hide {as:List Addr} (x:yn P w H h) (f:∀ b∈as,H b=none):yn P w H (fe h as):=λa o e=>
 (x a o e).stay (λb u hb q=>e_ _ q λz=>by
  have n:=f b z
  rcases hb with rfl | hb
  ·rw [n] at e; cases e
  ·rw [n] at hb; cases hb) (λ_ q=>q) λ_ _ q=>q
end
structure XL (P:Program) (w:World) (outer:List Env) (H H':Hp) (s s':Shared) (B:Heap) (e:Addr) (cls a0:Value):Prop where
 os:s'.os=s.os
 bare:AllBare s'.gens
 keep:∀ b o,s.heap.get? b=some o->H b=none->b∉xE outer->B.get? b=some o
 slot:∀ b o,s.heap.get? b=some o->H b=none->b∈xE outer->∃ sl,s'.heap.get? b=some { o with slots:=sl }
 free:∀ b o,s.heap.get? b=some o->H b=none->H' b=none
 there:∀ b o,s.heap.get? b=some o->b∉xE outer->∃ o',B.get? b=some o'
 tups:∀ b xs,H b=some (.tup xs)->H' b=some (.tup xs)
 frzs:∀ b o u,H b=some (.frz o u)->H' b=some (.frz o u)
 tbls:∀ b ps,H b=some (.tbl ps)->∃ more,H' b=some (.tbl (ps++more))
 hok:yn P w H' B
 fly:yb B outer e cls P0 .none s'.heap
def xZ (P:Program) (w:World):vZ:=λouter H s E ev s'=>∃ (e:Addr) (cls a0:Value) (B:Heap) (H':Hp),ev=.ref e/\XL P w outer H H' s s' B e cls a0/\E cls none H'
section
variable {P:Program} {w:World} {outer:List Env} {H H':Hp} {s s':Shared} {B:Heap} {e:Addr} {cls a0:Value}
theorem XL.un (x:XL P w outer H H' s s' B e cls a0):Un (xE outer) [] H H' s.heap s'.heap where
 keep:=λb o q n hb _=>x.fly.1 b o (x.keep b o q n hb)
 slot:=λb o q n hb _=>x.slot b o q n hb
 free:=λb o q n _=>x.free b o q n
 there:=λb o q _=>by
  by_cases hb:b∈xE outer
  ·obtain ⟨_,o',ho,_⟩:=x.fly.2.2.1.mem hb
   exact ⟨o',ho⟩
  ·obtain ⟨o',ho⟩:=x.there b o q hb
   exact ⟨o',x.fly.1 _ _ ho⟩
 tups:=x.tups
 frzs:=x.frzs
 tbls:=x.tbls
theorem XL.held (x:XL P w outer H H' s s' B e cls a0):yn P w H' s'.heap:=x.hok.kept x.fly.1
theorem XL.move {h':Heap} {tk:Nat} (x:XL P w outer H H' s s' B e cls a0) (f:yb B outer e cls P0 .none h') (u:s'.heap.UpToSlots h'):XL P w outer H H' s { s' with heap:=h',toks:=tk } B e cls a0 where
 os:=x.os
 bare:=x.bare
 keep:=x.keep
 slot:=λb o q n hb=>by
  obtain ⟨sl,e1⟩:=x.slot b o q n hb
  obtain ⟨_,o',ho,nf⟩:=x.fly.2.2.1.mem hb
  rw [e1] at ho
  cases ho
  obtain ⟨sl',e2⟩:=u b _ e1 nf
  exact ⟨sl',e2⟩
 free:=x.free
 there:=x.there
 tups:=x.tups
 frzs:=x.frzs
 tbls:=x.tbls
 hok:=x.hok
 fly:=f
theorem XL.new (x:XL P w outer H H' s s' B e cls a0):s.heap.get? e=none/\H' e=none/\e∉xE outer:=by
 have nf:e∉xE outer:=λz=>by
  obtain ⟨_,o,ho,nd⟩:=x.fly.2.2.1.mem z
  obtain ⟨oe,vs,he,_,hd,_⟩:=yb.first x.fly
  rw [he] at ho
  cases ho
  exact nd _ hd
 refine ⟨?_,x.hok.none_of x.fly.2.1,nf⟩
 cases q:s.heap.get? e with
 | none=>rfl
 | some o=>
  obtain ⟨o',z⟩:=x.there e o q nf
  rw [x.fly.2.1] at z
  cases z
end
section
variable {P:Program} {w:World} {K:cg} {mg:Str->Option Value} {base:Heap} {N:List Str} {qual:Str} {scope:Scope} {f:Addr} {cd:Value} {A:Around} {outer:List Env} {s:Shared} {H:Hp} {E:XK}
theorem Xp {X:Cx} {pins:List (Addr × Obj)} {σ:St} {H1:Hp} {s1:Shared} {b:Addr} {o:Obj} (I:zE X pins σ H1 s1) (q:X.s₀.heap.get? b=some o) (hb:b∉X.fs):b∉xE X.stack:=λz=>by
 rcases cz.mp (I.stkSub b z) with e | z
 ·exact absurd (cF (cB q) I.ok.above) (by rw [e]; exact da _)
 ·exact hb z
theorem zJx {pins:List (Addr × Obj)} {σ:St} {H1:Hp} {s1:Shared} {h2:Heap} {e:Addr} {cls:Value} {args:List Value}
  (I:zE (zW (xZ P w) P w K mg base N qual scope f cd A outer s H E) pins σ H1 s1) (hx:lV s1.heap h2 e cls args) (q:E cls none H1) :
  (zW (xZ P w) P w K mg base N qual scope f cd A outer s H E).xe (.ref e) { s1 with heap:=h2 }:=by
 have fr:=I.stack
 have fh:=PySem.W.funFrames_hide (as:=xE (zW (xZ P w) P w K mg base N qual scope f cd A outer s H E).stack) fr λenv he b hb=>hW.mpr ⟨env,he,hb⟩
 obtain ⟨t,he,htn,ht⟩:=hx.there
 have fr2:∀ b,s1.heap.get? b=none->(fe s1.heap (xE (zW (xZ P w) P w K mg base N qual scope f cd A outer s H E).stack)).get? b=none:=λb hb=>by
  cases q:(fe s1.heap (xE (zW (xZ P w) P w K mg base N qual scope f cd A outer s H E).stack)).get? b with
  | none=>rfl
  | some o=>
   have:=hJ _ q
   rw [hb] at this
   cases this
 refine zIo (s:={ s1 with heap:=h2 }) (base:=fe s1.heap (xE (zW (xZ P w) P w K mg base N qual scope f cd A outer s H E).stack)) Uo I.ok.frames rfl (fh.of_keeps λb o q _=>⟨o,hx.keeps b o q,rfl⟩) he (λb o q=>hx.keeps b o (hJ _ q)) (fr2 e hx.new) rfl rfl rfl λh' x1 x4=>?_
 refine ⟨e,cls,.ref t,_,H1,rfl,⟨I.os,I.bare,λb o eb n hb=>?_,λb o eb n hb=>?_,λb o eb n=>I.base.free b o eb n (by simp [zW]),λb o eb hb=>?_,I.base.tups,I.base.frzs,I.base.tbls,I.hok.hide λb hb=>I.stkFree b hb,x1⟩,q⟩
 ·exact e_ _ (I.base.keep b o eb n hb (by simp [zW])) (Xp I eb hb)
 ·obtain ⟨sl,e1⟩:=I.base.slot b o eb n hb (by simp [zW])
  obtain ⟨_,o',ho,nf⟩:=I.funs.mem hb
  rw [e1] at ho
  cases ho
  obtain ⟨sl',e2⟩:=x4 b _ (hx.keeps _ _ e1) nf
  exact ⟨sl',e2⟩
 ·obtain ⟨o',e1⟩:=I.base.there b o eb (by simp [zW])
  exact ⟨o',e_ _ e1 (Xp I eb hb)⟩
theorem zK5 {E':XK} (hE:∀ c d H,E' c d H->E c d H):j9 (xZ P w) (zW (xZ P w) P w K mg base N qual scope f cd A outer s H E) E':=by
 intro pins σ H1 s1 ev s2 I h
 obtain ⟨e,cls,a0,B,H2,rfl,x,q⟩:=h
 have un:=(I.base.mono (fs':=xE (zW (xZ P w) P w K mg base N qual scope f cd A outer s H E).stack) (ex':=[]) (λb hb=>by
  show b∈xE (_ :: outer)
  unfold xE
  rw [d_]
  split
  ·exact hb
  ·exact cr _ hb) λb hb=>hb).trans x.un
 have hx:yb B ((zW (xZ P w) P w K mg base N qual scope f cd A outer s H E).env :: outer) e cls P0 .none s2.heap:=x.fly
 refine zPQ Uo I.ok.frames rfl hx λh' fl up=>?_
 refine ⟨e,cls,a0,B,H2,rfl,⟨x.os.trans I.os,x.bare,λb o eb n hb=>?_,λb o eb n hb=>?_,λb o eb n=>un.free b o eb n (by simp),λb o eb hb=>?_,un.tups,un.frzs,un.tbls,x.hok,fl⟩,hE _ _ _ q⟩
 ·exact x.keep b o (I.base.keep b o eb n hb (by simp [zW])) (I.base.free b o eb n (by simp [zW])) (Xp I eb hb)
 ·obtain ⟨sl,e1⟩:=I.base.slot b o eb n hb (by simp [zW])
  have hb2:b∈xE (zW (xZ P w) P w K mg base N qual scope f cd A outer s H E).stack:=by
   show b∈xE (_ :: outer)
   unfold xE
   rw [d_]
   split
   ·exact hb
   ·exact cr _ hb
  obtain ⟨sl1,e2⟩:=x.slot b _ e1 (I.base.free b o eb n (by simp [zW])) hb2
  obtain ⟨_,o',ho,nf⟩:=x.fly.2.2.1.mem hb2
  rw [e2] at ho
  cases ho
  obtain ⟨sl2,e3⟩:=up b _ e2 nf
  exact ⟨sl2,e3⟩
 ·obtain ⟨o',e1⟩:=I.base.there b o eb (by simp [zW])
  exact x.there b o' e1 (Xp I eb hb)
end
theorem zPg {K:cg} {h:Heap} {C:Addr} {bmB:List Value} {newId:String} (X:K.In h) (q:ip K C bmB newId=true) :
  ∃ bm N nm qn bs hdct sn sub ab col dd k0 k1 k2 k3 k5 mN,h.get? C=some (excClassObj nm qn C N bs bm hdct sn sub ab col dd k0 k1 k2 k3 k5 newId)/\h.Ns N mN/\mN "__init__" = none/\OwnTail h bmB bm:=by
 unfold ip at q
 split at q
 case h_1 dd cd sl look=>
  split at q
  case h_1 C1 tl k0 k1 k2 k3 made k5 eqm eqs=>
   simp only [dq,beq_iff_eq,lj] at q
   obtain ⟨⟨⟨⟨⟨e1,e2⟩,e3⟩,e4⟩,e5⟩,e6⟩:=q
   subst e1 e2
   obtain ⟨nm,bs,mro,ns,qn,hd,sn,sub,ab,col,del⟩:=cd
   obtain ⟨sll⟩:=sl
   dsimp only at eqm e3 e5 e6 eqs
   subst eqm e3 eqs
   exact ⟨tl,ns,nm,qn,bs,hd,sn,sub,ab,col,dd,k0,k1,k2,k3,k5,h.nsMap ns,X _ _ look,.of_isNs (PySem.W.isNs_of_in X e5),PySem.W.nsMap_none_of_in X e5 e6,PySem.W.tail_of_in X e4⟩
  all_goals cases q
 all_goals cases q
abbrev bmV:List Value:=[.type "ValueError",.type "Exception",.type "BaseException",.type "object"]
def zNq (C:Addr) (E:XK) (ta:TA):TS:=λ_ σ H=>ta σ H λvs H1=>vs.length<=sizeLine/\E (.ref C) none H1
def zRc (X:Cx) (E:XK):Prop:=∀ (pins:List (Addr × Obj)) (σ:St) (H:Hp) (s:Shared) (h':Heap) (e:Addr) (cls:Value) (args:List Value),zE X pins σ H s->lV s.heap h' e cls args->E cls none H->X.xe (.ref e) { s with heap:=h' }
theorem zMo {X:Cx} {C:Addr} {E:XK} {x:Str} {np cpos pos:Pos} {e0:Expr} {es:List Expr} {ta:TA} (R:zRc X E) (hC:ip X.K C bmV "ValueError.__new__" = true) (hg:Gl X x) (hm:X.mg x=some (.ref C)) (hc:X.calm=true) (ha:PA X (e0 :: es) ta)
  (hdb:(x == ("__debug__" : Str))=false:=by decide) (he:starEach (e0 :: es) X.env=(false,eval e0 X.env) :: starEach es X.env:=by rfl) (hpl:(backTo cpos (starEach es X.env)).any (·.1)=false:=by rfl) :
  PS X (.Raise (some (.Call (.Name x np) (e0 :: es) [] cpos)) none pos) (zNq C E ta):=by
 intro pins s σ H D I h
 obtain ⟨bm,N,nm,qn,bs,hdct,sn,sub,ab,col,dd,k0,k1,k2,k3,k5,mN,oC,oN,oi,oT⟩:=zPg I.ok.mod.kin hC
 have hp:(backTo cpos (starEach (e0 :: es) X.env)).any (·.1)=false:=by
  rw [he]
  show (false || (backTo cpos (starEach es X.env)).any (·.1))=false
  rw [hpl]
  rfl
 refine wpAny_Raise_call_subT (C:=C) (nm:=nm) (q:=qn) (N:=N) (bs:=bs) (bm:=bm) (hdct:=hdct) (sn:=sn) (sub:=sub) (ab:=ab) (col:=col) (dd:=dd) (k0:=k0) (k1:=k1) (k2:=k2) (k3:=k3) (k5:=k5) PySem.F.excBase_ValueError (mN:=mN)
  (oT.hasType PySem.F.excBase_ValueError.hasBase) (I.ok.hd hc) hp oi (gS I hg hm ⟨rfl,?_⟩ hdb)
 have ha':=ha cpos pins s σ H _ I h
 rw [he] at ha' |-
 refine Calls.evalArgs_plain (zk ha' λus s2 ⟨vs,H1,I2,r,hl,qE⟩=>?_)
 exact ⟨rfl,(by rw [<- r.length]; exact hl),I2.bk _ _ oC,oN.keeps I2.bk,oT.keeps I2.bk,λh' e hm'=>R pins σ H1 s2 h' e _ _ I2 hm' qE⟩
section
variable {P:Program} {w:World} {K:cg} {mg:Str->Option Value} {base:Heap}
theorem ze.okX {x qual:Str} {st:Stmt} {f:Addr} {fd:FuncData} {N ps:List Str} {k:Nat} {sp:Sp} (F:ze K x qual st f fd) (S:zb N ps (zP st)) (len:∀ vs H Q E,sp vs H Q E->vs.length=ps.length)
  (hbody:∀ (cdv:Value) (A:Around) (outer:List Env) (s:Shared) (H:Hp) (vs:List V) (Q:VK) (E:XK),zZ k (A.deeper (envOfC qual (zP st) s.heap.objs.size f cdv))->sp vs H Q E->
   ∃ t,yT (zW (xZ P w) P w K mg base N qual (zP st) f cdv A outer s H E) (xo st) t/\t { nx:=λ_ H'=>Q .non H',rt:=Q } (xw N vs) H):zF P w K mg base (xZ P w) (k + 1) f fd ps sp:=by
 obtain ⟨oc,od,kV,doc,pm,an,cdv,ct,osl,rfl,lk,hcd⟩:=F.ex
 exact UD lk hcd S len λA outer s H vs Q E hr hsp=>hbody cdv A outer s H vs Q E hr hsp
structure jU (P:Program) (w:World) (K:cg) (mg:Str->Option Value) (base:Heap) (x:Str) (ps:List Str) (k:Nat) (sp:Sp):Prop where
 ex:∃ f fd,zF P w K mg base (xZ P w) k f fd ps sp/\mg x=some (.ref f)/\dN K (.ref f)=true/\w6 K fd ps []
theorem jU.mono {x:Str} {ps:List Str} {j k:Nat} {sp:Sp} (F:jU P w K mg base x ps j sp) (h:j<=k:=by decide):jU P w K mg base x ps k sp:=by
 obtain ⟨f,fd,a,b,c,d⟩:=F.ex
 exact ⟨f,fd,a.mono h,b,c,d⟩
end
def qP (e C:Addr):HO:=.ext λh=>∃ oe vs,h.get? e=some oe/\oe.cls=.ref C/\oe.data=.fields vs/\vs[2]? = some .none
abbrev Cx.mark (X:Cx) (e:Addr):Cx:={ X with A:=X.A.mark (some (.ref e)),calm:=false,xe:=λ_ _=>False }
section
variable {X:Cx} {pins:List (Addr × Obj)} {σ:St} {H:Hp} {s:Shared} {e:Addr}
theorem zE.mark (I:zE X pins σ H s) (e:Addr):zE (X.mark e) pins σ H s:=
 ⟨⟨I.ok.mod,I.ok.kind,I.ok.glob,I.ok.blt,I.ok.above,I.ok.inj,I.ok.has,I.ok.cab,λz=>(nomatch z),I.ok.frames,I.ok.stk,I.ok.exf,I.ok.bs,I.ok.bsz,I.ok.noex,I.ok.exfs,I.ok.funs,I.ok.frf⟩,I.os,I.bare,I.base,I.loc,I.cell,I.free,I.freeC,I.pin,I.hok,I.len⟩
theorem zE.unmark (hh:X.calm=true->X.A.handled=none) (I:zE (X.mark e) pins σ H s):zE X pins σ H s:=
 ⟨⟨I.ok.mod,I.ok.kind,I.ok.glob,I.ok.blt,I.ok.above,I.ok.inj,I.ok.has,I.ok.cab,hh,I.ok.frames,I.ok.stk,I.ok.exf,I.ok.bs,I.ok.bsz,I.ok.noex,I.ok.exfs,I.ok.funs,I.ok.frf⟩,I.os,I.bare,I.base,I.loc,I.cell,I.free,I.freeC,I.pin,I.hok,I.len⟩
theorem zE.track {o:HO} (I:zE X pins σ H s) (hn:H e=none) (h0:e∈X.ex\/X.s₀.heap.get? e=none) (hL:e≠X.env.locals) (hc:∀ x c,X.env.cells.lookup x=some c->c≠e) (hp:∀ p∈X.pn++pins,p.1≠e)
  (new:xU X.prog X.w (zV H e o) s.heap e o):zE X pins σ (zV H e o) s:=by
 have ne:∀ b u,H b=some u->b≠e:=λb u q=>wC q hn
 refine ⟨I.ok,I.os,I.bare,⟨I.base.keep,I.base.slot,λb ob q n hx=>?_,I.base.there,λb xs q=>?_,λb ob u q=>?_,λb ps q=>?_⟩,I.loc,I.cell,?_,λx c q=>?_,λp hq=>?_,λb u q=>?_,I.len⟩
 ·rw [zl λz=>?_]
  ·exact I.base.free b ob q n hx
  ·subst z
   rcases h0 with z | z
   ·exact hx z
   ·rw [q] at z; cases z
 ·have z:=I.base.tups b xs q
  rw [zl (ne _ _ z)]
  exact z
 ·have z:=I.base.frzs b ob u q
  rw [zl (ne _ _ z)]
  exact z
 ·obtain ⟨m,z⟩:=I.base.tbls b ps q
  exact ⟨m,by rw [zl (ne _ _ z)]; exact z⟩
 ·rw [zl (Ne.symm hL)]
  exact I.free
 ·rw [zl (hc x c q)]
  exact I.freeC x c q
 ·obtain ⟨a1,a2,a3,a4,a5⟩:=I.pin p hq
  exact ⟨a1,by rw [zl (hp p hq)]; exact a2,a3,a4,a5⟩
 ·by_cases z:b=e
  ·subst z
   rw [xv] at q
   cases q
   exact new
  ·rw [zl z] at q
   exact (I.hok b u q).stay (λ_ _ _ r=>r) (λc r=>by rw [zl (ne _ _ r)]; exact r) λc xs r=>by rw [zl (ne _ _ r)]; exact r
end
def PEX (X:Cx) (ex:Expr) (t:XK->TE):Prop:=
 ∀ (pins:List (Addr × Obj)) (s:Shared) (σ:St) (H:Hp) (Q:VK) (E:XK),zE X pins σ H s->t E σ H Q->
  wpAny (model X.prog X.w) X.A (eval ex X.env) (EP X pins σ Q) (λev s'=>∃ (s1:Shared) (H1 H2:Hp) (e:Addr) (cls a0:Value) (B:Heap),zE X pins σ H1 s1/\ev=.ref e/\XL X.prog X.w X.stack H1 H2 s1 s' B e cls a0/\E cls none H2) s
theorem zKw {X:Cx} {x:Str} {ps:List Str} {k:Nat} {sp:Sp} {e:Expr} {es:List Expr} {t:TA} {p pos:Pos} (F:jU X.prog X.w X.K X.mg X.base x ps k sp) (hr:zZ k X.A) (hg:Gl X x) (ha:PA X.nox (e :: es) t)
  (hdb:(x == ("__debug__" : Str))=false:=by decide) (he:starEach (e :: es) X.env=(false,eval e X.env) :: starEach es X.env:=by rfl) (hpl:(backTo pos (starEach es X.env)).any (·.1)=false:=by rfl) :
  PEX X (.Call (.Name x p) (e :: es) [] pos) (λE=>jC sp [] E t):=by
 intro pins s σ H Q E I h
 obtain ⟨f,fd,Fk,hm,hk,hb⟩:=F.ex
 refine wpAny_Call_Name_kw (gS I hg hm ?_ hdb)
 refine hX (h₀:=X.base) I.ok.mod.kin hk (wpAny_mono (ha pos pins s σ H _ (I.wish _) h) (λus s1 ⟨vs,H1,I1,r,q⟩=>⟨I1.unwish.kIn,?_⟩) λ_ _ z=>False.elim z) he hpl
 have I1':=I1.unwish
 have r2:zJ (vs++[]) (us++[]):=r.append .nil
 have hl:(us++[]).length=ps.length:=by rw [<- r2.length]; exact Fk.len _ _ _ _ q
 refine wpAny_call (codeAny_mono (Fk.run X.A X.stack s1 H1 ⟨us,[]⟩ (us++[]) (vs++[]) Q E hr I1'.env0 (hb s1 us I1'.kIn hl) r2 q) λr s' hq=>?_)
 cases r with
 | error ev=>
  obtain ⟨ee,cls,a0,B,H2,rfl,x,qE⟩:=hq
  exact ⟨s1,H1,H2,ee,cls,a0,B,I1',rfl,x,qE⟩
 | ok fl=>
  cases fl with
  | ret u=>exact I1'.after hq
  | next=>exact False.elim hq
  | brk=>exact False.elim hq
  | cont=>exact False.elim hq
end L2
namespace L2
open PySem PySem.Spec PyProof.Rows
def XP (X:Cx) (pins:List (Addr × Obj)) (ES:St->XK) (ev:Value) (s':Shared):Prop:=
 ∃ (σ1:St) (s1:Shared) (H1 H2:Hp) (e:Addr) (cls a0:Value) (B:Heap),zE X pins σ1 H1 s1/\ev=.ref e/\XL X.prog X.w X.stack H1 H2 s1 s' B e cls a0/\ES σ1 cls none H2
abbrev TX:=(St->XK)->TS
def gm (X:Cx) (st:Stmt) (t:TX):Prop:=∀ (pins:List (Addr × Obj)) (s:Shared) (σ:St) (H:Hp) (D:yf) (ES:St->XK),zE X pins σ H s->t ES D σ H->wpAny (model X.prog X.w) X.A (exec st X.env) (SP X pins D) (XP X pins ES) s
def jE (X:Cx) (ss:List Stmt) (t:TX):Prop:=∀ (pins:List (Addr × Obj)) (s:Shared) (σ:St) (H:Hp) (D:yf) (ES:St->XK),zE X pins σ H s->t ES D σ H->wpAny (model X.prog X.w) X.A (execs ss X.env) (SP X pins D) (XP X pins ES) s
section
variable {X:Cx} {call:Expr} {tb:XK->TE} {pos pos':Pos}
theorem zOx {i:Nat} {x:Str} (hN:X.N.Nodup) (hi:X.N[i]? = some x) (hx:v5 X.env.scope x) (hb:PEX X call tb) (hs:swapsWith call (some (.Name x pos')) pos.line X.env=pure false:=by rfl)
  (hf:X.fn x=true\/X.env.scope.names.lookup x=some .local:=by first | exact .inl rfl | exact .inr rfl | assumption):gm X (.Assign [.Name x pos'] call pos) (λES D σ H=>tb (ES σ) σ H λv H1=>D.nx (σ.set i (some v)) H1):=by
 intro pins s σ H D ES I h
 refine wpAny_Assign_Name (wpAny_mono (hb pins s σ H _ _ I h) (λv s1 ⟨y,H1,I1,r1,q1⟩=>?_) λev s1 ⟨s0,H1,H2,e,cls,a0,B,I0,e1,xl,q⟩=>⟨σ,s0,H1,H2,e,cls,a0,B,I0,e1,xl,q⟩) hs
 exact Wu I1 hN hi hx r1 (λs2 I2=>⟨_,H1,I2,q1⟩) hf
theorem zQJ {st:Stmt} {t:TS} (hp:PS X.nox st t):gm X st (λ_=>t):=by
 intro pins s σ H D ES I h
 exact wpAny_mono (hp pins s σ H D (I.wish _) h) (λf s1 q=>SP.unwish q) λ_ _ z=>z.elim
theorem zMm:jE X [] (λ_ D σ H=>D.nx σ H):=λ_ _ σ H _ _ I h=>wpAny_execs_nil ⟨σ,H,I,h⟩
theorem zKq {st:Stmt} {ss:List Stmt} {t u:TX} (h1:gm X st t) (h2:jE X ss u):jE X (st :: ss) (λES D σ H=>t ES { D with nx:=u ES D } σ H):=by
 intro pins s σ H D ES I h
 refine wpAny_execs_cons (wpAny_mono (h1 pins s σ H _ ES I h) (λf s1 q=>?_) λ_ _ z=>z)
 cases f with
 | next=>obtain ⟨σ',H',I',q'⟩:=q; exact h2 pins s1 σ' H' D ES I' q'
 | brk=>exact q
 | cont=>exact q
 | ret u=>exact q
end
def zP0 (K:cg) (Cb:Addr) (tb:TX) (th:TS):TS:=λD σ H=>
 tb (λσ1 cls _ H2=>∃ C,cls=.ref C/\iP K (.ref C) (.ref Cb)=some true/\∀ e,H2 e=none->
  th D σ1 (zV H2 e (qP e C))) D σ H
theorem zOz {X:Cx} {Cb:Addr} {x:Str} {body:List Stmt} {tb:TX} {th:TS} {b₀:Stmt} {suite:List Stmt} {np hpos pos:Pos} (hg:Gl X x) (hm:X.mg x=some (.ref Cb)) (hc:X.calm=true)
  (hf:X.env.frame=some X.env.locals) (hst:X.stack=X.env :: X.outer) (hb:jE X body tb) (hh:∀ e,yT (X.mark e) (b₀ :: suite) th)
  (hdb:(x == ("__debug__" : Str))=false:=by decide) :
  PS X (.Try body [.ExceptHandler (some (.Name x np)) none (b₀ :: suite) hpos] [] [] pos) (zP0 X.K Cb tb th):=by
 intro pins s σ H D I h
 refine wpAny_Try_except (wpAny_mono (hb pins s σ H D _ I h) (λfl s1 q1=>?_) λev s1 hx=>?_)
 ·cases fl with
  | next=>exact wpAny_execs_nil q1
  | brk=>exact q1
  | cont=>exact q1
  | ret u=>exact q1
 obtain ⟨σ1,s0,H1,H2,e,cls,a0,B,I0,rfl,xl,C,rfl,hx,q⟩:=hx
 have hfr:X.A.frames=some (X.env :: X.outer):=by rw [<- hst]; exact I.ok.frames
 have xl':XL X.prog X.w (X.env :: X.outer) H1 H2 s0 s1 B e (.ref C) a0:=by rw [<- hst]; exact xl
 have behind:∀ {h':Heap} {tk:Nat},XL X.prog X.w (X.env :: X.outer) H1 H2 s0 { s1 with heap:=h',toks:=tk } B e (.ref C) a0->zE X pins σ1 H2 { s1 with heap:=h',toks:=tk }:=λ{h' tk} z=>by
  have z':XL X.prog X.w X.stack H1 H2 s0 { s1 with heap:=h',toks:=tk } B e (.ref C) a0:=by rw [hst]; exact z
  exact I0.call' (ch:=[]) z'.os z'.un z'.held z'.bare λb hb=>absurd hb (by simp)
 have hE:∀ (Y:Around) (v:Value) (sx:Shared),False->notedBy (model X.prog X.w) Y X.env (cameBackBy (model X.prog X.w) X.A X.env X.xe) v sx:=λ_ _ _ z=>z.elim
 refine zQo Uo hfr hf xl'.fly λh4 held4 up4=>?_
 refine Xo held4 λh5 fly5 up5=>?_
 have x5:=xl'.move (tk:=s1.toks) fly5 (up4.trans up5)
 have I5:=behind x5
 refine wpAny_handleBy_cons (codeAny_handlers_test (gS (I5.mark e) hg hm ?_ hdb)) (by intro q; cases q)
 obtain ⟨oe,ws,he,hcl,hd,_⟩:=yb.first fly5
 have LT:PySem.W.Looks (model X.prog X.w) h5 (typeOf (.ref e)) (.ref C):=hcl ▸ (PySem.W.Looks.ld he).andThen .now
 refine (PySem.W.exm_one (K:=X.K) I5.kIn LT hx).here (codeAny_handlers_suite ?_)
 refine Xo (s:={ s1 with heap:=h5 }) fly5 λh6 fly6 up6=>?_
 have x6:=xl'.move (tk:=s1.toks) fly6 ((up4.trans up5).trans up6)
 have I6:=behind x6
 obtain ⟨oe6,ws6,he6,hcl6,hd6,h26⟩:=yb.first fly6
 obtain ⟨new,hH,nfr⟩:=xl.new
 have eL:e≠X.env.locals:=λz=>nfr (by
  rw [hst]
  unfold xE
  rw [d_,hf,z]
  exact cv)
 have J6:zE X pins σ1 (zV H2 e (qP e C)) { s1 with heap:=h6,toks:=s1.toks }:=by
  refine I6.track hH ?_ eL (λy c q z=>?_) (λp hp z=>?_) ⟨⟨oe6,ws6,he6,hcl6,hd6,h26⟩,⟨oe6,he6⟩,λg1 g2 ⟨o,v,p1,p2,p3⟩ k=>⟨o,v,k _ p1,p2,p3⟩⟩
  ·by_cases hx:e∈X.ex
   ·exact .inl hx
   ·refine .inr ?_
    cases q:X.s₀.heap.get? e with
    | none=>rfl
    | some o=>
     obtain ⟨o',z⟩:=I0.base.there e o q hx
     rw [new] at z
     cases z
  ·obtain ⟨v,o,ho,_⟩:=I0.cell y c q
   rw [z,new] at ho
   cases ho
  ·have z1:=(I0.pin p hp).1
   rw [z,new] at z1
   cases z1
 refine wpAny_mono (hh e pins _ _ _ _ (J6.mark e) (q e hH)) (λfl s8 h8=>?_) λ_ _ z=>False.elim z
 cases fl with
 | ret u=>obtain ⟨v,σ8,H8,I8,r8,q8⟩:=h8; exact ⟨v,σ8,H8,I8.unmark λz=>I.ok.hd z,r8,q8⟩
 | brk=>obtain ⟨σ8,H8,I8,q8⟩:=h8; exact ⟨σ8,H8,I8.unmark λz=>I.ok.hd z,q8⟩
 | cont=>obtain ⟨σ8,H8,I8,q8⟩:=h8; exact ⟨σ8,H8,I8.unmark λz=>I.ok.hd z,q8⟩
 | next=>obtain ⟨σ8,H8,I8,q8⟩:=h8; exact ⟨σ8,H8,I8.unmark λz=>I.ok.hd z,q8⟩
end L2
namespace L2
open PySem PySem.Spec PyProof.Rows
section
variable {P:Program} {w:World} {K:cg} {mg:Str->Option Value} {base:Heap} {N:List Str} {qual:Str} {scope:Scope} {f:Addr} {cd:Value} {A:Around} {outer:List Env} {s:Shared} {H:Hp} {E:XK}
variable {C:Addr} {m x:Str} {ps:List Str} {k:Nat} {sp:Sp} {o e:Expr} {es:List Expr} {ta:TE} {t:TA} {p pos apos:Pos}
theorem zM1 (F:jU P w K mg base x ps k sp) (hr:zZ k (zW (xZ P w) P w K mg base N qual scope f cd A outer s H E).A) (hg:Gl (zW (xZ P w) P w K mg base N qual scope f cd A outer s H E) x) (ha:PA (zW (xZ P w) P w K mg base N qual scope f cd A outer s H E) (e :: es) t)
  (hdb:(x == ("__debug__" : Str))=false:=by decide) (he:starEach (e :: es) (zW (xZ P w) P w K mg base N qual scope f cd A outer s H E).env=(false,eval e (zW (xZ P w) P w K mg base N qual scope f cd A outer s H E).env) :: starEach es (zW (xZ P w) P w K mg base N qual scope f cd A outer s H E).env:=by rfl)
  (hpl:(backTo pos (starEach es (zW (xZ P w) P w K mg base N qual scope f cd A outer s H E).env)).any (·.1)=false:=by rfl) :
  PE (zW (xZ P w) P w K mg base N qual scope f cd A outer s H E) (.Call (.Name x p) (e :: es) [] pos) (jC sp [] E t):=by
 obtain ⟨f',fd,a,b,c,d⟩:=F.ex
 exact UC (X:=zW (xZ P w) P w K mg base N qual scope f cd A outer s H E) a hr hg b c d .nil (zK5 λ_ _ _ z=>z) ha hdb he hpl
end
end L2
namespace Sh
open PySem L2
inductive AK where
 | int (i:Int)
 | bool (b:Bool)
 | non
 | str (x:Str)
 | dic
 | lst (as:List AK)
 | tup (as:List AK)
 | mode (r n s p a d:AK)
def AK.isInt:AK->Bool
 | .int _=>true
 | .bool _=>true
 | _=>false
def AK.isBool:AK->Bool
 | .bool _=>true
 | _=>false
def AK.isLst:AK->Bool
 | .lst _=>true
 | _=>false
def AK.isTup:AK->Bool
 | .tup _=>true
 | _=>false
inductive Zg where
 | made | bad | many
def Zg.str:Zg->Str
 | .made=>"made"
 | .bad=>"bad"
 | .many=>"many"
end Sh
namespace HT
open PySem PySem.Spec PyProof.Rows
section
variable {prog:Program} {w:World} {A:Around} {E:Value->Shared->Prop} {s:Shared}
theorem cat_tup0 {t b:Addr} {vs ws:List Value} {Q:Value->Shared->Prop} (ht:IsTup s.heap t vs.toArray) (hb:IsTup s.heap b ws.toArray) (hv:vs=[]) (h0:Q (.ref b) s):wpAny (model prog w) A (binaryOp .Add (.ref t) (.ref b)) Q E s:=by
 obtain ⟨⟨cls,dd,data,sl⟩,ho,hc,n,hd⟩:=id ht
 obtain ⟨⟨cls2,dd2,data2,sl2⟩,ho2,hc2,n2,hd2⟩:=id hb
 simp only at hc hd hc2 hd2
 subst hc hd hc2 hd2
 exact concat_meets ⟨_,ho,rfl⟩ ⟨_,ho2,rfl⟩ noFill_tuple_add seq_tuple_add fG fk (fb _ _)
  (tuple_addW0 t b vs.toArray ws.toArray n n2 dd dd2 sl sl2 (by simp [hv])) ⟨ho,ho2,h0⟩
theorem getItem_tuple_all {t sl:Addr} {items:Array Value} {vl vu:Value} {lo hi:Option Int} {Q:Value->Shared->Prop} (ht:IsTup s.heap t items) (hs:s.heap.IsSliceOf sl vl vu .none) (pl:IsPart vl lo) (pu:IsPart vu hi)
  (hw:sIx items.size 0 lo=0/\sIx items.size items.size hi=items.size) (h:Q (.ref t) s):wpAny (model prog w) A (getItem (.ref t) (.ref sl)) Q E s:=by
 obtain ⟨os,hos,hcs,hds⟩:=id hs
 have hTs:s.TypeIs (.ref sl) "slice":=⟨os,hos,hcs⟩
 unfold getItem
 try with_reducible refine wpAny_holding ?_
 first | refine wpAny_bind (wpAny_pure ?_) | skip
 refine wpAny_bind (wpAny_sequenceKey ht.typeIs (by decide) ?_)
 refine wpAny_bind (wpAny_callSpecial?_slot (name:=dU "__getitem__") ht.typeIs PyProof.Rows.slot_tuple_getitem
  (wpAny_call_entry PyProof.Rows.slot_tuple_getitem ht.typeIs entry_tuple_getitem ?_ (args_tuple_getitem _ _)))
 show wpAny _ _ (Builtin.Tuple.tupleItemsOf (.ref t) >>= _) _ _ s
 refine wpAny_bind (tupleItemsOf_ ht ?_)
 refine wpAny_bind (wpAny_typeOf hTs ?_)
 rw [if_pos (by decide)]
 refine wpAny_bind (zDB hs pl pu ?_)
 have hyes:(((sIx items.size 0 lo:Nat):Int) == 0 && (1:Int) == 1 && (sIx items.size items.size hi - sIx items.size 0 lo) == items.size)=true:=by
  rw [hw.1,hw.2]
  simp
 show wpAny _ _ (if (((sIx items.size 0 lo:Nat):Int) == 0 && (1:Int) == 1 && (sIx items.size items.size hi - sIx items.size 0 lo) == items.size)=true then _ else _) _ _ s
 rw [if_pos hyes]
 unfold Builtin.Tuple.tupleIsExact
 refine wpAny_bind (wpAny_bind (wpAny_typeOf ht.typeIs (wpAny_pure ?_)))
 rw [if_pos (by decide)]
 refine wpAny_bind (wpAny_rule ?_)
 exact wpAny_pure ⟨_,rfl,wpAny_pure h⟩
end
end HT
namespace L2
open PySem PySem.Spec PyProof.Rows
section
variable {X:Cx}
inductive Up (x y:V) (H:Hp) (Q:VK):Prop
 | mk (a b:Addr) (xs ys:List V) (_:x=.ref a) (_:y=.ref b) (_:H a=some (.tup xs)) (_:H b=some (.tup ys)) (_:xs.length + ys.length<=sizeLine) (_:∀ p H',zL H H'->H' p=some (.tup (xs++ys))->Q (.ref p) H'):Up x y H Q
theorem Zh:yt X (binaryOp .Add) Up:=by
 intro pins s σ H x y v u Q I rx ry h
 obtain ⟨a,b,xs,ys,rfl,rfl,ha,hb,hz,q⟩:=h
 by_cases hne:xs=[]
 ·subst hne
  cases rx
  cases ry
  obtain ⟨its,r1,p1,_⟩:=I.tuple (yH.of ha)
  obtain ⟨its2,r2,p2,_⟩:=I.tuple (yH.of hb)
  exact HT.cat_tup0 p1 p2 (r1.nil_iff.mpr rfl) ⟨.ref b,H,I,rfl,q b H (zL.refl _) hb⟩
 ·exact zPC pins s σ H _ _ v u Q I rx ry ⟨a,b,xs,ys,rfl,rfl,ha,hb,hne,hz,q⟩
inductive Zi (x:V) (lo hi:Option Int) (H:Hp) (Q:VK):Prop
 | mk (a:Addr) (xs:List V) (_:x=.ref a) (_:H a=some (.tup xs)) (_:∀ p H',zL H H'->H' p=some (.tup (wr xs lo hi))->Q (.ref p) H'):Zi x lo hi H Q
theorem zNR:qA X Zi:=by
 intro pins s σ H x v vl vu lo hi sl Q I rx hs pl pu h
 obtain ⟨a,xs,rfl,hx,q⟩:=h
 by_cases hw:HT.sIx xs.length 0 lo=0/\HT.sIx xs.length xs.length hi=xs.length
 ·cases rx
  obtain ⟨its,r,ht,hz⟩:=I.tuple (yH.of hx)
  have hlen:its.toArray.size=xs.length:=by rw [cy]; exact r.length.symm
  refine ⟨"tuple",_,PyProof.Rows.slot_tuple_getitem.lookup,ht.typeIs,?_⟩
  refine HT.getItem_tuple_all ht hs pl pu (by rw [hlen]; exact hw) ⟨.ref a,H,I,rfl,q a H (zL.refl _) (hx.trans ?_)⟩
  unfold wr
  rw [hw.1,hw.2,h_,iF,fV]
 ·exact zP6 pins s σ H _ v vl vu lo hi sl Q I rx hs pl pu ⟨a,xs,rfl,yH.of hx,hw,λp hp=>q p _ (Sh.jD hp _) xv⟩
end
end L2
set_option linter.all false
namespace Sh
def bt:List (Int × Int)->Int
 | []=>1
 | p :: ps=>p.2 * bt ps
def tp:List Int->List (Int × Int)->Int
 | w :: ws,p :: ps=>w * p.1 * bt ps + p.2 * tp ws ps
 | _,_=>0
def yD:List Int->List Int->Int
 | r :: rs,a :: as=>r * a + yD rs as
 | _,_=>0
def zX (nums:List Int) (ls:List (List Int)) (j:Nat):Int:=((nums.zip ls).map λq=>q.1 * q.2.getD j 0).sum
theorem Zj (r:Int) (rs:List Int) (c:List Int) (cs:List (List Int)) (j:Nat):zX (r :: rs) (c :: cs) j=r * c.getD j 0 + zX rs cs j:=by
 simp only [zX,hZ,cT,eI]
end Sh
set_option linter.all false
namespace Sh
def xx (pl:Int) (n:Nat) (nu:Int):List Int:=(cO n).map λ(i:Nat)=>if (i:Int)=pl then nu else 0
theorem uC (pl:Int) (n:Nat) (nu:Int):(xx pl n nu).length=n:=by
 unfold xx
 rw [a_,cx]
def xW (n p:Nat) (r:List Int):List Int:=(r.take n++cj p 0)++[r.getD n 0]
def xr (n p:Nat) (i:Nat) (b:Int × Int):List (List Int):=[xx ((n + i:Nat):Int) (n + p) 1++[b.2],xx ((n + i:Nat):Int) (n + p) (-1)++[-b.1]]
def wu (n:Nat) (bs:List (Int × Int)) (rows:List (List Int)):List (List Int):=rows.map (xW n bs.length)++(bs.mapIdx (xr n bs.length)).flatten
def hB (pts:List (Int × Int)) (ws:List Int) (b:Int):Bool:=decide (tp ws pts<=b * bt pts)
def hR (pts:List (Int × Int)) (r:List Int):Bool:=hB pts (r.take pts.length) (r.getD pts.length 0)
theorem zJV {α β:Type}:∀ (f:Nat->α->List β) (bs:List α),(∀ i b,(f i b).length=2)->(bs.mapIdx f).flatten.length=2 * bs.length
 | f,[],_=>by simp
 | f,c :: bs,hf=>by
  rw [lG,dY,b_,hf,zJV (λi=>f (i + 1)) bs λi b=>hf _ _,cJ]
  omega
theorem Xq (n:Nat) (bs:List (Int × Int)) (rows:List (List Int)):(wu n bs rows).length=rows.length + 2 * bs.length:=by
 unfold wu
 rw [b_,a_,zJV _ _ λ_ _=>rfl]
end Sh
set_option linter.all false
namespace Sh
theorem zHk:∀ (ns:List Int) (ls:List (List Int)) (j:Nat),zX ns ls j=yD ns (ls.map λr=>r.getD j 0)
 | [],_,_=>by simp [zX,yD]
 | _ :: _,[],_=>by simp [zX,yD]
 | n :: ns,l :: ls,j=>by rw [Zj,cT,zHk ns ls j]; rfl
end Sh
set_option linter.all false
namespace Sh
theorem zJH (B:List (List Int)) (j:Nat):zX [] B j=0:=by unfold zX; simp
theorem ut (r:List Int) (rows:List (List Int)) (x:Int) (nums:List Int) (j:Nat):ya (r :: rows) (x :: nums) j=r.getD j 0 * x + ya rows nums j:=by unfold ya; simp
theorem Zk (nums:List Int) (j:Nat):ya [] nums j=0:=by unfold ya; simp
theorem zMt (rows:List (List Int)) (j:Nat):ya rows [] j=0:=by unfold ya; simp
theorem zMY {n:Nat} {r:List Int} (h:n<=r.length):(cO n).map (λi=>r.getD i 0)=r.take n:=by
 apply List.ext_getElem?
 intro i
 rw [cV,List.getElem?_take]
 by_cases hi:i < n
 ·rw [dM hi,if_pos hi,cu (show i < r.length by omega)]
  show some (r.getD i 0)=_
  rw [ci,cu (show i < r.length by omega)]
  rfl
 ·rw [if_neg hi,fP (by rw [cx]; omega)]
  rfl
end Sh
namespace L2
open PySem PySem.Spec PyProof.Rows
def vP (t:Bool) (K:cg) (H:Hp) (a:Addr) (xs:List V):Prop:=match t with
 | true=>yH K H a xs
 | false=>zw K H a xs
def uD (t:Bool) (h:Heap) (a:Addr) (its:Array Value):Prop:=match t with
 | true=>h.IsTuple a its
 | false=>h.IsList a its
def jF (t:Bool) (h:Heap) (i a:Addr) (n:Nat):Prop:=match t with
 | true=>h.IsTupleIter i a n
 | false=>h.IsListIter i a n
def jV (t:Bool) (a:Addr):Obj:=match t with
 | true=>{ cls:=.type "tuple_iterator",data:=.fields #[.ref a,.int 0 0] }
 | false=>{ cls:=.type "list_iterator",data:=.fields #[.ref a,.int 0 0] }
section
variable {X:Cx} {pins:List (Addr × Obj)} {σ:St} {H:Hp} {s:Shared} {a i:Addr} {xs ys:List V} {h h':Heap} {n:Nat} {its:Array Value} {prog:Program} {w:World} {A:Around} {E:Value->Shared->Prop}
theorem Xr:∀ {t:Bool},jF t h i a n->∃ o,h.get? i=some o/\∀ v,o.data≠.cell v
 | true,⟨o,e,_,d⟩=>⟨o,e,by rw [d]; exact ZV⟩
 | false,⟨o,e,_,d⟩=>⟨o,e,by rw [d]; exact ZV⟩
theorem Xs (k:∀ o,h.get? i=some o->h'.get? i=some o):∀ {t:Bool},jF t h i a n->jF t h' i a n
 | true,⟨o,e,r⟩=>⟨o,k o e,r⟩
 | false,⟨o,e,r⟩=>⟨o,k o e,r⟩
theorem zQ6 (k:∀ o,h.get? a=some o->h'.get? a=some o):∀ {t:Bool},uD t h a its->uD t h' a its
 | true,⟨o,e,r⟩=>⟨o,k o e,r⟩
 | false,⟨o,e,r⟩=>⟨o,k o e,r⟩
theorem zOH:∀ {t:Bool},uD t h a its->a < h.objs.size
 | true,⟨_,e,_⟩=>cB e
 | false,⟨_,e,_⟩=>cB e
theorem zQ7 (e:h.get? i=some (jV t a)):jF t h i a 0:=by
 cases t
 ·exact ⟨_,e,rfl,rfl⟩
 ·exact ⟨_,e,rfl,rfl⟩
theorem zQ4 {t:Bool}:(jV t a).isFreed=false:=by cases t <;> rfl
theorem gn (I:zE X pins σ H s):∀ {t:Bool},vP t X.K H a xs->∃ its:List Value,zJ xs its/\uD t s.heap a its.toArray
 | true,q=>let ⟨its,r,p,_⟩:=I.tuple q; ⟨its,r,p⟩
 | false,q=>let ⟨its,r,p,_⟩:=I.list q; ⟨its,r,p.isList⟩
theorem zKV (I:zE X pins σ H s):∀ {t:Bool},vP t X.K H a xs->vP t X.K H a ys->xs=ys
 | true,q,r=>I.tuple_inj q r
 | false,q,r=>I.list_inj q r
theorem Xu (hh:A.handled=none) (hne:a≠i) (its:Array Value):∀ t:Bool,Draws prog w A i [i,a] its.size (λn v=>its[n]? = some v) (λn h=>jF t h i a n/\uD t h a its)
 | true=>zLz hh i a hne its
 | false=>Draws.list hh i a hne its
theorem zQ1 {Q:Value->Shared->Prop}:∀ {t:Bool},uD t s.heap a its->Q (.ref s.heap.objs.size) { s with heap:=s.heap.push (jV t a) }->wpAny (model prog w) A (pyIter (.ref a)) Q E s
 | true,q,r=>wpAny_pyIter_tuple q r
 | false,q,r=>wpAny_pyIter_list q r
end
def Uq (t u:Bool) (K:cg) (a b:Addr):It:=
 ⟨λi H=>∃ xs ys x y,vP t K H a xs/\vP u K H b ys/\xs[i]? = some x/\ys[i]? = some y,
  λi H v H'=>∃ T x y,v=.ref T/\H T=none/\H'=zV H T (.tup [x,y])/\(∀ xs,vP t K H a xs->xs[i]? = some x)/\∀ ys,vP u K H b ys->ys[i]? = some y,
  λi H=>∃ xs ys,vP t K H a xs/\vP u K H b ys/\i<=xs.length/\i<=ys.length/\(i=xs.length\/i=ys.length)⟩
theorem zKP {t u:Bool} {P:Program} {w:World} {K:cg} {es:List Expr} {kk:Nat} {tp:Pos} {a b z TI TO i1 i2:Addr} (Z:Zp z TI TO i1 i2 [i1,a] [i2,b]) (na:a≠i1) (nb:b≠i2) :
  vF P w K (.Tuple es kk tp) (Uq t u K a b) [z,TI,TO,i1,i2] z (λi h=>IsZip h z TI TO .none/\IsPair h TI (.ref i1) (.ref i2)/\(∃ x y,IsPair h TO x y)/\jF t h i1 a i/\jF u h i2 b i) where
 mem:=by simp
 obj:=λi h ⟨t1,t2,⟨x,y,t3⟩,t4,t5⟩ c hc=>by
  simp only [cz,cZ,or_false] at hc
  rcases hc with rfl | rfl | rfl | rfl | rfl
  ·exact ⟨_,t1,ZV⟩
  ·exact ⟨_,t2,zFK⟩
  ·exact ⟨_,t3,zFK⟩
  ·exact Xr t4
  ·exact Xr t5
 keep:=λi h h' ⟨t1,t2,⟨x,y,t3⟩,t4,t5⟩ k=>⟨k z (by simp) _ t1,k TI (by simp) _ t2,⟨x,y,k TO (by simp) _ t3⟩,Xs (k i1 (by simp)) t4,Xs (k i2 (by simp)) t5⟩
 item:=by
  intro X hP hw hK hc i pins s σ H E I hf ⟨t1,t2,⟨x0,y0,t3⟩,t4,t5⟩ hg
  subst hP hw hK
  obtain ⟨xs,ys,x,y,hq1,hq2,hx,hy⟩:=hg
  obtain ⟨its1,rv1,p1⟩:=gn I hq1
  obtain ⟨its2,rv2,p2⟩:=gn I hq2
  obtain ⟨u',hu,ru⟩:=rv1.get hx
  obtain ⟨v,hv,rv⟩:=rv2.get hy
  have hh:X.A.in1.handled=none:=I.ok.hd hc
  have l1:i < its1.toArray.size:=by rw [cy]; exact (cP.mp hu).1
  have l2:i < its2.toArray.size:=by rw [cy]; exact (cP.mp hv).1
  refine zMO (Xu hh na its1.toArray t) (Xu hh nb its2.toArray u) Z t1 t2 t3 ⟨t4,p1⟩ ⟨t5,p2⟩ l1 l2 ?_
  intro x' y' h1 tk px py z1 z2 z3 z4 z5 z6 keep
  simp only [List.getElem?_toArray] at px py
  rw [hu] at px
  rw [hv] at py
  cases px
  cases py
  refine ⟨_,rfl,wpAny_letOwnedTupleGo_zip (s:={ s with heap:=h1,toks:=tk }) z1 λh2 z7 sb=>?_⟩
  have zlt:z < s.heap.objs.size:=cB t1
  have keep2:∀ c o,c∉[z,TI,TO,i1,i2]->s.heap.get? c=some o->h2.get? c=some o:=λc o hc e=>by
   simp only [cz,cZ,or_false,not_or] at hc
   exact sb.extBut c o hc.1 (keep c o hc.1 hc.2.2.1 hc.2.2.2.1 hc.2.2.2.2 e)
  have I':=I.turnT (h':=h2) (tk:=tk) (ch:=[z,TI,TO,i1,i2]) (x:=x) (y:=y) hf keep2 (cL _) (sb.extBut _ _ (fN zlt) z6) ru rv
  refine ⟨.ref s.heap.objs.size,_,I',rfl,⟨s.heap.objs.size,x,y,rfl,I.hok.fresh (cL _),rfl,λxs' q=>by rw [zKV I q hq1]; exact hx,λys' q=>by rw [zKV I q hq2]; exact hy⟩,
   ⟨z7,sb.extBut _ _ Z.a1 z2,⟨_,_,sb.extBut _ _ Z.a2 z3⟩,Xs (λo=>sb.extBut _ o Z.a3) z4.1,Xs (λo=>sb.extBut _ o Z.a4) z5.1⟩,λc hc=>?_⟩
  have:=(hf c hc).1
  rw [zl]
  ·exact this
  ·intro q
   obtain ⟨o,e⟩:∃ o,s.heap.get? c=some o:=by
    simp only [cz,cZ,or_false] at hc
    rcases hc with rfl | rfl | rfl | rfl | rfl
    ·exact ⟨_,t1⟩
    ·exact ⟨_,t2⟩
    ·exact ⟨_,t3⟩
    ·obtain ⟨o,e,_⟩:=Xr t4; exact ⟨o,e⟩
    ·obtain ⟨o,e,_⟩:=Xr t5; exact ⟨o,e⟩
   rw [q] at e
   exact absurd (cB e) (da _)
 done:=by
  intro X hP hw hK hc i pins s σ H E I hf ⟨t1,t2,⟨x0,y0,t3⟩,t4,t5⟩ hg
  subst hP hw hK
  obtain ⟨xs,ys,hq1,hq2,e1,e2,e3⟩:=hg
  obtain ⟨its1,rv1,p1⟩:=gn I hq1
  obtain ⟨its2,rv2,p2⟩:=gn I hq2
  have hh:X.A.in1.handled=none:=I.ok.hd hc
  have n1:its1.toArray.size=xs.length:=by rw [cy]; exact rv1.length.symm
  have n2:its2.toArray.size=ys.length:=by rw [cy]; exact rv2.length.symm
  refine zOc (Xu hh na its1.toArray t) (Xu hh nb its2.toArray u) Z t1 t2 t3 ⟨t4,p1⟩ ⟨t5,p2⟩ (by omega) (by omega) (by omega) ?_
  intro h1 tk keep
  refine ⟨rfl,I.turnN (h':=h1) (tk:=tk) (ch:=[z,TI,TO,i1,i2]) hf λc o hc e=>?_⟩
  simp only [cz,cZ,or_false,not_or] at hc
  exact keep c o hc.1 hc.2.2.1 hc.2.2.2.1 hc.2.2.2.2 e
 self:=λ_ _ _ _ _ st h=>wpAny_pyIter_zip st.1 h
abbrev qQ (t u:Bool) (h:Heap) (a b:Addr):Heap:=(h.push (jV t a)).push (jV u b)
abbrev qR (t u:Bool) (h:Heap) (a b:Addr):Heap:=(qQ t u h a b).push { cls:=.type "tuple",data:=.seq #[.ref h.objs.size,.ref (h.push (jV t a)).objs.size] }
abbrev jG (t u:Bool) (h:Heap) (a b:Addr):Heap:=(qR t u h a b).push { cls:=.type "tuple",data:=.seq #[.none,.none] }
abbrev vv (t u:Bool) (h:Heap) (a b:Addr):Heap:=(jG t u h a b).push { cls:=.type "zip",data:=.fields #[.none,.bool false,.bool false,.ref (qQ t u h a b).objs.size,.ref (qR t u h a b).objs.size] }
theorem zMP (t u:Bool) (a b:Addr) (xs ys:Array Value) :
  Meets (Builtin.«zip.__new__» ⟨[.type "zip",.ref a,.ref b],[]⟩) (λ_ R s=>uD t s.heap a xs/\uD u s.heap b ys/\R (.ok (.ret (.ref (jG t u s.heap a b).objs.size))) { s with heap:=vv t u s.heap a b }):=
 .of_wp λprog w A R s h=>by
  obtain ⟨hp,g,d,tk,os⟩:=s; obtain ⟨h1,h2,h⟩:=h
  have hsub:=sub_zip
  have e1:uD t (Shared.heap ⟨hp,g,d,tk,os⟩) a xs:=h1
  have e2:uD u (Shared.heap ⟨hp.push (jV t a),g,d,tk,os⟩) b ys:=zQ6 (λ_ e=>ck _ e) h2
  wp_walk using zQ1 e1,zQ1 e2
  exact ⟨_,rfl,h⟩
theorem zL8 {t u:Bool} {prog:Program} {w:World} {A:Around} {E:Value->Shared->Prop} {s:Shared} {a b:Addr} {xs ys:Array Value} {Q:Value->Shared->Prop} (h1:uD t s.heap a xs) (h2:uD u s.heap b ys)
  (h:∀ h',IsZip h' (s.heap.objs.size + 4) (s.heap.objs.size + 2) (s.heap.objs.size + 3) .none->IsPair h' (s.heap.objs.size + 2) (.ref s.heap.objs.size) (.ref (s.heap.objs.size + 1))->IsPair h' (s.heap.objs.size + 3) .none .none->
   jF t h' s.heap.objs.size a 0->jF u h' (s.heap.objs.size + 1) b 0->(∀ c o,s.heap.get? c=some o->h'.get? c=some o)->Q (.ref (s.heap.objs.size + 4)) { s with heap:=h' }) :
  wpAny (model prog w) A (call (.type "zip") [.ref a,.ref b]) Q E s:=by
 refine callType_new F.called_zip (by decide) (F.typeCall_zip_2 _ _) (F.newCall_zip_2 _ _) (λobj=>F.args_object_init_3 obj _ _) F.entry_zip_new (zMP t u a b xs ys) ⟨h1,h2,?_⟩
 have g:∀ {h:Heap} {c:Addr} {o o':Obj},h.get? c=some o->(h.push o').get? c=some o:=λe=>ck _ e
 have p5:(vv t u s.heap a b).get? (jG t u s.heap a b).objs.size=some _:=cG _ rfl
 have p4:(vv t u s.heap a b).get? (qR t u s.heap a b).objs.size=some _:=g (cG _ rfl)
 have p3:(vv t u s.heap a b).get? (qQ t u s.heap a b).objs.size=some _:=g (g (cG _ rfl))
 have p2:(vv t u s.heap a b).get? (s.heap.push (jV t a)).objs.size=some _:=g (g (g (cG _ zQ4)))
 have p1:(vv t u s.heap a b).get? s.heap.objs.size=some _:=g (g (g (g (cG _ zQ4))))
 change _/\_
 simp only [dW] at p5 p4 p3 p2
 have n4:(jG t u s.heap a b).objs.size=s.heap.objs.size + 4:=by simp only [dW]
 rw [n4]
 refine ⟨⟨_,by rw [<- n4]; exact cG _ rfl,rfl⟩,h _ ?_ ?_ ?_ (zQ7 p1) (zQ7 p2) λc o x=>g (g (g (g (g x))))⟩
 ·exact p5
 ·exact p3
 ·exact p4
def Zl (K:cg) (ta:TA):TI:=λσ H R=>ta σ H λvs H1=>∃ a b t u,vs=[.ref a,.ref b]/\(∃ xs,vP t K H1 a xs)/\(∃ ys,vP u K H1 b ys)/\R (Uq t u K a b) H1
theorem zO2 {X:Cx} {es:List Expr} {kk:Nat} {tp:Pos} {e1 e2:Expr} {ta:TA} {p pos:Pos} (hg:Gl X "zip") (hm:X.mg "zip" = none) (ha:PA X [e1,e2] ta) (hs:starEach [e1,e2] X.env=[(false,eval e1 X.env),(false,eval e2 X.env)]:=by rfl) (hs2:starEach [e2] X.env=[(false,eval e2 X.env)]:=by rfl) :
  PI X (.Tuple es kk tp) (.Call (.Name "zip" p) [e1,e2] [] pos) (Zl X.K ta):=by
 intro pins s σ H R I h
 refine Call_ (gT I hg hm (show bootBuiltins "zip" = some (.type "zip") by decide +kernel) (PyProof.Rows.callWith_type1 (zk (ha pos pins s σ H _ I h) λus s1 ⟨vs,H1,I1,r1,q1⟩=>?_) (by rw [hs,hs2]) (by rw [hs2]; rfl)))
 obtain ⟨a,b,t,u,e,⟨xs,hx⟩,⟨ys,hy⟩,q⟩:=q1
 subst e
 obtain ⟨u',v,rfl,ru,rv⟩:=ZK r1
 cases ru
 cases rv
 obtain ⟨its1,rv1,p1⟩:=gn I1 hx
 obtain ⟨its2,rv2,p2⟩:=gn I1 hy
 have la:=zOH p1
 have lb:=zOH p2
 refine zL8 p1 p2 λh' z1 z2 z3 z4 z5 keep=>wpAny_pyIter_zip z1 ?_
 have I2:zE X pins σ H1 { s1 with heap:=h' }:=I1.kept (t':=s1.toks) keep
 exact ⟨s1.heap.objs.size + 4,[s1.heap.objs.size + 4,s1.heap.objs.size + 2,s1.heap.objs.size + 3,s1.heap.objs.size,s1.heap.objs.size + 1],_,_,H1,rfl,I2,
  zKP (a:=a) (b:=b) (ZW _ _ _ la lb) (dg la) (dg (lf lb)),⟨z1,z2,⟨_,_,z3⟩,z4,z5⟩,λc hc=>Ug I1 hc,q⟩
end L2
namespace L2
open PySem PySem.Spec PyProof.Rows
def tsK (prog:Program) (w:World) (A:Around) (cs:List Expr) (env:Env) (Q:Bool->Shared->Prop) (s:Shared):Prop:=match cs with
 | []=>Q true s
 | c :: _=>wpAny (model prog w) A (isTrue c env (eval c env)) Q (λ_ _=>False) s
def Zm (X:Cx) (cs:List Expr) (tc:TT):Prop:=match cs with
 | []=>∀ σ H Q,tc σ H Q->Q true H
 | c :: _=>PT X c tc
theorem zPw {X:Cx} {scope:Scope} {b0:_} {C:Addr} {s₀:Shared} {H₀:Hp} {ex:List Addr} {cs:List Expr} {tc:TT} {pins:List (Addr × Obj)} {σ:St} {H:Hp} {s:Shared} {Q:Bool->Hp->Prop} {G:Bool->Shared->Prop} (h:Zm (xM X scope b0 C s₀ H₀ ex) cs tc) (I:zE (xM X scope b0 C s₀ H₀ ex) pins σ H s) (q:tc σ H Q)
  (k:∀ ok s' H',zE (xM X scope b0 C s₀ H₀ ex) pins σ H' s'->Q ok H'->G ok s'):tsK X.prog X.w X.A cs (xM X scope b0 C s₀ H₀ ex).env G s:=by
 cases cs with
 | nil=>exact k true s H I (h _ _ _ q)
 | cons c cs=>exact zk (h pins s σ H _ I q) λok s' ⟨H',I',q'⟩=>k ok s' H' I' q'
section
variable {prog:Program} {w:World} {A:Around} {R:Result->Shared->Prop} {s:Shared}
theorem zIv {elt target iter:Expr} {cs:List Expr} {scope:Scope} {pos:Pos} {it acc:Value} {env:Env} (Wd:Nat->Shared->Prop)
  (turn:∀ n s,Wd n s->wpAny (model prog w) A (pyNext it) (λr s1=>match r with
   | none=>R (.ok .next) s1
   | some v=>wpAny (model prog w) A (letOwnedTupleGo target it v) (λ_ s2=>wpAny (model prog w) A (assign target env v) (λ_ s3=>tsK prog w A cs env (λok s4=>
     if ok=true then wpAny (model prog w) A (eval elt env) (λx s5=>wpAny (model prog w) A (call (.builtin "list.append") [acc,x]) (λ_ s6=>∃ m,m < n/\Wd m s6) (λ_ _=>False) s5) (λ_ _=>False) s4
     else ∃ m,m < n/\Wd m s4) s3) (λ_ _=>False) s2) (λ_ _=>False) s1) (λ_ _=>False) s)
  (hcs:cs=[]\/∃ c,cs=[c]) (n:Nat) (h:Wd n s):codeAny (model prog w) A (.compLoop (.ListComp elt [⟨target,iter,cs,0⟩] scope pos) 0 it acc env) R s:=by
 refine codeAny_loop rfl Wd (λn s hI=>?_) n h
 show wpAny _ _ (Sem.onRaise (compTurn (.ListComp elt [⟨target,iter,cs,0⟩] scope pos) 0 it acc env) _) _ _ s
 refine wpAny_noted ?_
 have go:wpAny (model prog w) A (pyNext it) _ _ s:=turn n s hI
 rcases hcs with rfl | ⟨c,rfl⟩
 ·rw [compTurn_list1]
  refine wpAny_bind (wpAny_standAt (wpAny_bind (wpAny_mono go (λr s1 h1=>?_) λ_ _ z=>False.elim z)))
  cases r with
  | none=>exact wpAny_pure h1
  | some v=>
   refine wpAny_bind (wpAny_mono h1 (λ_ s2 h2=>?_) λ_ _ z=>False.elim z)
   refine wpAny_bind (wpAny_mono h2 (λ_ s3 h3=>?_) λ_ _ z=>False.elim z)
   refine wpAny_bind (wpAny_bind (wpAny_mono h3 (λx s4 h4=>?_) λ_ _ z=>False.elim z))
   exact wpAny_bind (wpAny_mono h4 (λ_ s5 h5=>wpAny_pure (wpAny_pure ⟨rfl,h5⟩)) λ_ _ z=>False.elim z)
 ·rw [compTurn_list]
  refine wpAny_bind (wpAny_standAt (wpAny_bind (wpAny_mono go (λr s1 h1=>?_) λ_ _ z=>False.elim z)))
  cases r with
  | none=>exact wpAny_pure h1
  | some v=>
   refine wpAny_bind (wpAny_mono h1 (λ_ s2 h2=>?_) λ_ _ z=>False.elim z)
   refine wpAny_bind (wpAny_mono h2 (λ_ s3 h3=>?_) λ_ _ z=>False.elim z)
   refine wpAny_bind (wpAny_tests_one (wpAny_mono h3 (λok s4 h4=>?_) λ_ _ z=>False.elim z))
   cases ok with
   | false=>exact wpAny_pure ⟨rfl,h4⟩
   | true=>exact wpAny_bind (wpAny_bind (wpAny_mono h4 (λx s5 h5=>wpAny_bind (wpAny_mono h5 (λ_ s6 h6=>wpAny_pure (wpAny_pure ⟨rfl,h6⟩)) λ_ _ z=>False.elim z)) λ_ _ z=>False.elim z))
end
section
variable {X:Cx} {scope:Scope} {own:List Str} {caps:List (Nat × Str)} {elt tg iter:Expr} {cs:List Expr} {wi:TI} {g:TG} {tc:TT} {te:TE} {pos:Pos}
theorem zGT {pins:List (Addr × Obj)} {σ:St} {H2:Hp} {s2:Shared} {it:Addr} {fp:List Addr} {tn:Nat->Heap->Prop} {J:It} {W:Nat->Nat->List V->St->Hp->Prop} {m0:Nat} {Q:VK} {E:Value->Shared->Prop} {RR:Value->Addr->Result->Shared->Prop}
  (B:uA X scope own caps) (hc:X.calm=true) (hg:∀ C s₀ H₀ ex,PG (xM X scope (zm own caps) C s₀ H₀ ex) tg g) (hcs:cs=[]\/∃ c,cs=[c]) (ht:∀ C s₀ H₀ ex,Zm (xM X scope (zm own caps) C s₀ H₀ ex) cs tc) (he:∀ C s₀ H₀ ex,PE (xM X scope (zm own caps) C s₀ H₀ ex) elt te)
  (I2:zE X pins σ H2 s2) (T:vF X.prog X.w X.K tg J fp it tn) (st2:tn 0 s2.heap) (f2:∀ b∈fp,yz X pins H2 b) (w0:W 0 m0 [] (vo own caps σ) H2)
  (turn:∀ i m ys σ1 H,W i m ys σ1 H->(J.stop i H/\∀ p,H p=none->Q (.ref p) (zV H p (.lst ys)))∨
   (J.go i H/\ys.length < sizeLine/\∃ (N:V->St->Hp->Prop) (N0:St->Hp->Prop),(∀ y σ' H',N y σ' H'->∃ m',m' < m/\W (i + 1) m' (ys++[y]) σ' H')/\(∀ σ' H',N0 σ' H'->∃ m',m' < m/\W (i + 1) m' ys σ' H')∧
    ∀ x H',J.yld i H x H'->g x σ1 H' λσ2 H2=>tc σ2 H2 λb H3=>if b=true then te σ2 H3 λy H4=>N y σ2 H4 else N0 σ2 H3))
  (hRR:∀ D C s6 H6 ys m,s6.heap.Ns C m->s2.heap.objs.size<=C->(∀ h',Heap.SameBut C s6.heap h'->zE X pins σ (zV H6 D (.lst ys)) { s6 with heap:=h' })->zV H6 D (.lst ys) C=none->Q (.ref D) (zV H6 D (.lst ys))->RR (.ref D) C (.ok .next) s6) :
  wpAny (model X.prog X.w) X.A (newList []) (λacc s3=>wpAny (model X.prog X.w) X.A (newFunctionEnv scope X.env.globals (vL scope X.env) [] X.env.qual none .none (some X.env)) (λcenv s4=>
   codeAny (model X.prog X.w) X.A (.compStart (.ListComp elt [⟨tg,iter,cs,0⟩] scope pos) 0 (.ref it) acc { cenv with scope:=relabel scope X.env }) (RR acc cenv.locals) s4) E s3) E s2:=by
 have hlt:∀ b∈fp,b < s2.heap.objs.size:=λb hb=>by
  obtain ⟨o,ho,_⟩:=T.obj _ _ st2 b hb
  exact cB ho
 refine wpAny_newObj_type (zHE ?_)
 dsimp only
 generalize hP:s2.heap.push { cls:=.type "list",dict:=none,data:=.seq ([]:List Value).toArray }=HD
 have hns:(pushCells (HD.push { cls:=.type "dict",data:=.dict #[] }) scope.names).Ns HD.objs.size (λ_=>none):=(Heap.Ns.new HD (.type "dict")).keeps (pushCells_keeps _ _)
 have hkp:∀ b o,HD.get? b=some o->(pushCells (HD.push { cls:=.type "dict",data:=.dict #[] }) scope.names).get? b=some o:=λb o e=>pushCells_keeps _ _ b o (ck _ e)
 have hcell:∀ x c,(cellsFrom (HD.objs.size + 1) scope.names (vL scope X.env)).lookup x=some c->(vL scope X.env).lookup x=some c\/(pushCells (HD.push { cls:=.type "dict",data:=.dict #[] }) scope.names).IsCell c none:=λx c e=>
  Ue _ _ _ (by rw [dW]; exact e)
 generalize hP4:pushCells (HD.push { cls:=.type "dict",data:=.dict #[] }) scope.names=h4 at hns hkp hcell |-
 have hCD:HD.objs.size=s2.heap.objs.size + 1:=by rw [<- hP,dW]
 have hDC:s2.heap.objs.size≠HD.objs.size:=by omega
 have hle:s2.heap.objs.size<=HD.objs.size:=by omega
 have old:∀ b o,s2.heap.get? b=some o->h4.get? b=some o:=λb o eb=>hkp b o (by rw [<- hP]; exact ck _ eb)
 have hD4:h4.get? s2.heap.objs.size=some { cls:=.type "list",data:=.seq ([]:List Value).toArray 0 }:=hkp _ _ (by rw [<- hP]; exact cG _ rfl)
 have IY:zE (xM X scope (zm own caps) HD.objs.size s2 H2 fp) [] (vo own caps σ) H2 { s2 with heap:=h4 }:=
  zNh B I2 f2 (by omega) hlt hns old hcell rfl I2.bare
 have stat:∀ {H':Hp},(∀ b∈fp,H' b=none)->∀ b∈fp,yz (xM X scope (zm own caps) HD.objs.size s2 H2 fp) [] H' b:=λ{H'} hn b hb=>by
  have hb2:=hlt b hb
  refine ⟨hn b hb,?_,λz=>?_,.inl hb,λx c ec=>(match Xm B ec with | .inl z=>ZY hb2 hle z.2 | .inr z=>(f2 b hb).2.2.2.2.1 x c z),λp hp=>by simp at hp⟩
  ·exact dg (cF hb2 hle)
  ·rcases cz.mp (I2.stkSub b z) with e | z
   ·exact (f2 b hb).2.1 e
   ·exact (f2 b hb).2.2.1 z
 have statD:∀ {H':Hp},H' s2.heap.objs.size=none->yz (xM X scope (zm own caps) HD.objs.size s2 H2 fp) [] H' s2.heap.objs.size:=λ{H'} hn=>by
  refine ⟨hn,hDC,λz=>?_,.inr (cL _),λx c ec z=>?_,λp hp=>by simp at hp⟩
  ·obtain ⟨_,o,ho,_⟩:=I2.stack.mem z
   exact absurd (cB ho) (da _)
  ·rcases Xm B ec with ⟨_,y⟩ | y
   ·exact Ub hCD y z
   ·have:=zJe I2 y
    rw [z] at this
    exact da _ this
 have gr:∀ b∈fp,b≠s2.heap.objs.size:=λb hb=>dg (hlt b hb)
 have IY':zE (xM X scope (zm own caps) HD.objs.size s2 H2 fp) [(s2.heap.objs.size,xf [] 0)] (vo own caps σ) H2 { s2 with heap:=h4 }:=
  IY.pins_of λp hp=>by
   rw [cn.mp hp]
   have z:=statD (I2.hok.fresh (cL _))
   exact ⟨hD4,z.1,z.2.1,z.2.2.1,λv z=>by cases z⟩
 have loop:∀ s3:Shared,s3={ s2 with heap:=h4 }->
   codeAny (model X.prog X.w) X.A (.compLoop (.ListComp elt [⟨tg,iter,cs,0⟩] scope pos) 0 (.ref it) (.ref s2.heap.objs.size) (compEnvC scope (cellsFrom (HD.objs.size + 1) scope.names (vL scope X.env)) HD.objs.size X.env))
    (RR (.ref s2.heap.objs.size) HD.objs.size) s3:=by
  rintro s3 rfl
  refine zIv (λn s'=>∃ i ys σ' H' its k,zE (xM X scope (zm own caps) HD.objs.size s2 H2 fp) [(s2.heap.objs.size,xf its k)] σ' H' s'/\tn i s'.heap/\(∀ b∈fp,H' b=none)∧
   zJ ys its/\ys.length<=sizeLine/\W i n ys σ' H') ?_ hcs m0 ⟨0,[],_,H2,[],0,IY',T.keep _ _ _ st2 λb hb o eb=>old b o eb,λb hb=>(f2 b hb).1,.nil,eg _,w0⟩
  rintro n s5 ⟨i,ys,σ5,H5,its,k,I5,st5,fr5,rv5,hz5,w5⟩
  have stat5:∀ {H':Hp},(∀ b∈fp,H' b=none)->∀ b∈fp,yz (xM X scope (zm own caps) HD.objs.size s2 H2 fp) [(s2.heap.objs.size,xf its k)] H' b:=λ{H'} hn b hb=>by
   obtain ⟨a1,a2,a3,a4,a5,_⟩:=stat hn b hb
   refine ⟨a1,a2,a3,a4,a5,λp hp=>?_⟩
   have hp':p∈[(s2.heap.objs.size,xf its k)]:=hp
   rw [cn.mp hp']
   exact Ne.symm (gr b hb)
  rcases turn i n ys σ5 H5 w5 with ⟨stop,qn⟩ | ⟨go,hlen,N,N0,hN,hN0,step⟩
  ·refine zk (T.done (xM X scope (zm own caps) HD.objs.size s2 H2 fp) rfl rfl rfl hc i _ s5 σ5 H5 _ I5 (stat5 fr5) st5 stop) λr s6 ⟨hr,I6⟩=>?_
   subst hr
   obtain ⟨pD1,pD2,_⟩:=I6.pin (s2.heap.objs.size,xf its k) (cS _ cv)
   obtain ⟨m6,hn6,_⟩:=I6.loc
   refine hRR _ _ s6 H5 ys m6 hn6 (by omega) (λh' sb=>?_) (by rw [zl (Ne.symm hDC)]; exact I6.free) (qn _ pD2)
   have hC5:H5 HD.objs.size=none:=I6.free
   have nb:∀ b o,s2.heap.get? b=some o->b≠HD.objs.size/\b≠s2.heap.objs.size:=λb o eb=>by
    have hb:=cB eb
    exact ⟨dg (cF hb hle),dg hb⟩
   have nt:∀ b o,H5 b=some o->b≠s2.heap.objs.size:=λb o eb z=>by rw [z] at eb; rw [show H5 s2.heap.objs.size=none from pD2] at eb; cases eb
   have un:Un (xE X.stack) fp H2 (zV H5 s2.heap.objs.size (.lst ys)) s2.heap h':=
    ⟨λb o eb n1 n2 n3=>sb.extBut b o (nb b o eb).1 (I6.base.keep b o eb n1 n2 n3),
     λb o eb n1 n2 n3=>by
      obtain ⟨sl,e1⟩:=I6.base.slot b o eb n1 n2 n3
      exact ⟨sl,sb.extBut b _ (nb b o eb).1 e1⟩,
     λb o eb n1 n3=>by
      rw [zl (nb b o eb).2]
      exact I6.base.free b o eb n1 n3,
     λb o eb n3=>by
      obtain ⟨o',e1⟩:=I6.base.there b o eb n3
      exact ⟨o',sb.extBut b _ (nb b o eb).1 e1⟩,
     λb xs eb=>by
      have e1:=I6.base.tups b xs eb
      rw [zl (nt b _ e1)]
      exact e1,
     λb o u eb=>by
      have e1:=I6.base.frzs b o u eb
      rw [zl (nt b _ e1)]
      exact e1,
     λb ps eb=>by
      obtain ⟨more,e1⟩:=I6.base.tbls b ps eb
      refine ⟨more,?_⟩
      rw [zl (nt b _ e1)]
      exact e1⟩
   have ok5:yn X.prog X.w (zV H5 s2.heap.objs.size (.lst ys)) h':=λb u eb=>by
    by_cases hb:b=s2.heap.objs.size
    ·subst hb
     rw [xv] at eb
     cases eb
     exact ⟨hz5,its,k,rv5,sb.extBut _ _ hDC pD1⟩
    ·rw [zl hb] at eb
     refine (I6.hok b u eb).stay (λc v hcv ev=>sb.extBut c v ?_ ev) (λc ec=>by rw [zl (nt c _ ec)]; exact ec) λc xs ec=>by rw [zl (nt c _ ec)]; exact ec
     rintro rfl
     rcases hcv with z | z
     ·rw [<- z,hC5] at eb
      cases eb
     ·rw [hC5] at z
      cases z
   exact I2.call' (s':={ s6 with heap:=h' }) (ch:=fp) I6.os un ok5 I6.bare λb hb=>⟨(f2 b hb).2.2.2.1,(f2 b hb).2.1,(f2 b hb).2.2.2.2.1,(f2 b hb).2.2.2.2.2⟩
  ·refine zk (T.item (xM X scope (zm own caps) HD.objs.size s2 H2 fp) rfl rfl rfl hc i _ s5 σ5 H5 _ I5 (stat5 fr5) st5 go) λr s6 ⟨u,hr,h6⟩=>?_
   subst hr
   refine zk h6 λ_ s7 ⟨x,H7,I7,r7,y7,st7,fr7⟩=>?_
   have I7':=I7.pinned (stat5 fr7) (T.obj _ _ st7)
   refine zk (hg HD.objs.size s2 H2 fp _ s7 σ5 H7 x u _ I7' r7 (step x H7 y7)) λ_ s8 ⟨σ8,H8,I8,q8⟩=>?_
   refine zPw (ht HD.objs.size s2 H2 fp) I8 q8 λok sT HT IT qT=>?_
   cases ok with
   | false=>
    obtain ⟨m',hm',w9⟩:=hN0 σ8 HT qT
    refine ⟨m',hm',i + 1,ys,σ8,HT,its,k,IT.unpinned,?_,λb hb=>?_,rv5,hz5,w9⟩
    ·refine T.keep _ _ _ st7 λb hb o eb=>?_
     exact (IT.pin (b,o) (cS _ (cS _ (gZ hb eb)))).1
    ·obtain ⟨o,eb,_⟩:=T.obj _ _ st7 b hb
     exact (IT.pin (b,o) (cS _ (cS _ (gZ hb eb)))).2.1
   | true=>
    refine zk (he HD.objs.size s2 H2 fp _ sT σ8 HT _ IT qT) λyv s9 ⟨y,H9,I9,r9,n9⟩=>?_
    obtain ⟨m',hm',w9⟩:=hN y σ8 H9 n9
    have pD9:=(I9.pin (s2.heap.objs.size,xf its k) (cS _ (fW _ cv))).2.1
    have hl:its.length=ys.length:=rv5.length.symm
    refine zNg (Y:=xM X scope (zm own caps) HD.objs.size s2 H2 fp) (its:=its) (k:=k) (pl:=ZC fp s7.heap) I9 (statD pD9) rfl (by omega) λh' k' tk keep I'=>?_
    refine ⟨m',hm',i + 1,ys++[y],σ8,H9,its++[yv],k',I',?_,λb hb=>?_,rv5.append (.cons r9 .nil),?_,w9⟩
    ·refine T.keep _ _ _ st7 λb hb o eb=>keep b o (gr b hb) ?_
     exact (I9.pin (b,o) (cS _ (cS _ (gZ hb eb)))).1
    ·obtain ⟨o,eb,_⟩:=T.obj _ _ st7 b hb
     exact (I9.pin (b,o) (cS _ (cS _ (gZ hb eb)))).2.1
    ·rw [b_,eT]
     omega
 exact codeAny_compStart_list (loop _ rfl) (T.self _ 0 _ _ _ (T.keep _ _ _ st2 λb hb o eb=>old b o eb) (loop _ rfl))
theorem zMr {i:Nat} {y:Str} {py spos:Pos} (hN:X.N.Nodup) (hy:X.N[i]? = some y) (hl:X.env.scope.names.lookup y=some .local) (B:uA X scope own caps) (hc:X.calm=true) (hi:PI X tg iter wi) (hg:∀ C s₀ H₀ ex,PG (xM X scope (zm own caps) C s₀ H₀ ex) tg g)
  (hcs:cs=[]\/∃ c,cs=[c]) (ht:∀ C s₀ H₀ ex,Zm (xM X scope (zm own caps) C s₀ H₀ ex) cs tc) (he:∀ C s₀ H₀ ex,PE (xM X scope (zm own caps) C s₀ H₀ ex) elt te) (hsw:swapsWith (.ListComp elt [⟨tg,iter,cs,0⟩] scope pos) (some (.Name y py)) spos.line X.env=pure true) (hs:∀ x,foldedSetIterable iter X.env x=pure x:=by intro _; rfl) :
  PS X (.Assign [.Name y py] (.ListComp elt [⟨tg,iter,cs,0⟩] scope pos) spos) (uL (zNr own caps wi g tc te) (gY i)):=by
 intro pins s σ H D0 I h
 rw [exec_Assign_Name_used _ _ _ _ hsw]
 refine wpAny_bind (wpAny_standAt (wpAny_bind ?_))
 change wpAny _ X.A (do let _ <- comprehension (.ListComp elt [⟨tg,iter,cs,0⟩] scope pos) scope X.env _ (newList []) false (eval iter X.env) (some (assign (.Name y py) X.env))) _ _ s
 refine wpAny_bind (wpAny_mono (wpAny_comprehension_free (use:=some (assign (.Name y py) X.env)) (Q:=λ_ s'=>SP X pins D0 .next s') rfl hs (zGU B.free) B.kind B.locs ?_) (λ_ s' hq=>wpAny_pure (wpAny_pure hq)) λ_ _ e=>e)
 refine zk (hi pins s σ H _ I h) λxv s1 h1=>zk h1 λitv s2 h2=>?_
 obtain ⟨it,fp,tn,J,H2,e,I2,T,st2,f2,W,⟨m0,w0⟩,turn⟩:=h2
 subst e
 refine zGT (Q:=λx H1=>D0.nx (σ.set i (some x)) H1) (RR:=λacc C=>compPost (model X.prog X.w) X.A X.xe (some (assign (.Name y py) X.env)) (λ_ s'=>SP X pins D0 .next s') acc C) B hc hg hcs ht he I2 T st2 f2 w0 turn λD C s6 H6 ys m hn hC J6 hC6 q=>?_
 have I6:zE X pins σ (zV H6 D (.lst ys)) s6:=J6 s6.heap (.refl ..)
 have CL:C≠X.env.locals:=λz=>by rw [z] at hC; exact absurd (cF I2.lt hC) (da _)
 have CC:∀ x c,X.env.cells.lookup x=some c->c≠C:=λx c ec z=>by
  obtain ⟨v,o,ho,_⟩:=I2.cell x c ec
  rw [z] at ho
  exact absurd (cF (cB ho) hC) (da _)
 have CP:∀ p∈X.pn++pins,p.1≠C:=λp hp z=>by
  have hl:=cB (I2.pin p hp).1
  rw [z] at hl
  exact absurd (cF hl hC) (da _)
 change wpAny _ X.A (assign (.Name y py) X.env (.ref D)) _ _ s6
 refine wpAny_assign_Name (Kj I6 hN hy (.inl hl) (v:=.ref D) rfl (λs7 I7 ⟨a,sb,ha⟩=>?_) (.inr hl))
 have aC:C≠a:=λz=>by
  rcases ha with e | e
  ·exact CL (z.trans e)
  ·exact CC _ _ e z.symm
 refine ⟨m,hn.sameBut sb aC,λh' sb'=>⟨_,_,I7.turned (h':=h') (t':=s7.toks) (it:=C) (λb o hb eb=>sb'.extBut b o hb eb) hC6 CL (.inr (dz I2.sz hC)) CC CP,q⟩⟩
theorem zM0 (B:uA X scope own caps) (hc:X.calm=true) (hi:PI X tg iter wi) (hg:∀ C s₀ H₀ ex,PG (xM X scope (zm own caps) C s₀ H₀ ex) tg g)
  (hcs:cs=[]\/∃ c,cs=[c]) (ht:∀ C s₀ H₀ ex,Zm (xM X scope (zm own caps) C s₀ H₀ ex) cs tc) (he:∀ C s₀ H₀ ex,PE (xM X scope (zm own caps) C s₀ H₀ ex) elt te) (hs:∀ x,foldedSetIterable iter X.env x=pure x:=by intro _; rfl) :
  PE X (.ListComp elt [⟨tg,iter,cs,0⟩] scope pos) (zNr own caps wi g tc te):=by
 intro pins s σ H Q I h
 rw [eval_ListComp]
 refine wpAny_comprehension_free (use:=none) rfl hs (zGU B.free) B.kind B.locs ?_
 refine zk (hi pins s σ H _ I h) λxv s1 h1=>zk h1 λitv s2 h2=>?_
 obtain ⟨it,fp,tn,J,H2,e,I2,T,st2,f2,W,⟨m0,w0⟩,turn⟩:=h2
 subst e
 refine zGT (RR:=λacc C=>compPost (model X.prog X.w) X.A X.xe none (EP X pins σ Q) acc C) B hc hg hcs ht he I2 T st2 f2 w0 turn λD C s6 H6 ys m hn hC J6 hC6 q=>?_
 exact ⟨m,hn,λh' sb=>⟨.ref D,_,J6 h' sb,rfl,q⟩⟩
end
end L2
namespace Pu
open PySem L2 Sh
inductive D where
 | int (i:Int)
 | bool (b:Bool)
 | non
 | str (x:Str)
 | frz (ds:List D)
 | lst (ds:List D)
 | tup (ds:List D)
 | obj (c:Addr) (ns:List Str) (ds:List D)
inductive DV (H:Hp):V->D->Prop where
 | int (i:Int):DV H (.int i) (.int i)
 | bool (b:Bool):DV H (.bl b) (.bool b)
 | non:DV H .non .non
 | str (x:Str):DV H (.str x) (.str x)
 | frz {a:Addr} {xs:List V} {ds:List D} (e:∃ o,H a=some (.frz o (.lst xs))) (h:Paired (DV H) xs ds):DV H (.ref a) (.frz ds)
 | lst {a:Addr} {xs:List V} {ds:List D} (e:H a=some (.lst xs)) (h:Paired (DV H) xs ds):DV H (.ref a) (.lst ds)
 | tup {a:Addr} {xs:List V} {ds:List D} (e:H a=some (.tup xs)) (h:Paired (DV H) xs ds):DV H (.ref a) (.tup ds)
 | obj {o dx c:Addr} {ns:List Str} {xs:List V} {ds:List D} (e:H o=some (.ins c dx (ns.zip xs))) (l:ns.length=xs.length) (h:Paired (DV H) xs ds):DV H (.ref o) (.obj c ns ds)
theorem uu {H H':Hp} (s:zL H H') {a:Addr} {u:HO} (h:Rd H a u):Rd H' a u:=h.imp (s _ _) λ⟨o,e⟩=>⟨o,s _ _ e⟩
theorem DV.same {H H':Hp} (s:zL H H'):∀ {v:V} {d:D},DV H v d->DV H' v d
 | _,_,.int i=>.int i
 | _,_,.bool b=>.bool b
 | _,_,.non=>.non
 | _,_,.str x=>.str x
 | _,_,.frz ⟨o,e⟩ h=>.frz ⟨o,s _ _ e⟩ (go s h)
 | _,_,.lst e h=>.lst (s _ _ e) (go s h)
 | _,_,.tup e h=>.tup (s _ _ e) (go s h)
 | _,_,.obj e l h=>.obj (s _ _ e) l (go s h)
where
 go {H H':Hp} (s:zL H H'):∀ {xs:List V} {ds:List D},Paired (DV H) xs ds->Paired (DV H') xs ds
  | _,_,.nil=>.nil
  | _,_,.cons h t=>.cons (DV.same s h) (go s t)
abbrev yJ (H:Hp):List V->List D->Prop:=Paired (DV H)
theorem xN {H H':Hp} (s:zL H H') {xs:List V} {ds:List D} (h:yJ H xs ds):yJ H' xs ds:=DV.same.go s h
theorem zJZ {H:Hp}:∀ {xs:List V} {ns:List Int},yJ H xs (ns.map D.int)->xs=ns.map V.int
 | _,[],.nil=>rfl
 | _,_ :: _,.cons h t=>by cases h; rw [zJZ t]; rfl
theorem zHz {H:Hp}:∀ {xs:List V} {bs:List Bool},yJ H xs (bs.map D.bool)->xs=bs.map V.bl
 | _,[],.nil=>rfl
 | _,_ :: _,.cons h t=>by cases h; rw [zHz t]; rfl
theorem zHy {H:Hp}:∀ {ns:List Int},yJ H (ns.map V.int) (ns.map D.int)
 | []=>.nil
 | _ :: _=>.cons (.int _) zHy
abbrev D.scr (ns:List Int):D:=.frz (ns.map D.int)
theorem DV.scr {H:Hp} {a:Addr} {ns:List Int} (e:∃ o,H a=some (.frz o (.lst (ns.map V.int)))):DV H (.ref a) (.scr ns):=.frz e zHy
theorem DV.frz_inv {H:Hp} {v:V} {ds:List D} (h:DV H v (.frz ds)):∃ p xs,v=.ref p/\Rd H p (.lst xs)/\yJ H xs ds:=by cases h with | frz e h=>exact ⟨_,_,rfl,.inr e,h⟩
def uR:HO->Bool
 | .tbl _=>true
 | _=>false
def uS:HO->Bool
 | .lst _=>true
 | .ins _ _ _=>true
 | _=>false
class yW where
 I:Hp->Prop
 same:∀ {H H':Hp},I H->zL H H'->I H'
 but:∀ {H H':Hp} {l:Addr} {o:HO},I H->H l=some o->uS o=true->(∀ b,b≠l->H' b=H b)->I H'
variable [yW]
theorem yW.put {H:Hp} {l:Addr} {u o:HO} (i:yW.I H) (e:H l=some u) (n:uS u=true:=by rfl):yW.I (zV H l o):=yW.but i e n λ_ c=>zl c
def less (l:Addr) (H:Hp):Hp:=λb=>if b=l then none else H b
theorem yW.less {H:Hp} {l:Addr} {u:HO} (i:yW.I H) (e:H l=some u) (n:uS u=true:=by rfl):yW.I (less l H):=yW.but i e n λ_ c=>if_neg c
theorem zNP {H:Hp} {l:Addr}:zL (less l H) H:=λb o e=>by
 by_cases c:b=l
 ·rw [show less l H b=none from if_pos c] at e; cases e
 ·exact (if_neg c).symm.trans e
structure Sm (H H':Hp):Prop where
 s:∀ b o,H b=some o->uR o=false->H' b=some o
 t:∀ b o,H b=some o->uR o=true->∃ o',H' b=some o'/\uR o'=true
 k:yW.I H->yW.I H'
theorem Sm.at {H H':Hp} (s:Sm H H') {b:Addr} {o:HO} (e:H b=some o) (n:uR o=false:=by rfl):H' b=some o:=s.s b o e n
theorem Sm.of {H H':Hp} (s:zL H H'):Sm H H':=⟨λb o e _=>s b o e,λb o e n=>⟨o,s b o e,n⟩,λi=>yW.same i s⟩
theorem Sm.refl (H:Hp):Sm H H:=.of (zL.refl H)
theorem Sm.trans {H H1 H2:Hp} (a:Sm H H1) (b:Sm H1 H2):Sm H H2:=⟨λc o e n=>b.s c o (a.s c o e n) n,λc o e n=>let ⟨o1,e1,n1⟩:=a.t c o e n; b.t c o1 e1 n1,λi=>b.k (a.k i)⟩
theorem Sm.free {H H':Hp} (s:Sm H H') {b:Addr} (n:H' b=none):H b=none:=by
 cases e:H b with
 | none=>rfl
 | some o=>
  cases q:uR o with
  | false=>have:=s.s b o e q; rw [n] at this; cases this
  | true=>obtain ⟨o',e',_⟩:=s.t b o e q; rw [n] at e'; cases e'
theorem Sm.put {H0 H:Hp} {l:Addr} {x o:HO} (s:Sm H0 H) (n:H0 l=none) (e:H l=some x) (li:uS x=true:=by rfl):Sm H0 (zV H l o):=⟨λb u q t=>(zl (wC q n)).trans (s.s b u q t),λb u q t=>let ⟨o',e',t'⟩:=s.t b u q t; ⟨o',(zl (wC q n)).trans e',t'⟩,λi=>yW.put (s.k i) e li⟩
theorem zP4 {H H1 H2:Hp} {x:Addr} {u:HO} (s:Sm H H1) (e:H1 x=some u) (b:Sm (less x H1) H2) (n:H x=none) (li:uS u=true:=by rfl):Sm H H2:=⟨λc o q t=>b.s c o ((if_neg (wC q n)).trans (s.s c o q t)) t,λc o q t=>let ⟨o',e',t'⟩:=s.t c o q t; b.t c o' ((if_neg (wC q n)).trans e') t',λi=>b.k (yW.less (s.k i) e li)⟩
theorem wP {H:Hp} {a:Addr} (h:H a=none) (o:HO):Sm H (zV H a o):=.of (jD h o)
open Classical in
noncomputable def zK (Z:Addr->Prop) (H:Hp):Hp:=λb=>if Z b then none else (H b).filter λo=>!(uR o)
theorem xj {Z:Addr->Prop} {H:Hp} {b:Addr} {o:HO} (h:¬ Z b) (e:H b=some o) (n:uR o=false:=by rfl):zK Z H b=some o:=by
 unfold zK
 rw [if_neg h,e,Option.filter_some,n]
 rfl
theorem qS {Z:Addr->Prop} {H:Hp} {b:Addr} {o:HO} (h:zK Z H b=some o):uR o=false:=by
 unfold zK at h
 by_cases c:Z b
 ·rw [if_pos c] at h; cases h
 ·rw [if_neg c] at h
  have:=(ia.mp h).2
  cases q:uR o with
  | false=>rfl
  | true=>rw [q] at this; cases this
theorem uE {Z:Addr->Prop} {H:Hp} {b:Addr} {o:HO} (h:zK Z H b=some o):¬ Z b/\H b=some o:=by
 unfold zK at h
 by_cases c:Z b
 ·rw [if_pos c] at h; cases h
 ·rw [if_neg c] at h; exact ⟨c,(ia.mp h).1⟩
theorem zo {Z:Addr->Prop} {H:Hp}:zL (zK Z H) H:=λ_ _ h=>(uE h).2
theorem yg {Z:Addr->Prop} {H H':Hp} (s:Sm H H'):zL (zK Z H) (zK Z H'):=λb o h=>by
 exact xj (uE h).1 (s.s _ _ (uE h).2 (qS h)) (qS h)
theorem gp {Z Z':Addr->Prop} {H:Hp} (s:∀ b,Z' b->Z b):zL (zK Z H) (zK Z' H):=λb o h=>by
 exact xj (λz=>(uE h).1 (s _ z)) (uE h).2 (qS h)
structure ZL (Z:Addr->Prop) (H:Hp):Prop where
 z:∀ b,Z b->∃ u,H b=some u/\∀ xs,u≠.tup xs
 i:yW.I H
theorem ZL.same {Z:Addr->Prop} {H H':Hp} (z:ZL Z H) (s:Sm H H'):ZL Z H':=⟨λb hb=>by
 obtain ⟨u,e,n⟩:=z.z b hb
 cases q:uR u with
 | false=>exact ⟨u,s.s _ _ e q,n⟩
 | true=>
  obtain ⟨u',e',n'⟩:=s.t _ _ e q
  exact ⟨u',e',λxs y=>by rw [y] at n'; cases n'⟩,s.k z.i⟩
theorem ZL.new {Z:Addr->Prop} {H:Hp} (z:ZL Z H) {p:Addr} (h:H p=none):¬ Z p:=λq=>by
 obtain ⟨u,e,_⟩:=z.z p q
 rw [h] at e
 cases e
inductive Sl where
 | no
 | sh (d:D)
 | ow (ds:List D)
 | ob (o c:Addr) (ns:List Str) (ds:List D)
def slot:List Sl->Nat->Sl
 | [],_=>.no
 | x :: _,0=>x
 | _ :: t,i + 1=>slot t i
def yA:List Sl->Nat->Sl->List Sl
 | [],_,_=>[]
 | _ :: t,0,y=>y :: t
 | x :: t,i + 1,y=>x :: yA t i y
theorem qU:∀ (Γ:List Sl) (i:Nat) (y:Sl),(yA Γ i y).length=Γ.length
 | [],_,_=>rfl
 | _ :: _,0,_=>rfl
 | _ :: t,i + 1,y=>by show (yA t i y).length + 1=_; rw [qU t i y]; rfl
theorem xa:∀ (Γ:List Sl) (i j:Nat) (y:Sl),slot (yA Γ i y) j=if j=i/\i < Γ.length then y else slot Γ j
 | [],i,j,y=>by rw [if_neg (λh=>absurd h.2 (Nat.not_lt_zero _))]; rfl
 | x :: t,0,0,y=>(if_pos ⟨rfl,lH _⟩).symm
 | x :: t,0,j + 1,y=>(if_neg (λh=>nomatch h.1)).symm
 | x :: t,i + 1,0,y=>(if_neg (λh=>nomatch h.1)).symm
 | x :: t,i + 1,j + 1,y=>by
  show slot (yA t i y) j=if j + 1=i + 1/\i + 1 < t.length + 1 then y else slot t j
  rw [xa t i j y]
  by_cases c:j=i/\i < t.length
  ·rw [if_pos c,if_pos ⟨by omega,by omega⟩]
  ·rw [if_neg c,if_neg (λh=>c ⟨by omega,by omega⟩)]
theorem uF:∀ {Γ:List Sl} {i:Nat},slot Γ i≠.no->i < Γ.length
 | [],_,h=>absurd rfl h
 | _ :: _,0,_=>lH _
 | _ :: _,_ + 1,h=>Nat.succ_lt_succ (uF (Γ:=_) h)
structure zr (Z:Addr->Prop) (Γ:List Sl) (σ:St) (H:Hp):Prop where
 sh:∀ i d,slot Γ i=.sh d->∃ v,σ[i]? = some (some v)/\DV (zK Z H) v d
 ow:∀ i ds,slot Γ i=.ow ds->∃ l xs,σ[i]? = some (some (.ref l))/\Z l/\H l=some (.lst xs)/\yJ (zK Z H) xs ds
 ob:∀ i o c ns ds,slot Γ i=.ob o c ns ds->∃ dx xs,σ[i]? = some (some (.ref o))/\Z o/\H o=some (.ins c dx (ns.zip xs))/\ns.length=xs.length/\yJ (zK Z H) xs ds
 ne:∀ i j as bs l,slot Γ i=.ow as->slot Γ j=.ow bs->σ[i]? = some (some (.ref l))->σ[j]? = some (some (.ref l))->i=j
 zd:ZL Z H
 len:Γ.length=σ.length
theorem zr.same {Z:Addr->Prop} {Γ:List Sl} {σ:St} {H H':Hp} (E:zr Z Γ σ H) (s:Sm H H'):zr Z Γ σ H' where
 sh:=λi d e=>let ⟨v,h1,h2⟩:=E.sh i d e; ⟨v,h1,h2.same (yg s)⟩
 ow:=λi ds e=>let ⟨l,xs,h1,h2,h3,h4⟩:=E.ow i ds e; ⟨l,xs,h1,h2,s.at h3,xN (yg s) h4⟩
 ob:=λi o c ns ds e=>let ⟨dx,xs,h1,h2,h3,h5,h4⟩:=E.ob i o c ns ds e; ⟨dx,xs,h1,h2,s.at h3,h5,xN (yg s) h4⟩
 ne:=E.ne
 zd:=E.zd.same s
 len:=E.len
theorem zr.set {Z:Addr->Prop} {Γ:List Sl} {σ:St} {H:Hp} (E:zr Z Γ σ H) {v:V} {d:D} (h:DV (zK Z H) v d) (i:Nat):zr Z (yA Γ i (.sh d)) (σ.set i (some v)) H where
 sh:=λj e q=>by
  rw [xa] at q
  by_cases c:j=i/\i < Γ.length
  ·rw [if_pos c] at q
   cases q
   rw [c.1]
   exact ⟨v,by rw [dB (by have:=E.len; omega)],h⟩
  ·rw [if_neg c] at q
   obtain ⟨u,h1,h2⟩:=E.sh j e q
   have hj:=uF (Γ:=Γ) (i:=j) (by rw [q]; exact λz=>nomatch z)
   exact ⟨u,by rw [cQ (λz=>c ⟨z.symm,by omega⟩)]; exact h1,h2⟩
 ow:=λj e q=>by
  rw [xa] at q
  by_cases c:j=i/\i < Γ.length
  ·rw [if_pos c] at q; cases q
  ·rw [if_neg c] at q
   obtain ⟨l,xs,h1,h2⟩:=E.ow j e q
   have hj:=uF (Γ:=Γ) (i:=j) (by rw [q]; exact λz=>nomatch z)
   exact ⟨l,xs,by rw [cQ (λz=>c ⟨z.symm,by omega⟩)]; exact h1,h2⟩
 ob:=λj o0 c0 ns e q=>by
  rw [xa] at q
  by_cases c:j=i/\i < Γ.length
  ·rw [if_pos c] at q; cases q
  ·rw [if_neg c] at q
   obtain ⟨dx,xs,h1,h2⟩:=E.ob j o0 c0 ns e q
   have hj:=uF (Γ:=Γ) (i:=j) (by rw [q]; exact λz=>nomatch z)
   exact ⟨dx,xs,by rw [cQ (λz=>c ⟨z.symm,by omega⟩)]; exact h1,h2⟩
 ne:=λj k as bs l q r e f=>by
  rw [xa] at q r
  by_cases c:j=i/\i < Γ.length
  ·rw [if_pos c] at q; cases q
  ·by_cases c':k=i/\i < Γ.length
   ·rw [if_pos c'] at r; cases r
   ·rw [if_neg c] at q
    rw [if_neg c'] at r
    have hj:=uF (Γ:=Γ) (i:=j) (by rw [q]; exact λz=>nomatch z)
    have hk:=uF (Γ:=Γ) (i:=k) (by rw [r]; exact λz=>nomatch z)
    rw [cQ (λz=>c ⟨z.symm,by omega⟩)] at e
    rw [cQ (λz=>c' ⟨z.symm,by omega⟩)] at f
    exact E.ne j k as bs l q r e f
 zd:=E.zd
 len:=by rw [qU,dk]; exact E.len
abbrev zx:=List Sl->(D->Prop)->Prop
abbrev wI:=List Sl->(Bool->Prop)->Prop
abbrev yp:=List Sl->(List D->Prop)->Prop
abbrev qV:=List Sl->(Option Int->Prop)->Prop
inductive tP (p:zx) (σ:St) (H:Hp) (Q:VK):Prop
 | mk (Z:Addr->Prop) (Γ:List Sl) (R:D->Prop) (E:zr Z Γ σ H) (h:p Γ R) (q:∀ d v H',R d->Sm H H'->DV (zK Z H') v d->Q v H'):tP p σ H Q
inductive xF (p:wI) (σ:St) (H:Hp) (Q:Bool->Hp->Prop):Prop
 | mk (Z:Addr->Prop) (Γ:List Sl) (R:Bool->Prop) (E:zr Z Γ σ H) (h:p Γ R) (q:∀ b H',R b->Sm H H'->Q b H'):xF p σ H Q
inductive wJ (p:yp) (σ:St) (H:Hp) (Q:List V->Hp->Prop):Prop
 | mk (Z:Addr->Prop) (Γ:List Sl) (R:List D->Prop) (E:zr Z Γ σ H) (h:p Γ R) (q:∀ ds vs H',R ds->Sm H H'->yJ (zK Z H') vs ds->Q vs H'):wJ p σ H Q
inductive qW (p:qV) (σ:St) (H:Hp) (Q:Option Int->Hp->Prop):Prop
 | mk (Z:Addr->Prop) (Γ:List Sl) (R:Option Int->Prop) (E:zr Z Γ σ H) (h:p Γ R) (q:∀ o H',R o->Sm H H'->Q o H'):qW p σ H Q
section
variable {X:Cx} {a b e c:Expr} {es:List Expr} {pos:Pos} {pa pb pc:zx} {qa qb:wI} {pl:yp}
theorem yK {t t':TE} (h:PE X e t) (w:∀ σ H Q,t' σ H Q->t σ H Q):PE X e t':=λpins s σ H Q I q=>h pins s σ H Q I (w σ H Q q)
theorem Xv {t t':TT} (h:PT X e t) (w:∀ σ H Q,t' σ H Q->t σ H Q):PT X e t':=λpins s σ H Q I q=>h pins s σ H Q I (w σ H Q q)
theorem pww {t t':TT} (h:PW X e t) (w:∀ σ H Q,t' σ H Q->t σ H Q):PW X e t':=λwh pins s σ H Q I q=>h wh pins s σ H Q I (w σ H Q q)
theorem paw {t t':TA} (h:PA X es t) (w:∀ σ H Q,t' σ H Q->t σ H Q):PA X es t':=λpos pins s σ H Q I q=>h pos pins s σ H Q I (w σ H Q q)
def zQb (i:Nat):zx:=λΓ R=>match slot Γ i with | .sh d=>R d | _=>False
theorem zA (i:Nat) {x:Str} {pos:Pos} (hN:X.N[i]? = some x:=by rfl) (hv:gR X.env.scope x:=by first | exact Or.inl rfl | exact Or.inr (Or.inl rfl) | exact Or.inr (Or.inr rfl)) (hd:(x == ("__debug__" : Str))=false:=by decide)
  (hcd:(x == ("__classdict__" : Str))=false:=by decide):PE X (.Name x pos) (tP (zQb i)):=yK (Kk hN hv hd hcd) λσ H Q ⟨Z,Γ,R,E,h,q⟩=>by
 unfold zQb at h
 cases s:slot Γ i with
 | sh d=>
  rw [s] at h
  obtain ⟨v,e,k⟩:=E.sh i d s
  exact ⟨v,e,q d v H h (Sm.refl _) k⟩
 | _=>rw [s] at h; exact h.elim
def pC (d:D):zx:=λ_ R=>R d
theorem zD {i j pos}:PE X (.Constant (.int i) j pos) (tP (pC (.int i))):=yK Ww λ_ H _ ⟨_,_,_,_,h,q⟩=>q _ _ H h (Sm.refl _) (.int i)
theorem xk {i j pos}:PE X (.Constant (.bool i) j pos) (tP (pC (.bool i))):=yK kj λ_ H _ ⟨_,_,_,_,h,q⟩=>q _ _ H h (Sm.refl _) (.bool i)
theorem gq {j pos}:PE X (.Constant .none j pos) (tP (pC .non)):=yK zQT λ_ H _ ⟨_,_,_,_,h,q⟩=>q _ _ H h (Sm.refl _) .non
theorem Zn {i j pos}:PE X (.Constant (.str i) j pos) (tP (pC (.str i))):=yK zQQ λ_ H _ ⟨_,_,_,_,h,q⟩=>q _ _ H h (Sm.refl _) (.str i)
theorem Ur {x:Str} {i:Int} {pos:Pos} (hg:Gl X x) (hm:∃ t,X.mg x=some (.int i t)) (hd:(x == ("__debug__" : Str))=false:=by decide):PE X (.Name x pos) (tP (pC (.int i))):=
 let ⟨_,e⟩:=hm
 yK (Kl (v:=.int i) hg e ⟨_,rfl⟩ hd) λ_ H _ ⟨_,_,_,_,h,q⟩=>q _ _ H h (Sm.refl _) (.int i)
abbrev F2:=D->D->(D->Prop)->Prop
def xu (f:F2) (pa pb:zx):zx:=λΓ R=>pa Γ λx=>pb Γ λy=>f x y R
def wj (r:R2) (f:F2):Prop:=∀ (Z:Addr->Prop) (H:Hp) (x y:V) (a b:D) (R:D->Prop) (Q:VK),ZL Z H->DV (zK Z H) x a->DV (zK Z H) y b->f a b R->(∀ d v H',R d->Sm H H'->DV (zK Z H') v d->Q v H')->r x y H Q
theorem Xw {r:R2} {f:F2} (o:wj r f) (σ:St) (H:Hp) (Q:VK):tP (xu f pa pb) σ H Q->ZD r (tP pa) (tP pb) σ H Q:=λ⟨Z,Γ,R,E,h,q⟩=>
 ⟨Z,Γ,_,E,h,λd v H1 hd s1 hv=>⟨Z,Γ,_,E.same s1,hd,λd2 v2 H2 hd2 s2 hv2=>o Z H2 v v2 d d2 R Q (E.same (s1.trans s2)).zd (hv.same (yg s2)) hv2 hd2 λd3 v3 H3 h3 s3 hv3=>q d3 v3 H3 h3 (s1.trans (s2.trans s3)) hv3⟩⟩
theorem qX {op:Operator} {r:R2} {f:F2} (ho:yt X (binaryOp op) r) (o:wj r f) (ha:PE X a (tP pa)) (hb:PE X b (tP pb)):PE X (.BinOp a op b pos) (tP (xu f pa pb)):=yK (ZE ho ha hb) (Xw o)
theorem Xx {op:CmpOp} {r:R2} {f:F2} (ho:yt X (compareOp op) r) (o:wj r f) (hm:behindInMarks op b=false) (ha:PE X a (tP pa)) (hb:PE X b (tP pb)):PE X (.Compare a [op] [b] pos) (tP (xu f pa pb)):=yK (zO5 ho ha hb hm) (Xw o)
theorem uT {Z:Addr->Prop} {H:Hp} {p:Addr} {xs:List V} {ds:List D} (zd:ZL Z H) (hp:H p=none) (h:yJ (zK Z H) xs ds):DV (zK Z (zV H p (.lst xs))) (.ref p) (.lst ds):=
 .lst (xj (zd.new hp) xv) (xN (yg (wP hp _)) h)
theorem Xy {Z:Addr->Prop} {H:Hp} {p:Addr} {xs:List V} {ds:List D} (zd:ZL Z H) (hp:H p=none) (h:yJ (zK Z H) xs ds):DV (zK Z (zV H p (.tup xs))) (.ref p) (.tup ds):=
 .tup (xj (zd.new hp) xv) (xN (yg (wP hp _)) h)
theorem Us {Z:Addr->Prop} {H:Hp} {p:Addr} {xs:List V} {ds:List D} (zd:ZL Z H) (e:H p=some (.tup xs)) (h:yJ (zK Z H) xs ds):DV (zK Z H) (.ref p) (.tup ds):=
 .tup (xj (λz=>by
  obtain ⟨u,e',n⟩:=zd.z p z
  rw [e] at e'
  cases e'
  exact n xs rfl) e) h
theorem DV.lst_inv {H:Hp} {v:V} {ds:List D} (h:DV H v (.lst ds)):∃ p xs,v=.ref p/\H p=some (.lst xs)/\yJ H xs ds:=by cases h with | lst e h=>exact ⟨_,_,rfl,e,h⟩
theorem DV.tup_inv {H:Hp} {v:V} {ds:List D} (h:DV H v (.tup ds)):∃ p xs,v=.ref p/\H p=some (.tup xs)/\yJ H xs ds:=by cases h with | tup e h=>exact ⟨_,_,rfl,e,h⟩
theorem few {n:Nat} (h:n<=1000):n<=sizeLine:=hV (UP h)
def zQB:R2:=λx y H Q=>∃ l b xs zs,x=.ref l/\y=.ref b/\Rd H l (.lst xs)/\H b=some (.lst zs)/\xs.length + zs.length<=sizeLine/\∀ p,H p=none->Q (.ref p) (zV H p (.lst (xs++zs)))
theorem zPE:yt X (binaryOp .Add) zQB:=by
 intro pins s σ H x y v u Q I rx ry h
 obtain ⟨l,b,xs,zs,rfl,rfl,hH,hB,hz,q⟩:=h
 cases rx
 cases ry
 obtain ⟨z,its,n,r,e⟩:=hH.ok I.hok
 have hl:=r.length
 obtain ⟨z2,its2,n2,r2,hl2,e2⟩:=I.lstM hB
 refine PySem.P.add_list e e2 ?_ (by rw [cy,cy]; omega)
 have ea:its.toArray++its2.toArray=(its++its2).toArray:=by simp
 rw [ea]
 exact ⟨.ref _,_,I.lnew (t':=s.toks) (r.append r2) (by rw [b_]; omega),rfl,q _ I.fresh⟩
def qY:F2
 | .frz as,.lst bs,R=>as.length + bs.length<=1000/\R (.lst (as++bs))
 | .int i,.int j,R=>R (.int (i + j))
 | .lst as,.lst bs,R=>as.length + bs.length<=1000/\R (.lst (as++bs))
 | .tup as,.tup bs,R=>as.length + bs.length<=1000/\R (.tup (as++bs))
 | _,_,_=>False
theorem zPL:wj (λx y H Q=>v6 (λi j=>.int (i + j)) x y H Q\/(zQB x y H Q\/Up x y H Q)) qY:=λZ H x y a b R Q zd hx hy h q=>by
 unfold qY at h
 split at h
 ·obtain ⟨p,xs,rfl,e1,h1⟩:=hx.frz_inv
  obtain ⟨r,ys,rfl,e2,h2⟩:=hy.lst_inv
  have l1:=Paired.length h1
  have l2:=Paired.length h2
  exact .inr (.inl ⟨p,r,xs,ys,rfl,rfl,uu zo e1,zo _ _ e2,few (by omega),λn hn=>q _ _ _ h.2 (wP hn _) (uT zd hn (qF h1 h2))⟩)
 ·cases hx; cases hy; exact .inl ⟨_,_,rfl,rfl,q _ _ H h (Sm.refl _) (.int _)⟩
 ·obtain ⟨p,xs,rfl,e1,h1⟩:=hx.lst_inv
  obtain ⟨r,ys,rfl,e2,h2⟩:=hy.lst_inv
  have l1:=Paired.length h1
  have l2:=Paired.length h2
  exact .inr (.inl ⟨p,r,xs,ys,rfl,rfl,.inl (zo _ _ e1),zo _ _ e2,few (by omega),λn hn=>q _ _ _ h.2 (wP hn _) (uT zd hn (qF h1 h2))⟩)
 ·obtain ⟨p,xs,rfl,e1,h1⟩:=hx.tup_inv
  obtain ⟨r,ys,rfl,e2,h2⟩:=hy.tup_inv
  have l1:=Paired.length h1
  have l2:=Paired.length h2
  exact .inr (.inr ⟨p,r,xs,ys,rfl,rfl,zo _ _ e1,zo _ _ e2,few (by omega),λn H' s e=>have s:=Sm.of s; q _ _ _ h.2 s (Us (zd.same s) e (xN (yg s) (qF h1 h2)))⟩)
 ·exact h.elim
def qZ:F2
 | .int i,.int j,R=>R (.int (i - j))
 | _,_,_=>False
theorem zOC {g:Int->Int->V} {k:Int->Int->D} {f:F2} (hg:∀ i j H,DV H (g i j) (k i j)) (hf:∀ a b R,f a b R->∃ i j,a=.int i/\b=.int j/\R (k i j)):wj (v6 g) f:=λZ H x y a b R Q zd hx hy h q=>by
 obtain ⟨i,j,rfl,rfl,k⟩:=hf a b R h
 cases hx; cases hy
 exact ⟨_,_,rfl,rfl,q _ _ H k (Sm.refl _) (hg i j _)⟩
theorem Ut {C:Int->Int->Prop} {g:Int->Int->V} {k:Int->Int->D} {f:F2} (hg:∀ i j H,DV H (g i j) (k i j)) (hf:∀ a b R,f a b R->∃ i j,a=.int i/\b=.int j/\C i j/\R (k i j)):wj (rI C g) f:=λZ H x y a b R Q zd hx hy h q=>by
 obtain ⟨i,j,rfl,rfl,c,k⟩:=hf a b R h
 cases hx; cases hy
 exact ⟨_,_,rfl,rfl,c,q _ _ H k (Sm.refl _) (hg i j _)⟩
theorem zPF:wj (v6 λi j=>.int (i - j)) qZ:=zOC (k:=λi j=>.int (i - j)) (λ_ _ _=>.int _) λa b R h=>by
 unfold qZ at h
 split at h
 ·exact ⟨_,_,rfl,rfl,h⟩
 ·exact h.elim
def qc:F2
 | .int i,.int j,R=>Bd 60000 i/\Bd 60000 j/\R (.int (i * j))
 | .lst [d],.int k,R=>0<=k/\k<=1000/\R (.lst (cj k.toNat d))
 | _,_,_=>False
theorem qd {α:Type} (x:α):∀ n:Nat,(cj n [x]).flatten=cj n x
 | 0=>rfl
 | n + 1=>by rw [dm,dY,qd x n]; rfl
theorem Uu {α β:Type} {R:α->β->Prop} {x:α} {y:β} (h:R x y):∀ n:Nat,Paired R (cj n x) (cj n y)
 | 0=>.nil
 | n + 1=>.cons h (Uu h n)
theorem zPI:wj (λx y H Q=>rI Xk (λi j=>.int (i * j)) x y H Q\/ZS x y H Q) qc:=λZ H x y a b R Q zd hx hy h q=>by
 unfold qc at h
 split at h
 ·cases hx; cases hy; exact .inl ⟨_,_,rfl,rfl,⟨h.1,h.2.1⟩,q _ _ H h.2.2 (Sm.refl _) (.int _)⟩
 ·rename_i d k
  obtain ⟨p,xs,rfl,e1,h1⟩:=hx.lst_inv
  cases hy
  cases h1 with
  | @cons x _ _ _ h1 h2=>
  cases h2
  refine .inr ⟨p,_,_,rfl,rfl,zo _ _ e1,by omega,by omega,few (by rw [eT]; omega),λn hn=>?_⟩
  rw [qd]
  exact q _ _ _ h.2.2 (wP hn _) (uT zd hn (Uu h1 _))
 ·exact h.elim
def Uv:F2
 | .int i,.int j,R=>j≠0/\Bd 8000 j/\R (.int (i.fdiv j))
 | _,_,_=>False
theorem zM6:wj (rI zRg λi j=>.int (i.fdiv j)) Uv:=Ut (k:=λi j=>.int (i.fdiv j)) (λ_ _ _=>.int _) λa b R h=>by
 unfold Uv at h
 split at h
 ·exact ⟨_,_,rfl,rfl,⟨h.1,h.2.1⟩,h.2.2⟩
 ·exact h.elim
def qe:F2
 | .int i,.int j,R=>j≠0/\R (.int (i.fmod j))
 | _,_,_=>False
theorem zPJ:wj (rI (λ_ j=>j≠0) λi j=>.int (i.fmod j)) qe:=Ut (k:=λi j=>.int (i.fmod j)) (λ_ _ _=>.int _) λa b R h=>by
 unfold qe at h
 split at h
 ·exact ⟨_,_,rfl,rfl,h.1,h.2⟩
 ·exact h.elim
def qf:F2
 | .int i,.int j,R=>j7 i j/\R (.int (i ^ j.toNat))
 | _,_,_=>False
theorem zPG:wj (rI j7 λi j=>.int (i ^ j.toNat)) qf:=Ut (k:=λi j=>.int (i ^ j.toNat)) (λ_ _ _=>.int _) λa b R h=>by
 unfold qf at h
 split at h
 ·exact ⟨_,_,rfl,rfl,h.1,h.2⟩
 ·exact h.elim
def wW (g:Int->Int->Bool):F2
 | .int i,.int j,R=>R (.bool (g i j))
 | _,_,_=>False
theorem qg {g:Int->Int->Bool}:wj (v6 λi j=>.bl (g i j)) (wW g):=zOC (k:=λi j=>.bool (g i j)) (λ_ _ _=>.bool _) λa b R h=>by
 unfold wW at h
 split at h
 ·exact ⟨_,_,rfl,rfl,h⟩
 ·exact h.elim
theorem zY (ha:PE X a (tP pa)) (hb:PE X b (tP pb)):PE X (.BinOp a .Add b pos) (tP (xu qY pa pb)):=qX (zQk.or (zPE.or Zh)) zPL ha hb
theorem wv (ha:PE X a (tP pa)) (hb:PE X b (tP pb)):PE X (.BinOp a .Sub b pos) (tP (xu qZ pa pb)):=qX zQd zPF ha hb
theorem yL (ha:PE X a (tP pa)) (hb:PE X b (tP pb)):PE X (.BinOp a .Mult b pos) (tP (xu qc pa pb)):=qX (zPA.or zQe) zPI ha hb
theorem wl (ha:PE X a (tP pa)) (hb:PE X b (tP pb)):PE X (.BinOp a .FloorDiv b pos) (tP (xu Uv pa pb)):=qX zM4 zM6 ha hb
theorem yq (ha:PE X a (tP pa)) (hb:PE X b (tP pb)):PE X (.BinOp a .Mod b pos) (tP (xu qe pa pb)):=qX zPB zPJ ha hb
theorem jW (ha:PE X a (tP pa)) (hb:PE X b (tP pb)):PE X (.BinOp a .Pow b pos) (tP (xu qf pa pb)):=qX zQf zPG ha hb
theorem Zo (ha:PE X a (tP pa)) (hb:PE X b (tP pb)):PE X (.Compare a [.Lt] [b] pos) (tP (xu (wW λi j=>decide (i < j)) pa pb)):=Xx Kv qg (uM _) ha hb
theorem Uw (ha:PE X a (tP pa)) (hb:PE X b (tP pb)):PE X (.Compare a [.LtE] [b] pos) (tP (xu (wW λi j=>decide (i<=j)) pa pb)):=Xx Kw qg (uM _) ha hb
theorem zQG (ha:PE X a (tP pa)) (hb:PE X b (tP pb)):PE X (.Compare a [.GtE] [b] pos) (tP (xu (wW λi j=>decide (j<=i)) pa pb)):=Xx Kx qg (uM _) ha hb
def Zq:D->(D->Prop)->Prop
 | .int i,R=>R (.int (-i))
 | _,_=>False
def Zr (f:D->(D->Prop)->Prop) (pa:zx):zx:=λΓ R=>pa Γ λx=>f x R
theorem yr (ha:PE X a (tP pa)):PE X (.UnaryOp .USub a pos) (tP (Zr Zq pa)):=yK (ZF zPt ha) λσ H Q ⟨Z,Γ,R,E,h,q⟩=>
 ⟨Z,Γ,_,E,h,λd v H1 hd s1 hv=>by
  unfold Zq at hd
  split at hd
  ·cases hv; exact ⟨_,rfl,q _ _ H1 hd s1 (.int _)⟩
  ·exact hd.elim⟩
end
end Pu
namespace Pu
open PySem L2 Sh
variable [yW]
mutual
def D.py:D->PyData
 | .int i=>.int i
 | .bool b=>.bool b
 | .non=>.none
 | .str x=>.str x
 | .frz _=>.none
 | .lst ds=>.list (vb ds)
 | .tup ds=>.tuple (vb ds)
 | .obj _ _ _=>.none
def vb:List D->List PyData
 | []=>[]
 | d :: ds=>d.py :: vb ds
end
def D.pl:Nat->D->Bool
 | 0,_=>false
 | _ + 1,.int _=>true
 | _ + 1,.bool _=>true
 | _ + 1,.non=>true
 | _ + 1,.str x=>PyData.strOk x
 | _ + 1,.frz _=>false
 | n + 1,.lst ds=>ds.all (D.pl n)
 | n + 1,.tup ds=>ds.all (D.pl n)
 | _ + 1,.obj ..=>false
structure DpO (n:Nat) (d:D):Prop where
 dp:∀ K H v,DV H v d->Dp K H v d.py
 lay:d.py.canLay0=true
 dep:d.py.depth<=n
theorem Ux {n:Nat}:∀ {ds:List D},(∀ d∈ds,DpO n d)->(∀ K H xs,yJ H xs ds->uP K H xs (vb ds))/\il (vb ds)=true/\iG (vb ds)<=n
 | [],_=>⟨λK H xs h=>by cases h; exact .nil,by simp [vb,il],by simp [vb,iG]⟩
 | d :: ds,h=>by
  obtain ⟨h1,h2,h3⟩:=Ux (ds:=ds) λx m=>h x (cr _ m)
  have g:=h d cv
  have l:=g.lay
  have p:=g.dep
  refine ⟨λK H xs q=>?_,by simp [vb,il,l,h2],by simp only [vb,iG]; omega⟩
  cases q with
  | cons q r=>exact .cons (g.dp K H _ q) (h1 K H _ r)
theorem uG:∀ (n:Nat) (d:D),D.pl n d=true->DpO n d
 | 0,_,h=>by cases h
 | n + 1,.int i,_=>⟨λK H v h=>by cases h; exact .int i,by simp [D.py,eY],by simp [D.py,fQ]⟩
 | n + 1,.bool i,_=>⟨λK H v h=>by cases h; exact .bl i,by simp [D.py,eY],by simp [D.py,fQ]⟩
 | n + 1,.non,_=>⟨λK H v h=>by cases h; exact .non,by simp [D.py,eY],by simp [D.py,fQ]⟩
 | n + 1,.str i,h=>⟨λK H v h=>by cases h; exact .str i,by simp only [D.py,eY]; exact h,by simp [D.py,fQ]⟩
 | n + 1,.frz _,h=>by cases h
 | n + 1,.obj ..,h=>by cases h
 | n + 1,.lst ds,h=>by
  obtain ⟨h1,h2,h3⟩:=Ux (n:=n) (ds:=ds) λd m=>uG n d (cR.mp h d m)
  refine ⟨λK H v q=>?_,by simp [D.py,eY,h2],by simp only [D.py,fQ]; omega⟩
  obtain ⟨p,xs,rfl,e,q⟩:=q.lst_inv
  exact .lst (zw.of e) (h1 K H _ q)
 | n + 1,.tup ds,h=>by
  obtain ⟨h1,h2,h3⟩:=Ux (n:=n) (ds:=ds) λd m=>uG n d (cR.mp h d m)
  refine ⟨λK H v q=>?_,by simp [D.py,eY,h2],by simp only [D.py,fQ]; omega⟩
  obtain ⟨p,xs,rfl,e,q⟩:=q.tup_inv
  exact .tup (yH.of e) (h1 K H _ q)
theorem Uy:∀ ns:List Int,vb (ns.map D.int)=ns.map PyData.int
 | []=>rfl
 | n :: t=>by rw [cT,cT,vb,Uy t,D.py]
theorem zKu (n:Nat) (ns:List Int):(ns.map D.int).all (D.pl (n + 1))=true:=cR.mpr λd m=>by
 obtain ⟨i,_,rfl⟩:=cw.mp m
 rfl
abbrev L (ns:List Int):D:=.lst (ns.map D.int)
abbrev U (ns:List Int):D:=.tup (ns.map D.int)
theorem zRL (ns ms:List Int):ik (L ns).py (L ms).py=decide (ns=ms):=by
 show fu (vb (ns.map D.int)) (vb (ms.map D.int))=_
 rw [Uy,Uy]
 exact zHw ns ms
section
variable {X:Cx} {a b e c:Expr} {es:List Expr} {pos:Pos} {pa pb pc:zx} {qa qb:wI} {pl:yp}
def Xz:F2
 | .int i,.int j,R=>R (.bool (decide (i=j)))
 | .bool i,.bool j,R=>R (.bool (i == j))
 | .str i,.str j,R=>R (.bool (i == j))
 | .non,.non,R=>R (.bool true)
 | .lst as,.lst bs,R=>(D.lst as).pl 50=true/\(D.lst bs).pl 50=true/\R (.bool (ik (D.lst as).py (D.lst bs).py))
 | .tup as,.tup bs,R=>(D.tup as).pl 50=true/\(D.tup bs).pl 50=true/\R (.bool (ik (D.tup as).py (D.tup bs).py))
 | _,_,_=>False
theorem zOD {K:cg}:wj (λx y H Q=>Kr x y H Q\/Zb K x y H Q) Xz:=λZ H x y a b R Q zd hx hy h q=>by
 unfold Xz at h
 split at h
 ·cases hx; cases hy
  refine .inl ⟨rfl,?_⟩
  rw [Xa,iH]
  exact q _ _ H h (Sm.refl _) (.bool _)
 ·cases hx; cases hy
  refine .inl ⟨rfl,?_⟩
  rw [Xb]
  exact q _ _ H h (Sm.refl _) (.bool _)
 ·cases hx; cases hy
  refine .inl ⟨rfl,?_⟩
  rw [Xc]
  exact q _ _ H h (Sm.refl _) (.bool _)
 ·cases hx; cases hy
  refine .inl ⟨rfl,?_⟩
  rw [show decide (V.non=V.non)=true from decide_eq_true rfl]
  exact q _ _ H h (Sm.refl _) (.bool _)
 ·have d1:=uG _ _ h.1
  have d2:=uG _ _ h.2.1
  have e1:=d1.dep
  have e2:=d2.dep
  exact .inr ⟨_,_,d1.dp K H _ (hx.same zo),d2.dp K H _ (hy.same zo),d1.lay,d2.lay,by omega,by omega,q _ _ H h.2.2 (Sm.refl _) (.bool _)⟩
 ·have d1:=uG _ _ h.1
  have d2:=uG _ _ h.2.1
  have e1:=d1.dep
  have e2:=d2.dep
  exact .inr ⟨_,_,d1.dp K H _ (hx.same zo),d2.dp K H _ (hy.same zo),d1.lay,d2.lay,by omega,by omega,q _ _ H h.2.2 (Sm.refl _) (.bool _)⟩
 ·exact h.elim
def gr:F2
 | .int i,.int j,R=>R (.bool (!decide (i=j)))
 | .bool i,.bool j,R=>R (.bool (i != j))
 | .str i,.str j,R=>R (.bool (i != j))
 | .lst as,.lst bs,R=>(D.lst as).pl 50=true/\(D.lst bs).pl 50=true/\R (.bool (!PyData.eqv (D.lst as).py (D.lst bs).py))
 | .tup as,.tup bs,R=>(D.tup as).pl 50=true/\(D.tup bs).pl 50=true/\R (.bool (!PyData.eqv (D.tup as).py (D.tup bs).py))
 | _,_,_=>False
theorem zQl {K:cg}:wj (λx y H Q=>Ks x y H Q\/∃ d e:PyData,Dp K H x d/\Dp K H y e/\d.canLay0=true/\e.canLay0=true/\d.depth<=60/\e.depth<=60/\Q (.bl (!PyData.eqv d e)) H) gr:=λZ H x y a b R Q zd hx hy h q=>by
 unfold gr at h
 split at h
 ·cases hx; cases hy
  refine .inl ⟨rfl,?_⟩
  rw [Xa,iH]
  exact q _ _ H h (Sm.refl _) (.bool _)
 ·cases hx; cases hy
  refine .inl ⟨rfl,?_⟩
  rw [Xb]
  exact q _ _ H h (Sm.refl _) (.bool _)
 ·cases hx; cases hy
  refine .inl ⟨rfl,?_⟩
  rw [Xc]
  exact q _ _ H h (Sm.refl _) (.bool _)
 ·have d1:=uG _ _ h.1
  have d2:=uG _ _ h.2.1
  have e1:=d1.dep
  have e2:=d2.dep
  exact .inr ⟨_,_,d1.dp K H _ (hx.same zo),d2.dp K H _ (hy.same zo),d1.lay,d2.lay,by omega,by omega,q _ _ H h.2.2 (Sm.refl _) (.bool _)⟩
 ·have d1:=uG _ _ h.1
  have d2:=uG _ _ h.2.1
  have e1:=d1.dep
  have e2:=d2.dep
  exact .inr ⟨_,_,d1.dp K H _ (hx.same zo),d2.dp K H _ (hy.same zo),d1.lay,d2.lay,by omega,by omega,q _ _ H h.2.2 (Sm.refl _) (.bool _)⟩
 ·exact h.elim
theorem uv (hu:X.A.units + 64 < cLine) (ha:PE X a (tP pa)) (hb:PE X b (tP pb)):PE X (.Compare a [.Eq] [b] pos) (tP (xu Xz pa pb)):=Xx (Ku.or (zOB hu)) zOD (uM _) ha hb
def bD:D->(Bool->Prop)->Prop
 | .bool b,R=>R b
 | _,_=>False
def wK (pa:zx):wI:=λΓ R=>pa Γ λd=>bD d R
theorem zNo {t:TE} (w:∀ σ H Q,tP pa σ H Q->t σ H Q) (σ:St) (H:Hp) (Q:Bool->Hp->Prop):xF (wK pa) σ H Q->Ky t σ H Q:=λ⟨Z,Γ,R,E,h,q⟩=>
 w _ _ _ ⟨Z,Γ,_,E,h,λd v H1 hd s1 hv=>by
  unfold bD at hd
  split at hd
  ·cases hv; exact ⟨_,rfl,q _ H1 hd s1⟩
  ·exact hd.elim⟩
theorem yh (ha:PE X e (tP pa)) (he:∀ whole,isTrue e X.env whole=(do let v <- whole; standAt e.pos; holding [v] (truthy v)):=by intro _; rfl):PT X e (xF (wK pa)):=Xv (Wx ha he) (zNo λ_ _ _ h=>h)
theorem qh {op:CmpOp} {r:R2} {f:F2} (ho:yt X (compareOp op) r) (o:wj r f) (hm:behindInMarks op b=false) (ha:PE X a (tP pa)) (hb:PE X b (tP pb)):PT X (.Compare a [op] [b] pos) (xF (wK (xu f pa pb))):=Xv (zOw ho ha hb hm) (zNo (Xw o))
theorem uw (hu:X.A.units + 64 < cLine) (ha:PE X a (tP pa)) (hb:PE X b (tP pb)):PT X (.Compare a [.Eq] [b] pos) (xF (wK (xu Xz pa pb))):=qh (Ku.or (zOB hu)) zOD (uM _) ha hb
theorem X0 (hu:X.A.units + 64 < cLine) (ha:PE X a (tP pa)) (hb:PE X b (tP pb)):PT X (.Compare a [.NotEq] [b] pos) (xF (wK (xu gr pa pb))):=qh (ZI.or (zOA hu)) zQl (uM _) ha hb
theorem Uz (ha:PE X a (tP pa)) (hb:PE X b (tP pb)):PT X (.Compare a [.Lt] [b] pos) (xF (wK (xu (wW λi j=>decide (i < j)) pa pb))):=qh Kv qg (uM _) ha hb
theorem zN0 (ha:PE X a (tP pa)) (hb:PE X b (tP pb)):PT X (.Compare a [.LtE] [b] pos) (xF (wK (xu (wW λi j=>decide (i<=j)) pa pb))):=qh Kw qg (uM _) ha hb
theorem qi (ha:PE X a (tP pa)) (hb:PE X b (tP pb)):PT X (.Compare a [.Gt] [b] pos) (xF (wK (xu (wW λi j=>decide (j < i)) pa pb))):=qh ZJ qg (uM _) ha hb
theorem zQE (ha:PE X a (tP pa)) (hb:PE X b (tP pb)):PT X (.Compare a [.GtE] [b] pos) (xF (wK (xu (wW λi j=>decide (j<=i)) pa pb))):=qh Kx qg (uM _) ha hb
def ww (b:Bool) (A B:Prop):Prop:=(b=true->A)/\(b=false->B)
theorem wT {b:Bool} {A B:Prop} (e:b=true) (h:A):ww b A B:=⟨λ_=>h,λz=>nomatch e.symm.trans z⟩
theorem wF {b:Bool} {A B:Prop} (e:b=false) (h:B):ww b A B:=⟨λz=>(nomatch e.symm.trans z),λ_=>h⟩
theorem w2 {b:Bool} {A B:Prop} (h1:b=true->A) (h2:b=false->B):ww b A B:=⟨h1,h2⟩
def U0 (p q:wI):wI:=λΓ R=>p Γ λc=>ww c (q Γ R) (R false)
def pOr (p q:wI):wI:=λΓ R=>p Γ λc=>ww c (R true) (q Γ R)
def U1 (p:wI):wI:=λΓ R=>p Γ λc=>R (!c)
theorem U2 (ha:PT X a (xF qa)):PW X (.BoolOp .And [a] pos) (xF qa):=zOq ha
theorem vc (ha:PT X a (xF qa)):PW X (.BoolOp .Or [a] pos) (xF qa):=zQC ha
theorem U3 {ye:List Expr} (ha:PT X a (xF qa)) (hb:PW X (.BoolOp .And (b :: ye) pos) (xF qb)):PW X (.BoolOp .And (a :: b :: ye) pos) (xF (U0 qa qb)):=pww (zQD ha hb) λσ H Q ⟨Z,Γ,R,E,h,q⟩=>
 ⟨Z,Γ,_,E,h,λc H1 hc s1=>by
  cases c with
  | true=>exact ⟨Z,Γ,R,E.same s1,hc.1 rfl,λb H2 hb s2=>q b H2 hb (s1.trans s2)⟩
  | false=>exact q _ H1 (hc.2 rfl) s1⟩
theorem wx {ye:List Expr} (ha:PT X a (xF qa)) (hb:PW X (.BoolOp .Or (b :: ye) pos) (xF qb)):PW X (.BoolOp .Or (a :: b :: ye) pos) (xF (pOr qa qb)):=pww (ko ha hb) λσ H Q ⟨Z,Γ,R,E,h,q⟩=>
 ⟨Z,Γ,_,E,h,λc H1 hc s1=>by
  cases c with
  | true=>exact q _ H1 (hc.1 rfl) s1
  | false=>exact ⟨Z,Γ,R,E.same s1,hc.2 rfl,λb H2 hb s2=>q b H2 hb (s1.trans s2)⟩⟩
theorem y3 (ha:PT X a (xF qa)):PT X (.UnaryOp .Not a pos) (xF (U1 qa)):=Xv (zQH ha) λσ H Q ⟨Z,Γ,R,E,h,q⟩=>⟨Z,Γ,_,E,h,λc H1 hc s1=>q _ H1 hc s1⟩
def Zs (p q:zx):zx:=λΓ R=>p Γ λd=>bD d λc=>ww c (q Γ R) (R (.bool false))
def Zu (p:zx):zx:=λΓ R=>p Γ λd=>bD d λc=>R (.bool !c)
theorem vd {op} (ha:PE X a (tP pa)):PE X (.BoolOp op [a] pos) (tP pa):=zQR ha
theorem wX {ye:List Expr} (ha:PE X a (tP pa)) (hb:PE X (.BoolOp .And (b :: ye) pos) (tP pb)):PE X (.BoolOp .And (a :: b :: ye) pos) (tP (Zs pa pb)):=yK (zQV ha hb) λσ H Q ⟨Z,Γ,R,E,h,q⟩=>
 ⟨Z,Γ,_,E,h,λd v H1 hd s1 hv=>by
  unfold bD at hd
  split at hd
  ·cases hv
   rename_i c
   refine ⟨c,rfl,?_⟩
   cases c with
   | true=>exact ⟨Z,Γ,R,E.same s1,hd.1 rfl,λb v H2 hb s2 k=>q b v H2 hb (s1.trans s2) k⟩
   | false=>exact q _ _ H1 (hd.2 rfl) s1 (.bool _)
  ·exact hd.elim⟩
theorem zQF (ha:PE X a (tP pa)):PE X (.UnaryOp .Not a pos) (tP (Zu pa)):=yK (zQS ha) λσ H Q ⟨Z,Γ,R,E,h,q⟩=>
 ⟨Z,Γ,_,E,h,λd v H1 hd s1 hv=>by
  unfold bD at hd
  split at hd
  ·cases hv; exact ⟨_,rfl,q _ _ H1 hd s1 (.bool _)⟩
  ·exact hd.elim⟩
def U4 (t:wI) (p q:zx):zx:=λΓ R=>t Γ λc=>ww c (p Γ R) (q Γ R)
theorem zMl (hc:PT X c (xF qa)) (ha:PE X a (tP pa)) (hb:PE X b (tP pb)):PE X (.IfExp c a b pos) (tP (U4 qa pa pb)):=yK (zMz hc ha hb) λσ H Q ⟨Z,Γ,R,E,h,q⟩=>
 ⟨Z,Γ,_,E,h,λc H1 hd s1=>by
  cases c with
  | true=>exact ⟨Z,Γ,R,E.same s1,hd.1 rfl,λb v H2 hb s2 k=>q b v H2 hb (s1.trans s2) k⟩
  | false=>exact ⟨Z,Γ,R,E.same s1,hd.2 rfl,λb v H2 hb s2 k=>q b v H2 hb (s1.trans s2) k⟩⟩
def U5:yp:=λ_ R=>R []
def Zv (pa:zx) (pl:yp):yp:=λΓ R=>pa Γ λd=>pl Γ λds=>R (d :: ds)
theorem zC:PA X [] (wJ U5):=paw yO λσ H Q ⟨_,_,_,_,h,q⟩=>q _ _ H h (Sm.refl _) .nil
theorem zB (ha:PE X e (tP pa)) (hr:PA X es (wJ pl)) (hs:starEach (e :: es) X.env=(false,eval e X.env) :: starEach es X.env:=by rfl):PA X (e :: es) (wJ (Zv pa pl)):=paw (zg ha hr hs) λσ H Q ⟨Z,Γ,R,E,h,q⟩=>
 ⟨Z,Γ,_,E,h,λd v H1 hd s1 hv=>⟨Z,Γ,_,E.same s1,hd,λds vs H2 hds s2 hvs=>q _ _ H2 hds (s1.trans s2) (.cons (hv.same (yg s2)) hvs)⟩⟩
def U6 (pl:yp):zx:=λΓ R=>pl Γ λds=>ds.length<=1000/\R (.tup ds)
def U7 (pl:yp):zx:=λΓ R=>pl Γ λds=>ds.length<=1000/\R (.lst ds)
theorem xG {x1} (ha:PA X es (wJ pl)):PE X (.Tuple es x1 pos) (tP (U6 pl)):=yK (K3 ha) λσ H Q ⟨Z,Γ,R,E,h,q⟩=>
 ⟨Z,Γ,_,E,h,λds vs H1 hd s1 hv=>⟨few (by rw [Paired.length hv]; exact hd.1),λp hp=>q _ _ _ hd.2 (s1.trans (wP hp _)) (Xy (E.same s1).zd hp hv)⟩⟩
theorem yC (ha:PA X es (wJ pl)):PE X (.List es pos) (tP (U7 pl)):=yK (K4 ha) λσ H Q ⟨Z,Γ,R,E,h,q⟩=>
 ⟨Z,Γ,_,E,h,λds vs H1 hd s1 hv=>⟨few (by rw [Paired.length hv]; exact hd.1),λp hp=>q _ _ _ hd.2 (s1.trans (wP hp _)) (uT (E.same s1).zd hp hv)⟩⟩
theorem Zw {α β:Type} {R:α->β->Prop} {xs:List α} {ys:List β} (h:Paired R xs ys) {i:Int} {y:β} (e:xB ys i=some y):∃ x,xB xs i=some x/\R x y:=by
 unfold xB at e |-
 rw [Paired.length h]
 cases k:vJ ys.length i with
 | none=>rw [k] at e; cases e
 | some j=>
  rw [k] at e
  exact go h e
where
 go:∀ {xs:List α} {ys:List β} {j:Nat} {y:β},Paired R xs ys->ys[j]? = some y->∃ x,xs[j]? = some x/\R x y
  | _,_,_,_,.nil,e=>by simp at e
  | _,_,0,_,.cons r _,e=>by simp at e; subst e; exact ⟨_,rfl,r⟩
  | _,_,j + 1,y,.cons _ t,e=>by
   obtain ⟨x,h1,h2⟩:=go (j:=j) (y:=y) t (by simpa using e)
   exact ⟨x,by simpa using h1,h2⟩
def Zx:F2
 | .lst ds,.int i,R=>∃ d,xB ds i=some d/\R d
 | .tup ds,.int i,R=>∃ d,xB ds i=some d/\R d
 | .frz ds,.int i,R=>∃ d,xB ds i=some d/\R d
 | _,_,_=>False
theorem Zy {α β:Type} (f:α->β) (xs:List α) (i:Int):xB (xs.map f) i=(xB xs i).map f:=by
 unfold xB
 rw [a_]
 cases vJ xs.length i with
 | none=>rfl
 | some j=>exact cV ..
theorem zQm {K:cg}:wj (Zc K) Zx:=λZ H x y a b R Q zd hx hy h q=>by
 unfold Zx at h
 split at h
 ·obtain ⟨p,xs,rfl,e1,h1⟩:=hx.lst_inv
  cases hy
  obtain ⟨d,hd,hR⟩:=h
  obtain ⟨v,hv,hh⟩:=Zw h1 hd
  exact ⟨p,xs,_,v,rfl,rfl,.inr (zw.of (zo _ _ e1)),hv,q _ _ H hR (Sm.refl _) hh⟩
 ·obtain ⟨p,xs,rfl,e1,h1⟩:=hx.tup_inv
  cases hy
  obtain ⟨d,hd,hR⟩:=h
  obtain ⟨v,hv,hh⟩:=Zw h1 hd
  exact ⟨p,xs,_,v,rfl,rfl,.inl (yH.of (zo _ _ e1)),hv,q _ _ H hR (Sm.refl _) hh⟩
 ·obtain ⟨p,xs,rfl,e1,h1⟩:=hx.frz_inv
  cases hy
  obtain ⟨d,hd,hR⟩:=h
  obtain ⟨v,hv,hh⟩:=Zw h1 hd
  exact ⟨p,xs,_,v,rfl,rfl,.inr (.inl (uu zo e1)),hv,q _ _ H hR (Sm.refl _) hh⟩
 ·exact h.elim
theorem Zz (ha:PE X a (tP pa)) (hb:PE X b (tP pb)) (hs:Xg b):PE X (.Subscript a b pos) (tP (xu Zx pa pb)):=yK (Xh zPT ha hb hs) (Xw zQm)
theorem Z3 {X:Cx} {e:Option Expr} {t t':TO} (h:PO X e t) (w:∀ σ H Q,t' σ H Q->t σ H Q):PO X e t':=λpins s σ H Q I q=>h pins s σ H Q I (w σ H Q q)
def zO6:qV:=λ_ R=>R none
def iD:D->(Option Int->Prop)->Prop
 | .int i,R=>R (some i)
 | _,_=>False
def Z4 (pa:zx):qV:=λΓ R=>pa Γ λd=>iD d R
theorem xP:PO X none (qW zO6):=Z3 zO1 λσ H Q ⟨_,_,_,_,h,q⟩=>q _ H h (Sm.refl _)
theorem xH (h:PE X e (tP pa)):PO X (some e) (qW (Z4 pa)):=Z3 (zO0 h) λσ H Q ⟨Z,Γ,R,E,h,q⟩=>
 ⟨Z,Γ,_,E,h,λd v H1 hd s1 hv=>by
  unfold iD at hd
  split at hd
  ·cases hv; exact ⟨_,rfl,q _ H1 hd s1⟩
  ·exact hd.elim⟩
def yc {α:Type} (xs:List α) (lo hi:Option Int):List α:=(xs.drop (HT.sIx xs.length 0 lo)).take (HT.sIx xs.length xs.length hi - HT.sIx xs.length 0 lo)
theorem zK3 {α β:Type} {R:α->β->Prop}:∀ {xs:List α} {ys:List β} (n:Nat),Paired R xs ys->Paired R (xs.take n) (ys.take n)
 | _,_,0,_=>.nil
 | _,_,_ + 1,.nil=>.nil
 | _,_,n + 1,.cons h t=>.cons h (zK3 n t)
theorem zK4 {α β:Type} {R:α->β->Prop}:∀ {xs:List α} {ys:List β} (n:Nat),Paired R xs ys->Paired R (xs.drop n) (ys.drop n)
 | _,_,0,h=>h
 | _,_,_ + 1,.nil=>.nil
 | _,_,n + 1,.cons _ t=>zK4 n t
theorem U8 {α β:Type} {R:α->β->Prop} {xs:List α} {ys:List β} (h:Paired R xs ys) (lo hi:Option Int):Paired R (yc xs lo hi) (yc ys lo hi):=by
 unfold yc
 rw [Paired.length h]
 exact zK3 _ (zK4 _ h)
def slD:D->Option Int->Option Int->(D->Prop)->Prop
 | .lst ds,lo,hi,R=>R (.lst (yc ds lo hi))
 | .tup ds,lo,hi,R=>R (.tup (yc ds lo hi))
 | _,_,_,_=>False
def pSl (pa:zx) (po qo:qV):zx:=λΓ R=>pa Γ λd=>po Γ λl=>qo Γ λu=>slD d l u R
theorem zP5 {X:Cx} {r r':V->Option Int->Option Int->Hp->VK->Prop} (h:qA X r) (h':qA X r'):qA X (λx l u H Q=>r x l u H Q\/r' x l u H Q):=λpins s σ H x v vl vu lo hi sl Q I r1 r2 r3 r4 q=>
 q.elim (h pins s σ H x v vl vu lo hi sl Q I r1 r2 r3 r4) (h' pins s σ H x v vl vu lo hi sl Q I r1 r2 r3 r4)
theorem xQ {lo hi:Option Expr} {po qo:qV} {p2:Pos} (ha:PE X a (tP pa)) (hl:PO X lo (qW po)) (hu:PO X hi (qW qo)):PE X (.Subscript a (.Slice lo hi none p2) pos) (tP (pSl pa po qo)):=yK (zJJ (zP5 zKZ zNR) ha hl hu) λσ H Q ⟨Z,Γ,R,E,h,q⟩=>
 ⟨Z,Γ,_,E,h,λd v H1 hd s1 hv=>⟨Z,Γ,_,E.same s1,hd,λl H2 hl s2=>⟨Z,Γ,_,E.same (s1.trans s2),hl,λu H3 hu s3=>by
  have s:=s1.trans (s2.trans s3)
  have hv:=hv.same (yg (s2.trans s3))
  have zd:=(E.same s).zd
  unfold slD at hu
  split at hu
  ·obtain ⟨p,xs,rfl,e1,h1⟩:=hv.lst_inv
   exact .inl ⟨p,xs,rfl,zw.of (zo _ _ e1),λn hn=>q _ _ _ hu (s.trans (wP hn _)) (uT zd hn (U8 h1 _ _))⟩
  ·obtain ⟨p,xs,rfl,e1,h1⟩:=hv.tup_inv
   exact .inr ⟨p,xs,rfl,zo _ _ e1,λn H' s' e=>have s':=Sm.of s'; q _ _ _ hu (s.trans s') (Us (zd.same s') e (xN (yg s') (U8 h1 _ _)))⟩
  ·exact hu.elim⟩⟩⟩
abbrev FL:=List D->(D->Prop)->Prop
def ux (r:List V->Hp->VK->Prop) (f:FL):Prop:=∀ (Z:Addr->Prop) (H:Hp) (vs:List V) (ds:List D) (R:D->Prop) (Q:VK),ZL Z H->yJ (zK Z H) vs ds->f ds R->(∀ d v H',R d->Sm H H'->DV (zK Z H') v d->Q v H')->r vs H Q
def jX (f:FL) (pl:yp):zx:=λΓ R=>pl Γ λds=>f ds R
theorem zKR {r:List V->Hp->VK->Prop} {f:FL} (o:ux r f) (σ:St) (H:Hp) (Q:VK):tP (jX f pl) σ H Q->gb r (wJ pl) σ H Q:=λ⟨Z,Γ,R,E,h,q⟩=>
 ⟨Z,Γ,_,E,h,λds vs H1 hd s1 hv=>o Z H1 vs ds R Q (E.same s1).zd hv hd λd v H2 h2 s2 hv2=>q d v H2 h2 (s1.trans s2) hv2⟩
theorem zt {x:Str} {id:String} {p:Pos} {r:List V->Hp->VK->Prop} {f:FL} (hc:vG X (.builtin id) r) (o:ux r f) (hg:Gl X x) (hm:X.mg x=none) (hv:bootBuiltins x=some (.builtin id)) (ha:PA X (e :: es) (wJ pl)) (hn:x≠"__name__":=by decide) (hdb:(x == ("__debug__" : Str))=false:=by decide)
  (he:starEach (e :: es) X.env=(false,eval e X.env) :: starEach es X.env:=by rfl) (hpl:(backTo pos (starEach es X.env)).any (·.1)=false:=by rfl):PE X (.Call (.Name x p) (e :: es) [] pos) (tP (jX f pl)):=yK (xc hc hg hm hv ha hn hdb he hpl) (zKR o)
theorem y4 {x:Str} {T:String} {p:Pos} {r:List V->Hp->VK->Prop} {f:FL} (hc:vG X (.type T) r) (o:ux r f) (hg:Gl X x) (hm:X.mg x=none) (hv:bootBuiltins x=some (.type T)) (ha:PA X (e :: es) (wJ pl)) (hn:x≠"__name__":=by decide) (hdb:(x == ("__debug__" : Str))=false:=by decide)
  (he:starEach (e :: es) X.env=(false,eval e X.env) :: starEach es X.env:=by rfl) (hpl:(backTo pos (starEach es X.env)).any (·.1)=false:=by rfl):PE X (.Call (.Name x p) (e :: es) [] pos) (tP (jX f pl)):=yK (zK0 hc hg hm hv ha hn hdb he hpl) (zKR o)
def Z5:FL
 | [.lst ds],R=>R (.int ds.length)
 | [.tup ds],R=>R (.int ds.length)
 | [.frz ds],R=>R (.int ds.length)
 | _,_=>False
theorem xI {H:Hp} {vs:List V} {d:D} (h:yJ H vs [d]):∃ v,vs=[v]/\DV H v d:=by
 cases h with
 | cons h t=>cases t; exact ⟨_,rfl,h⟩
theorem jH {H:Hp} {vs:List V} {d e:D} (h:yJ H vs [d,e]):∃ v w,vs=[v,w]/\DV H v d/\DV H w e:=by
 cases h with
 | cons h t=>obtain ⟨w,rfl,k⟩:=xI t; exact ⟨_,_,rfl,h,k⟩
theorem yx {K:cg}:ux (λxs H Q=>∃ p ys,xs=[.ref p]/\(zw K H p ys\/yH K H p ys)/\Q (.int ys.length) H) Z5:=λZ H vs ds R Q zd hv h q=>by
 unfold Z5 at h
 split at h
 ·obtain ⟨v,rfl,hw⟩:=xI hv
  obtain ⟨p,xs,rfl,e1,h1⟩:=hw.lst_inv
  exact ⟨p,xs,rfl,.inl (zw.of (zo _ _ e1)),by rw [Paired.length h1]; exact q _ _ H h (Sm.refl _) (.int _)⟩
 ·obtain ⟨v,rfl,hw⟩:=xI hv
  obtain ⟨p,xs,rfl,e1,h1⟩:=hw.tup_inv
  exact ⟨p,xs,rfl,.inr (yH.of (zo _ _ e1)),by rw [Paired.length h1]; exact q _ _ H h (Sm.refl _) (.int _)⟩
 ·obtain ⟨v,rfl,hw⟩:=xI hv
  obtain ⟨p,xs,rfl,e1,h1⟩:=hw.frz_inv
  exact ⟨p,xs,rfl,.inl (.inl (uu zo e1)),by rw [Paired.length h1]; exact q _ _ H h (Sm.refl _) (.int _)⟩
 ·exact h.elim
def U9:FL
 | [.frz ds],R=>R (.lst ds)
 | [.lst ds],R=>R (.lst ds)
 | [.tup ds],R=>R (.lst ds)
 | _,_=>False
theorem vQ {K:cg}:ux (λxs H Q=>∃ p ys,xs=[.ref p]/\(zw K H p ys\/yH K H p ys)/\∀ l,H l=none->Q (.ref l) (zV H l (.lst ys))) U9:=λZ H vs ds R Q zd hv h q=>by
 unfold U9 at h
 split at h
 ·obtain ⟨v,rfl,hw⟩:=xI hv
  obtain ⟨p,xs,rfl,e1,h1⟩:=hw.frz_inv
  exact ⟨p,xs,rfl,.inl (.inl (uu zo e1)),λl hl=>q _ _ _ h (wP hl _) (uT zd hl h1)⟩
 ·obtain ⟨v,rfl,hw⟩:=xI hv
  obtain ⟨p,xs,rfl,e1,h1⟩:=hw.lst_inv
  exact ⟨p,xs,rfl,.inl (zw.of (zo _ _ e1)),λl hl=>q _ _ _ h (wP hl _) (uT zd hl h1)⟩
 ·obtain ⟨v,rfl,hw⟩:=xI hv
  obtain ⟨p,xs,rfl,e1,h1⟩:=hw.tup_inv
  exact ⟨p,xs,rfl,.inr (yH.of (zo _ _ e1)),λl hl=>q _ _ _ h (wP hl _) (uT zd hl h1)⟩
 ·exact h.elim
def Z6:FL
 | [.lst ds],R=>R (.tup ds)
 | [.tup ds],R=>R (.tup ds)
 | _,_=>False
theorem vC {K:cg}:ux (λxs H Q=>∃ p ys,xs=[.ref p]/\((zw K H p ys/\∀ l,H l=none->Q (.ref l) (zV H l (.tup ys)))\/(yH K H p ys/\Q (.ref p) H))) Z6:=λZ H vs ds R Q zd hv h q=>by
 unfold Z6 at h
 split at h
 ·obtain ⟨v,rfl,hw⟩:=xI hv
  obtain ⟨p,xs,rfl,e1,h1⟩:=hw.lst_inv
  exact ⟨p,xs,rfl,.inl ⟨zw.of (zo _ _ e1),λl hl=>q _ _ _ h (wP hl _) (Xy zd hl h1)⟩⟩
 ·obtain ⟨v,rfl,hw⟩:=xI hv
  obtain ⟨p,xs,rfl,e1,h1⟩:=hw.tup_inv
  exact ⟨p,xs,rfl,.inr ⟨yH.of (zo _ _ e1),q _ _ _ h (Sm.refl _) hw⟩⟩
 ·exact h.elim
def Z7:FL
 | [.lst ds],R=>∃ ns:List Int,ds=ns.map D.int/\R (.int ns.sum)
 | _,_=>False
theorem gt {K:cg}:ux (λxs H Q=>∃ (p:Addr) (ns:List Int),xs=[.ref p]/\zw K H p (ns.map V.int)/\Q (.int ns.sum) H) Z7:=λZ H vs ds R Q zd hv h q=>by
 unfold Z7 at h
 split at h
 ·obtain ⟨v,rfl,hw⟩:=xI hv
  obtain ⟨p,xs,rfl,e1,h1⟩:=hw.lst_inv
  obtain ⟨ns,rfl,h⟩:=h
  cases zJZ h1
  exact ⟨p,ns,rfl,zw.of (zo _ _ e1),q _ _ H h (Sm.refl _) (.int _)⟩
 ·exact h.elim
def Z8:FL
 | [.lst ds],R=>∃ bs:List Bool,ds=bs.map D.bool/\R (.bool (bs.all id))
 | _,_=>False
theorem vR {K:cg}:ux (λxs H Q=>∃ (p:Addr) (bs:List Bool),xs=[V.ref p]/\zw K H p (bs.map V.bl)/\Q (V.bl (bs.all id)) H) Z8:=λZ H vs ds R Q zd hv h q=>by
 unfold Z8 at h
 split at h
 ·obtain ⟨v,rfl,hw⟩:=xI hv
  obtain ⟨p,xs,rfl,e1,h1⟩:=hw.lst_inv
  obtain ⟨ns,rfl,h⟩:=h
  cases zHz h1
  exact ⟨p,ns,rfl,zw.of (zo _ _ e1),q _ _ H h (Sm.refl _) (.bool _)⟩
 ·exact h.elim
def Z9:FL
 | [.int i,.int j],R=>R (.int (max i j))
 | _,_=>False
theorem gu:ux (λxs H Q=>∃ i j,xs=[.int i,.int j]/\Q (.int (if j > i then j else i)) H) Z9:=λZ H vs ds R Q zd hv h q=>by
 unfold Z9 at h
 split at h
 ·rename_i i j
  obtain ⟨v,w,rfl,hx,hy⟩:=jH hv
  cases hx; cases hy
  refine ⟨_,_,rfl,?_⟩
  have e:(if j > i then j else i)=max i j:=by rw [Int.max_def]; split <;> split <;> omega
  rw [e]
  exact q _ _ H h (Sm.refl _) (.int _)
 ·exact h.elim
def YA:FL
 | [.int i],R=>R (.int i)
 | [.bool b],R=>R (.int (if b=true then 1 else 0))
 | _,_=>False
theorem zMA:ux (λxs H Q=>(∃ i,xs=[.int i]/\Q (.int i) H)\/∃ k,xs=[.bl k]/\Q (.int (if k then 1 else 0)) H) YA:=λZ H vs ds R Q zd hv h q=>by
 unfold YA at h
 split at h
 ·obtain ⟨v,rfl,hw⟩:=xI hv
  cases hw
  exact .inl ⟨_,rfl,q _ _ H h (Sm.refl _) (.int _)⟩
 ·obtain ⟨v,rfl,hw⟩:=xI hv
  cases hw
  exact .inr ⟨_,rfl,q _ _ H h (Sm.refl _) (.int _)⟩
 ·exact h.elim
end
end Pu
namespace Pu
open PySem L2 Sh
variable [yW]
def setN:St->List Nat->List V->St
 | σ,j :: js,v :: vs=>setN (σ.set j (some v)) js vs
 | σ,_,_=>σ
def X1:List Sl->List Nat->List D->List Sl
 | Γ,j :: js,d :: ds=>X1 (yA Γ j (.sh d)) js ds
 | Γ,_,_=>Γ
theorem zJB:∀ (σ:St) (js ks:List Nat) (vs ws:List V),js.length=vs.length->setN σ (js++ks) (vs++ws)=setN (setN σ js vs) ks ws
 | _,[],_,[],_,_=>rfl
 | σ,j :: js,ks,v :: vs,ws,h=>zJB (σ.set j (some v)) js ks vs ws (Nat.succ.inj h)
 | _,[],_,_ :: _,_,h=>nomatch h
 | _,_ :: _,_,[],_,h=>nomatch h
def jY:Option (List D)->(List D->Prop)->Prop
 | some os,k=>k os
 | none,_=>False
theorem YB {o:Option (List D)} {k:List D->Prop} (h:jY o k):∃ os,o=some os/\k os:=by
 cases o with
 | none=>exact h.elim
 | some os=>exact ⟨os,rfl,h⟩
inductive tG (js:List Nat) (po:D->Option (List D)) (v:V) (σ:St) (H:Hp) (Q:St->Hp->Prop):Prop
 | mk (Z:Addr->Prop) (d:D) (os:List D) (hv:DV (zK Z H) v d) (ho:po d=some os) (q:∀ vs,yJ (zK Z H) vs os->Q (setN σ js vs) H):tG js po v σ H Q
inductive tGs (js:List Nat) (po:List D->Option (List D)) (us:List V) (σ:St) (H:Hp) (Q:St->Hp->Prop):Prop
 | mk (Z:Addr->Prop) (ds os:List D) (hv:yJ (zK Z H) us ds) (ho:po ds=some os) (q:∀ vs,yJ (zK Z H) vs os->Q (setN σ js vs) H):tGs js po us σ H Q
structure jZ (X:Cx) (es:List Expr) (js:List Nat) (po:List D->Option (List D)) (n:Nat):Prop where
 g:gX X es (tGs js po)
 l:∀ ds os,po ds=some os->ds.length=n
 k:∀ ds os,po ds=some os->os.length=js.length
section
variable {X:Cx} {pos:Pos}
def JA:D->Option (List D):=λd=>some [d]
theorem zMk (i:Nat) {x:Str} (hN:X.N.Nodup) (hi:X.N[i]? = some x) (hx:v5 X.env.scope x) (hf:X.fn x=true\/X.env.scope.names.lookup x=some .local:=by first | exact .inl rfl | exact .inr rfl | assumption):PG X (.Name x pos) (tG [i] JA):=
 λpins s σ H v u Q I r ⟨_,_,_,hv,ho,q⟩=>W2 hN hi hx hf pins s σ H v u Q I r (by
  cases ho
  exact q [v] (.cons hv .nil))
def zQM:List D->Option (List D)
 | []=>some []
 | _=>none
def JB (po:List D->Option (List D)):List D->Option (List D)
 | d :: ds=>(po ds).map (d :: ·)
 | []=>none
def zN4 (p:D->Option (List D)) (po:List D->Option (List D)):List D->Option (List D)
 | d :: ds=>(p d).bind λa=>(po ds).map (a++·)
 | []=>none
def X2 (po:List D->Option (List D)):D->Option (List D)
 | .tup ds=>po ds
 | .lst ds=>po ds
 | _=>none
theorem xy:jZ X [] [] zQM 0 where
 g:=λpins s σ H vs us Q I r ⟨_,ds,os,hv,ho,q⟩=>by
  cases ds with
  | nil=>cases hv; exact zO3 pins s σ H [] us Q I r ⟨rfl,q [] (by cases ho; exact .nil)⟩
  | cons=>cases ho
 l:=λds os h=>by cases ds with | nil=>rfl | cons=>cases h
 k:=λds os h=>by cases ds with | nil=>cases h; rfl | cons=>cases h
theorem zKl (i:Nat) {x:Str} {es:List Expr} {js:List Nat} {po:List D->Option (List D)} {n:Nat} (hN:X.N.Nodup) (hi:X.N[i]? = some x) (hx:v5 X.env.scope x) (h:jZ X es js po n)
  (hs:(assignEach (.Name x pos :: es) X.env).map (·.2)=assign (.Name x pos) X.env :: (assignEach es X.env).map (·.2):=by rfl) (hf:X.fn x=true\/X.env.scope.names.lookup x=some .local:=by first | exact .inl rfl | exact .inr rfl | assumption):jZ X (.Name x pos :: es) (i :: js) (JB po) (n + 1) where
 g:=λpins s σ H vs us Q I r ⟨Z,ds,os,hv,ho,q⟩=>by
  cases hv with
  | nil=>cases ho
  | @cons v d vt dt hv ht=>
   change (po dt).map (d :: ·)=some os at ho
   cases e:po dt with
   | none=>rw [e] at ho; cases ho
   | some os'=>
    rw [e] at ho
    cases ho
    exact Km (W2 hN hi hx hf) h.g hs pins s σ H _ us Q I r ⟨v,vt,rfl,Z,dt,os',ht,e,λvs hvs=>q (v :: vs) (.cons hv hvs)⟩
 l:=λds os q=>by
  cases ds with
  | nil=>cases q
  | cons d dt=>
   change (po dt).map (d :: ·)=some os at q
   cases e:po dt with
   | none=>rw [e] at q; cases q
   | some os'=>rw [cJ,h.l dt os' e]
 k:=λds os q=>by
  cases ds with
  | nil=>cases q
  | cons d dt=>
   change (po dt).map (d :: ·)=some os at q
   cases e:po dt with
   | none=>rw [e] at q; cases q
   | some os'=>rw [e] at q; cases q; rw [cJ,cJ,h.k dt os' e]
theorem wD {H:Hp} {vs:List V} {ds:List D} (h:yJ H vs ds):vs.length=ds.length:=Paired.length h
theorem zKm {e:Expr} {es:List Expr} {js ks:List Nat} {p:D->Option (List D)} {po:List D->Option (List D)} {n:Nat} (h1:PG X e (tG js p)) (hk:∀ d os,p d=some os->os.length=js.length) (h:jZ X es ks po n)
  (hs:(assignEach (e :: es) X.env).map (·.2)=assign e X.env :: (assignEach es X.env).map (·.2):=by rfl):jZ X (e :: es) (js++ks) (zN4 p po) (n + 1) where
 g:=λpins s σ H vs us Q I r ⟨Z,ds,os,hv,ho,q⟩=>by
  cases hv with
  | nil=>cases ho
  | @cons v d vt dt hv ht=>
   change (p d).bind (λa=>(po dt).map (a++·))=some os at ho
   cases e1:p d with
   | none=>rw [e1] at ho; cases ho
   | some a=>
    rw [e1] at ho
    change (po dt).map (a++·)=some os at ho
    cases e2:po dt with
    | none=>rw [e2] at ho; cases ho
    | some b=>
     rw [e2] at ho
     cases ho
     refine Km h1 h.g hs pins s σ H _ us Q I r ⟨v,vt,rfl,Z,d,a,hv,e1,λvs1 h1=>⟨Z,dt,b,ht,e2,λvs2 h2=>?_⟩⟩
     rw [<- zJB σ js ks vs1 vs2 (by rw [wD h1,hk d a e1])]
     exact q _ (qF h1 h2)
 l:=λds os q=>by
  cases ds with
  | nil=>cases q
  | cons d dt=>
   change (p d).bind (λa=>(po dt).map (a++·))=some os at q
   cases e1:p d with
   | none=>rw [e1] at q; cases q
   | some a=>
    rw [e1] at q
    change (po dt).map (a++·)=some os at q
    cases e2:po dt with
    | none=>rw [e2] at q; cases q
    | some b=>rw [cJ,h.l dt b e2]
 k:=λds os q=>by
  cases ds with
  | nil=>cases q
  | cons d dt=>
   change (p d).bind (λa=>(po dt).map (a++·))=some os at q
   cases e1:p d with
   | none=>rw [e1] at q; cases q
   | some a=>
    rw [e1] at q
    change (po dt).map (a++·)=some os at q
    cases e2:po dt with
    | none=>rw [e2] at q; cases q
    | some b=>rw [e2] at q; cases q; rw [b_,b_,h.k dt b e2,hk d a e1]
theorem uU {po:List D->Option (List D)} {js:List Nat} (h:∀ ds os,po ds=some os->os.length=js.length):∀ d os,X2 po d=some os->os.length=js.length:=λd os q=>by
 unfold X2 at q
 split at q
 ·exact h _ _ q
 ·exact h _ _ q
 ·cases q
theorem xz {es:List Expr} {js:List Nat} {po:List D->Option (List D)} {n k:Nat} (hc:X.calm=true) (h:jZ X es js po n) (hn:(assignEach es X.env).length=n:=by rfl) (hst:(assignEach es X.env).findIdx? (·.1)=none:=by rfl):PG X (.Tuple es k pos) (tG js (X2 po)):=
 λpins s σ H v u Q I r ⟨Z,d,os,hv,ho,q⟩=>by
  unfold X2 at ho
  split at ho
  ·obtain ⟨p,xs,rfl,e,hx⟩:=hv.tup_inv
   exact zQN hc h.g hn hst pins s σ H _ u Q I r ⟨p,xs,rfl,yH.of (zo _ _ e),by rw [wD hx]; exact h.l _ _ ho,Z,_,os,hx,ho,q⟩
  ·obtain ⟨p,xs,rfl,e,hx⟩:=hv.lst_inv
   exact zQP hc h.g hn hst pins s σ H _ u Q I r ⟨p,xs,rfl,zw.of (zo _ _ e),by rw [wD hx]; exact h.l _ _ ho,Z,_,os,hx,ho,q⟩
  ·cases ho
end
def Wk (Z:Addr->Prop) (J:It) (H:Hp) (ds:List D):Prop:=∀ i Z' H',zL (zK Z H) (zK Z' H')->ZL Z' H'->(∀ d,ds[i]? = some d->J.go i H'/\∀ x H'',J.yld i H' x H''->Sm H' H''/\DV (zK Z' H'') x d)/\(i=ds.length->J.stop i H')
inductive ja (p:yp) (σ:St) (H:Hp) (Q:It->Hp->Prop):Prop
 | mk (Z:Addr->Prop) (Γ:List Sl) (R:List D->Prop) (E:zr Z Γ σ H) (h:p Γ R) (q:∀ ds J H',R ds->Sm H H'->Wk Z J H' ds->Q J H'):ja p σ H Q
theorem YC {α β:Type} {R:α->β->Prop} {xs:List α} {ys:List β} (h:Paired R xs ys) {j:Nat} {y:β} (e:ys[j]? = some y):∃ x,xs[j]? = some x/\R x y:=Zw.go h e
section
variable {X:Cx} {tg e e1 e2:Expr} {pos:Pos} {pa:zx} {pl:yp}
theorem X3 {w w':TI} (h:PI X tg e w) (k:∀ σ H R,w' σ H R->w σ H R):PI X tg e w':=λpins s σ H R I q=>h pins s σ H R I (k σ H R q)
def JC (K:cg) (tl:TE):TI:=λσ H R=>tl σ H λx H1=>(∃ a,x=.ref a/\(∃ xs,zw K H1 a xs)/\R (XW K a) H1)\/∃ a,x=.ref a/\(∃ xs,yH K H1 a xs)/\R (XX K a) H1
theorem zN5 {l:Expr} {tl:TE} (hl:PE X l tl):PI X tg l (JC X.K tl):=by
 intro pins s σ H R I h
 refine zk (hl pins s σ H _ I h) λv s1 ⟨x,H1,I1,r1,q1⟩=>?_
 rcases q1 with ⟨a,e,⟨xs,hq⟩,q⟩ | ⟨a,e,⟨xs,hq⟩,q⟩
 ·subst e
  cases r1
  obtain ⟨its,rv,p,hz⟩:=I1.list hq
  refine PySem.wpAny_pyIter_list p.isList ?_
  refine ⟨s1.heap.objs.size,[s1.heap.objs.size],_,_,H1,rfl,I1.kept (t':=s1.toks) λb o e=>ck _ e,zKQ a _,⟨_,cG _ rfl,rfl,rfl⟩,λb hb=>?_,q⟩
  have e:b=s1.heap.objs.size:=by simpa using hb
  subst e
  exact I1.fpOk (cL _) (I1.hok.fresh (cL _))
 ·subst e
  cases r1
  obtain ⟨its,rv,p,hz⟩:=I1.tuple hq
  refine PySem.wpAny_pyIter_tuple (show s1.heap.IsTuple a its.toArray from p) ?_
  refine ⟨s1.heap.objs.size,[s1.heap.objs.size],_,_,H1,rfl,I1.kept (t':=s1.toks) λb o e=>ck _ e,zJn a _,⟨_,cG _ rfl,rfl,rfl⟩,λb hb=>?_,q⟩
  have e:b=s1.heap.objs.size:=by simpa using hb
  subst e
  exact I1.fpOk (cL _) (I1.hok.fresh (cL _))
def uV:D->(List D->Prop)->Prop
 | .frz ds,R=>R ds
 | .lst ds,R=>R ds
 | .tup ds,R=>R ds
 | _,_=>False
def YD (pa:zx):yp:=λΓ R=>pa Γ λd=>uV d R
theorem zKK {K:cg} {Z:Addr->Prop} {H:Hp} {p:Addr} {xs:List V} {ds:List D} (e:Rd (zK Z H) p (.lst xs)) (h:yJ (zK Z H) xs ds):Wk Z (XW K p) H ds:=λi Z' H' s zd=>by
 have e1:zw K H' p xs:=.inl (uu zo (uu s e))
 refine ⟨λd hd=>?_,λhi=>⟨xs,e1,by rw [wD h]; omega⟩⟩
 obtain ⟨x,hx,hh⟩:=YC h hd
 refine ⟨⟨xs,x,e1,hx⟩,λy H'' ⟨e2,hy⟩=>?_⟩
 subst e2
 have:=hy xs e1
 rw [hx] at this
 cases this
 exact ⟨Sm.refl _,hh.same s⟩
theorem zPr {K:cg} {Z:Addr->Prop} {H:Hp} {p:Addr} {xs:List V} {ds:List D} (e:zK Z H p=some (.tup xs)) (h:yJ (zK Z H) xs ds):Wk Z (XX K p) H ds:=λi Z' H' s zd=>by
 have e1:=zo _ _ (s _ _ e)
 refine ⟨λd hd=>?_,λhi=>⟨xs,yH.of e1,by rw [wD h]; omega⟩⟩
 obtain ⟨x,hx,hh⟩:=YC h hd
 refine ⟨⟨xs,x,yH.of e1,hx⟩,λy H'' ⟨e2,hy⟩=>?_⟩
 subst e2
 have:=hy xs (yH.of e1)
 rw [hx] at this
 cases this
 exact ⟨Sm.refl _,hh.same s⟩
theorem y6 (ha:PE X e (tP pa)):PI X tg e (ja (YD pa)):=X3 (zN5 ha) λσ H Q ⟨Z,Γ,R,E,h,q⟩=>
 ⟨Z,Γ,_,E,h,λd v H1 hd s1 hv=>by
  unfold uV at hd
  split at hd
  ·obtain ⟨p,xs,rfl,e,hx⟩:=hv.frz_inv
   exact .inl ⟨p,rfl,⟨xs,.inl (uu zo e)⟩,q _ _ H1 hd s1 (zKK e hx)⟩
  ·obtain ⟨p,xs,rfl,e,hx⟩:=hv.lst_inv
   exact .inl ⟨p,rfl,⟨xs,zw.of (zo _ _ e)⟩,q _ _ H1 hd s1 (zKK (.inl e) hx)⟩
  ·obtain ⟨p,xs,rfl,e,hx⟩:=hv.tup_inv
   exact .inr ⟨p,rfl,⟨xs,yH.of (zo _ _ e)⟩,q _ _ H1 hd s1 (zPr e hx)⟩
  ·exact hd.elim⟩
def rng (lo:Int) (n:Nat):List D:=(cO n).map λk:Nat=>D.int (lo + (k:Int))
theorem zMR {Z:Addr->Prop} {H:Hp} {lo:Int} {n:Nat}:Wk Z (XY lo n) H (rng lo n):=λi Z' H' s zd=>by
 refine ⟨λd hd=>?_,λhi=>?_⟩
 ·unfold rng at hd
  rw [cV] at hd
  have hlt:i < n:=by
   apply eZ
   intro c
   rw [fP (by rw [cx]; omega)] at hd
   cases hd
  rw [dM hlt] at hd
  cases hd
  exact ⟨hlt,λx H'' ⟨e1,e2⟩=>by subst e1; subst e2; exact ⟨Sm.refl _,.int _⟩⟩
 ·show n<=i
  rw [hi]
  unfold rng
  rw [a_,cx]
  exact cL _
def rng0 (n:Nat):List D:=(cO n).map λk:Nat=>D.int (k:Int)
theorem JD (n:Nat):rng0 n=rng 0 n:=cX λk _=>by rw [eE]
theorem qj {n k:Nat} {d:D} (h:(rng0 n)[k]? = some d):k < n/\d=.int (k:Int):=by
 unfold rng0 at h
 rw [cV] at h
 by_cases c:k < n
 ·rw [dM c] at h
  exact ⟨c,(Option.some.inj h).symm⟩
 ·rw [fP (by rw [cx]; omega)] at h
  cases h
theorem qk (n:Nat):(rng0 n).length=n:=by unfold rng0; rw [a_,cx]
def zP8:List D->(List D->Prop)->Prop
 | [.int j],R=>-1000<=j/\j<=1000/\R (rng0 j.toNat)
 | _,_=>False
def pLI (f:List D->(List D->Prop)->Prop) (pl:yp):yp:=λΓ R=>pl Γ λds=>f ds R
theorem wY {p:Pos} (hg:Gl X "range") (hm:X.mg "range" = none) (ha:PA X [e] (wJ pl)) (hs:starEach [e] X.env=[(false,eval e X.env)]:=by rfl):PI X tg (.Call (.Name "range" p) [e] [] pos) (ja (pLI zP8 pl)):=X3 (zKv hg hm ha hs) λσ H Q ⟨Z,Γ,R,E,h,q⟩=>
 ⟨Z,Γ,_,E,h,λds vs H1 hd s1 hv=>by
  unfold zP8 at hd
  split at hd
  ·obtain ⟨h1,h2,hd⟩:=hd
   obtain ⟨v,rfl,hw⟩:=xI hv
   cases hw
   rw [JD] at hd
   exact ⟨_,rfl,by omega,by omega,q _ _ H1 hd s1 zMR⟩
  ·exact hd.elim⟩
abbrev xR (x y:D):D:=.tup [x,y]
theorem JE {α β γ:Type} (f:α->β->γ):∀ {xs:List α} {ys:List β} {i:Nat} {z:γ},(dA f xs ys)[i]? = some z->∃ x y,xs[i]? = some x/\ys[i]? = some y/\z=f x y
 | [],_,_,_,h=>by simp at h
 | _ :: _,[],_,_,h=>by simp at h
 | x :: _,y :: _,0,_,h=>by simp at h; exact ⟨x,y,rfl,rfl,h.symm⟩
 | _ :: xs,_ :: ys,i + 1,z,h=>by
  obtain ⟨x,y,h1,h2,h3⟩:=JE f (xs:=xs) (ys:=ys) (i:=i) (z:=z) (by simpa using h)
  exact ⟨x,y,by simpa using h1,by simpa using h2,h3⟩
theorem zNl {S1 S2:Hp->Addr->List V->Prop} {Z:Addr->Prop} {H:Hp} {p r:Addr} {xs ys:List V} {ds es:List D} (h1:∀ Z' H',zL (zK Z H) (zK Z' H')->S1 H' p xs) (h2:∀ Z' H',zL (zK Z H) (zK Z' H')->S2 H' r ys) (hx:yJ (zK Z H) xs ds) (hy:yJ (zK Z H) ys es) :
  Wk Z ⟨λi H=>∃ xs ys x y,S1 H p xs/\S2 H r ys/\xs[i]? = some x/\ys[i]? = some y,λi H v H'=>∃ T x y,v=.ref T/\H T=none/\H'=zV H T (.tup [x,y])/\(∀ xs,S1 H p xs->xs[i]? = some x)/\∀ ys,S2 H r ys->ys[i]? = some y,
   λi H=>∃ xs ys,S1 H p xs/\S2 H r ys/\i<=xs.length/\i<=ys.length/\(i=xs.length\/i=ys.length)⟩ H (dA xR ds es):=λi Z' H' s zd=>by
 have a1:=h1 Z' H' s
 have a2:=h2 Z' H' s
 have l1:=wD hx
 have l2:=wD hy
 refine ⟨λd hd=>?_,λhi=>?_⟩
 ·obtain ⟨a,b,ha,hb,rfl⟩:=JE _ hd
  obtain ⟨x,gx,kx⟩:=YC hx ha
  obtain ⟨y,gy,ky⟩:=YC hy hb
  refine ⟨⟨xs,ys,x,y,a1,a2,gx,gy⟩,λv H'' ⟨T,x',y',ev,hT,eH,q1,q2⟩=>?_⟩
  have:=q1 xs a1
  rw [gx] at this
  cases this
  have:=q2 ys a2
  rw [gy] at this
  cases this
  subst ev
  subst eH
  exact ⟨wP hT _,Xy zd hT (.cons (kx.same s) (.cons (ky.same s) .nil))⟩
 ·rw [iS] at hi
  exact ⟨xs,ys,a1,a2,by omega,by omega,by omega⟩
def uW:List D->(List D->Prop)->Prop
 | [.frz ds,.lst es],R=>R (dA xR ds es)
 | [.lst ds,.lst es],R=>R (dA xR ds es)
 | [.lst ds,.tup es],R=>R (dA xR ds es)
 | [.tup ds,.lst es],R=>R (dA xR ds es)
 | [.tup ds,.tup es],R=>R (dA xR ds es)
 | _,_=>False
def kd (t:Bool) (ds:List D):D:=match t with
 | true=>.tup ds
 | false=>.lst ds
theorem JF {K:cg} {Z:Addr->Prop} {H:Hp} {v:V} {ds:List D}:∀ {t:Bool},DV (zK Z H) v (kd t ds)->∃ a xs,v=.ref a/\(∀ Z' H',zL (zK Z H) (zK Z' H')->vP t K H' a xs)/\yJ (zK Z H) xs ds
 | true,h=>let ⟨a,xs,e,ea,ha⟩:=h.tup_inv; ⟨a,xs,e,λ_ _ s=>yH.of (zo _ _ (s _ _ ea)),ha⟩
 | false,h=>let ⟨a,xs,e,ea,ha⟩:=h.lst_inv; ⟨a,xs,e,λ_ _ s=>zw.of (zo _ _ (s _ _ ea)),ha⟩
theorem uy {ts:List Expr} {kk:Nat} {tp p:Pos} (hg:Gl X "zip") (hm:X.mg "zip" = none) (ha:PA X [e1,e2] (wJ pl)) (hs:starEach [e1,e2] X.env=[(false,eval e1 X.env),(false,eval e2 X.env)]:=by rfl) (hs2:starEach [e2] X.env=[(false,eval e2 X.env)]:=by rfl) :
  PI X (.Tuple ts kk tp) (.Call (.Name "zip" p) [e1,e2] [] pos) (ja (pLI uW pl)):=X3 (zO2 hg hm ha hs hs2) λσ H Q ⟨Z,Γ,R,E,h,q⟩=>
 ⟨Z,Γ,_,E,h,λds vs H1 hd s1 hv=>by
  have main:∀ (t u:Bool) (es fs:List D),yJ (zK Z H1) vs [kd t es,kd u fs]->R (dA xR es fs)->∃ a b t u,vs=[.ref a,.ref b]/\(∃ xs,vP t X.K H1 a xs)/\(∃ ys,vP u X.K H1 b ys)/\Q (Uq t u X.K a b) H1:=λt u es fs hv hd=>by
   obtain ⟨v,w,rfl,hx,hy⟩:=jH hv
   obtain ⟨a,xs,rfl,ea,ha⟩:=JF (K:=X.K) hx
   obtain ⟨b,ys,rfl,eb,hb⟩:=JF (K:=X.K) hy
   exact ⟨a,b,t,u,rfl,⟨xs,ea Z H1 (zL.refl _)⟩,⟨ys,eb Z H1 (zL.refl _)⟩,q _ _ H1 hd s1 (zNl ea eb ha hb)⟩
  unfold uW at hd
  split at hd
  ·obtain ⟨v,w,rfl,hx,hy⟩:=jH hv
   obtain ⟨a,xs,rfl,ea,ha⟩:=hx.frz_inv
   obtain ⟨b,ys,rfl,eb,hb⟩:=JF (t:=false) (K:=X.K) hy
   have ea:∀ Z' H',zL (zK Z H1) (zK Z' H')->vP false X.K H' a xs:=λ_ _ s=>.inl (uu zo (uu s ea))
   exact ⟨a,b,false,false,rfl,⟨xs,ea Z H1 (zL.refl _)⟩,⟨ys,eb Z H1 (zL.refl _)⟩,q _ _ H1 hd s1 (zNl ea eb ha hb)⟩
  ·exact main false false _ _ hv hd
  ·exact main false true _ _ hv hd
  ·exact main true false _ _ hv hd
  ·exact main true true _ _ hv hd
  ·exact hd.elim⟩
end
end Pu
namespace Pu
open PySem L2 Sh
variable [yW]
def un:Sl->Sl
 | .sh d=>.sh d
 | _=>.no
theorem zI7:∀ (Γ:List Sl) (i:Nat),slot Γ i=(Γ[i]?).getD .no
 | [],_=>rfl
 | _ :: _,0=>rfl
 | _ :: t,i + 1=>(zI7 t i).trans (by rw [eJ])
theorem YE {s:Sl} {d:D} (h:un s=.sh d):s=.sh d:=by cases s <;> first | exact h | cases h
theorem YF {s:Sl} {ds:List D} (h:un s=.ow ds):False:=by cases s <;> cases h
theorem YG {s:Sl} {o c:Addr} {ns:List Str} {ds:List D} (h:un s=.ob o c ns ds):False:=by cases s <;> cases h
theorem X4 {os:List D} {l:List Sl} (hl:∀ i o c ns ds,slot l i≠.ob o c ns ds):∀ i o c ns ds,slot (os.map Sl.sh++l) i≠.ob o c ns ds:=λi o c ns ds h=>by
 induction os generalizing i with
 | nil=>exact hl i o c ns ds h
 | cons d t ih=>
  cases i with
  | zero=>cases h
  | succ i=>exact ih i h
theorem X5 {os:List D} {l:List Sl} (hl:∀ i ds,slot l i≠.ow ds):∀ i ds,slot (os.map Sl.sh++l) i≠.ow ds:=λi ds h=>by
 induction os generalizing i with
 | nil=>exact hl i ds h
 | cons d t ih=>
  cases i with
  | zero=>cases h
  | succ i=>exact ih i h
theorem X6 (Γ:List Sl):∀ (js:List Nat) (i:Nat),slot (js.map λj=>un (slot Γ j)) i=match js[i]? with | some j=>un (slot Γ j) | none=>.no
 | [],_=>rfl
 | _ :: _,0=>rfl
 | _ :: js,i + 1=>by
  rw [eJ]
  exact X6 Γ js i
theorem zLx {Z:Addr->Prop} {Γ:List Sl} {σ:St} {H:Hp} (E:zr Z Γ σ H) {js:List Nat} {vs:List V} {os:List D} (h:yJ (zK Z H) vs os):zr Z (os.map Sl.sh++js.map λj=>un (slot Γ j)) (vs.map some++js.map λj=>(σ[j]?).getD none) H:=by
 have no:∀ i ds,slot (os.map Sl.sh++js.map λj=>un (slot Γ j)) i≠.ow ds:=X5 λi ds h=>by
  rw [X6] at h
  split at h
  ·exact YF h
  ·cases h
 have nob:∀ i o c ns ds,slot (os.map Sl.sh++js.map λj=>un (slot Γ j)) i≠.ob o c ns ds:=X4 λi o c ns ds h=>by
  rw [X6] at h
  split at h
  ·exact YG h
  ·cases h
 refine ⟨?_,λi ds e=>absurd e (no i ds),λi o c ns ds e=>absurd e (nob i o c ns ds),λi _ ds _ _ e=>absurd e (no i ds),E.zd,?_⟩
 clear nob
 ·induction h with
  | nil=>
   intro i d e
   change slot (js.map λj=>un (slot Γ j)) i=_ at e
   show ∃ v,(js.map λj=>(σ[j]?).getD none)[i]? = some (some v)/\_
   rw [X6] at e
   rw [cV]
   cases k:js[i]? with
   | none=>rw [k] at e; cases e
   | some j=>
    rw [k] at e
    obtain ⟨v,h1,h2⟩:=E.sh j d (YE e)
    exact ⟨v,by show some ((σ[j]?).getD none)=_; rw [h1]; rfl,h2⟩
  | @cons v d vs ds hv _ ih=>
   intro i e q
   cases i with
   | zero=>cases q; exact ⟨v,rfl,hv⟩
   | succ i=>
    obtain ⟨u,h1,h2⟩:=ih (λi=>no (i + 1)) i e q
    exact ⟨u,by rw [cT,lI,eJ]; exact h1,h2⟩
 ·rw [b_,b_,a_,a_,a_,a_,wD h]
theorem zJA (c:St):∀ (pre o:St) (vs:List V),o.length=vs.length->setN (pre++(o++c)) (g_ pre.length o.length) vs=pre++(vs.map some++c)
 | _,[],[],_=>rfl
 | _,[],_ :: _,h=>nomatch h
 | _,_ :: _,[],h=>nomatch h
 | pre,x :: o,v :: vs,h=>by
  rw [cJ,List.range'_succ]
  show setN ((pre++((x :: o)++c)).set pre.length (some v)) (g_ (pre.length + 1) o.length) vs=_
  rw [List.set_append_right _ _ (cL _),eU]
  have:=zJA c (pre++[some v]) o vs (Nat.succ.inj h)
  rw [b_,eC] at this
  rw [eC] at this
  exact this
inductive zh (ds:List D) (G:D->(D->Prop)->Prop) (R:D->Prop):Prop
 | mk (few:ds.length<=1000) (F:D->D->Prop) (h:∀ d,d∈ds->G d (F d)) (q:∀ es,Paired F ds es->R (.lst es)):zh ds G R
def YH (caps:List Nat) (pi:yp) (po:D->Option (List D)) (pe:zx):zx:=λΓ R=>pi Γ λds=>zh ds (λd S=>jY (po d) λos=>pe (os.map Sl.sh++caps.map λj=>un (slot Γ j)) S) R
theorem zNb {Z:Addr->Prop} {Γ:List Sl} {σ:St} {H:Hp} {own:List Str} {caps:List (Nat × Str)} {J:It} {ds:List D} {js:List Nat} {po:D->Option (List D)} {pt:wI} {pe:zx} {Q:VK} {f:D->Bool} {F:D->D->Prop} {Zt:Addr->Prop} {Γt:List Sl} (E:zr Z Γ σ H) (Et:zr Zt Γt σ H) (sub:∀ b,Zt b->Z b) (wk:Wk Z J H ds) (hj:js=g_ 0 own.length) (hk:∀ d os,po d=some os->os.length=js.length) (few:ds.length<=1000)
  (hT:∀ d,d∈ds->jY (po d) λos=>pt (os.map Sl.sh++(caps.map (·.1)).map λj=>un (slot Γt j)) λb=>b=f d)
  (hF:∀ d,d∈ds->f d=true->jY (po d) λos=>pe (os.map Sl.sh++(caps.map (·.1)).map λj=>un (slot Γ j)) (F d))
  (q:∀ es ys H' p,Paired F (ds.filter f) es->Sm H H'->yJ (zK Z H') ys es->H' p=none->Q (.ref p) (zV H' p (.lst ys))):UX J (tG js po) (xF pt) (tP pe) Q (vo own caps σ) H:=by
 have hc:vo own caps σ=own.map (λ_=>none)++(caps.map (·.1)).map λj=>(σ[j]?).getD none:=by
  unfold vo
  rw [cA]
  rfl
 refine ⟨λi m ys σ1 H1=>m + i=ds.length/\Sm H H1/\(∃ es,Paired F ((ds.take i).filter f) es/\yJ (zK Z H1) ys es)/\∃ o:St,o.length=own.length/\σ1=o++(caps.map (·.1)).map λj=>(σ[j]?).getD none,⟨ds.length,rfl,Sm.refl _,⟨[],.nil,.nil⟩,_,a_ ..,hc⟩,?_⟩
 rintro i m ys σ1 H1 ⟨hm,s1,⟨es,he,hy⟩,o,lo,rfl⟩
 obtain ⟨w1,w2⟩:=wk i Z H1 (yg s1) (E.zd.same s1)
 have le:es.length<=i:=by
  have h1:=Paired.length he
  have h2:=List.length_filter_le f (ds.take i)
  rw [cK] at h2
  omega
 by_cases hi:i < ds.length
 ·have tk:(ds.take (i + 1)).filter f=(ds.take i).filter f++(if f ds[i]=true then [ds[i]] else []):=by
   rw [fF hi,List.filter_append,List.filter_cons,List.filter_nil]
  refine .inr ⟨(w1 _ (cu hi)).1,by rw [wD hy]; exact UP (by omega),λy σ' H'=>m - 1 + (i + 1)=ds.length/\Sm H H'/\(∃ es,Paired F ((ds.take (i + 1)).filter f) es/\yJ (zK Z H') (ys++[y]) es)/\∃ o:St,o.length=own.length/\σ'=o++(caps.map (·.1)).map λj=>(σ[j]?).getD none,λσ' H'=>m - 1 + (i + 1)=ds.length/\Sm H H'/\(∃ es,Paired F ((ds.take (i + 1)).filter f) es/\yJ (zK Z H') ys es)/\∃ o:St,o.length=own.length/\σ'=o++(caps.map (·.1)).map λj=>(σ[j]?).getD none,λy σ' H' k=>⟨m - 1,by omega,k⟩,λσ' H' k=>⟨m - 1,by omega,k⟩,λx H' yl=>?_⟩
  obtain ⟨s2,dv⟩:=(w1 _ (cu hi)).2 x H' yl
  obtain ⟨os,ho,ht⟩:=YB (hT _ (ek hi))
  have lo2:=hk _ _ ho
  refine ⟨Z,_,os,dv,ho,λvs hvs=>?_⟩
  have lv:=wD hvs
  have e1:setN (o++(caps.map (·.1)).map λj=>(σ[j]?).getD none) js vs=vs.map some++(caps.map (·.1)).map λj=>(σ[j]?).getD none:=by
   rw [hj,<- lo]
   exact zJA _ [] o vs (by rw [lv,lo2,hj,i4]; exact lo)
  rw [e1]
  have lw:(vs.map some).length=own.length:=by rw [a_,lv,lo2,hj,i4]
  refine ⟨Zt,_,_,zLx (Et.same (s1.trans s2)) (xN (gp sub) hvs),ht,λb H3 hb s3=>?_⟩
  subst hb
  by_cases c:f ds[i]=true
  ·rw [if_pos c]
   obtain ⟨os',ho',hp⟩:=YB (hF _ (ek hi) c)
   cases ho.symm.trans ho'
   refine ⟨Z,_,_,zLx (E.same (s1.trans (s2.trans s3))) (xN (yg s3) hvs),hp,λd v H4 hd s4 hv=>⟨by omega,s1.trans (s2.trans (s3.trans s4)),⟨es++[d],?_,ZZ hv (xN (yg (s2.trans (s3.trans s4))) hy)⟩,_,lw,rfl⟩⟩
   rw [tk,if_pos c]
   exact ZZ hd he
  ·rw [if_neg c]
   refine ⟨by omega,s1.trans (s2.trans s3),⟨es,?_,xN (yg (s2.trans s3)) hy⟩,_,lw,rfl⟩
   rw [tk,if_neg c,dQ]
   exact he
 ·have ei:i=ds.length:=by omega
  refine .inl ⟨w2 ei,λp hp=>q es ys H1 p ?_ s1 hy hp⟩
  rw [c_ (by omega)] at he
  exact he
def pT1:wI:=λ_ R=>R true
theorem zQY {X:Cx}:Zm X [] (xF pT1):=λσ H Q ⟨_,_,_,_,h,q⟩=>q true H h (Sm.refl _)
theorem YI {ds:List D}:ds.filter (λ_=>true)=ds:=List.filter_eq_self.mpr λ_ _=>rfl
theorem zJc {Z:Addr->Prop} {Γ:List Sl} {σ:St} {H:Hp} {own:List Str} {caps:List (Nat × Str)} {J:It} {ds:List D} {js:List Nat} {po:D->Option (List D)} {pe:zx} {Q:VK} {F:D->D->Prop} (E:zr Z Γ σ H) (wk:Wk Z J H ds) (hj:js=g_ 0 own.length) (hk:∀ d os,po d=some os->os.length=js.length) (few:ds.length<=1000)
  (hF:∀ d,d∈ds->jY (po d) λos=>pe (os.map Sl.sh++(caps.map (·.1)).map λj=>un (slot Γ j)) (F d))
  (q:∀ es ys H' p,Paired F ds es->Sm H H'->yJ (zK Z H') ys es->H' p=none->Q (.ref p) (zV H' p (.lst ys))):UX J (tG js po) (xF pT1) (tP pe) Q (vo own caps σ) H:=
 zNb (f:=λ_=>true) E E (λ_ z=>z) wk hj hk few (λd m=>by
  obtain ⟨os,ho,_⟩:=YB (hF d m)
  rw [ho]
  exact rfl) (λd m _=>hF d m) λes ys H' p h=>q es ys H' p (by rw [YI] at h; exact h)
section
variable {X:Cx} {scope:Scope} {own:List Str} {caps:List (Nat × Str)} {tg iter elt:Expr} {pos:Pos} {pi:yp} {po:D->Option (List D)} {pe:zx} {js:List Nat}
theorem yd (B:uA X scope own caps) (hc:X.calm=true) (hj:js=g_ 0 own.length) (hk:∀ d os,po d=some os->os.length=js.length) (hi:PI X tg iter (ja pi)) (hg:∀ C s₀ H₀ ex,PG (xM X scope (zm own caps) C s₀ H₀ ex) tg (tG js po))
  (he:∀ C s₀ H₀ ex,PE (xM X scope (zm own caps) C s₀ H₀ ex) elt (tP pe)) (hs:∀ x,foldedSetIterable iter X.env x=pure x:=by intro _; rfl):PE X (.ListComp elt [⟨tg,iter,[],0⟩] scope pos) (tP (YH (caps.map (·.1)) pi po pe)):=
 yK (zM0 B hc hi hg (.inl rfl) (λ_ _ _ _=>zQY) he hs) λσ H Q ⟨Z,Γ,R,E,h,q⟩=>⟨Z,Γ,_,E,h,λds J H1 ⟨fw,F,hF,hR⟩ s1 wk=>zJc (E.same s1) wk hj hk fw hF λes ys H' p h1 s2 h2 hp=>q _ _ _ (hR es h1) (s1.trans (s2.trans (wP hp _))) (uT ((E.same s1).zd.same s2) hp h2)⟩
end
theorem zh.map {ds:List D} {G:D->(D->Prop)->Prop} {R:D->Prop} (f:D->D) (few:ds.length<=1000) (h:∀ d,d∈ds->G d λe=>e=f d) (q:R (.lst (ds.map f))):zh ds G R:=⟨few,λd e=>e=f d,h,λes p=>by
 have:∀ {ds es:List D},Paired (λd e=>e=f d) ds es->es=ds.map f:=λ{ds es} p=>by
  induction p with
  | nil=>rfl
  | cons h _ ih=>rw [h,ih]; rfl
 rw [this p]
 exact q⟩
theorem zh.all {ds:List D} {G:D->(D->Prop)->Prop} {R:D->Prop} (P:D->Prop) (few:ds.length<=1000) (h:∀ d,d∈ds->G d P) (q:∀ es,es.length=ds.length->(∀ e∈es,P e)->R (.lst es)):zh ds G R:=⟨few,λ_=>P,h,λes p=>q es (Paired.length p).symm (by
 clear h few q
 induction p with
 | nil=>exact λ_ h=>nomatch h
 | cons h _ ih=>exact λe m=>(cz.mp m).elim (λz=>z ▸ h) (ih e))⟩
theorem zh.at {ds:List D} {G:D->(D->Prop)->Prop} {R:D->Prop} (P:D->D->Prop) (few:ds.length<=1000) (h:∀ d,d∈ds->G d (P d)) (q:∀ es,Paired P ds es->R (.lst es)):zh ds G R:=⟨few,P,h,q⟩
def yU:D->Int
 | .int i=>i
 | _=>0
theorem zh.int {ns:List Int} {G:D->(D->Prop)->Prop} {R:D->Prop} (g:Int->Int) (few:ns.length<=1000) (h:∀ n,n∈ns->G (.int n) λe=>e=.int (g n)) (q:R (.lst ((ns.map g).map D.int))):zh (ns.map D.int) G R:=
 zh.map (λd=>.int (g (yU d))) (by rw [a_]; exact few) (λd m=>by
  obtain ⟨n,hn,rfl⟩:=cw.mp m
  exact h n hn) (by rw [cA] at q |-; exact q)
theorem zh.bool {ds:List D} {G:D->(D->Prop)->Prop} {R:D->Prop} (g:D->Bool) (few:ds.length<=1000) (h:∀ d,d∈ds->G d λe=>e=.bool (g d)) (q:R (.lst ((ds.map g).map D.bool))):zh ds G R:=
 zh.map (λd=>.bool (g d)) few h (by rw [cA] at q; exact q)
theorem zh.rng {lo:Int} {n:Nat} {G:D->(D->Prop)->Prop} {R:D->Prop} (g:Nat->D) (few:n<=1000) (h:∀ k,k < n->G (.int (lo + (k:Int))) λe=>e=g k) (q:R (.lst ((cO n).map g))):zh (Pu.rng lo n) G R:=
 zh.map (λd=>g (yU d - lo).toNat) (by unfold Pu.rng; rw [a_,cx]; exact few) (λd m=>by
  obtain ⟨k,hk,rfl⟩:=cw.mp m
  rw [show (yU (.int (lo + (k:Int))) - lo).toNat=k by show (lo + (k:Int) - lo).toNat=k; omega]
  exact h k (eQ.mp hk)) (by
  have e:(Pu.rng lo n).map (λd=>g (yU d - lo).toNat)=(cO n).map g:=by
   unfold Pu.rng
   rw [cA]
   refine cX λk _=>?_
   show g (lo + (k:Int) - lo).toNat=g k
   rw [show (lo + (k:Int) - lo).toNat=k by omega]
  rw [e]
  exact q)
theorem zh.rngP {lo:Int} {n:Nat} {G:D->(D->Prop)->Prop} {R:D->Prop} (P:D->Prop) (few:n<=1000) (h:∀ k,k < n->G (.int (lo + (k:Int))) P) (q:∀ es,es.length=n->(∀ e∈es,P e)->R (.lst es)):zh (Pu.rng lo n) G R:=
 zh.all P (by unfold Pu.rng; rw [a_,cx]; exact few) (λd m=>by
  obtain ⟨k,hk,rfl⟩:=cw.mp m
  exact h k (eQ.mp hk)) (λes l=>q es (by rw [l]; unfold Pu.rng; rw [a_,cx]))
theorem zh.rng0 {n:Nat} {G:D->(D->Prop)->Prop} {R:D->Prop} (g:Nat->D) (few:n<=1000) (h:∀ k,k < n->G (.int (k:Int)) λe=>e=g k) (q:R (.lst ((cO n).map g))):zh (Pu.rng0 n) G R:=by
 rw [JD]
 exact zh.rng g few (λk hk=>by rw [eE]; exact h k hk) q
theorem zh.rng0P {n:Nat} {G:D->(D->Prop)->Prop} {R:D->Prop} (P:D->Prop) (few:n<=1000) (h:∀ k,k < n->G (.int (k:Int)) P) (q:∀ es,es.length=n->(∀ e∈es,P e)->R (.lst es)):zh (Pu.rng0 n) G R:=by
 rw [JD]
 exact zh.rngP P few (λk hk=>by rw [eE]; exact h k hk) q
def vS (P:Int->Prop) (d:D):Prop:=∃ i,d=.int i/\P i
theorem zLG {P:Int->Prop}:∀ {es:List D},(∀ e∈es,vS P e)->∃ ns:List Int,es=ns.map D.int/\∀ x∈ns,P x
 | [],_=>⟨[],rfl,λ_ h=>nomatch h⟩
 | e :: es,h=>by
  obtain ⟨ns,rfl,k⟩:=zLG (es:=es) λx m=>h x (cr _ m)
  obtain ⟨i,rfl,p⟩:=h e cv
  exact ⟨i :: ns,rfl,λx m=>(cz.mp m).elim (λz=>z ▸ p) (k x)⟩
theorem zh.nums {n:Nat} {G:D->(D->Prop)->Prop} {R:D->Prop} (P:Int->Prop) (few:n<=1000) (h:∀ k,k < n->G (.int (k:Int)) (vS P)) (q:∀ ns:List Int,ns.length=n->(∀ x∈ns,P x)->R (.lst (ns.map D.int))):zh (Pu.rng0 n) G R:=
 zh.rng0P (vS P) few h λes l k=>by
  obtain ⟨ns,rfl,p⟩:=zLG k
  exact q ns (by rw [<- l,a_]) p
theorem yX {i:Nat}:∀ d os,JA d=some os->os.length=[i].length:=λd os h=>by cases h; rfl
theorem uX:∀ ds os,zQM ds=some os->os.length=([]:List Nat).length:=λds os h=>by cases ds with | nil=>cases h; rfl | cons=>cases h
theorem wL {i:Nat} {js:List Nat} {po:List D->Option (List D)} (h:∀ ds os,po ds=some os->os.length=js.length):∀ ds os,JB po ds=some os->os.length=(i :: js).length:=λds os q=>by
 cases ds with
 | nil=>cases q
 | cons d dt=>
  change (po dt).map (d :: ·)=some os at q
  cases e:po dt with
  | none=>rw [e] at q; cases q
  | some os'=>rw [e] at q; cases q; rw [cJ,cJ,h dt os' e]
theorem pnc {js ks:List Nat} {p:D->Option (List D)} {po:List D->Option (List D)} (hk:∀ d os,p d=some os->os.length=js.length) (h:∀ ds os,po ds=some os->os.length=ks.length):∀ ds os,zN4 p po ds=some os->os.length=(js++ks).length:=λds os q=>by
 cases ds with
 | nil=>cases q
 | cons d dt=>
  change (p d).bind (λa=>(po dt).map (a++·))=some os at q
  cases e1:p d with
  | none=>rw [e1] at q; cases q
  | some a=>
   rw [e1] at q
   change (po dt).map (a++·)=some os at q
   cases e2:po dt with
   | none=>rw [e2] at q; cases q
   | some b=>rw [e2] at q; cases q; rw [b_,b_,h dt b e2,hk d a e1]
structure yk (Z0:Addr->Prop) (H0:Hp) (Z:Addr->Prop) (Γ:List Sl) (σ:St) (H:Hp):Prop where
 e:zr Z Γ σ H
 z0:∀ b,Z0 b->Z b
 z0d:ZL Z0 H0
 same:Sm H0 H
 own:∀ i ds l,slot Γ i=.ow ds->σ[i]? = some (some (.ref l))->H0 l=none
 owb:∀ i o c ns ds,slot Γ i=.ob o c ns ds->H0 o=none
structure zRd where
 nx:List Sl->Prop
 rt:D->Prop
 bk:List Sl->Prop:=λ_=>False
 ct:List Sl->Prop:=λ_=>False
abbrev xD:=zRd->List Sl->Prop
inductive yY (p:xD) (D0:yf) (σ:St) (H:Hp):Prop
 | mk (Z0:Addr->Prop) (H0:Hp) (Z:Addr->Prop) (Γ:List Sl) (Dp:zRd) (E:yk Z0 H0 Z Γ σ H) (h:p Dp Γ) (nx:∀ Z' Γ' σ' H',yk Z0 H0 Z' Γ' σ' H'->zL (zK Z H) (zK Z' H')->Dp.nx Γ'->D0.nx σ' H')
  (rt:∀ d v H',Sm H0 H'->DV (zK Z0 H') v d->Dp.rt d->D0.rt v H') (bk:∀ Z' Γ' σ' H',yk Z0 H0 Z' Γ' σ' H'->zL (zK Z H) (zK Z' H')->Dp.bk Γ'->D0.bk σ' H') (ct:∀ Z' Γ' σ' H',yk Z0 H0 Z' Γ' σ' H'->zL (zK Z H) (zK Z' H')->Dp.ct Γ'->D0.ct σ' H'):yY p D0 σ H
theorem yk.mv {Z0:Addr->Prop} {H0:Hp} {Z:Addr->Prop} {Γ:List Sl} {σ:St} {H H':Hp} (E:yk Z0 H0 Z Γ σ H) (s:Sm H H'):yk Z0 H0 Z Γ σ H':=⟨E.e.same s,E.z0,E.z0d,E.same.trans s,E.own,E.owb⟩
theorem yk.set {Z0:Addr->Prop} {H0:Hp} {Z:Addr->Prop} {Γ:List Sl} {σ:St} {H:Hp} (E:yk Z0 H0 Z Γ σ H) {v:V} {d:D} (h:DV (zK Z H) v d) (i:Nat):yk Z0 H0 Z (yA Γ i (.sh d)) (σ.set i (some v)) H:=
 ⟨E.e.set h i,E.z0,E.z0d,E.same,λj ds l q r=>by
  rw [xa] at q
  by_cases c:j=i/\i < Γ.length
  ·rw [if_pos c] at q; cases q
  ·rw [if_neg c] at q
   have hj:=uF (Γ:=Γ) (i:=j) (by rw [q]; exact λz=>nomatch z)
   rw [cQ (λz=>c ⟨z.symm,by omega⟩)] at r
   exact E.own j ds l q r,λj o0 c0 ns ds q=>by
  rw [xa] at q
  by_cases c:j=i/\i < Γ.length
  ·rw [if_pos c] at q; cases q
  ·rw [if_neg c] at q
   exact E.owb j o0 c0 ns ds q⟩
theorem yk.setN {Z0:Addr->Prop} {H0:Hp} {Z:Addr->Prop} {H:Hp}:∀ {js:List Nat} {vs:List V} {os:List D} {Γ:List Sl} {σ:St},yk Z0 H0 Z Γ σ H->yJ (zK Z H) vs os->yk Z0 H0 Z (X1 Γ js os) (Pu.setN σ js vs) H
 | [],_,_,_,_,E,_=>E
 | _ :: _,_,_,_,_,E,.nil=>E
 | _ :: js,_,_,_,_,E,.cons h t=>yk.setN (js:=js) (E.set h _) t
theorem YJ {Z:Addr->Prop} {H:Hp} {l:Addr} {o:HO} (h:Z l):zL (zK Z H) (zK Z (zV H l o)):=λb u e=>by
 obtain ⟨h1,h2⟩:=uE e
 have nb:b≠l:=λz=>h1 (by rw [z]; exact h)
 exact xj h1 ((zl nb).trans h2) (qS e)
theorem yk.put {Z0:Addr->Prop} {H0:Hp} {Z:Addr->Prop} {Γ:List Sl} {σ:St} {H:Hp} (E:yk Z0 H0 Z Γ σ H) {i:Nat} {ds ds':List D} {l:Addr} {xs:List V} (hs:slot Γ i=.ow ds) (hl:σ[i]? = some (some (.ref l))) (hz:Z l) (hx:yJ (zK Z H) xs ds'):yk Z0 H0 Z (yA Γ i (.ow ds')) σ (zV H l (.lst xs)):=by
 obtain ⟨l0,xs0,hl0,_,el,_⟩:=E.e.ow i ds hs
 have el0:l0=l:=by rw [hl] at hl0; cases hl0; rfl
 rw [el0] at el
 have keyb:∀ j o c ns d,slot (yA Γ i (.ow ds')) j=.ob o c ns d->slot Γ j=.ob o c ns d:=λj o0 c0 ns d q=>by
  rw [xa] at q
  by_cases c:j=i/\i < Γ.length
  ·rw [if_pos c] at q; cases q
  ·rw [if_neg c] at q; exact q
 have li:=uF (Γ:=Γ) (i:=i) (by rw [hs]; exact λz=>nomatch z)
 have hp:zL (zK Z H) (zK Z (zV H l (.lst xs))):=YJ hz
 have key:∀ j ds'',slot (yA Γ i (.ow ds')) j=.ow ds''->∃ q,slot Γ j=.ow q:=λj d q=>by
  rw [xa] at q
  by_cases c:j=i/\i < Γ.length
  ·rw [c.1]; exact ⟨ds,hs⟩
  ·rw [if_neg c] at q; exact ⟨d,q⟩
 refine ⟨⟨λj d q=>?_,λj d q=>?_,λj o c ns d q=>?_,λj k as bs m q r=>?_,⟨λb hb=>?_,yW.put E.e.zd.i el⟩,by rw [qU]; exact E.e.len⟩,E.z0,E.z0d,?_,λj d m q=>?_,λj o c ns d q=>E.owb j o c ns d (keyb j o c ns d q)⟩
 ·rw [xa] at q
  by_cases c:j=i/\i < Γ.length
  ·rw [if_pos c] at q; cases q
  ·rw [if_neg c] at q
   obtain ⟨v,h1,h2⟩:=E.e.sh j d q
   exact ⟨v,h1,h2.same hp⟩
 ·rw [xa] at q
  by_cases c:j=i/\i < Γ.length
  ·rw [if_pos c] at q
   cases q
   rw [c.1]
   exact ⟨l,xs,hl,hz,xv,xN hp hx⟩
  ·rw [if_neg c] at q
   obtain ⟨m,ys,h1,h2,h3,h4⟩:=E.e.ow j d q
   have nm:m≠l:=λz=>c ⟨E.e.ne j i d ds l q hs (by rw [h1,z]) hl,li⟩
   exact ⟨m,ys,h1,h2,by rw [zl nm]; exact h3,xN hp h4⟩
 ·obtain ⟨dx,ys,h1,h2,h3,h5,h4⟩:=E.e.ob j o c ns d (keyb j o c ns d q)
  have nm:o≠l:=λz=>by rw [z,el] at h3; cases h3
  exact ⟨dx,ys,h1,h2,by rw [zl nm]; exact h3,h5,xN hp h4⟩
 ·obtain ⟨q1,hq⟩:=key j as q
  obtain ⟨r1,hr⟩:=key k bs r
  exact E.e.ne j k q1 r1 m hq hr
 ·obtain ⟨u,e,n⟩:=E.e.zd.z b hb
  by_cases c:b=l
  ·rw [c]; exact ⟨_,xv,λ_ z=>nomatch z⟩
  ·exact ⟨u,by rw [zl c]; exact e,n⟩
 ·exact E.same.put (E.own i ds l hs hl) el
 ·obtain ⟨q1,hq⟩:=key j d q
  exact E.own j q1 m hq
theorem yk.make {Z0:Addr->Prop} {H0:Hp} {Z:Addr->Prop} {Γ:List Sl} {σ:St} {H:Hp} (E:yk Z0 H0 Z Γ σ H) {p:Addr} {xs:List V} {ds:List D} (hp:H p=none) (hx:yJ (zK Z H) xs ds) (i:Nat) :
  yk Z0 H0 (λb=>Z b\/b=p) (yA Γ i (.ow ds)) (σ.set i (some (.ref p))) (zV H p (.lst xs))/\zL (zK Z H) (zK (λb=>Z b\/b=p) (zV H p (.lst xs))):=by
 have s:zL (zK Z H) (zK (λb=>Z b\/b=p) (zV H p (.lst xs))):=λb o e=>by
  obtain ⟨h1,h2⟩:=uE e
  have nb:=wC h2 hp
  exact xj (λz=>z.elim h1 nb) ((zl nb).trans h2) (qS e)
 have old:∀ j d,slot Γ j=.ow d->∀ m,σ[j]? = some (some (.ref m))->m≠p:=λj d q m h z=>by
  obtain ⟨l,ys,h1,h2,h3,_⟩:=E.e.ow j d q
  rw [h] at h1
  cases h1
  rw [z,hp] at h3
  cases h3
 have get:∀ j,¬ (j=i/\i < Γ.length)->slot Γ j≠.no->(σ.set i (some (V.ref p)))[j]? = σ[j]?:=λj c q=>by
  have hj:=uF q
  exact cQ (λz=>c ⟨z.symm,by omega⟩)
 have new:∀ j,j=i/\i < Γ.length->(σ.set i (some (V.ref p)))[j]? = some (some (.ref p)):=λj c=>by
  rw [c.1,dB (by have:=E.e.len; omega)]
 have keyb:∀ j o c ns d,slot (yA Γ i (.ow ds)) j=.ob o c ns d->slot Γ j=.ob o c ns d/\(σ.set i (some (V.ref p)))[j]? = σ[j]?:=λj o0 c0 ns d q=>by
  rw [xa] at q
  by_cases c:j=i/\i < Γ.length
  ·rw [if_pos c] at q; cases q
  ·rw [if_neg c] at q; exact ⟨q,get j c (by rw [q]; exact λz=>nomatch z)⟩
 refine ⟨⟨⟨λj d q=>?_,λj d q=>?_,λj o c ns d q=>?_,λj k as bs m q r e f=>?_,⟨λb hb=>?_,yW.same E.e.zd.i (jD hp _)⟩,by rw [qU,dk]; exact E.e.len⟩,λb hb=>.inl (E.z0 b hb),E.z0d,E.same.trans (wP hp _),λj d m q e=>?_,λj o c ns d q=>E.owb j o c ns d (keyb j o c ns d q).1⟩,s⟩
 ·rw [xa] at q
  by_cases c:j=i/\i < Γ.length
  ·rw [if_pos c] at q; cases q
  ·rw [if_neg c] at q
   obtain ⟨v,h1,h2⟩:=E.e.sh j d q
   exact ⟨v,by rw [get j c (by rw [q]; exact λz=>nomatch z)]; exact h1,h2.same s⟩
 ·rw [xa] at q
  by_cases c:j=i/\i < Γ.length
  ·rw [if_pos c] at q
   cases q
   exact ⟨p,xs,new j c,.inr rfl,xv,xN s hx⟩
  ·rw [if_neg c] at q
   obtain ⟨m,ys,h1,h2,h3,h4⟩:=E.e.ow j d q
   exact ⟨m,ys,by rw [get j c (by rw [q]; exact λz=>nomatch z)]; exact h1,.inl h2,by rw [zl (old j d q m h1)]; exact h3,xN s h4⟩
 ·obtain ⟨q,g⟩:=keyb j o c ns d q
  obtain ⟨dx,ys,h1,h2,h3,h5,h4⟩:=E.e.ob j o c ns d q
  exact ⟨dx,ys,g.trans h1,.inl h2,by rw [zl (wC h3 hp)]; exact h3,h5,xN s h4⟩
 ·rw [xa] at q r
  by_cases c:j=i/\i < Γ.length
  ·by_cases c':k=i/\i < Γ.length
   ·omega
   ·rw [if_neg c'] at r
    rw [new j c] at e
    rw [get k c' (by rw [r]; exact λz=>nomatch z)] at f
    cases e
    exact absurd rfl (old k bs r p f)
  ·rw [if_neg c] at q
   rw [get j c (by rw [q]; exact λz=>nomatch z)] at e
   by_cases c':k=i/\i < Γ.length
   ·rw [new k c'] at f
    cases f
    exact absurd rfl (old j as q p e)
   ·rw [if_neg c'] at r
    rw [get k c' (by rw [r]; exact λz=>nomatch z)] at f
    exact E.e.ne j k as bs m q r e f
 ·by_cases c:b=p
  ·rw [c]; exact ⟨_,xv,λ_ z=>nomatch z⟩
  ·obtain ⟨u,e,n⟩:=E.e.zd.z b (hb.resolve_right c)
   exact ⟨u,by rw [zl c]; exact e,n⟩
 ·rw [xa] at q
  by_cases c:j=i/\i < Γ.length
  ·rw [new j c] at e
   cases e
   exact E.same.free hp
  ·rw [if_neg c] at q
   rw [get j c (by rw [q]; exact λz=>nomatch z)] at e
   exact E.own j d m q e
def frz (Γ:List Sl) (i:Nat):List Sl:=match slot Γ i with
 | .ow ds=>yA Γ i (.sh (.lst ds))
 | _=>Γ
theorem yk.frz {Z0:Addr->Prop} {H0:Hp} {Z:Addr->Prop} {Γ:List Sl} {σ:St} {H:Hp} (E:yk Z0 H0 Z Γ σ H) (i:Nat):∃ Z',yk Z0 H0 Z' (Pu.frz Γ i) σ H/\zL (zK Z H) (zK Z' H):=by
 unfold Pu.frz
 cases hs:slot Γ i with
 | no=>exact ⟨Z,E,zL.refl _⟩
 | sh _=>exact ⟨Z,E,zL.refl _⟩
 | ob _ _ _ _=>exact ⟨Z,E,zL.refl _⟩
 | ow ds=>
  obtain ⟨l,xs,hl,hz,el,hx⟩:=E.e.ow i ds hs
  have s:zL (zK Z H) (zK (λb=>Z b/\b≠l) H):=gp λb h=>h.1
  have key:∀ j d,slot (yA Γ i (.sh (.lst ds))) j=.ow d->slot Γ j=.ow d/\j≠i:=λj d q=>by
   rw [xa] at q
   by_cases c:j=i/\i < Γ.length
   ·rw [if_pos c] at q; cases q
   ·rw [if_neg c] at q
    have hj:=uF (Γ:=Γ) (i:=j) (by rw [q]; exact λz=>nomatch z)
    exact ⟨q,λz=>c ⟨z,by omega⟩⟩
  have keyb:∀ j o c ns d,slot (yA Γ i (.sh (.lst ds))) j=.ob o c ns d->slot Γ j=.ob o c ns d:=λj o0 c0 ns d q=>by
   rw [xa] at q
   by_cases c:j=i/\i < Γ.length
   ·rw [if_pos c] at q; cases q
   ·rw [if_neg c] at q; exact q
  refine ⟨λb=>Z b/\b≠l,⟨⟨λj d q=>?_,λj d q=>?_,λj o c ns d q=>?_,λj k as bs m q r=>?_,⟨λb hb=>E.e.zd.z b hb.1,E.e.zd.i⟩,by rw [qU]; exact E.e.len⟩,λb hb=>⟨E.z0 b hb,λz=>?_⟩,E.z0d,E.same,λj d m q=>E.own j d m (key j d q).1,λj o c ns d q=>E.owb j o c ns d (keyb j o c ns d q)⟩,s⟩
  ·rw [xa] at q
   by_cases c:j=i/\i < Γ.length
   ·rw [if_pos c] at q
    cases q
    rw [c.1]
    exact ⟨.ref l,hl,.lst (xj (λz=>z.2 rfl) el) (xN s hx)⟩
   ·rw [if_neg c] at q
    obtain ⟨v,h1,h2⟩:=E.e.sh j d q
    exact ⟨v,h1,h2.same s⟩
  ·obtain ⟨q1,q2⟩:=key j d q
   obtain ⟨m,ys,h1,h2,h3,h4⟩:=E.e.ow j d q1
   exact ⟨m,ys,h1,⟨h2,λz=>q2 (E.e.ne j i d ds l q1 hs (by rw [h1,z]) hl)⟩,h3,xN s h4⟩
  ·obtain ⟨dx,ys,h1,h2,h3,h5,h4⟩:=E.e.ob j o c ns d (keyb j o c ns d q)
   exact ⟨dx,ys,h1,⟨h2,λz=>by rw [z,el] at h3; cases h3⟩,h3,h5,xN s h4⟩
  ·exact E.e.ne j k as bs m (key j as q).1 (key k bs r).1
  ·obtain ⟨ys,e,_⟩:=E.z0d.z b hb
   rw [z,E.own i ds l hs hl] at e
   cases e
theorem zr.frz {Z:Addr->Prop} {Γ:List Sl} {σ:St} {H:Hp} (E:zr Z Γ σ H) (i:Nat):∃ Z',zr Z' (Pu.frz Γ i) σ H:=by
 unfold Pu.frz
 cases hs:slot Γ i with
 | no=>exact ⟨Z,E⟩
 | sh _=>exact ⟨Z,E⟩
 | ob _ _ _ _=>exact ⟨Z,E⟩
 | ow ds=>
  obtain ⟨l,xs,hl,hz,el,hx⟩:=E.ow i ds hs
  have s:zL (zK Z H) (zK (λb=>Z b/\b≠l) H):=gp λb h=>h.1
  have key:∀ j d,slot (yA Γ i (.sh (.lst ds))) j=.ow d->slot Γ j=.ow d/\j≠i:=λj d q=>by
   rw [xa] at q
   by_cases c:j=i/\i < Γ.length
   ·rw [if_pos c] at q; cases q
   ·rw [if_neg c] at q
    have hj:=uF (Γ:=Γ) (i:=j) (by rw [q]; exact λz=>nomatch z)
    exact ⟨q,λz=>c ⟨z,by omega⟩⟩
  have keyb:∀ j o c ns d,slot (yA Γ i (.sh (.lst ds))) j=.ob o c ns d->slot Γ j=.ob o c ns d:=λj o0 c0 ns d q=>by
   rw [xa] at q
   by_cases c:j=i/\i < Γ.length
   ·rw [if_pos c] at q; cases q
   ·rw [if_neg c] at q; exact q
  refine ⟨λb=>Z b/\b≠l,⟨λj d q=>?_,λj d q=>?_,λj o c ns d q=>?_,λj k as bs m q r=>?_,⟨λb hb=>E.zd.z b hb.1,E.zd.i⟩,by rw [qU]; exact E.len⟩⟩
  ·rw [xa] at q
   by_cases c:j=i/\i < Γ.length
   ·rw [if_pos c] at q
    cases q
    rw [c.1]
    exact ⟨.ref l,hl,.lst (xj (λz=>z.2 rfl) el) (xN s hx)⟩
   ·rw [if_neg c] at q
    obtain ⟨v,h1,h2⟩:=E.sh j d q
    exact ⟨v,h1,h2.same s⟩
  ·obtain ⟨q1,q2⟩:=key j d q
   obtain ⟨m,ys,h1,h2,h3,h4⟩:=E.ow j d q1
   exact ⟨m,ys,h1,⟨h2,λz=>q2 (E.ne j i d ds l q1 hs (by rw [h1,z]) hl)⟩,h3,xN s h4⟩
  ·obtain ⟨dx,ys,h1,h2,h3,h5,h4⟩:=E.ob j o c ns d (keyb j o c ns d q)
   exact ⟨dx,ys,h1,⟨h2,λz=>by rw [z,el] at h3; cases h3⟩,h3,h5,xN s h4⟩
  ·exact E.ne j k as bs m (key j as q).1 (key k bs r).1
def JG (i:Nat) (p:wI):wI:=λΓ R=>p (Pu.frz Γ i) R
theorem zOs {X:Cx} {e:Expr} {p:wI} (i:Nat) (h:PT X e (xF p)):PT X e (xF (JG i p)):=Xv h λσ H Q ⟨Z,Γ,R,E,h,q⟩=>let ⟨Z',E'⟩:=E.frz i; ⟨Z',_,R,E',h,q⟩
end Pu
namespace Pu
open PySem L2 Sh
variable [yW]
open PyProof.Rows (envOfC)
section
variable {X:Cx} {e:Expr} {es:List Expr} {st:Stmt} {sts:List Stmt} {pos:Pos} {pa pb:zx} {pl:yp} {p q:xD}
theorem yF {t t':TS} (h:PS X st t) (w:∀ D σ H,t' D σ H->t D σ H):PS X st t':=λpins s σ H D I k=>h pins s σ H D I (w D σ H k)
theorem ql {t t':TS} (h:yT X sts t) (w:∀ D σ H,t' D σ H->t D σ H):yT X sts t':=λpins s σ H D I k=>h pins s σ H D I (w D σ H k)
def YK:xD:=λD Γ=>D.nx Γ
def YL (p q:xD):xD:=λD Γ=>p { D with nx:=q D } Γ
theorem yR:yT X [] (yY YK):=ql gU λD σ H ⟨Z0,H0,Z,Γ,Dp,E,h,nx,rt,bk,ct⟩=>nx Z Γ σ H E (zL.refl _) h
theorem zH (h1:PS X st (yY p)) (h2:yT X sts (yY q)):yT X (st :: sts) (yY (YL p q)):=ql (vE h1 h2) λD σ H ⟨Z0,H0,Z,Γ,Dp,E,h,nx,rt,bk,ct⟩=>
 ⟨Z0,H0,Z,Γ,{ Dp with nx:=q Dp },E,h,λZ' Γ' σ' H' E' s' h'=>⟨Z0,H0,Z',Γ',Dp,E',h',λZ2 Γ2 σ2 H2 E2 s2=>nx Z2 Γ2 σ2 H2 E2 (s'.trans s2),rt,λZ2 Γ2 σ2 H2 E2 s2=>bk Z2 Γ2 σ2 H2 E2 (s'.trans s2),λZ2 Γ2 σ2 H2 E2 s2=>ct Z2 Γ2 σ2 H2 E2 (s'.trans s2)⟩,rt,bk,ct⟩
def zQZ (p q:xD):xD:=λD Γ=>∃ M:List Sl->Prop,p { D with nx:=M } Γ/\∀ Γ',M Γ'->q D Γ'
theorem uY (h1:PS X st (yY p)) (h2:yT X sts (yY q)):yT X (st :: sts) (yY (zQZ p q)):=ql (vE h1 h2) λD σ H ⟨Z0,H0,Z,Γ,Dp,E,⟨M,h,k⟩,nx,rt,bk,ct⟩=>
 ⟨Z0,H0,Z,Γ,{ Dp with nx:=M },E,h,λZ' Γ' σ' H' E' s' h'=>⟨Z0,H0,Z',Γ',Dp,E',k Γ' h',λZ2 Γ2 σ2 H2 E2 s2=>nx Z2 Γ2 σ2 H2 E2 (s'.trans s2),rt,λZ2 Γ2 σ2 H2 E2 s2=>bk Z2 Γ2 σ2 H2 E2 (s'.trans s2),λZ2 Γ2 σ2 H2 E2 s2=>ct Z2 Γ2 σ2 H2 E2 (s'.trans s2)⟩,rt,bk,ct⟩
theorem zM (h1:PS X st (yY p)):yT X [st] (yY p):=ku h1
def JH (i:Nat) (p:xD):xD:=λD Γ=>p D (frz Γ i)
theorem wy (i:Nat) (h1:PS X st (yY p)):PS X st (yY (JH i p)):=yF h1 λD σ H ⟨Z0,H0,Z,Γ,Dp,E,h,nx,rt,bk,ct⟩=>by
 obtain ⟨Z',E',s⟩:=E.frz i
 exact ⟨Z0,H0,Z',_,Dp,E',h,λZ2 Γ2 σ2 H2 E2 s2=>nx Z2 Γ2 σ2 H2 E2 (s.trans s2),rt,λZ2 Γ2 σ2 H2 E2 s2=>bk Z2 Γ2 σ2 H2 E2 (s.trans s2),λZ2 Γ2 σ2 H2 E2 s2=>ct Z2 Γ2 σ2 H2 E2 (s.trans s2)⟩
def qm (i:Nat) (pa:zx):xD:=λD Γ=>pa Γ λd=>D.nx (yA Γ i (.sh d))
theorem zPx {i:Nat} (D:yf) (σ:St) (H:Hp):yY (qm i pa) D σ H->uL (tP pa) (gY i) D σ H:=λ⟨Z0,H0,Z,Γ,Dp,E,h,nx,rt,bk,ct⟩=>
 ⟨Z,Γ,_,E.e,h,λd v H1 hd s1 hv=>nx Z _ _ H1 ((E.mv s1).set hv i) (yg s1) hd⟩
theorem zOt (i:Nat) {x:Str} {pos':Pos} (hN:X.N.Nodup) (hi:X.N[i]? = some x) (hx:v5 X.env.scope x) (he:PE X e (tP pa)) (hs:swapsWith e (some (.Name x pos')) pos.line X.env=pure false:=by rfl) (hf:X.fn x=true\/X.env.scope.names.lookup x=some .local:=by first | exact .inl rfl | exact .inr rfl | assumption) :
  PS X (.Assign [.Name x pos'] e pos) (yY (qm i pa)):=yF (ZA hN hi hx he hs hf) zPx
def JI (js:List Nat) (po:D->Option (List D)) (pa:zx):xD:=λD Γ=>pa Γ λd=>jY (po d) λos=>D.nx (X1 Γ js os)
theorem uz {tg:Expr} {js:List Nat} {po:D->Option (List D)} (he:PE X e (tP pa)) (hg:PG X tg (tG js po)) (hs:swapsWithSole [tg] e pos.line X.env=pure false:=by rfl) (hw:swappedStores [tg] e X.env=pure none:=by rfl)
  (h1:(assignEach [tg] X.env).map (·.2)=[assign tg X.env]:=by rfl):PS X (.Assign [tg] e pos) (yY (JI js po pa)):=yF (Kn he hg hs hw h1) λD σ H ⟨Z0,H0,Z,Γ,Dp,E,h,nx,rt,bk,ct⟩=>
 ⟨Z,Γ,_,E.e,h,λd v H1 hd s1 hv=>by
  obtain ⟨os,ho,hd⟩:=YB hd
  exact ⟨Z,d,os,hv,ho,λvs hvs=>nx Z _ _ H1 ((E.mv s1).setN hvs) (yg s1) hd⟩⟩
def JJ (i:Nat) (pl:yp):xD:=λD Γ=>pl Γ λds=>ds.length<=1000/\D.nx (yA Γ i (.ow ds))
theorem ve (i:Nat) {x:Str} {pos' lp:Pos} (hN:X.N.Nodup) (hi:X.N[i]? = some x) (hx:v5 X.env.scope x) (he:PA X es (wJ pl)) (hs:swapsWith (.List es lp) (some (.Name x pos')) pos.line X.env=pure false:=by rfl) (hf:X.fn x=true\/X.env.scope.names.lookup x=some .local:=by first | exact .inl rfl | exact .inr rfl | assumption) :
  PS X (.Assign [.Name x pos'] (.List es lp) pos) (yY (JJ i pl)):=yF (ZA hN hi hx (K4 he) hs hf) λD σ H ⟨Z0,H0,Z,Γ,Dp,E,h,nx,rt,bk,ct⟩=>
 ⟨Z,Γ,_,E.e,h,λds vs H1 hd s1 hv=>⟨few (by rw [wD hv]; exact hd.1),λl hl=>by
  obtain ⟨E2,s2⟩:=(E.mv s1).make hl hv i
  exact nx _ _ _ _ E2 ((yg s1).trans s2) hd.2⟩⟩
def JK:D->(List D->Prop)->Prop
 | .lst es,k=>k es
 | _,_=>False
def zQc (i:Nat) (ow:Bool) (caps:List Nat) (pi:yp) (po:D->Option (List D)) (pe:zx):xD:=λT Γ=>pi Γ λds=>zh ds (λd S=>jY (po d) λos=>pe (os.map Sl.sh++caps.map λj=>un (slot Γ j)) S) λd=>JK d λes=>T.nx (yA Γ i (match ow with | true=>.ow es | false=>.sh (.lst es)))
theorem u3 (i:Nat) (ow:Bool) {scope:Scope} {own:List Str} {caps:List (Nat × Str)} {tg iter elt:Expr} {pi:yp} {po:D->Option (List D)} {pe:zx} {js:List Nat} {y:Str} {py spos:Pos} (hN:X.N.Nodup) (hy:X.N[i]? = some y) (hl:X.env.scope.names.lookup y=some .local) (B:uA X scope own caps) (hc:X.calm=true) (hj:js=g_ 0 own.length) (hk:∀ d os,po d=some os->os.length=js.length)
  (hi:PI X tg iter (ja pi)) (hg:∀ C s₀ H₀ ex,PG (xM X scope (zm own caps) C s₀ H₀ ex) tg (tG js po)) (he:∀ C s₀ H₀ ex,PE (xM X scope (zm own caps) C s₀ H₀ ex) elt (tP pe)) (hsw:swapsWith (.ListComp elt [⟨tg,iter,[],0⟩] scope pos) (some (.Name y py)) spos.line X.env=pure true) (hs:∀ x,foldedSetIterable iter X.env x=pure x:=by intro _; rfl) :
  PS X (.Assign [.Name y py] (.ListComp elt [⟨tg,iter,[],0⟩] scope pos) spos) (yY (zQc i ow (caps.map (·.1)) pi po pe)):=yF (zMr hN hy hl B hc hi hg (.inl rfl) (λ_ _ _ _=>zQY) he hsw hs) λD σ H ⟨Z0,H0,Z,Γ,Dp,E,h,nx,rt,bk,ct⟩=>
 ⟨Z,Γ,_,E.e,h,λds J H1 ⟨fw,F,hF,hR⟩ s1 wk=>zJc (E.e.same s1) wk hj hk fw hF λes ys H' l h1 s2 h2 hp=>by
  have E1:=(E.mv s1).mv s2
  cases ow with
  | true=>
   obtain ⟨E2,s3⟩:=E1.make hp h2 i
   exact nx _ _ _ _ E2 ((yg (s1.trans s2)).trans s3) (hR es h1)
  | false=>exact nx Z _ _ _ ((E1.mv (wP hp _)).set (uT E1.e.zd hp h2) i) (yg (s1.trans (s2.trans (wP hp _)))) (hR es h1)⟩
def JL (pa:zx):xD:=λD Γ=>pa Γ D.rt
theorem zU (he:PE X e (tP pa)):PS X (.Return (some e) pos) (yY (JL pa)):=yF (zQK he) λD σ H ⟨Z0,H0,Z,Γ,Dp,E,h,nx,rt,bk,ct⟩=>
 ⟨Z,Γ,_,E.e,h,λd v H1 hd s1 hv=>rt d v H1 (E.same.trans s1) (hv.same (gp E.z0)) hd⟩
def pIf (t:wI) (p q:xD):xD:=λD Γ=>t Γ λc=>ww c (p D Γ) (q D Γ)
theorem yS {c:Expr} {a b:List Stmt} {t:wI} (hc:PT X c (xF t)) (ha:yT X a (yY p)) (hb:yT X b (yY q)):PS X (.If c a b pos) (yY (pIf t p q)):=yF (XV hc ha hb) λD σ H ⟨Z0,H0,Z,Γ,Dp,E,h,nx,rt,bk,ct⟩=>
 ⟨Z,Γ,_,E.e,h,λc H1 hd s1=>by
  have f:∀ {P:List Sl->Prop} {Q:St->Hp->Prop},(∀ Z' Γ' σ' H',yk Z0 H0 Z' Γ' σ' H'->zL (zK Z H) (zK Z' H')->P Γ'->Q σ' H')->∀ Z' Γ' σ' H',yk Z0 H0 Z' Γ' σ' H'->zL (zK Z H1) (zK Z' H')->P Γ'->Q σ' H':=λg Z2 Γ2 σ2 H2 E2 s2=>g Z2 Γ2 σ2 H2 E2 ((yg s1).trans s2)
  cases c with
  | true=>exact ⟨Z0,H0,Z,Γ,Dp,E.mv s1,hd.1 rfl,f nx,rt,f bk,f ct⟩
  | false=>exact ⟨Z0,H0,Z,Γ,Dp,E.mv s1,hd.2 rfl,f nx,rt,f bk,f ct⟩⟩
def zQa:xD:=λ_ _=>False
theorem JM:PS X st (yY zQa):=yF zMp λD σ H ⟨Z0,H0,Z,Γ,Dp,E,h,nx,rt,bk,ct⟩=>h
def JN (pi:yp) (js:List Nat) (po:D->Option (List D)) (pb:xD):xD:=λD Γ=>pi Γ λds=>∃ I:Nat->List Sl->Prop,I 0 Γ/\(∀ k d Γ',ds[k]? = some d->I k Γ'->jY (po d) λos=>pb ⟨I (k + 1),D.rt,D.nx,I (k + 1)⟩ (X1 Γ' js os))/\∀ Γ',I ds.length Γ'->D.nx Γ'
theorem uH {tg iter:Expr} {body:List Stmt} {pi:yp} {js:List Nat} {po:D->Option (List D)} (hp:PassesOwn (model X.prog X.w) X.A X.env X.xe) (hc:X.calm=true) (hi:PI X tg iter (ja pi)) (hg:PG X tg (tG js po)) (hb:yT X body (yY p))
  (hs:∀ x,foldedSetIterable iter X.env x=pure x:=by intro _; rfl):PS X (.For tg iter body [] pos) (yY (JN pi js po p)):=yF (Kq hp hc hi hg hb hs) λD σ H ⟨Z0,H0,Z,Γ,Dp,E,h,nx,rt,bk,ct⟩=>
 ⟨Z,Γ,_,E.e,h,λds J H1 ⟨I,h0,hst,hd⟩ s1 wk=>by
  have g:∀ {Q:List Sl->Prop} {T:St->Hp->Prop} {Z1 H2},zL (zK Z H1) (zK Z1 H2)->(∀ Z' Γ' σ' H',yk Z0 H0 Z' Γ' σ' H'->zL (zK Z H) (zK Z' H')->Q Γ'->T σ' H')->∀ Z' Γ' σ' H',yk Z0 H0 Z' Γ' σ' H'->zL (zK Z1 H2) (zK Z' H')->Q Γ'->T σ' H':=λs k Z2 Γ2 σ2 H2 E2 s2=>k Z2 Γ2 σ2 H2 E2 ((yg s1).trans (s.trans s2))
  refine ⟨λi m σ' H'=>m + i=ds.length/\∃ Z' Γ',yk Z0 H0 Z' Γ' σ' H'/\zL (zK Z H1) (zK Z' H')/\I i Γ',⟨ds.length,rfl,Z,Γ,E.mv s1,zL.refl _,h0⟩,?_⟩
  rintro i m σ' H' ⟨hm,Z',Γ',E',s',hI⟩
  obtain ⟨w1,w2⟩:=wk i Z' H' s' E'.e.zd
  by_cases hi:i < ds.length
  ·refine .inr ⟨(w1 _ (cu hi)).1,λσ' H'=>m - 1 + (i + 1)=ds.length/\∃ Z' Γ',yk Z0 H0 Z' Γ' σ' H'/\zL (zK Z H1) (zK Z' H')/\I (i + 1) Γ',λσ2 H2 k=>⟨m - 1,by omega,k⟩,λx H2 yl=>?_⟩
   obtain ⟨s2,dv⟩:=(w1 _ (cu hi)).2 x H2 yl
   obtain ⟨os,ho,hb⟩:=YB (hst i _ Γ' (cu hi) hI)
   refine ⟨Z',_,os,dv,ho,λvs hvs=>?_⟩
   have s3:=s'.trans (yg s2)
   have again:∀ Z2 Γ2 σ2 H3,yk Z0 H0 Z2 Γ2 σ2 H3->zL (zK Z' H2) (zK Z2 H3)->I (i + 1) Γ2->m - 1 + (i + 1)=ds.length/\∃ Z' Γ',yk Z0 H0 Z' Γ' σ2 H3/\zL (zK Z H1) (zK Z' H3)/\I (i + 1) Γ':=λZ2 Γ2 σ2 H3 E3 k hI=>⟨by omega,Z2,Γ2,E3,s3.trans k,hI⟩
   exact ⟨Z0,H0,Z',_,_,(E'.mv s2).setN hvs,hb,again,rt,g s3 nx,again⟩
  ·have ei:i=ds.length:=by omega
   rw [ei] at hI
   exact .inl ⟨w2 ei,nx Z' Γ' σ' H' E' ((yg s1).trans s') (hd Γ' hI)⟩⟩
def X7:Sl->(List D->Prop)->Prop
 | .ow ds,R=>R ds
 | _,_=>False
theorem JO {s:Sl} {R:List D->Prop} (h:X7 s R):∃ ds,s=.ow ds/\R ds:=by
 cases s with
 | ow ds=>exact ⟨ds,rfl,h⟩
 | _=>exact h.elim
def JP (i:Nat) (pa:zx):xD:=λD Γ=>X7 (slot Γ i) λds=>pa Γ λd=>ds.length < 1000/\D.nx (yA Γ i (.ow (ds++[d])))
theorem wm {i:Nat} {K:cg} (D:yf) (σ:St) (H:Hp):yY (JP i pa) D σ H->gW (tBM K "list" qM (wU i) (um (tP pa) wS)) D σ H:=λ⟨Z0,H0,Z,Γ,Dp,E,h,nx,rt,bk,ct⟩=>by
 obtain ⟨ds,hs,h⟩:=JO h
 obtain ⟨l,xs,hl,hz,el,hx⟩:=E.e.ow i ds hs
 refine ⟨.ref l,hl,.inl ⟨rfl,xs,zw.of el⟩,Z,Γ,_,E.e,h,λd v H1 hd s1 hv=>?_⟩
 have hx1:=xN (yg s1) hx
 exact ⟨l,xs,v,rfl,rfl,s1.at el,UP (by rw [wD hx]; omega),nx Z _ _ _ ((E.mv s1).put hs hl hz (ZZ hv hx1)) ((yg s1).trans (YJ hz)) hd.2⟩
def JQ (i:Nat) (pa pb:zx):xD:=λD Γ=>pa Γ λd=>X7 (slot Γ i) λds=>pb Γ λk=>iD k λo=>∃ z j,o=some z/\vJ ds.length z=some j/\D.nx (yA Γ i (.ow (ds.set j d)))
theorem zN9 {α β:Type} {R:α->β->Prop} {x:α} {y:β} (r:R x y):∀ {xs:List α} {ys:List β} (i:Nat),Paired R xs ys->Paired R (xs.set i x) (ys.set i y)
 | _,_,_,.nil=>.nil
 | _,_,0,.cons _ t=>.cons r t
 | _,_,i + 1,.cons q t=>.cons q (zN9 r i t)
theorem zPy {i:Nat} (D:yf) (σ:St) (H:Hp):yY (JQ i pa pb) D σ H->uL (tP pa) (k9 (wU i) (tP pb) qN) D σ H:=λ⟨Z0,H0,Z,Γ,Dp,E,h,nx,rt,bk,ct⟩=>
 ⟨Z,Γ,_,E.e,h,λd v H1 hd s1 hv=>by
  obtain ⟨ds,hs,h⟩:=JO hd
  obtain ⟨l,xs,hl,hz,el,hx⟩:=(E.mv s1).e.ow i ds hs
  refine ⟨.ref l,hl,Z,Γ,_,(E.mv s1).e,h,λk u H2 hk s2 hu=>?_⟩
  unfold iD at hk
  split at hk
  ·obtain ⟨z,j,e1,e2,hd⟩:=hk
   cases e1
   cases hu
   have s:=s1.trans s2
   have hx1:=xN (yg s2) hx
   exact ⟨l,xs,_,j,rfl,rfl,s2.at el,by rw [wD hx]; exact e2,nx Z _ _ _ ((E.mv s).put hs hl hz (zN9 (hv.same (yg s2)) j hx1)) ((yg s).trans (YJ hz)) hd⟩
  ·exact hk.elim⟩
def ixL (ds:List D):D->(D->Prop)->Prop
 | .int i,R=>∃ d,xB ds i=some d/\R d
 | _,_=>False
def JR (i:Nat) (pb:zx):zx:=λΓ R=>X7 (slot Γ i) λds=>pb Γ λk=>ixL ds k R
theorem zN1 (i:Nat) {x:Str} {b:Expr} {xp:Pos} (hb:PE X b (tP pb)) (hs:Xg b) (hN:X.N[i]? = some x:=by rfl) (hv:gR X.env.scope x:=by first | exact Or.inl rfl | exact Or.inr (Or.inl rfl) | exact Or.inr (Or.inr rfl)) (hd:(x == ("__debug__" : Str))=false:=by decide)
  (hcd:(x == ("__classdict__" : Str))=false:=by decide):PE X (.Subscript (.Name x xp) b pos) (tP (JR i pb)):=yK (Xh zLT (yI i hN hv hd hcd) hb hs) λσ H Q ⟨Z,Γ,R,E,h,q⟩=>by
 obtain ⟨ds,hs,h⟩:=JO h
 obtain ⟨l,xs,hl,hz,el,hx⟩:=E.ow i ds hs
 refine ⟨.ref l,hl,Z,Γ,_,E,h,λk u H2 hk s2 hu=>?_⟩
 unfold ixL at hk
 split at hk
 ·cases hu
  obtain ⟨d,hd,hR⟩:=hk
  obtain ⟨v,hv,hh⟩:=Zw hx hd
  exact ⟨l,xs,_,v,rfl,rfl,zw.of (s2.at el),hv,q _ _ H2 hR s2 (hh.same (yg s2))⟩
 ·exact hk.elim
def D.isInt:D->Bool
 | .int _=>true
 | .bool _=>true
 | _=>false
def D.isBool:D->Bool
 | .bool _=>true
 | _=>false
def D.isLst:D->Bool
 | .lst _=>true
 | .frz _=>true
 | _=>false
def D.isTup:D->Bool
 | .tup _=>true
 | _=>false
def D.isObj:D->Bool
 | .obj ..=>true
 | _=>false
def YM (c:String) (f:D->Bool):D->(D->Prop)->Prop:=λd R=>d.isObj=false/\R (.bool (f d))
theorem gv {K:cg} {H:Hp} {v:V} {d:D} (h:DV H v d) (o:d.isObj=false):∃ t,yQ K H v t/\cE K t (.type "int")=some d.isInt/\cE K t (.type "bool")=some d.isBool/\cE K t (.type "list")=some d.isLst/\cE K t (.type "tuple")=some d.isTup:=by
 cases h with
 | int i=>exact ⟨_,.int i,qI K .int,qJ K .int,uq K .int,uo K .int⟩
 | bool b=>exact ⟨_,.bl b,qI K .bool,qJ K .bool,uq K .bool,uo K .bool⟩
 | non=>exact ⟨_,.non,qI K .non,qJ K .non,uq K .non,uo K .non⟩
 | str x=>exact ⟨_,.str x,qI K .str,qJ K .str,uq K .str,uo K .str⟩
 | frz e _=>
  obtain ⟨o,e⟩:=e
  exact ⟨_,.frz e,qI K .lst,qJ K .lst,uq K .lst,uo K .lst⟩
 | lst e _=>exact ⟨_,.lst e,qI K .lst,qJ K .lst,uq K .lst,uo K .lst⟩
 | tup e _=>exact ⟨_,.tup e,qI K .tup,qJ K .tup,uq K .tup,uo K .tup⟩
 | obj e _ _=>cases o
theorem vT {K:cg} {c:String} {f:D->Bool} (hf:∀ H v d,DV H v d->d.isObj=false->∃ t,yQ K H v t/\cE K t (.type c)=some (f d)) (σ:St) (H:Hp) (Q:VK):tP (Zr (YM c f) pa) σ H Q->gb (zP9 K) (um (tP pa) (um (tC (.ty c)) wS)) σ H Q:=λ⟨Z,Γ,R,E,h,q⟩=>
 ⟨Z,Γ,_,E,h,λd v H1 hd s1 hv=>by
  obtain ⟨t,h1,h2⟩:=hf H1 v d (hv.same zo) hd.1
  exact ⟨v,c,t,_,rfl,h1,h2,q _ _ H1 hd.2 s1 (.bool _)⟩⟩
theorem zQ5 {K:cg} (H:Hp) (v:V) (d:D) (h:DV H v d) (o:d.isObj=false):∃ t,yQ K H v t/\cE K t (.type "int")=some d.isInt:=let ⟨t,h1,h2,_⟩:=gv h o; ⟨t,h1,h2⟩
theorem zJS {K:cg} (H:Hp) (v:V) (d:D) (h:DV H v d) (o:d.isObj=false):∃ t,yQ K H v t/\cE K t (.type "bool")=some d.isBool:=let ⟨t,h1,_,h2,_⟩:=gv h o; ⟨t,h1,h2⟩
theorem jb {K:cg} (H:Hp) (v:V) (d:D) (h:DV H v d) (o:d.isObj=false):∃ t,yQ K H v t/\cE K t (.type "list")=some d.isLst:=let ⟨t,h1,_,_,h2,_⟩:=gv h o; ⟨t,h1,h2⟩
theorem X8 {K:cg} (H:Hp) (v:V) (d:D) (h:DV H v d) (o:d.isObj=false):∃ t,yQ K H v t/\cE K t (.type "tuple")=some d.isTup:=let ⟨t,h1,_,_,_,h2⟩:=gv h o; ⟨t,h1,h2⟩
end
inductive zG (F:FL) (vs:List V) (H:Hp) (Q:VK) (E:XK):Prop
 | mk (Z:Addr->Prop) (ds:List D) (R:D->Prop) (zd:ZL Z H) (hv:yJ (zK Z H) vs ds) (h:F ds R) (q:∀ d v H',R d->Sm H H'->DV (zK Z H') v d->Q v H'):zG F vs H Q E
section
variable {P:Program} {w:World} {K:cg} {mg:Str->Option Value} {base:Heap}
theorem qp (n i:Nat):slot (cj n .no) i=.no:=by
 rw [zI7]
 cases h:(cj n Sl.no)[i]? with
 | none=>rfl
 | some x=>exact dG (dh h)
theorem JS {Z:Addr->Prop} {H:Hp} {vs:List V} {ds:List D} (zd:ZL Z H) (h:yJ (zK Z H) vs ds) (n:Nat):zr Z (ds.map Sl.sh++cj n .no) (vs.map some++cj n none) H:=by
 have no:∀ i as,slot (ds.map Sl.sh++cj n .no) i≠.ow as:=X5 λi as h=>by rw [qp] at h; cases h
 have nob:∀ i o c ns as,slot (ds.map Sl.sh++cj n .no) i≠.ob o c ns as:=X4 λi o c ns as h=>by rw [qp] at h; cases h
 refine ⟨?_,λi as e=>absurd e (no i as),λi o c ns as e=>absurd e (nob i o c ns as),λi _ as _ _ e=>absurd e (no i as),zd,?_⟩
 clear nob
 ·induction h with
  | nil=>
   intro i d e
   change slot (cj n .no) i=_ at e
   rw [qp] at e
   cases e
  | @cons v d vs ds hv _ ih=>
   intro i e q
   cases i with
   | zero=>cases q; exact ⟨v,rfl,hv⟩
   | succ i=>
    obtain ⟨u,h1,h2⟩:=ih (λi=>no (i + 1)) i e q
    exact ⟨u,by rw [cT,lI,eJ]; exact h1,h2⟩
 ·rw [b_,b_,a_,a_,df,df,wD h]
theorem zJK {N ps:List Str} {F:FL} {p:xD} (len:∀ ds R,F ds R->ds.length=ps.length) (h2:∀ ds R,F ds R->p { nx:=λ_=>R .non,rt:=R } (ds.map Sl.sh++cj (N.length - ps.length) .no)) {H:Hp} {vs:List V} {Q:VK} {E:XK} (h:zG F vs H Q E):yY p { nx:=λ_ H'=>Q .non H',rt:=Q } (L2.xw N vs) H:=by
 obtain ⟨Z,ds,R,zd,hv,h,q⟩:=h
 have e:L2.xw N vs=vs.map some++cj (N.length - ps.length) none:=by
  unfold L2.xw
  rw [wD hv,len ds R h]
 refine ⟨Z,H,Z,_,_,⟨?_,λ_ h=>h,zd,Sm.refl _,?_,?_⟩,h2 ds R h,λZ' Γ' σ' H' E' _ hn=>q .non .non H' hn E'.same .non,λd v H' s' hv' hd=>q d v H' hd s' hv',λ_ _ _ _ _ _ h=>h.elim,λ_ _ _ _ _ _ h=>h.elim⟩
 ·rw [e]
  exact JS zd hv _
 ·exact λi as l e=>absurd e (X5 (λi as h=>by rw [qp] at h; cases h) i as)
 ·exact λi o c ns as e=>absurd e (X4 (λi o c ns as h=>by rw [qp] at h; cases h) i o c ns as)
theorem zKX {ps:List Str} {F:FL} (len:∀ ds R,F ds R->ds.length=ps.length) (vs:List V) (H:Hp) (Q:VK) (E:XK):zG F vs H Q E->vs.length=ps.length:=λ⟨Z,ds,R,zd,hv,h,q⟩=>by rw [wD hv]; exact len ds R h
theorem okP {x qual:Str} {st:Stmt} {f:Addr} {fd:FuncData} {N ps:List Str} {k:Nat} {F:FL} (Fu:ze K x qual st f fd) (S:zb N ps (zP st)) (len:∀ ds R,F ds R->ds.length=ps.length)
  (hbody:∀ (cdv:Value) (A:Around) (outer:List Env) (s:Shared) (H:Hp) (E:XK),zZ k (A.deeper (envOfC qual (zP st) s.heap.objs.size f cdv))->
   ∃ p,yT (zW zT P w K mg base N qual (zP st) f cdv A outer s H E).nox (xo st) (yY p)/\∀ ds R,F ds R->p { nx:=λ_=>R .non,rt:=R } (ds.map Sl.sh++cj (N.length - ps.length) .no)):zF P w K mg base zT (k + 1) f fd ps (zG F):=
 Fu.ok S (zKX len) λcdv A outer s H vs Q E hr h=>let ⟨p,h1,h2⟩:=hbody cdv A outer s H E hr; ⟨_,h1,zJK len h2 h⟩
theorem JT {x qual:Str} {st:Stmt} {f:Addr} {fd:FuncData} {dv:Value} {N ps:List Str} {k:Nat} {F:FL} (Fu:xh K x qual st f fd dv) (S:zb N ps (zP st)) (len:∀ ds R,F ds R->ds.length=ps.length)
  (hbody:∀ (cdv:Value) (A:Around) (outer:List Env) (s:Shared) (H:Hp) (E:XK),zZ k (A.deeper (envOfC qual (zP st) s.heap.objs.size f cdv))->
   ∃ p,yT (zW zT P w K mg base N qual (zP st) f cdv A outer s H E).nox (xo st) (yY p)/\∀ ds R,F ds R->p { nx:=λ_=>R .non,rt:=R } (ds.map Sl.sh++cj (N.length - ps.length) .no)):zF P w K mg base zT (k + 1) f fd ps (zG F):=
 Fu.ok S (zKX len) λcdv A outer s H vs Q E hr h=>let ⟨p,h1,h2⟩:=hbody cdv A outer s H E hr; ⟨_,h1,zJK len h2 h⟩
theorem zQ {X:Cx} {x:Str} {ps:List Str} {k:Nat} {F:FL} {e:Expr} {es:List Expr} {pl:yp} {p pos:Pos} (c:Fn X.prog X.w X.K X.mg X.base x ps k (zG F)) (hr:zZ k X.A) (hg:Gl X x) (ha:PA X (e :: es) (wJ pl))
  (hdb:(x == ("__debug__" : Str))=false:=by decide) (he:starEach (e :: es) X.env=(false,eval e X.env) :: starEach es X.env:=by rfl) (hpl:(backTo pos (starEach es X.env)).any (·.1)=false:=by rfl) :
  PE X (.Call (.Name x p) (e :: es) [] pos) (tP (jX F pl)):=yK (UU c hr hg ha hdb he hpl) λσ H Q ⟨Z,Γ,R,E,h,q⟩=>
 ⟨Z,Γ,_,E,h,λds vs H1 hd s1 hv=>⟨Z,ds,R,(E.same s1).zd,by rw [dQ]; exact hv,hd,λd v H2 h2 s2 hv2=>q d v H2 h2 (s1.trans s2) hv2⟩⟩
end
end Pu
namespace Pu
open PySem L2 Sh
variable [yW]
open PyProof.Rows (envOfC)
theorem zJE {f:Str} {y:V}:∀ {ns:List Str} {xs:List V},ns.length=xs.length->f∉ns->yi f y (ns.zip xs)=(ns++[f]).zip (xs++[y])
 | [],[],_,_=>rfl
 | [],_ :: _,h,_=>nomatch h
 | _ :: _,[],h,_=>nomatch h
 | n :: ns,x :: xs,h,hf=>by
  show (if n=f then (n,y) :: ns.zip xs else (n,x) :: yi f y (ns.zip xs))=_
  rw [if_neg (λz=>hf (by rw [z]; exact cv)),zJE (Nat.succ.inj h) (λz=>hf (cr _ z))]
  rfl
theorem yk.putO {Z0:Addr->Prop} {H0:Hp} {Z:Addr->Prop} {Γ:List Sl} {σ:St} {H:Hp} (E:yk Z0 H0 Z Γ σ H) {i:Nat} {o c dx:Addr} {ns ns':List Str} {ds ds':List D} {xs:List V} (hs:slot Γ i=.ob o c ns ds) (he:∃ fs,H o=some (.ins c dx fs)) (hl:ns'.length=xs.length) (hx:yJ (zK Z H) xs ds') (one:∀ j o' c' ns' ds',slot Γ j=.ob o' c' ns' ds'->j=i):yk Z0 H0 Z (yA Γ i (.ob o c ns' ds')) σ (zV H o (.ins c dx (ns'.zip xs))):=by
 obtain ⟨dx0,xs0,hl0,hz,el,_⟩:=E.e.ob i o c ns ds hs
 have li:=uF (Γ:=Γ) (i:=i) (by rw [hs]; exact λz=>nomatch z)
 have hp:zL (zK Z H) (zK Z (zV H o (.ins c dx (ns'.zip xs)))):=YJ hz
 have keyw:∀ j d,slot (yA Γ i (.ob o c ns' ds')) j=.ow d->slot Γ j=.ow d:=λj d q=>by
  rw [xa] at q
  by_cases c:j=i/\i < Γ.length
  ·rw [if_pos c] at q; cases q
  ·rw [if_neg c] at q; exact q
 refine ⟨⟨λj d q=>?_,λj d q=>?_,λj o' c' ns1 d q=>?_,λj k as bs m q r=>E.e.ne j k as bs m (keyw j as q) (keyw k bs r),⟨λb hb=>?_,he.elim λ_ e=>yW.put E.e.zd.i e⟩,by rw [qU]; exact E.e.len⟩,E.z0,E.z0d,?_,λj d m q=>E.own j d m (keyw j d q),λj o' c' ns1 d q=>?_⟩
 ·rw [xa] at q
  by_cases c:j=i/\i < Γ.length
  ·rw [if_pos c] at q; cases q
  ·rw [if_neg c] at q
   obtain ⟨v,h1,h2⟩:=E.e.sh j d q
   exact ⟨v,h1,h2.same hp⟩
 ·obtain ⟨m,ys,h1,h2,h3,h4⟩:=E.e.ow j d (keyw j d q)
  have nm:m≠o:=λz=>by rw [z,el] at h3; cases h3
  exact ⟨m,ys,h1,h2,by rw [zl nm]; exact h3,xN hp h4⟩
 ·rw [xa] at q
  by_cases c:j=i/\i < Γ.length
  ·rw [if_pos c] at q
   cases q
   rw [c.1]
   exact ⟨dx,xs,hl0,hz,xv,hl,xN hp hx⟩
  ·rw [if_neg c] at q
   exact absurd ⟨one _ _ _ _ _ q,li⟩ c
 ·obtain ⟨u,e,n⟩:=E.e.zd.z b hb
  by_cases c:b=o
  ·rw [c]; exact ⟨_,xv,λ_ z=>nomatch z⟩
  ·exact ⟨u,by rw [zl c]; exact e,n⟩
 ·exact he.elim λ_ e=>E.same.put (E.owb i o c ns ds hs) e
 ·rw [xa] at q
  by_cases c:j=i/\i < Γ.length
  ·rw [if_pos c] at q
   cases q
   exact E.owb i o _ ns ds hs
  ·rw [if_neg c] at q
   exact E.owb j o' c' ns1 d q
def X9:Sl->(Addr->Addr->List Str->List D->Prop)->Prop
 | .ob o c ns ds,R=>R o c ns ds
 | _,_=>False
theorem zLF {s:Sl} {R:Addr->Addr->List Str->List D->Prop} (h:X9 s R):∃ o c ns ds,s=.ob o c ns ds/\R o c ns ds:=by
 cases s with
 | ob o c ns ds=>exact ⟨o,c,ns,ds,rfl,h⟩
 | _=>exact h.elim
def qr:List Sl->Bool
 | []=>true
 | .ob _ _ _ _ :: _=>false
 | _ :: t=>qr t
theorem WA:∀ {Γ:List Sl},qr Γ=true->∀ j o c ns ds,slot Γ j≠.ob o c ns ds
 | [],_,_,_,_,_,_,h=>nomatch h
 | .no :: _,_,0,_,_,_,_,h=>nomatch h
 | .sh _ :: _,_,0,_,_,_,_,h=>nomatch h
 | .ow _ :: _,_,0,_,_,_,_,h=>nomatch h
 | .ob .. :: _,g,_,_,_,_,_,_=>nomatch g
 | .no :: t,g,j + 1,o,c,ns,ds,h=>WA (Γ:=t) g j o c ns ds h
 | .sh _ :: t,g,j + 1,o,c,ns,ds,h=>WA (Γ:=t) g j o c ns ds h
 | .ow _ :: t,g,j + 1,o,c,ns,ds,h=>WA (Γ:=t) g j o c ns ds h
def zRf (K:cg) (c:Addr) (f:Str):Prop:=uN K c/\ym K c f
def JU (K:cg) (f:Str) (pa:zx):xD:=λT Γ=>pa Γ λd=>X9 (slot Γ 0) λo c ns ds=>zRf K c f/\f∉ns/\ns.length < 900/\qr (Γ.drop 1)=true/\T.nx (yA Γ 0 (.ob o c (ns++[f]) (ds++[d])))
section
variable {X:Cx} {e:Expr} {es:List Expr} {pos:Pos} {pa:zx} {pl:yp} {C:Addr}
theorem wM {K:cg} {f:Str} (D:yf) (σ:St) (H:Hp):yY (JU K f pa) D σ H->ZM K (wU 0) (tP pa) f D σ H:=λ⟨Z0,H0,Z,Γ,Dp,E,h,nx,rt,bk,ct⟩=>
 ⟨Z,Γ,_,E.e,h,λd v H1 hd s1 hv=>by
  obtain ⟨o,c,ns,ds,hs,hk,hf,hn,hn2,hd⟩:=zLF hd
  obtain ⟨dx,xs,hl,hz,el,ln,hx⟩:=(E.mv s1).e.ob 0 o c ns ds hs
  refine ⟨.ref o,hl,o,c,dx,_,rfl,el,hk.1,hk.2,by rw [dE]; omega,?_⟩
  rw [zJE ln hf]
  refine nx Z _ _ _ ((E.mv s1).putO hs ⟨_,el⟩ (by rw [b_,b_,ln]; rfl) (ZZ hv hx) ?_) ((yg s1).trans (YJ hz)) hd
  intro j o' c' ns' ds' q
  cases j with
  | zero=>rfl
  | succ j=>
   cases Γ with
   | nil=>cases q
   | cons x t=>exact absurd q (WA (Γ:=t) hn2 j o' c' ns' ds')⟩
inductive vU (C:Addr) (F:FL) (vs:List V) (H:Hp) (Q:VK) (E:XK):Prop
 | mk (Z:Addr->Prop) (ds:List D) (R:D->Prop) (o dx:Addr) (us:List V) (e:vs=.ref o :: us) (ho:H o=some (.ins C dx [])) (hz:¬ Z o) (zd:ZL Z H) (hv:yJ (zK (λb=>Z b\/b=o) H) us ds) (h:F ds R) (q:∀ d H',R d->Sm (less o H) H'->DV (zK Z H') (.ref o) d->Q .non H'):vU C F vs H Q E
theorem zNG {N ps:List Str} {F:FL} {p:xD} (len:∀ ds R,F ds R->ds.length=ps.length) (h2:∀ o ds R,F ds R->p { nx:=λΓ=>X9 (slot Γ 0) λo' c ns es=>o'=o/\R (.obj c ns es),rt:=λ_=>False } (.ob o C [] [] :: (ds.map Sl.sh++cj (N.length - (ps.length + 1)) .no))) {H:Hp} {vs:List V} {Q:VK} {E:XK} (h:vU C F vs H Q E):yY p { nx:=λ_ H'=>Q .non H',rt:=Q } (L2.xw N vs) H:=by
 obtain ⟨Z,ds,R,o,dx,us,e,ho,hz,zd,hv,h,q⟩:=h
 subst e
 have e:L2.xw N (.ref o :: us)=some (.ref o) :: (us.map some++cj (N.length - (ps.length + 1)) none):=by
  unfold L2.xw
  rw [cJ,wD hv,len ds R h]
  rfl
 have zd':ZL (λb=>Z b\/b=o) H:=⟨λb hb=>hb.elim (zd.z b) λz=>by rw [z]; exact ⟨_,ho,λ_ z=>nomatch z⟩,zd.i⟩
 have E0:=JS zd' hv (N.length - (ps.length + 1))
 refine ⟨Z,less o H,λb=>Z b\/b=o,_,_,⟨?_,λ_ h=>.inl h,⟨λb hb=>?_,yW.less zd.i ho⟩,.of zNP,?_,?_⟩,h2 o ds R h,λZ' Γ' σ' H' E' _ hn=>?_,λ_ _ _ _ _ h=>h.elim,λ_ _ _ _ _ _ h=>h.elim,λ_ _ _ _ _ _ h=>h.elim⟩
 ·rw [e]
  refine ⟨λi d q=>?_,λi d q=>?_,λi o' c ns d q=>?_,λi j as bs l q r=>?_,zd',by rw [cJ,cJ,E0.len]⟩
  ·cases i with
   | zero=>cases q
   | succ i=>exact E0.sh i d q
  ·cases i with
   | zero=>cases q
   | succ i=>exact E0.ow i d q
  ·cases i with
   | zero=>cases q; exact ⟨dx,[],rfl,.inr rfl,ho,rfl,.nil⟩
   | succ i=>exact E0.ob i o' c ns d q
  ·cases i with
   | zero=>cases q
   | succ i=>
    cases j with
    | zero=>cases r
    | succ j=>exact λa b=>congrArg _ (E0.ne i j as bs l q r a b)
 ·obtain ⟨u,e1,n⟩:=zd.z b hb
  exact ⟨u,(if_neg λz=>hz (by rw [<- z]; exact hb)).trans e1,n⟩
 ·intro i as l q
  cases i with
  | zero=>cases q
  | succ i=>exact absurd q (X5 (λi as h=>by rw [qp] at h; cases h) i as)
 ·intro i o' c ns as q
  cases i with
  | zero=>cases q; exact if_pos rfl
  | succ i=>exact absurd q (X4 (λi o c ns as h=>by rw [qp] at h; cases h) i o' c ns as)
 ·obtain ⟨o',c,ns,es,hs,e2,hR⟩:=zLF hn
  subst e2
  obtain ⟨dx',xs,hl,hz',el,ln,hx⟩:=E'.e.ob 0 o' c ns es hs
  refine q _ H' hR E'.same (.obj (xj hz el) ln (xN (gp E'.z0) hx))
theorem zOl {ps:List Str} {p0:Str} {F:FL} (len:∀ ds R,F ds R->ds.length=ps.length) (vs:List V) (H:Hp) (Q:VK) (E:XK):vU C F vs H Q E->vs.length=(p0 :: ps).length:=λ⟨Z,ds,R,o,dx,us,e,ho,hz,zd,hv,h,q⟩=>by rw [e,cJ,cJ,wD hv,len ds R h]
theorem WB {P:Program} {w:World} {K:cg} {mg:Str->Option Value} {base:Heap} {x qual:Str} {st:Stmt} {f:Addr} {fd:FuncData} {N ps:List Str} {p0:Str} {k:Nat} {F:FL} (Fu:ze K x qual st f fd) (S:zb N (p0 :: ps) (zP st)) (len:∀ ds R,F ds R->ds.length=ps.length)
  (hbody:∀ (cdv:Value) (A:Around) (outer:List Env) (s:Shared) (H:Hp) (E:XK),zZ k (A.deeper (envOfC qual (zP st) s.heap.objs.size f cdv))->
   ∃ p,yT (zW zT P w K mg base N qual (zP st) f cdv A outer s H E).nox (xo st) (yY p)/\∀ o ds R,F ds R->p { nx:=λΓ=>X9 (slot Γ 0) λo' c ns es=>o'=o/\R (.obj c ns es),rt:=λ_=>False } (.ob o C [] [] :: (ds.map Sl.sh++cj (N.length - (ps.length + 1)) .no))):zF P w K mg base zT (k + 1) f fd (p0 :: ps) (vU C F):=
 Fu.ok S (zOl len) λcdv A outer s H vs Q E hr h=>let ⟨p,h1,h2⟩:=hbody cdv A outer s H E hr; ⟨_,h1,zNG len h2 h⟩
theorem zMW {F:FL} {ev:List V} {ed:List D} (he:∀ H,yJ H ev ed) (σ:St) (H:Hp) (Q:VK):tP (jX (λds=>F (ds++ed)) pl) σ H Q->Xf C (vU C F) ev E0 (wJ pl) σ H Q:=λ⟨Z,Γ,R,E,h,q⟩=>
 ⟨Z,Γ,_,E,h,λds vs H1 hd s1 hv x dx hx hdx ne=>by
  have zd:=(E.same s1).zd
  have s2:Sm H1 (zV (zV H1 dx (.own x)) x (.ins C dx [])):=.of (zKg hx hdx ne _ _)
  refine ⟨Z,ds++ed,R,x,dx,vs++ev,rfl,xv,zd.new hx,zd.same s2,?_,hd,λd H' hR sb dv=>⟨rfl,q d _ H' hR (zP4 (s1.trans s2) xv sb ?_) dv⟩⟩
  ·refine qF (xN ?_ hv) (he _)
   intro b o e
   obtain ⟨n1,n2⟩:=uE e
   exact xj (λz=>z.elim n1 (wC n2 hx)) (s2.at n2 (qS e)) (qS e)
  ·exact s1.free hx⟩
theorem zOh {F:FL} (σ:St) (H:Hp) (Q:VK) (h:tP (jX F pl) σ H Q):Xf C (vU C F) [] E0 (wJ pl) σ H Q:=zMW (ed:=[]) (λ_=>.nil) σ H Q (by rw [show (λds=>F (ds++[]))=F from funext λds=>by rw [dQ]]; exact h)
theorem WC {x:Str} {ps:List Str} {k:Nat} {F:FL} {p:Pos} (c:ur X.prog X.w X.K X.mg X.base C ps k (vU C F)) (T:yo X.K X.mg x C) (hr:zZ (k + 1) X.A) (hg:Gl X x) (ha:PA X (e :: es) (wJ pl))
  (hdb:(x == ("__debug__" : Str))=false:=by decide) (he:starEach (e :: es) X.env=(false,eval e X.env) :: starEach es X.env:=by rfl) (hpl:(backTo pos (starEach es X.env)).any (·.1)=false:=by rfl) :
  PE X (.Call (.Name x p) (e :: es) [] pos) (tP (jX F pl)):=yK (zMx c T hr hg ha hdb he hpl) zOh
theorem vf {x:Str} {ps:List Str} {k:Nat} {F:FL} {p:Pos} {dv:V} (dd:D) (hd:∀ H,DV H dv dd) (c:vp X.prog X.w X.K X.mg X.base x ps k (zG F) dv) (hr:zZ k X.A) (hg:Gl X x) (ha:PA X (e :: es) (wJ pl))
  (hdb:(x == ("__debug__" : Str))=false:=by decide) (he:starEach (e :: es) X.env=(false,eval e X.env) :: starEach es X.env:=by rfl) (hpl:(backTo pos (starEach es X.env)).any (·.1)=false:=by rfl) :
  PE X (.Call (.Name x p) (e :: es) [] pos) (tP (jX (λds=>F (ds++[dd])) pl)):=yK (zK1 c hr hg ha hdb he hpl) λσ H Q ⟨Z,Γ,R,E,h,q⟩=>
 ⟨Z,Γ,_,E,h,λds vs H1 hd' s1 hv=>⟨Z,ds++[dd],R,(E.same s1).zd,qF hv (.cons (hd _) .nil),hd',λd v H2 h2 s2 hv2=>q d v H2 h2 (s1.trans s2) hv2⟩⟩
def YN (K:cg) (f:Str):D->(D->Prop)->Prop
 | .obj c ns ds,R=>zRf K c f/\∃ d,(ns.zip ds).lookup f=some d/\R d
 | _,_=>False
theorem zHr {H:Hp} {f:Str} {d:D}:∀ {ns:List Str} {xs:List V} {ds:List D},ns.length=xs.length->yJ H xs ds->(ns.zip ds).lookup f=some d->∃ v,(ns.zip xs).lookup f=some v/\DV H v d
 | [],_,_,_,_,h=>nomatch h
 | _ :: _,[],_,h,_,_=>nomatch h
 | n :: ns,x :: xs,_,h,.cons (b:=d') (l₂:=dt) k t,q=>by
  change (match f == n with | true=>some d' | false=>(ns.zip dt).lookup f)=some d at q
  show ∃ v,(match f == n with | true=>some x | false=>(ns.zip xs).lookup f)=some v/\_
  cases e:f == n with
  | true=>rw [e] at q; cases q; exact ⟨x,rfl,k⟩
  | false=>rw [e] at q; exact zHr (Nat.succ.inj h) t q
theorem zu (K:cg) {f:Str} (ha:PE X e (tP pa)) (hb:attributeBase e f X.env (eval e X.env)=eval e X.env) (hK:X.K=K:=by rfl):PE X (.Attribute e f pos) (tP (Zr (YN K f) pa)):=yK (zQU ha hb) λσ H Q ⟨Z,Γ,R,E,h,q⟩=>
 ⟨Z,Γ,_,E,h,λd v H1 hd s1 hv=>by
  unfold YN at hd
  split at hd
  ·obtain ⟨hk,d',hl,hR⟩:=hd
   cases hv with
   | obj e1 l1 h1=>
    obtain ⟨v,e2,dv⟩:=zHr l1 h1 hl
    exact ⟨_,_,_,_,v,rfl,zo _ _ e1,by rw [hK]; exact hk.1,by rw [hK]; exact hk.2,e2,q _ _ H1 hR s1 dv⟩
  ·exact hd.elim⟩
def zQs (C:Addr) (m:Str) (F:FL):D->(D->Prop)->Prop
 | .obj c ns ds,R=>c=C/\m∉ns/\F [.obj c ns ds] R
 | _,_=>False
theorem Xj {f:Str}:∀ {ns:List Str} {xs:List V},f∉ns->(ns.zip xs).lookup f=none
 | [],_,_=>rfl
 | _ :: _,[],_=>rfl
 | n :: ns,x :: xs,h=>by
  show (match f == n with | true=>some x | false=>(ns.zip xs).lookup f)=none
  have e:(f == n)=false:=beq_eq_false_iff_ne.mpr λz=>h (by rw [z]; exact cv)
  rw [e]
  exact Xj λz=>h (cr _ z)
theorem gw {x m:Str} {ps:List Str} {k:Nat} {F:FL} {apos:Pos} {pl:Sem Bool} (c:uB X.prog X.w X.K X.mg X.base C m ps k (zG F)) (T:yo X.K X.mg x C) (hr:zZ k X.A) (ha:PE X e (tP pa))
  (ht:eval (.Call (.Attribute e m apos) [] [] pos) X.env=(do
   let ov <- eval e X.env
   standAt apos.atName
   let (f,first) <- holding [ov] (getMethod ov m pl)
   callWith pos f first (backTo pos (starEach [] X.env)) (backToKw pos (keywordEach [] X.env))):=by rfl) :
  PE X (.Call (.Attribute e m apos) [] [] pos) (tP (Zr (zQs C m F) pa)):=yK (zKx c T hr ha ht) λσ H Q ⟨Z,Γ,R,E,h,q⟩=>
 ⟨Z,Γ,_,E,h,λd v H1 hd s1 hv=>by
  unfold zQs at hd
  split at hd
  ·obtain ⟨rfl,hm,hR⟩:=hd
   have hv0:=hv
   cases hv with
   | obj e1 l1 h1=>exact ⟨_,_,_,rfl,zo _ _ e1,Xj hm,Z,_,R,(E.same s1).zd,.cons hv0 .nil,hR,λd v H2 h2 s2 hv2=>q d v H2 h2 (s1.trans s2) hv2⟩
  ·exact hd.elim⟩
def zQ8 (K:cg) (C:Addr):D->(D->Prop)->Prop
 | .obj c _ _,R=>(∃ mg x,yo K mg x c)/\∃ b,cE K (.ref c) (.ref C)=some b/\R (.bool b)
 | _,_=>False
theorem qt {K:cg} (σ:St) (H:Hp) (Q:VK):tP (Zr (zQ8 K C) pa) σ H Q->gb (zNy K) (um (tP pa) (um (tC (.ref C)) wS)) σ H Q:=λ⟨Z,Γ,R,E,h,q⟩=>
 ⟨Z,Γ,_,E,h,λd v H1 hd s1 hv=>by
  unfold zQ8 at hd
  split at hd
  ·obtain ⟨⟨mg,x,T⟩,b,hk,hR⟩:=hd
   cases hv with
   | obj e1 l1 h1=>exact ⟨_,_,_,b,rfl,T.ty (zo _ _ e1),hk,q _ _ H1 hR s1 (.bool _)⟩
  ·exact hd.elim⟩
def YO (pa:zx):xD:=λT Γ=>pa Γ λ_=>T.nx Γ
theorem zMj (he:PE X e (tP pa)) (hs:swapsWith e none pos.line X.env=pure false:=by rfl):PS X (.Expr e pos) (yY (YO pa)):=yF (xb he hs) λD σ H ⟨Z0,H0,Z,Γ,Dp,E,h,nx,rt,bk,ct⟩=>
 ⟨Z,Γ,_,E.e,h,λd v H1 hd s1 hv=>nx Z Γ σ H1 (E.mv s1) (yg s1) hd⟩
end
end Pu
namespace Pu
open PySem L2 Sh
variable [yW]
def jc (k:Nat):List D->List D
 | []=>[]
 | d :: t=>xR (.int (k:Int)) d :: jc (k + 1) t
theorem JV:∀ (k:Nat) (ds:List D),(jc k ds).length=ds.length
 | _,[]=>rfl
 | k,_ :: t=>congrArg (· + 1) (JV (k + 1) t)
theorem JW:∀ {k:Nat} {ds:List D} {i:Nat} {e:D},(jc k ds)[i]? = some e->∃ d,ds[i]? = some d/\e=xR (.int ((k + i:Nat):Int)) d
 | _,[],_,_,h=>by simp [jc] at h
 | k,d :: t,0,e,h=>⟨d,rfl,by simp [jc] at h; exact h.symm⟩
 | k,d :: t,i + 1,e,h=>by
  obtain ⟨d',h1,h2⟩:=JW (k:=k + 1) (ds:=t) (i:=i) (e:=e) (by simpa [jc] using h)
  exact ⟨d',by simpa using h1,by rw [h2,show k + 1 + i=k + (i + 1) by omega]⟩
theorem zMS {K:cg} {Z:Addr->Prop} {H:Hp} {p:Addr} {k:Nat} {xs:List V} {ds:List D} (e:zK Z H p=some (.lst xs)) (h:yJ (zK Z H) xs ds):Wk Z (qH K p k) H (jc k ds):=λi Z' H' s zd=>by
 have e1:=zo _ _ (s _ _ e)
 refine ⟨λd hd=>?_,λhi=>⟨xs,zw.of e1,by rw [JV] at hi; rw [wD h]; omega⟩⟩
 obtain ⟨d',hd',rfl⟩:=JW hd
 obtain ⟨x,hx,hh⟩:=YC h hd'
 refine ⟨⟨xs,x,zw.of e1,hx⟩,λy H'' ⟨T,x',ev,hT,eH,q⟩=>?_⟩
 have:=q xs (zw.of e1)
 rw [hx] at this
 cases this
 subst ev
 subst eH
 exact ⟨wP hT _,Xy zd hT (.cons (.int _) (.cons (hh.same s) .nil))⟩
def YQ:List D->(List D->Prop)->Prop
 | [.lst ds],R=>R ds
 | _,_=>False
def enD (ds:List D):D->(List D->Prop)->Prop
 | .int i,R=>0<=i/\i<=1000/\R (jc i.toNat ds)
 | _,_=>False
def JX (pl:yp) (pb:zx):yp:=λΓ R=>pl Γ λds=>YQ ds λes=>pb Γ λd=>enD es d R
section
variable {X:Cx} {e1 e2:Expr} {pos:Pos} {pb:zx} {pl:yp}
theorem zKk {ts:List Expr} {kk:Nat} {tp p kp:Pos} (hg:Gl X "enumerate") (hm:X.mg "enumerate" = none) (ha:PA X [e1] (wJ pl)) (he:PE X e2 (tP pb)) (hs:starEach [e1] X.env=[(false,eval e1 X.env)]:=by rfl) (hs2:starEach [] X.env=[]:=by rfl) :
  PI X (.Tuple ts kk tp) (.Call (.Name "enumerate" p) [e1] [⟨some "start",e2,kp⟩] pos) (ja (JX pl pb)):=X3 (zMv hg hm ha he hs hs2) λσ H Q ⟨Z,Γ,R,E,h,q⟩=>
 ⟨Z,Γ,_,E,h,λds vs H1 hd s1 hv=>by
  unfold YQ at hd
  split at hd
  ·obtain ⟨v,rfl,hw⟩:=xI hv
   obtain ⟨a,xs,rfl,ea,hx⟩:=hw.lst_inv
   refine ⟨a,rfl,Z,Γ,_,E.same s1,hd,λd u H2 hd2 s2 hu=>?_⟩
   unfold enD at hd2
   split at hd2
   ·rename_i i
    obtain ⟨h0,h1,hR⟩:=hd2
    cases hu
    have e2:=yg (Z:=Z) s2 _ _ ea
    refine ⟨i.toNat,by rw [show ((i.toNat:Nat):Int)=i by omega],?_,⟨xs,zw.of (zo _ _ e2)⟩,q _ _ H2 hR (s1.trans s2) (zMS e2 (xN (yg s2) hx))⟩
    unfold Builtin.SmallTypes.fitsIndex
    rw [decide_eq_true (by omega),decide_eq_true (by omega)]
    rfl
   ·exact hd2.elim
  ·exact hd.elim⟩
end
end Pu
namespace Pu
open PySem L2 Sh
variable [yW]
section
variable {X:Cx} {a:Expr} {pos:Pos} {pa:zx}
def slS:D->Option Int->Option Int->(D->Prop)->Prop
 | .frz ds,lo,hi,R=>R (.lst (yc ds lo hi))
 | _,_,_,_=>False
def JY (pa:zx) (po qo:qV):zx:=λΓ R=>pa Γ λd=>po Γ λl=>qo Γ λu=>slS d l u R
theorem zKo {lo hi:Option Expr} {po qo:qV} {p2:Pos} (ha:PE X a (tP pa)) (hl:PO X lo (qW po)) (hu:PO X hi (qW qo)):PE X (.Subscript a (.Slice lo hi none p2) pos) (tP (JY pa po qo)):=yK (zJJ zKZ ha hl hu) λσ H Q ⟨Z,Γ,R,E,h,q⟩=>
 ⟨Z,Γ,_,E,h,λd v H1 hd s1 hv=>⟨Z,Γ,_,E.same s1,hd,λl H2 hl s2=>⟨Z,Γ,_,E.same (s1.trans s2),hl,λu H3 hu s3=>by
  have s:=s1.trans (s2.trans s3)
  have hv:=hv.same (yg (s2.trans s3))
  have zd:=(E.same s).zd
  unfold slS at hu
  split at hu
  ·obtain ⟨p,xs,rfl,e,h1⟩:=hv.frz_inv
   exact ⟨_,_,rfl,.inl (uu zo e),λn hn=>q _ _ _ hu (s.trans (wP hn _)) (uT zd hn (U8 h1 _ _))⟩
  ·exact hu.elim⟩⟩⟩
end
end Pu
namespace L2
open PySem PySem.Spec PyProof.Rows
structure Zt (z TI TO i1 i2 i3:Addr) (f1 f2 f3:List Addr):Prop where
 zI:TI≠z
 zO:TO≠z
 z1:i1≠z
 z2:i2≠z
 z3:i3≠z
 IO:TI≠TO
 I1:TI≠i1
 I2:TI≠i2
 I3:TI≠i3
 O1:TO≠i1
 O2:TO≠i2
 O3:TO≠i3
 n1:z∉f1
 n2:z∉f2
 n3:z∉f3
 o1:TO∉f1
 o2:TO∉f2
 o3:TO∉f3
 e12:i1∉f2
 e13:i1∉f3
 e21:i2∉f1
 e23:i2∉f3
 e31:i3∉f1
 e32:i3∉f2
end L2
namespace L2
open PySem PySem.Spec PyProof.Rows
theorem zMn {X:Cx} {ss:List Stmt}:yT X ss (λ_ _ _=>False):=λ_ _ _ _ _ _ h=>h.elim
end L2
namespace Pu
open PySem L2 Sh
variable [yW]
open PyProof.Rows (envOfC)
inductive jd (F:Addr->List D->Prop) (vs:List V) (H:Hp) (Q:VK) (E:XK):Prop
 | mk (Z:Addr->Prop) (ds:List D) (C:Addr) (zd:ZL Z H) (hv:yJ (zK Z H) vs ds) (h:F C ds) (q:∀ H',Sm H H'->E (.ref C) none H'):jd F vs H Q E
theorem zKW {ps:List Str} {F:Addr->List D->Prop} (len:∀ C ds,F C ds->ds.length=ps.length) (vs:List V) (H:Hp) (Q:VK) (E:XK):jd F vs H Q E->vs.length=ps.length:=λ⟨_,ds,C,_,hv,h,_⟩=>by rw [wD hv]; exact len C ds h
theorem JZ {N ps:List Str} {Z:Addr->Prop} {H:Hp} {vs:List V} {ds:List D} (zd:ZL Z H) (hv:yJ (zK Z H) vs ds) (l:ds.length=ps.length):zr Z (ds.map Sl.sh++cj (N.length - ps.length) .no) (L2.xw N vs) H:=by
 have e:L2.xw N vs=vs.map some++cj (N.length - ps.length) none:=by
  unfold L2.xw
  rw [wD hv,l]
 rw [e]
 exact JS zd hv _
theorem YR {p:wI} {pl:yp} {u:TS} {C:Addr} {E:XK} {D0:yf} {σ:St} {H:Hp} {Z:Addr->Prop} {Γ:List Sl} (e:zr Z Γ σ H) (h:p Γ λc=>c=true) (ha:pl Γ λds=>ds.length<=1000) (q:∀ H',Sm H H'->E (.ref C) none H'):u9 (j3 (xF p) (u9 (zNq C E (wJ pl)) XU) u) XU D0 σ H:=
 ⟨Z,Γ,_,e,h,λc H1 hc s1=>by
  subst hc
  rw [if_pos rfl]
  exact ⟨Z,Γ,_,e.same s1,ha,λds vs H2 hd s2 hv=>⟨few (by rw [wD hv]; exact hd),q H2 (s1.trans s2)⟩⟩⟩
theorem zOe {F:Addr->List D->Prop} {pl:yp} {E:XK} {D0:yf} {σ:St} {H:Hp} {Z:Addr->Prop} {Γ:List Sl} {C:Addr} {u:TS} (e:zr Z Γ σ H) (h:pl Γ λds=>F C ds) (q:∀ H',Sm H H'->E (.ref C) none H'):u9 (gW (jC (jd F) [] E (wJ pl))) u D0 σ H:=
 ⟨Z,Γ,_,e,h,λds vs H1 hd s1 hv=>⟨Z,ds,C,(e.same s1).zd,by rw [dQ]; exact hv,hd,λH2 s2=>q H2 (s1.trans s2)⟩⟩
end Pu
namespace Pu
open PySem L2 Sh
variable [yW]
open PyProof.Rows (envOfC)
abbrev YS (F:FL) (n:Nat):Prop:=∀ ds R,F ds R->ds.length=n
section
variable {P:Program} {w:World} {K:cg} {mg:Str->Option Value} {base:Heap} {x qual:Str} {st:Stmt} {f c C:Addr} {fd:FuncData} {dv:Value} {N ps:List Str} {p0:Str} {k:Nat} {F:FL}
theorem zz (Fu:ze K x qual st f fd) (S:zb N ps (zP st)) (hbody:∀ (cdv:Value) (A:Around) (outer:List Env) (s:Shared) (H:Hp) (E:XK),zZ k (A.deeper (envOfC qual (zP st) s.heap.objs.size f cdv))->
   ∃ p,yT (zW zT P w K mg base N qual (zP st) f cdv A outer s H E).nox (xo st) (yY p)/\∀ ds R,F ds R->p { nx:=λ_=>R .non,rt:=R } (ds.map Sl.sh++cj (N.length - ps.length) .no)) (len:YS F ps.length:=by intro _ _ h; repeat (first | exact congrArg di h.1 | obtain ⟨_,h⟩:=h)):zF P w K mg base zT (k + 1) f fd ps (zG F):=okP Fu S len hbody
theorem YT (Fu:xh K x qual st f fd dv) (S:zb N ps (zP st)) (hbody:∀ (cdv:Value) (A:Around) (outer:List Env) (s:Shared) (H:Hp) (E:XK),zZ k (A.deeper (envOfC qual (zP st) s.heap.objs.size f cdv))->
   ∃ p,yT (zW zT P w K mg base N qual (zP st) f cdv A outer s H E).nox (xo st) (yY p)/\∀ ds R,F ds R->p { nx:=λ_=>R .non,rt:=R } (ds.map Sl.sh++cj (N.length - ps.length) .no)) (len:YS F ps.length:=by intro _ _ h; repeat (first | exact congrArg di h.1 | obtain ⟨_,h⟩:=h)):zF P w K mg base zT (k + 1) f fd ps (zG F):=JT Fu S len hbody
end
section
variable {X:Cx} {a b e:Expr} {es:List Expr} {pos pos':Pos} {pa pb:zx} {pl:yp} {x:Str}
theorem zN (ha:PE X a (tP pa)) (hb:PE X b (tP pb)) (hs:Xg b:=by exact λ_ _=>rfl):PE X (.Subscript a b pos) (tP (xu Zx pa pb)):=Zz ha hb hs
theorem zj (i:Nat) (hN:X.N.Nodup) (he:PE X e (tP pa)) (hi:X.N[i]? = some x:=by rfl) (hx:v5 X.env.scope x:=by first | exact Or.inl rfl | exact Or.inr rfl) (hs:swapsWith e (some (.Name x pos')) pos.line X.env=pure false:=by rfl) (hf:X.fn x=true\/X.env.scope.names.lookup x=some .local:=by first | exact .inl rfl | exact .inr rfl | assumption):PS X (.Assign [.Name x pos'] e pos) (yY (qm i pa)):=zOt i hN hi hx he hs hf
theorem yG (i:Nat) (hN:X.N.Nodup) (hi:X.N[i]? = some x:=by rfl) (hx:v5 X.env.scope x:=by first | exact Or.inl rfl | exact Or.inr rfl) (hf:X.fn x=true\/X.env.scope.names.lookup x=some .local:=by first | exact .inl rfl | exact .inr rfl | assumption):PG X (.Name x pos) (tG [i] JA):=zMk i hN hi hx hf
theorem zc {js:List Nat} {po:List D->Option (List D)} {n:Nat} (i:Nat) (hN:X.N.Nodup) (h:jZ X es js po n) (hi:X.N[i]? = some x:=by rfl) (hx:v5 X.env.scope x:=by first | exact Or.inl rfl | exact Or.inr rfl)
  (hs:(assignEach (.Name x pos :: es) X.env).map (·.2)=assign (.Name x pos) X.env :: (assignEach es X.env).map (·.2):=by rfl) (hf:X.fn x=true\/X.env.scope.names.lookup x=some .local:=by first | exact .inl rfl | exact .inr rfl | assumption):jZ X (.Name x pos :: es) (i :: js) (JB po) (n + 1):=zKl i hN hi hx h hs hf
theorem zv (l:List Str) (h:l.Nodup:=by decide +kernel):l.Nodup:=h
theorem yN {scope S:Scope} {own N ps:List Str} {caps:List (Nat × Str)} (_:zb N ps S) (k:scope.kind=.function:=by rfl) (nd:(scope.names.map (·.1)).Nodup:=by decide +kernel) (hS:X.env.scope=S:=by rfl) (hc:∃ n,X.env.cells=cellsFrom n S.names []:=by first | exact ⟨0,rfl⟩ | exact ⟨_,rfl⟩) (hN:X.N=N:=by rfl) (fr:scope.names.all (λy=>y.2 != .free || S.names.lookup y.1 == some .cell)=true:=by decide +kernel)
  (cp:caps.all (λp=>N[p.1]? == some p.2 && scope.names.lookup p.2 == some .free && S.names.lookup p.2 == some .cell)=true:=by decide +kernel):uA X scope own caps:=zNi k nd hS hc hN fr cp
theorem WD {Y:Cx} {scope S:Scope} {own own0:List Str} {caps caps0:List (Nat × Str)} {C:Addr} {s₀:Shared} {H₀:Hp} {ex:List Addr} (k:scope.kind=.function:=by rfl) (nd:(scope.names.map (·.1)).Nodup:=by decide +kernel)
  (ndS:(S.names.map (·.1)).Nodup:=by decide +kernel) (fr:scope.names.all (λy=>y.2 != .free || S.names.lookup y.1 == some .cell || S.names.lookup y.1 == some .free)=true:=by decide +kernel)
  (cp:caps.all (λp=>(zm own0 caps0)[p.1]? == some p.2 && scope.names.lookup p.2 == some .free)=true:=by decide +kernel):uA (xM Y S (zm own0 caps0) C s₀ H₀ ex) scope own caps:=zRZ k nd ndS fr cp
end
end Pu
namespace Pu
open PySem L2 Sh
variable [yW]
section
variable {X:Cx} {a b e:Expr} {pos:Pos} {pa pb:zx}
def eqG (neg:Bool):F2:=λa b R=>a.pl 50=true/\b.pl 50=true/\R (.bool (neg != ik a.py b.py))
theorem zPH {K:cg}:wj (λx y H Q=>∃ d e:PyData,Dp K H x d/\Dp K H y e/\d.canLay0=true/\e.canLay0=true/\d.depth<=60/\e.depth<=60/\Q (.bl (!PyData.eqv d e)) H) (eqG true):=λZ H x y a b R Q zd hx hy ⟨h1,h2,h⟩ q=>by
 have d1:=uG _ _ h1
 have d2:=uG _ _ h2
 have e1:=d1.dep
 have e2:=d2.dep
 refine ⟨_,_,d1.dp K H _ (hx.same zo),d2.dp K H _ (hy.same zo),d1.lay,d2.lay,by omega,by omega,q _ _ H ?_ (Sm.refl _) (.bool _)⟩
 rw [Bool.true_bne] at h
 exact h
theorem zOr (hu:X.A.units + 64 < cLine) (ha:PE X a (tP pa)) (hb:PE X b (tP pb)):PT X (.Compare a [.NotEq] [b] pos) (xF (wK (xu (eqG true) pa pb))):=qh (zOA hu) zPH (uM _) ha hb
end
end Pu
namespace L2
open PySem PySem.Spec PyProof.Rows
theorem zQI {X:Cx} {st:Stmt} {t u:TX} (h1:gm X st t) (h2:gm X st u):gm X st (λES D σ H=>t ES D σ H\/u ES D σ H):=λpins s σ H D ES I h=>h.elim (h1 pins s σ H D ES I) (h2 pins s σ H D ES I)
theorem zE.retold {X:Cx} {pins:List (Addr × Obj)} {σ:St} {H H2:Hp} {s:Shared} (I:zE X pins σ H s) (n:∀ a,H a=none->H2 a=none) (tups:∀ b xs,H b=some (.tup xs)->H2 b=some (.tup xs)) (frzs:∀ b o u,X.H₀ b=some (.frz o u)->H2 b=some (.frz o u)) (tbls:∀ b ps,H b=some (.tbl ps)->H2 b=some (.tbl ps)) (ok:yn X.prog X.w H2 s.heap):zE X pins σ H2 s:=
 ⟨I.ok,I.os,I.bare,⟨I.base.keep,I.base.slot,λb o e k x=>n b (I.base.free b o e k x),I.base.there,λb xs e=>tups b xs (I.base.tups b xs e),frzs,λb ps e=>let ⟨m,q⟩:=I.base.tbls b ps e; ⟨m,tbls b _ q⟩⟩,I.loc,I.cell,n _ I.free,λx c e=>n _ (I.freeC x c e),λp hp=>let ⟨a,b,c⟩:=I.pin p hp; ⟨a,n _ b,c⟩,ok,I.len⟩
structure Fz (H H2:Hp):Prop where
 l:∀ a xs,H a=some (.lst xs)->∃ o,H2 a=some (.frz o (.lst xs))
 o:∀ a,(∀ xs,H a≠some (.lst xs))->H2 a=H a
def qu (h:Heap) (H:Hp):Hp:=λa=>match H a with
 | some (.lst xs)=>(h.get? a).map λo=>.frz o (.lst xs)
 | x=>x
theorem Ja {h:Heap} {H:Hp} {a:Addr} (n:∀ xs,H a≠some (.lst xs)):qu h H a=H a:=by
 unfold qu
 split
 ·rename_i xs e; exact absurd e (n xs)
 ·rfl
theorem YU {P:Program} {w:World} {H:Hp} {h:Heap} (ok:yn P w H h):Fz H (qu h H)/\yn P w (qu h H) h:=by
 have at_:∀ a xs,H a=some (.lst xs)->∃ o,h.get? a=some o/\qu h H a=some (.frz o (.lst xs)):=λa xs e=>by
  obtain ⟨_,its,n,_,g⟩:=ok a _ e
  refine ⟨_,g,?_⟩
  unfold qu
  rw [e]
  show (h.get? a).map _=_
  rw [g]
  rfl
 have oth:∀ {a o},H a=some o->(∀ xs,o≠.lst xs)->qu h H a=some o:=λe n=>(Ja λxs z=>by rw [e] at z; exact n xs (Option.some.inj z)).trans e
 refine ⟨⟨λa xs e=>let ⟨o,_,q⟩:=at_ a xs e; ⟨o,q⟩,λa n=>Ja n⟩,λa u q=>?_⟩
 by_cases c:∃ xs,H a=some (.lst xs)
 ·obtain ⟨xs,e⟩:=c
  obtain ⟨o,g,q2⟩:=at_ a xs e
  rw [q2] at q
  cases q
  exact ⟨g,ok a _ e⟩
 ·rw [Ja λxs e=>c ⟨xs,e⟩] at q
  exact (ok a u q).stay (λ_ _ _ z=>z) (λb z=>oth z λxs y=>nomatch y) λb xs z=>oth z λys y=>nomatch y
theorem YV {X:Cx} {ss:List Stmt} {t:TS} (h:yT X ss t):yT X ss (λD σ H=>∀ H2,Fz H H2->t D σ H2):=λpins s σ H D I k=>by
 obtain ⟨f,ok⟩:=YU I.hok
 refine h pins s σ _ D (I.retold (λa n=>(f.o a λxs z=>by rw [n] at z; cases z).trans n) (λb xs e=>(f.o b λys z=>by rw [e] at z; cases z).trans e) (λb o u e=>?_) (λb ps e=>(f.o b λys z=>by rw [e] at z; cases z).trans e) ok) (k _ f)
 have e:=I.base.frzs b o u e
 exact (f.o b λys z=>by rw [e] at z; cases z).trans e
open Classical in
noncomputable def wA (T:Addr->Prop) (H:Hp):Hp:=λa=>match H a with
 | some (.frz o (.lst xs))=>if T a then some (.lst xs) else some (.frz o (.lst xs))
 | x=>x
theorem g6 {T:Addr->Prop} {H:Hp} {a:Addr} {o:Obj} {xs:List V} (n:T a) (e:H a=some (.frz o (.lst xs))):wA T H a=some (.lst xs):=by
 unfold wA
 rw [e]
 exact if_pos n
theorem YW {T:Addr->Prop} {H:Hp} {a:Addr} (n:¬ T a):wA T H a=H a:=by
 unfold wA
 split
 ·rename_i o xs e
  rw [if_neg n,e]
 ·rfl
theorem jI {T:Addr->Prop} {H:Hp} {a:Addr} (n:∀ o xs,H a≠some (.frz o (.lst xs))):wA T H a=H a:=by
 unfold wA
 split
 ·rename_i o xs e
  exact absurd e (n o xs)
 ·rfl
theorem Jb {X:Cx} {ss:List Stmt} {t:TS} (h:yT X ss t):yT X ss (λD σ H=>∃ T:Addr->Prop,(∀ a,T a->X.H₀ a=none)/\t D σ (wA T H)):=λpins s σ H D I ⟨T,nT,k⟩=>by
 have oth:∀ {a o},H a=some o->(∀ b xs,o≠.frz b (.lst xs))->wA T H a=some o:=λe n=>(jI λb xs z=>by rw [e] at z; exact n b xs (Option.some.inj z)).trans e
 refine h pins s σ _ D (I.retold (λa n=>(jI λo xs z=>by rw [n] at z; cases z).trans n) (λb xs e=>oth e λ_ _ y=>nomatch y) (λb o u e=>(YW λz=>by rw [nT b z] at e; cases e).trans (I.base.frzs b o u e)) (λb ps e=>oth e λ_ _ y=>nomatch y) λa u q=>?_) k
 by_cases c:T a/\∃ o xs,H a=some (.frz o (.lst xs))
 ·obtain ⟨c1,o,xs,e⟩:=c
  rw [g6 c1 e] at q
  cases q
  exact (I.hok a _ e).2
 ·have n:wA T H a=H a:=by
   by_cases d:T a
   ·exact jI λo xs e=>c ⟨d,o,xs,e⟩
   ·exact YW d
  rw [n] at q
  exact (I.hok a u q).stay (λ_ _ _ z=>z) (λb z=>oth z λ_ _ y=>nomatch y) λb xs z=>oth z λ_ _ y=>nomatch y
end L2
namespace Pu
open PySem L2 Sh
variable [yW]
def YX (K:cg) (Cb:Addr) (F:Addr->List D->Prop) (pl:yp) (p q:xD):xD:=λD Γ=>(pl Γ λds=>∃ C,F C ds/\iP K (.ref C) (.ref Cb)=some true/\p D Γ)\/q D Γ
theorem zOg {K:cg} {Cb:Addr} {F:Addr->List D->Prop} {pl:yp} {p q:xD} {i:Nat} (D:yf) (σ:St) (H:Hp):yY (YX K Cb F pl p q) D σ H->zP0 K Cb (λ(ES:St->XK) (D:yf) (σ:St) (H:Hp)=>(jC (jd F) [] (ES σ) (wJ pl) σ H λv H1=>D.nx (σ.set i (some v)) H1)\/yY q D σ H) (yY p) D σ H:=λ⟨Z0,H0,Z,Γ,Dp,E,h,nx,rt,bk,ct⟩=>h.elim
 (λh=>.inl ⟨Z,Γ,_,E.e,h,λds vs H1 ⟨C,hF,hx,hp⟩ s1 hv=>⟨Z,ds,C,(E.e.same s1).zd,by rw [dQ]; exact hv,hF,λH2 s2=>⟨C,rfl,hx,λe he=>by
  have s3:=(s1.trans s2).trans (wP he (qP e C))
  exact ⟨Z0,H0,Z,Γ,Dp,E.mv s3,hp,λZ' Γ' σ' H' E' s'=>nx Z' Γ' σ' H' E' ((yg s3).trans s'),rt,λZ' Γ' σ' H' E' s'=>bk Z' Γ' σ' H' E' ((yg s3).trans s'),λZ' Γ' σ' H' E' s'=>ct Z' Γ' σ' H' E' ((yg s3).trans s')⟩⟩⟩⟩)
 λh=>.inr ⟨Z0,H0,Z,Γ,Dp,E,h,nx,rt,bk,ct⟩
mutual
def za:D->D
 | .lst ds=>.frz (zi ds)
 | .tup ds=>.tup (zi ds)
 | .frz ds=>.frz (zi ds)
 | .obj c ns ds=>.obj c ns (zi ds)
 | .int i=>.int i
 | .bool i=>.bool i
 | .non=>.non
 | .str i=>.str i
def zi:List D->List D
 | []=>[]
 | d :: ds=>za d :: zi ds
end
theorem uZ:∀ ds:List D,zi ds=ds.map za
 | []=>by simp [zi]
 | d :: ds=>by simp [zi,uZ ds]
theorem DV.fz {Z:Addr->Prop} {H H2:Hp} (f:Fz H H2):∀ {v:V} {d:D},DV (zK Z H) v d->DV (zK Z H2) v (za d)
 | _,_,.int i=>by rw [za]; exact .int i
 | _,_,.bool b=>by rw [za]; exact .bool b
 | _,_,.non=>by rw [za]; exact .non
 | _,_,.str x=>by rw [za]; exact .str x
 | _,_,.frz (a:=a) e h=>by
  rw [za]
  refine .frz ?_ (go f h)
  obtain ⟨o,e⟩:=e
  obtain ⟨k1,k2⟩:=uE e
  exact ⟨o,xj k1 ((f.o a λys z=>by rw [k2] at z; cases z).trans k2)⟩
 | _,_,.lst e h=>by
  rw [za]
  obtain ⟨k1,k2⟩:=uE e
  obtain ⟨o,q⟩:=f.l _ _ k2
  exact .frz ⟨o,xj k1 q⟩ (go f h)
 | _,_,.tup (a:=a) e h=>by
  rw [za]
  obtain ⟨k1,k2⟩:=uE e
  exact .tup (xj k1 ((f.o a λys z=>by rw [k2] at z; cases z).trans k2)) (go f h)
 | _,_,.obj (o:=a) e l h=>by
  rw [za]
  obtain ⟨k1,k2⟩:=uE e
  exact .obj (xj k1 ((f.o a λys z=>by rw [k2] at z; cases z).trans k2)) l (go f h)
where
 go {Z:Addr->Prop} {H H2:Hp} (f:Fz H H2):∀ {xs:List V} {ds:List D},Paired (DV (zK Z H)) xs ds->Paired (DV (zK Z H2)) xs (zi ds)
  | _,_,.nil=>by rw [zi]; exact .nil
  | _,_,.cons h t=>by rw [zi]; exact .cons (DV.fz f h) (go f t)
end Pu
namespace K55
open PySem L2 Sh Pu
def zp (i:Nat):Stmt:=PySem.Challenge.pw_steadyhand_k55_papers_of_falls_as_told.main.body.getD i (.Pass ⟨0,0,0,0⟩)
structure Bl (mg:Str->Option Value):Prop where
 isinstance_:mg "isinstance" = none
 int_:mg "int" = none
 bool_:mg "bool" = none
 tuple_:mg "tuple" = none
 len_:mg "len" = none
 all_:mg "all" = none
 list_:mg "list" = none
 range_:mg "range" = none
 zip_:mg "zip" = none
 sum_:mg "sum" = none
 max_:mg "max" = none
 enumerate_:mg "enumerate" = none
 MOST_NUMBERS_:∃ t,mg "MOST_NUMBERS" = some (.int 3 t)
 MOST_PUSHES_:∃ t,mg "MOST_PUSHES" = some (.int 6 t)
 MOST_MODES_:∃ t,mg "MOST_MODES" = some (.int 40 t)
structure zMM (K:cg) (C:Addr):Prop where
 no:True
structure zIC (K:cg) (C:Addr):Prop where
 n_start:ym K C "start"
 n_rows:ym K C "rows"
 n_turn:ym K C "turn"
structure zML (K:cg) (C:Addr):Prop where
 n_start:ym K C "start"
 n_goal:ym K C "goal"
 n_turns:ym K C "turns"
structure zOb (K:cg) (C:Addr):Prop where
 n_rows:ym K C "rows"
 n_nexts:ym K C "nexts"
 n_steer:ym K C "steer"
 n_push:ym K C "push"
 n_add:ym K C "add"
 n_divisor:ym K C "divisor"
structure zMH (K:cg) (C:Addr):Prop where
 n_many:ym K C "many"
 n_kept_pushes:ym K C "kept_pushes"
 n_kept_modes:ym K C "kept_modes"
structure zMJ (K:cg) (C:Addr):Prop where
 no:True
structure zMI (K:cg) (C:Addr):Prop where
 n_rooms:ym K C "rooms"
 n_back:ym K C "back"
 n_starts:ym K C "starts"
 n_steps:ym K C "steps"
 n_stays:ym K C "stays"
structure zMK (K:cg) (C:Addr):Prop where
 n_room:ym K C "room"
 n_starts:ym K C "starts"
 n_steps:ym K C "steps"
 n_measure:ym K C "measure"
 n_step:ym K C "step"
 n_top:ym K C "top"
 n_falls:ym K C "falls"
 n_floors:ym K C "floors"
 n_tops:ym K C "tops"
structure qO (K:cg) (aComes aSettles aFalls aPaper aClaim:Addr):Prop where
 k_Comes_Settles:cE K (.ref aComes) (.ref aSettles)=some false
 k_Falls_Paper:cE K (.ref aFalls) (.ref aPaper)=some true
 k_Comes_Claim:cE K (.ref aComes) (.ref aClaim)=some true
variable [iT:yW]
inductive Fw:Nat->D->Prop
 | int {k:Nat} (i:Int):Fw (k + 1) (.int i)
 | bool {k:Nat} (b:Bool):Fw (k + 1) (.bool b)
 | non {k:Nat}:Fw (k + 1) .non
 | str {k:Nat} (x:Str):Fw (k + 1) (.str x)
 | lst {k:Nat} {ds:List D} (l:ds.length<=900) (h:∀ d∈ds,Fw k d):Fw (k + 1) (.lst ds)
 | tup {k:Nat} {ds:List D} (l:ds.length<=900) (h:∀ d∈ds,Fw k d):Fw (k + 1) (.tup ds)
theorem Fw.no {k:Nat} {d:D} (h:Fw k d):d.isObj=false:=by cases h <;> rfl
theorem Fw.lst_inv {k:Nat} {d:D} (h:Fw k d) (e:d.isLst=true):∃ ds,d=.lst ds/\ds.length<=900/\∃ j,k=j + 1/\∀ d∈ds,Fw j d:=by
 cases h with
 | lst l h=>exact ⟨_,rfl,l,_,rfl,h⟩
 | _=>cases e
theorem Fw.tup_inv {k:Nat} {d:D} (h:Fw k d) (e:d.isTup=true):∃ ds,d=.tup ds/\ds.length<=900/\∃ j,k=j + 1/\∀ d∈ds,Fw j d:=by
 cases h with
 | tup l h=>exact ⟨_,rfl,l,_,rfl,h⟩
 | _=>cases e
theorem zLZ {k:Nat} {ns:List Int}:∀ d∈ns.map D.int,Fw (k + 1) d:=λd m=>by
 obtain ⟨i,_,rfl⟩:=cw.mp m
 exact .int i
theorem k0 {n:Nat} (h:n.ble 1000=true:=by rfl):n<=1000:=Nat.le_of_ble_eq_true h
theorem bR {R:D->Prop} {a b:Bool} (q:R (.bool a)) (e:a=b):R (.bool b):=e ▸ q
def vx (d:D):Bool:=d.isInt && !d.isBool
def WE (n:Int):D->Bool
 | .lst ds=>decide ((ds.length:Int)=n) && ds.all vx
 | _=>false
def YY (h w:Int):D->Bool
 | .lst ds=>decide ((ds.length:Int)=h) && ds.all (WE w)
 | _=>false
def wZ (n:Int):D->Bool
 | .tup ds=>decide ((ds.length:Int)=n + 1) && ds.all vx
 | _=>false
def ua (n:Int):D->Bool
 | .lst ds=>ds.all (wZ n)
 | _=>false
theorem vg {α:Type} (f:α->Bool) (xs:List α):(xs.map f).all id=xs.all f:=by rw [List.all_map]; rfl
def je:FL:=λds R=>∃ d,ds=[d]/\d.isObj=false/\R (.bool (vx d))
def Jc:FL:=λds R=>∃ d n k,ds=[d,.int n]/\Fw k d/\R (.bool (WE n d))
def YZ:FL:=λds R=>∃ d h w k,ds=[d,.int h,.int w]/\Fw k d/\R (.bool (YY h w d))
def qv:FL:=λds R=>∃ d n k,ds=[d,.int n]/\Fw k d/\R (.bool (wZ n d))
def WF:FL:=λds R=>∃ d n k,ds=[d,.int n]/\Fw k d/\R (.bool (ua n d))
mutual
def yy:D->D
 | .lst ds=>.lst (wa ds)
 | .tup ds=>.tup (wa ds)
 | .frz ds=>.lst (wa ds)
 | .obj c ns ds=>.obj c ns (wa ds)
 | .int i=>.int i
 | .bool i=>.bool i
 | .non=>.non
 | .str i=>.str i
def wa:List D->List D
 | []=>[]
 | d :: ds=>yy d :: wa ds
end
theorem kA:∀ ds:List D,wa ds=ds.map yy
 | []=>by simp [wa]
 | d :: ds=>by simp [wa,kA ds]
inductive Fq:Nat->D->Prop
 | int {k:Nat} (i:Int):Fq (k + 1) (.int i)
 | bool {k:Nat} (b:Bool):Fq (k + 1) (.bool b)
 | non {k:Nat}:Fq (k + 1) .non
 | str {k:Nat} (x:Str):Fq (k + 1) (.str x)
 | lst {k:Nat} {ds:List D} (l:ds.length<=900) (h:∀ d∈ds,Fq (k + 1) d):Fq (k + 1 + 1) (.lst ds)
 | frz {k:Nat} {ds:List D} (l:ds.length<=900) (h:∀ d∈ds,Fq (k + 1) d):Fq (k + 1 + 1) (.frz ds)
 | tup {k:Nat} {ds:List D} (l:ds.length<=900) (h:∀ d∈ds,Fq (k + 1) d):Fq (k + 1 + 1) (.tup ds)
theorem Yb {α:Type} {f:α->α} {l:List α} (h:∀ x∈l,f x=x):l.map f=l:=(cX h).trans (hG _)
theorem Fw.cp {k:Nat} {d:D} (h:Fw k d):Fq (k + 1) d/\yy d=d:=by
 induction h with
 | int i=>exact ⟨.int i,by rw [yy]⟩
 | bool i=>exact ⟨.bool i,by rw [yy]⟩
 | non=>exact ⟨.non,by rw [yy]⟩
 | str i=>exact ⟨.str i,by rw [yy]⟩
 | lst l _ ih=>exact ⟨.lst l λd hd=>(ih d hd).1,by rw [yy,kA,Yb λd hd=>(ih d hd).2]⟩
 | tup l _ ih=>exact ⟨.tup l λd hd=>(ih d hd).1,by rw [yy,kA,Yb λd hd=>(ih d hd).2]⟩
theorem Fw.fz {k:Nat} {d:D} (h:Fw k d):Fq (k + 1) (za d)/\yy (za d)=d:=by
 have key:∀ {k:Nat} {ds:List D},(∀ d∈ds,Fq (k + 1) (za d)/\yy (za d)=d)->(∀ d∈ds.map za,Fq (k + 1) d)/\(ds.map za).map yy=ds:=λih=>⟨λe he=>by
  obtain ⟨d,hd,rfl⟩:=cw.mp he
  exact (ih d hd).1,by rw [cA]; exact Yb λd hd=>(ih d hd).2⟩
 induction h with
 | int i=>rw [za]; exact ⟨.int i,by rw [yy]⟩
 | bool i=>rw [za]; exact ⟨.bool i,by rw [yy]⟩
 | non=>rw [za]; exact ⟨.non,by rw [yy]⟩
 | str i=>rw [za]; exact ⟨.str i,by rw [yy]⟩
 | lst l _ ih=>rw [za,uZ]; exact ⟨.frz (by rw [a_]; exact l) (key ih).1,by rw [yy,kA,(key ih).2]⟩
 | tup l _ ih=>rw [za,uZ]; exact ⟨.tup (by rw [a_]; exact l) (key ih).1,by rw [yy,kA,(key ih).2]⟩
theorem Fq.no {k:Nat} {d:D} (h:Fq k d):d.isObj=false:=by cases h <;> rfl
def jf (j:Nat):FL:=λds R=>∃ d n,ds=[d,.int n]/\Fq j d/\(j:Int)<=n + 1/\R (yy d)
def zRG:FL:=λds R=>∃ p w n:Int,ds=[.int p,.int w,.int n]/\0<=w/\w<=900/\R (L (xx p w.toNat n))
def IS (d:D) (ns:List Int):Prop:=d=L ns\/d=U ns
theorem IS.seq {d:D} {ns:List Int} (h:IS d ns) {R:List D->Prop} (q:R (ns.map D.int)):uV d R:=by
 rcases h with rfl | rfl
 ·exact q
 ·exact q
def zLf:FL:=λds R=>∃ (f:Int) (d:D) (ns:List Int),ds=[.int f,d]/\IS d ns/\ns.length<=900/\Bd 9000 f/\(∀ x∈ns,Bd 9000 x)/\R (L (ns.map (f * ·)))
def wz (f g:Int) (ns os:List Int):List Int:=(ns.zip os).map λq=>f * q.1 + g * q.2
def zON:FL:=λds R=>∃ (f g:Int) (d e:D) (ns os:List Int),ds=[.int f,d,.int g,e]/\IS d ns/\IS e os/\ns.length<=900/\Bd 9000 f/\Bd 9000 g/\(∀ x∈ns,Bd 9000 x)/\(∀ x∈os,Bd 9000 x)/\R (L (wz f g ns os))
def zLh:FL:=λds R=>∃ (d e:D) (ns os:List Int),ds=[d,e]/\IS d ns/\IS e os/\ns.length<=900/\(∀ x∈ns,Bd 9000 x)/\(∀ x∈os,Bd 9000 x)/\R (.int (yD ns os))
theorem zI0:∀ ns os:List Int,dA xR (ns.map D.int) (os.map D.int)=(ns.zip os).map λq=>xR (.int q.1) (.int q.2)
 | [],_=>rfl
 | _ :: _,[]=>rfl
 | _ :: ns,_ :: os=>by rw [cT,cT,fI,zI0 ns os]; rfl
theorem IS.zip {d e:D} {ns os:List Int} (h:IS d ns) (k:IS e os) {R:List D->Prop} (q:R ((ns.zip os).map λq=>xR (.int q.1) (.int q.2))):uW [d,e] R:=by
 rw [<- zI0] at q
 rcases h with rfl | rfl <;> rcases k with rfl | rfl <;> exact q
theorem zRU {qs:List (Int × Int)} {G:D->(D->Prop)->Prop} {R:D->Prop} (g:Int × Int->Int) (few:qs.length<=1000) (h:∀ q,q∈qs->G (xR (.int q.1) (.int q.2)) λe=>e=.int (g q)) (k:R (.lst ((qs.map g).map D.int))):zh (qs.map λq=>xR (.int q.1) (.int q.2)) G R:=
 zh.map (λd=>match d with | .tup [x,y]=>.int (g (yU x,yU y)) | _=>.non) (by rw [a_]; exact few) (λd m=>by
  obtain ⟨q,hq,rfl⟩:=cw.mp m
  exact h q hq) (by rw [cA] at k |-; exact k)
theorem zI5:∀ ns os:List Int,((ns.zip os).map λq=>q.1 * q.2).sum=yD ns os
 | [],_=>rfl
 | _ :: _,[]=>rfl
 | n :: ns,o :: os=>by rw [hZ,cT,eI,zI5 ns os]; rfl
abbrev Tb (t:List (List Int)):D:=.lst (t.map L)
abbrev Rm (t:List (List Int)):D:=.lst (t.map U)
def yB:D->List Int
 | .lst ds=>ds.map yU
 | .tup ds=>ds.map yU
 | _=>[]
theorem WG (ns:List Int):(ns.map D.int).map yU=ns:=by rw [cA]; exact hG _
theorem WH (ns:List Int):yB (L ns)=ns:=WG ns
theorem ub (ns:List Int):yB (U ns)=ns:=WG ns
theorem vV {α:Type} {xs:List α} {G:D->(D->Prop)->Prop} {R:D->Prop} (u:α->D) (v:D->α) (hv:∀ x,v (u x)=x) (g:α->D) (few:xs.length<=1000) (h:∀ x,x∈xs->G (u x) λe=>e=g x) (q:R (.lst (xs.map g))):zh (xs.map u) G R:=
 zh.map (λd=>g (v d)) (by rw [a_]; exact few) (λd m=>by
  obtain ⟨x,hx,rfl⟩:=cw.mp m
  rw [hv]
  exact h x hx) (by
  rw [cA,show ((λd=>g (v d)) ∘ u)=g from funext λx=>congrArg g (hv x)]
  exact q)
def IT (e:D) (ls:List (List Int)):Prop:=e=Tb ls\/e=Rm ls
theorem zKJ {α:Type} (u:α->D):∀ (ns:List Int) (ls:List α),dA xR (ns.map D.int) (ls.map u)=(ns.zip ls).map λq=>xR (.int q.1) (u q.2)
 | [],_=>rfl
 | _ :: _,[]=>rfl
 | _ :: ns,_ :: ls=>by rw [cT,cT,fI,zKJ u ns ls]; rfl
def v2 (d:D):Int × List Int:=match d with
 | .tup [x,y]=>(yU x,yB y)
 | _=>(0,[])
theorem uc {ns:List Int} {j:Nat} (h:j < ns.length) {i:Int} (e:i=(j:Int)):xB (ns.map D.int) i=some (.int (ns.getD j 0)):=by
 rw [Zy,e]
 unfold xB vJ
 rw [if_pos (by omega),if_pos (by omega)]
 show lu D.int ns[((j:Nat):Int).toNat]? = _
 rw [show ((j:Nat):Int).toNat=j by omega,cu h,ci,cu h]
 rfl
theorem IS.zipT {d e:D} {ns:List Int} {ls:List (List Int)} (h:IS d ns) (k:IT e ls) {R:List D->Prop} (q:∀ u:List Int->D,u=L\/u=U->R ((ns.zip ls).map λq=>xR (.int q.1) (u q.2))):uW [d,e] R:=by
 have q1:=q L (.inl rfl)
 have q2:=q U (.inr rfl)
 rw [<- zKJ] at q1 q2
 rcases h with rfl | rfl <;> rcases k with rfl | rfl <;> first | exact q1 | exact q2
theorem Yc {u:List Int->D} (hu:u=L\/u=U) (q:Int × List Int):v2 (xR (.int q.1) (u q.2))=q:=by
 rcases hu with rfl | rfl
 ·show (q.1,yB (L q.2))=q
  rw [WH]
 ·show (q.1,yB (U q.2))=q
  rw [ub]
def Jd:FL:=λds R=>∃ (d e:D) (ns:List Int) (ls:List (List Int)) (w:Nat),ds=[d,e,.int (w:Int)]/\IS d ns/\IT e ls/\w<=900/\ns.length<=900/\(∀ x∈ns,Bd 9000 x)/\(∀ r∈ls,w<=r.length/\∀ x∈r,Bd 9000 x)/\R (L ((cO w).map (zX ns ls)))
def zLd:FL:=λds R=>∃ p w n b:Int,ds=[.int p,.int w,.int n,.int b]/\0<=w/\w<=900/\R (U (xx p w.toNat n++[b]))
def Je:FL:=λds R=>∃ d ns,ds=[d]/\IS d ns/\ns.length<=900/\R (U (zn ns))
theorem qw {e:Nat} {r:List Int} (h:∀ x∈r,Bd e x) (j:Nat):Bd e (r.getD j 0):=by
 rw [ci]
 cases hj:r[j]? with
 | none=>show (0:Int).natAbs < 2 ^ e; exact f_ e
 | some x=>exact h x (dh hj)
abbrev zOE:List Str:=["rows","nexts","steer","push","add","divisor"]
abbrev zOj:List Str:=["many","kept_pushes","kept_modes"]
abbrev wn (C:Addr) (m:MD):D:=.obj C zOE [Rm m.rows,Tb m.nexts,L m.steer,Tb m.push,L m.add,.int m.div]
abbrev zq (b:Int × Int):D:=.tup [.int b.1,.int b.2]
abbrev wb (C CM:Addr) (n:Nat) (bs:List (Int × Int)) (ms:List MD):D:=.obj C zOj [.int (n:Int),.lst (bs.map zq),.lst (ms.map (wn CM))]
theorem ud {k:Nat} {ns:List Int} (h:ns.length<=900):Fw (k + 2) (L ns):=.lst (by rw [a_]; exact h) zLZ
theorem ue {k:Nat} {ns:List Int} (h:ns.length<=900):Fw (k + 2) (U ns):=.tup (by rw [a_]; exact h) zLZ
theorem WI {k:Nat} {t:List (List Int)} (h:t.length<=900) (h2:∀ r∈t,r.length<=900):Fw (k + 3) (Tb t):=.lst (by rw [a_]; exact h) λd m=>by
 obtain ⟨r,hr,rfl⟩:=cw.mp m
 exact ud (h2 r hr)
theorem kB {k:Nat} {t:List (List Int)} (h:t.length<=900) (h2:∀ r∈t,r.length<=900):Fw (k + 3) (Rm t):=.lst (by rw [a_]; exact h) λd m=>by
 obtain ⟨r,hr,rfl⟩:=cw.mp m
 exact ue (h2 r hr)
theorem zIB (ns:List Int):(ns.map D.int).all vx=true:=cR.mpr λd m=>by
 obtain ⟨i,_,rfl⟩:=cw.mp m
 rfl
theorem Jf {n:Int} {ns:List Int} (h:(ns.length:Int)=n):WE n (L ns)=true:=by
 show (decide _ && _)=true
 rw [a_,decide_eq_true h,zIB]
 rfl
theorem zNp {h w:Int} {t:List (List Int)} (e:(t.length:Int)=h) (k:∀ r∈t,(r.length:Int)=w):YY h w (Tb t)=true:=by
 show (decide _ && _)=true
 rw [a_,decide_eq_true e]
 exact cR.mpr λd m=>by
  obtain ⟨r,hr,rfl⟩:=cw.mp m
  exact Jf (k r hr)
theorem zNx {n:Int} {ns:List Int} (h:(ns.length:Int)=n + 1):wZ n (U ns)=true:=by
 show (decide _ && _)=true
 rw [a_,decide_eq_true h,zIB]
 rfl
theorem WJ {n:Int} {t:List (List Int)} (k:∀ r∈t,(r.length:Int)=n + 1):ua n (Rm t)=true:=cR.mpr λd m=>by
 obtain ⟨r,hr,rfl⟩:=cw.mp m
 exact zNx (k r hr)
def zOM (C:Addr):FL:=λds R=>∃ r n s p a d,ds=[r,n,s,p,a,d]/\Fw 5 r/\Fw 5 n/\Fw 5 s/\Fw 5 p/\Fw 5 a/\R (.obj C zOE [r,n,s,p,a,d])
def zLn:FL:=λds R=>∃ b:Int × Int,ds=[zq b]/\b.1<=b.2/\R (.bool true)
def zLo (C:Addr):FL:=λds R=>∃ (m:MD) (n p:Nat),ds=[wn C m,.int (n:Int),.int (p:Int)]/\wV m n p/\R (.bool true)
def zJW (C:Addr):FL:=λds R=>∃ (n:Nat) (bs:List (Int × Int)) (ms:List MD),ds=[.int (n:Int),.lst (bs.map zq),.lst (ms.map (wn C))]/\xi n bs ms/\R (.bool true)
def zLc (C CM:Addr):FL:=λds R=>∃ (n:Nat) (bs:List (Int × Int)) (ms:List MD),ds=[.int (n:Int),.lst (bs.map zq),.lst (ms.map (wn CM))]/\xi n bs ms/\R (wb C CM n bs ms)
def Jg (C CM:Addr):FL:=λds R=>∃ n bs ms,ds=[wb C CM n bs ms]/\R (.lst (bs.map zq))
def Jh (C CM:Addr):FL:=λds R=>∃ n bs ms,ds=[wb C CM n bs ms]/\R (.lst (ms.map (wn CM)))
def qy (ms:List MD):Bool:=ms.all λm=>m.steer.all λx=>decide (x=0)
def zGP (C:Addr):FL:=λds R=>∃ m,ds=[wn C m]/\m.steer.length<=900/\R (.bool (m.steer.all λx=>decide (x=0)))
def Ji (C CM:Addr):FL:=λds R=>∃ n bs ms,ds=[wb C CM n bs ms]/\xi n bs ms/\R (.bool (qy ms))
def zGR (C CM:Addr):FL:=λds R=>∃ n bs ms,ds=[wb C CM n bs ms]/\xi n bs ms/\qy ms=true/\R .non
theorem zRV {ns:List Int} {G:D->(D->Prop)->Prop} {R:D->Prop} (g:Int->Bool) (few:ns.length<=1000) (h:∀ n,n∈ns->G (.int n) λe=>e=.bool (g n)) (q:R (.lst ((ns.map g).map D.bool))):zh (ns.map D.int) G R:=
 vV D.int yU (λ_=>rfl) (λn=>.bool (g n)) few h (by rw [cA] at q; exact q)
def xV (d:D):MD:=match d with
 | .obj _ _ [.lst r,.lst n,s,.lst p,a,d]=>⟨r.map yB,n.map yB,yB s,p.map yB,yB a,yU d⟩
 | _=>⟨[],[],[],[],[],0⟩
theorem zNm (t:List (List Int)):(t.map L).map yB=t:=by
 rw [cA,show (yB ∘ L)=id from funext λr=>WH r]
 exact hG _
theorem zPs (t:List (List Int)):(t.map U).map yB=t:=by
 rw [cA,show (yB ∘ U)=id from funext λr=>ub r]
 exact hG _
theorem WK (C:Addr) (m:MD):xV (wn C m)=m:=by
 show MD.mk ((m.rows.map U).map yB) ((m.nexts.map L).map yB) (yB (L m.steer)) ((m.push.map L).map yB) (yB (L m.add)) m.div=m
 rw [zPs,zNm,zNm,WH,WH]
def Yd (d:D):Int × Int:=match d with
 | .tup [x,y]=>(yU x,yU y)
 | _=>(0,0)
def xO (n p:Nat) (ws:List Int) (b:Int) (m:MD):List Int:=((cO n).map (zX ws m.nexts)++(cO p).map (zX ws m.push))++[m.div * b - yD ws m.add]
theorem Jj:∀ (rows:List (List Int)) (nums:List Int) (j:Nat),ya rows nums j=zX nums rows j
 | [],nums,j=>by unfold ya zX; simp
 | r :: rows,[],j=>by unfold ya zX; simp
 | r :: rows,x :: nums,j=>by rw [ut,Zj,Jj rows nums j,eF]
def vh:D->Bool
 | .int i=>decide (0<=i)
 | _=>false
def xm (c:Nat):D->Bool
 | .tup [x,.lst ys]=>vh x && (decide (ys.length=c) && ys.all vh)
 | _=>false
def xJ (rows:List (List Int)) (tw:List Int) (n:Nat):D->Bool
 | .tup [.int o,.lst ys]=>xm rows.length (.tup [.int o,.lst ys]) && uQ rows tw o (ys.map yU) n
 | _=>false
def uf (a:D):Prop:=∀ o ys,a=.tup [.int o,.lst ys]->Bd 1000 o/\∀ y∈ys,Bd 1000 (yU y)
structure vO (rows:List (List Int)) (n:Nat):Prop where
 row:∀ r∈rows,r.length=n + 1/\∀ x∈r,Bd 1000 x
 few:rows.length<=500
 nar:n<=100
theorem zGO:∀ {ys:List D},ys.all vh=true->∃ ns:List Int,ys=ns.map .int/\ys.map yU=ns/\∀ x∈ns,0<=x
 | [],_=>⟨[],rfl,rfl,λ_ h=>by cases h⟩
 | a :: ys,h=>by
  rw [List.all_cons,dq] at h
  obtain ⟨ns,rfl,e,h0⟩:=zGO h.2
  cases a with
  | int i=>exact ⟨i :: ns,rfl,by rw [cT,e]; rfl,λx hx=>(cz.mp hx).elim (λz=>z ▸ of_decide_eq_true h.1) (h0 x)⟩
  | _=>cases h.1
theorem zMd {c:Nat} {a:D} (h:xm c a=true):∃ (o:Int) (ns:List Int),a=.tup [.int o,L ns]/\0<=o/\ns.length=c/\∀ x∈ns,0<=x:=by
 unfold xm at h
 split at h
 ·rename_i x ys
  rw [dq,dq,decide_eq_true_iff] at h
  obtain ⟨ns,rfl,_,h0⟩:=zGO h.2.2
  cases x with
  | int o=>exact ⟨o,ns,rfl,of_decide_eq_true h.1,by have:=h.2.1; rw [a_] at this; exact this,h0⟩
  | _=>cases h.1
 ·cases h
theorem zMc {rows:List (List Int)} {tw:List Int} {n:Nat} {a:D} (h:xm rows.length a=false):xJ rows tw n a=false:=by
 unfold xJ
 split
 ·rw [h]; rfl
 ·rfl
theorem zNN (ns:List Int):(ns.map D.int).map yU=ns:=by rw [cA]; exact hG _
theorem zKc {rows:List (List Int)} {tw ns:List Int} {n:Nat} {o:Int} (h:xm rows.length (.tup [.int o,L ns])=true):xJ rows tw n (.tup [.int o,L ns])=uQ rows tw o ns n:=by
 show (xm rows.length (.tup [.int o,.lst (ns.map .int)]) && uQ rows tw o ((ns.map D.int).map yU) n)=_
 rw [show xm rows.length (.tup [.int o,.lst (ns.map .int)])=true from h,zNN]
 rfl
def qz (c:Int):D->Bool
 | .lst as=>decide ((as.length:Int)=c)
 | _=>false
def u4 (rows tws:List (List Int)) (n:Nat):D->Bool
 | .lst as=>decide ((as.length:Int)=(tws.length:Int)) && (tws.zip as).all λp=>xJ rows p.1 n p.2
 | _=>false
def yV (a:D):Prop:=∀ as,a=.lst as->∀ x∈as,uf x
theorem Ye {c:Int} {a:D} (h:qz c a=true):∃ as,a=.lst as/\(as.length:Int)=c:=by
 cases a with
 | lst as=>exact ⟨as,rfl,of_decide_eq_true h⟩
 | _=>cases h
theorem zNa {rows tws:List (List Int)} {n:Nat} {a:D} (h:qz (tws.length:Int) a=false):u4 rows tws n a=false:=by
 cases a with
 | lst as=>show (decide _ && _)=false; rw [show decide ((as.length:Int)=(tws.length:Int))=false from h]; rfl
 | _=>rfl
theorem xS {e:Nat}:Bd e (0:Int):=by
 show (0:Int).natAbs < 2 ^ e
 exact f_ e
theorem Jk {e:Nat} {r:List Int} (h:∀ x∈r,Bd e x) (j:Nat):Bd e (r.getD j 0):=by
 rw [ci]
 cases hj:r[j]? with
 | none=>exact xS
 | some x=>exact h x (dh hj)
theorem WL {a b:Nat}:∀ {ns os:List Int},(∀ x∈ns,Bd a x)->(∀ x∈os,Bd b x)->Bd (a + b + ns.length + 1) (yD ns os)
 | [],_,_,_=>by unfold yD; exact xS
 | _ :: _,[],_,_=>by unfold yD; exact xS
 | n :: ns,o :: os,hn,ho=>by
  have i:=WL (a:=a) (b:=b) (ns:=ns) (os:=os) (λq m=>hn q (cr _ m)) (λq m=>ho q (cr _ m))
  rw [cJ]
  show Bd _ (n * o + yD ns os)
  exact (((hn n cv).mul (ho o cv)).mono (show a + b<=a + b + ns.length + 1 by omega) |>.add i).mono (by omega)
theorem Jl {a b j:Nat} {ns:List Int} {N:List (List Int)} (h:∀ x∈ns,Bd a x) (hN:∀ r∈N,∀ x∈r,Bd b x):Bd (a + b + ns.length + 1) (zX ns N j):=by
 rw [zHk]
 refine WL h λx hx=>?_
 obtain ⟨r,hr,rfl⟩:=cw.mp hx
 exact Jk (hN r hr) j
structure MS (m:MD):Prop where
 nexts:∀ r∈m.nexts,∀ x∈r,Bd 300 x
 push:∀ r∈m.push,∀ x∈r,Bd 300 x
 add:∀ x∈m.add,Bd 300 x
 div:Bd 300 m.div
 rows:∀ r∈m.rows,∀ x∈r,Bd 300 x
 few:m.rows.length<=100
structure wN (room:List (List Int)) (n:Nat):Prop where
 row:∀ r∈room,r.length=n + 1/\∀ x∈r,Bd 300 x
 few:room.length<=100
theorem wN.rw {room:List (List Int)} {n:Nat} (h:wN room n) (n3:n<=3):vO room n:=⟨λr hr=>⟨(h.row r hr).1,λx hx=>((h.row r hr).2 x hx).mono⟩,by have:=h.few; omega,by omega⟩
theorem zMC {e n:Nat} {pl nu:Int} (h:Bd e nu):∀ x∈xx pl n nu,Bd e x:=λx hx=>by
 obtain ⟨i,_,rfl⟩:=cw.mp hx
 show Bd e (if (i:Int)=pl then nu else 0)
 split
 ·exact h
 ·exact xS
theorem zI6 {n:Nat} {bs:List (Int × Int)} {rows:List (List Int)} (h:∀ r∈rows,r.length=n + 1/\∀ x∈r,Bd 1000 x) (few:rows.length<=400) (n3:n<=3) (b6:bs.length<=6) (bb:∀ b∈bs,Bd 300 b.1/\Bd 300 b.2):vO (wu n bs rows) (n + bs.length):=by
 have b1:Bd 4 (1:Int):=Bd.lit
 refine ⟨λr hr=>?_,?_,by omega⟩
 ·rcases cN.mp hr with hr | hr
  ·obtain ⟨q,hq,rfl⟩:=cw.mp hr
   obtain ⟨lq,bq⟩:=h q hq
   refine ⟨by unfold xW; simp; omega,λx hx=>?_⟩
   unfold xW at hx
   rcases cN.mp hx with hx | hx
   ·rcases cN.mp hx with hx | hx
    ·exact bq x (dS hx)
    ·rw [dG hx]; exact xS
   ·rw [cn.mp hx]; exact Jk bq n
  ·obtain ⟨l,hl,hr⟩:=iw.mp hr
   obtain ⟨i,hi,rfl⟩:=iI.mp hl
   have hb:=bb _ (ek hi)
   have key:∀ (y c:Int),Bd 1000 y->Bd 1000 c->(xx ((n + i:Nat):Int) (n + bs.length) y++[c]).length=n + bs.length + 1/\∀ x∈xx ((n + i:Nat):Int) (n + bs.length) y++[c],Bd 1000 x:=λy c hy hc=>⟨by rw [b_,uC]; rfl,λx hx=>by
    rcases cN.mp hx with hx | hx
    ·exact zMC hy x hx
    ·rw [cn.mp hx]; exact hc⟩
   rcases cz.mp hr with rfl | hr
   ·exact key _ _ b1.mono (hb.2.mono)
   ·rw [cn.mp hr]
    exact key _ _ (b1.neg.mono) (hb.1.neg.mono)
 ·unfold wu
  rw [b_,a_]
  have:((bs.mapIdx (xr n bs.length)).flatten).length=2 * bs.length:=by
   rw [eK]
   have e:(bs.mapIdx (xr n bs.length)).map di=cj bs.length 2:=by
    refine e9 (by simp) λi h1 h2=>?_
    simp [xr]
   rw [e]
   simp
   omega
  omega
theorem Jm (n p:Nat) (ws:List Int) (b:Int) (m:MD):(xO n p ws b m).length=n + p + 1:=by unfold xO; simp; omega
theorem Jn {n p:Nat} {ws:List Int} {b:Int} {m:MD} (h:MS m) (lw:ws.length<=3) (bw:∀ x∈ws,Bd 301 x) (bb:Bd 301 b):∀ x∈xO n p ws b m,Bd 700 x:=λx hx=>by
 unfold xO at hx
 rcases cN.mp hx with hx | hx
 ·rcases cN.mp hx with hx | hx <;> obtain ⟨j,_,rfl⟩:=cw.mp hx
  ·exact (Jl bw h.nexts).mono (by omega)
  ·exact (Jl bw h.push).mono (by omega)
 ·rw [cn.mp hx]
  exact (((h.div.mul bb).mono (show 300 + 301<=650 by decide)).sub ((WL bw h.add).mono (show 301 + 300 + ws.length + 1<=650 by omega))).mono
def q0 (n p:Nat) (m:MD) (behind:List (List Int)):List (List Int):=behind.map λr=>xO n p (r.take n) (r.getD n 0) m
def WM (n:Nat) (bs:List (Int × Int)) (room behind:List (List Int)) (m:MD) (a:D):Bool:=u4 (wu n bs (room++m.rows)) (q0 n bs.length m behind) (n + bs.length) a
def q9 (n:Nat) (bs:List (Int × Int)) (ms:List MD) (room behind:List (List Int)):D->Bool
 | .lst as=>decide ((as.length:Int)=(ms.length:Int)) && (ms.zip as).all λp=>WM n bs room behind p.1 p.2
 | _=>false
structure jg (n:Nat) (bs:List (Int × Int)) (ms:List MD):Prop where
 ok:xi n bs ms
 ms:∀ m∈ms,MS m
 bs:∀ b∈bs,Bd 300 b.1/\Bd 300 b.2
theorem zLQ {n:Nat} {bs:List (Int × Int)} {ms:List MD} {room behind:List (List Int)} {a:D} (h:qz (ms.length:Int) a=false):q9 n bs ms room behind a=false:=by
 cases a with
 | lst as=>show (decide _ && _)=false; rw [show decide ((as.length:Int)=(ms.length:Int))=false from h]; rfl
 | _=>rfl
def vy (n p:Nat) (ws:List Int) (step:Int) (m:MD):List Int:=wz 1 (-m.div) ((xO n p ws 0 m).take n) ws++(cO p).map (zX ws m.push)++[(m.div * 0 - yD ws m.add) - m.div * step]
structure jh (n:Nat) (room:List (List Int)) (ws:List Int) (b st tp:Int):Prop where
 rm:wN room n
 lw:ws.length=n
 bw:∀ x∈ws,Bd 300 x
 bb:Bd 300 b
 st:Bd 300 st
 tp:Bd 300 tp
def ji (n:Nat) (room:List (List Int)) (ws:List Int) (b:Int) (goal:List (List Int)):D->Bool
 | .lst as=>decide ((as.length:Int)=(goal.length:Int)) && (goal.zip as).all λp=>xJ (room++[zn p.1]) (ws.map (λx=>-x)++[b]) n p.2
 | _=>false
theorem zKD {n:Nat} {room goal:List (List Int)} {ws:List Int} {b:Int} {a:D} (h:qz (goal.length:Int) a=false):ji n room ws b goal a=false:=by
 cases a with
 | lst as=>show (decide _ && _)=false; rw [show decide ((as.length:Int)=(goal.length:Int))=false from h]; rfl
 | _=>rfl
theorem zLK {n e:Nat} {r:List Int} (h:r.length=n + 1/\∀ x∈r,Bd e x):(zn r).length=n + 1/\∀ x∈zn r,Bd e x:=⟨by unfold zn; rw [a_]; exact h.1,λx hx=>by
 obtain ⟨y,hy,rfl⟩:=cw.mp hx
 exact (h.2 y hy).neg⟩
def jj (n:Nat) (bs:List (Int × Int)) (room:List (List Int)) (ws:List Int) (st:Int) (goal:List (List Int)) (m:MD):D->Bool
 | .lst as=>decide ((as.length:Int)=(goal.length:Int)) && (goal.zip as).all λp=>xJ (wu n bs (room++m.rows++[zn p.1])) (vy n bs.length ws st m) (n + bs.length) p.2
 | _=>false
theorem zJ5 {n:Nat} {bs:List (Int × Int)} {room goal:List (List Int)} {ws:List Int} {st:Int} {m:MD} {a:D} (h:qz (goal.length:Int) a=false):jj n bs room ws st goal m a=false:=by
 cases a with
 | lst as=>show (decide _ && _)=false; rw [show decide ((as.length:Int)=(goal.length:Int))=false from h]; rfl
 | _=>rfl
theorem zPc {n p:Nat} {ws:List Int} {st:Int} {m:MD} (h:MS m) (lw:ws.length=n) (n3:n<=3) (bw:∀ x∈ws,Bd 300 x) (bs:Bd 300 st):(vy n p ws st m).length=n + p + 1/\∀ x∈vy n p ws st m,Bd 1000 x:=by
 have b1:Bd 4 (1:Int):=Bd.lit
 have rl:=Jm n p ws 0 m
 have rb:=Jn (n:=n) (p:=p) (b:=0) h (by omega) (λx hx=>(bw x hx).mono (show 300<=301 by decide)) xS
 refine ⟨?_,λx hx=>?_⟩
 ·unfold vy wz
  rw [b_,b_,a_,a_,dE,cK,cx,rl,lw]
  show min (min n (n + p + 1)) n + p + 1=_
  omega
 ·unfold vy at hx
  rcases cN.mp hx with hx | hx
  ·rcases cN.mp hx with hx | hx
   ·obtain ⟨q,hq,rfl⟩:=cw.mp hx
    have q1:=cW hq
    exact (((b1.mul (rb q.1 (dS q1.1))).mono (show 4 + 700<=800 by decide)).add ((h.div.neg.mul (bw q.2 q1.2)).mono (show 300 + 300<=800 by decide))).mono
   ·obtain ⟨j,_,rfl⟩:=cw.mp hx
    exact (Jl bw h.push).mono (by omega)
  ·rw [cn.mp hx]
   refine Bd.mono (Bd.sub (n:=900) (Bd.mono (Bd.sub (n:=800) (Bd.mono (h.div.mul (xS (e:=300))) (by decide)) (Bd.mono (WL bw h.add) (by omega))) (by decide)) (Bd.mono (h.div.mul bs) (by decide))) (by decide)
def jk (n:Nat) (bs:List (Int × Int)) (ms:List MD) (room:List (List Int)) (ws:List Int) (st:Int) (goal:List (List Int)):D->Bool
 | .lst as=>decide ((as.length:Int)=(ms.length:Int)) && (ms.zip as).all λp=>jj n bs room ws st goal p.1 p.2
 | _=>false
theorem zLb {n:Nat} {bs:List (Int × Int)} {ms:List MD} {room goal:List (List Int)} {ws:List Int} {st:Int} {a:D} (h:qz (ms.length:Int) a=false):jk n bs ms room ws st goal a=false:=by
 cases a with
 | lst as=>show (decide _ && _)=false; rw [show decide ((as.length:Int)=(ms.length:Int))=false from h]; rfl
 | _=>rfl
def y8 (a:D):Prop:=∀ as,a=.lst as->∀ x∈as,yV x
def wB (n:Nat) (bs:List (Int × Int)) (ms:List MD) (xw goal:List (List Int)) (tu:Int) (room:List (List Int)) (ws:List Int) (b st tp:Int) (A1 A2 A6 A7 A8:D):Bool:=
 if st < 1\/tu * st<=tp then false else u4 xw room n A1 && (q9 n bs ms room room A2 && (xJ xw (ws++[tp - b]) n A8 && (ji n room ws b goal A7 && jk n bs ms room ws st goal A6)))
theorem vi {r:List Int} {n:Nat} (h:r.length=n + 1):yc (r.map D.int) none (some (-1))=(r.take n).map D.int:=by
 have e1:HT.sIx (r.map D.int).length 0 none=0:=HT.sIx_none _ _
 have e2:HT.sIx (r.map D.int).length (r.map D.int).length (some (-1))=n:=by
  rw [a_,h]
  show (if (-1:Int) < 0 then ((-1:Int) + ((n + 1:Nat):Int)).toNat else min (-1:Int).toNat (n + 1))=n
  rw [if_pos (by decide)]
  omega
 unfold yc
 rw [e1,e2,h_,iF,iq]
theorem uI (ws:List Int) (b:Int):yc ((ws++[b]).map D.int) none (some (-1))=ws.map D.int:=by
 rw [vi (n:=ws.length) (by rw [b_]; rfl),dl (cL _),c_ (cL _)]
theorem Yg {r:List Int} {n:Nat} (h:r.length=n + 1):xB (r.map D.int) (-1)=some (.int (r.getD n 0)):=by
 rw [Zy]
 unfold xB vJ
 rw [if_neg (by decide),if_pos (by omega)]
 show lu D.int r[((-1:Int) + (r.length:Int)).toNat]? = _
 rw [show ((-1:Int) + (r.length:Int)).toNat=n by omega,cu (by omega),ci,cu (by omega)]
 rfl
theorem gA (ws:List Int) (b:Int):xB ((ws++[b]).map D.int) (-1)=some (.int b):=by
 rw [Yg (n:=ws.length) (by rw [b_]; rfl),ci,cY (cL _),eU]
 rfl
theorem WN (a b:List (List Int)):D.lst (a.map U++b.map U)=Rm (a++b):=by rw [Rm,cq]
theorem Yh {α:Type} (u:α->D):∀ (xs:List α) (ys:List D),dA xR (xs.map u) ys=(xs.zip ys).map λq=>xR (u q.1) q.2
 | [],_=>rfl
 | _ :: _,[]=>rfl
 | _ :: xs,_ :: ys=>by rw [cT,fI,Yh u xs ys]; rfl
theorem Yi {α:Type} {xs:List α} {ys:List D} {G:D->(D->Prop)->Prop} {R:D->Prop} (u:α->D) (v:D->α) (hv:∀ x,v (u x)=x) (g:α->D->Bool) (few:xs.length<=1000) (h:∀ x y,(x,y)∈xs.zip ys->G (xR (u x) y) λe=>e=.bool (g x y)) (q:R (.lst (((xs.zip ys).map λp=>g p.1 p.2).map D.bool))):zh (dA xR (xs.map u) ys) G R:=by
 rw [Yh]
 refine vV (λp:α × D=>xR (u p.1) p.2) (λd=>match d with | .tup [a,b]=>(v a,b) | _=>(v .non,.non)) (λp=>?_) (λp=>.bool (g p.1 p.2)) (by rw [dE]; omega) (λp hp=>h p.1 p.2 hp) (by rw [cA] at q; exact q)
 show (v (u p.1),p.2)=p
 rw [hv]
theorem zKL {d:D} (h:vx d=true):∃ i,d=.int i:=by
 cases d with
 | int i=>exact ⟨i,rfl⟩
 | bool b=>cases h
 | _=>cases h
theorem Fw.mono0 {j:Nat} {a:D} (h:Fw j a):∀ {k:Nat},j<=k->Fw k a:=by
 induction h with
 | lst l _ ih=>
  intro k hk
  obtain ⟨m,rfl⟩:∃ m,k=m + 1:=⟨k - 1,by omega⟩
  exact .lst l λa ha=>ih a ha (by omega)
 | tup l _ ih=>
  intro k hk
  obtain ⟨m,rfl⟩:∃ m,k=m + 1:=⟨k - 1,by omega⟩
  exact .tup l λa ha=>ih a ha (by omega)
 | int i=>intro k hk; obtain ⟨m,rfl⟩:∃ m,k=m + 1:=⟨k - 1,by omega⟩; exact .int i
 | bool i=>intro k hk; obtain ⟨m,rfl⟩:∃ m,k=m + 1:=⟨k - 1,by omega⟩; exact .bool i
 | non=>intro k hk; obtain ⟨m,rfl⟩:∃ m,k=m + 1:=⟨k - 1,by omega⟩; exact .non
 | str i=>intro k hk; obtain ⟨m,rfl⟩:∃ m,k=m + 1:=⟨k - 1,by omega⟩; exact .str i
structure MBd (m:MD):Prop where
 nexts:∀ r∈m.nexts,∀ x∈r,Bd 9000 x
 push:∀ r∈m.push,∀ x∈r,Bd 9000 x
 add:∀ x∈m.add,Bd 9000 x
 div:Bd 9000 m.div
theorem Fw.mono {j k:Nat} {a:D} (h:Fw j a) (l:j<=k:=by decide):Fw k a:=h.mono0 l
theorem MS.mbd {m:MD} (h:MS m):MBd m:=⟨λr hr x hx=>(h.nexts r hr x hx).mono,λr hr x hx=>(h.push r hr x hx).mono,λx hx=>(h.add x hx).mono,h.div.mono⟩
theorem zh.cast {ds ds':List D} {G:D->(D->Prop)->Prop} {R:D->Prop} (e:ds=ds') (h:zh ds' G R):zh ds G R:=by rw [e]; exact h
theorem jJ (ns:List Int):(L ns).pl 50=true:=zKu 48 ns
theorem RmM {α:Type} (f:α->List Int) (xs:List α):D.lst (xs.map λr=>U (f r))=Rm (xs.map f):=by unfold Rm; rw [cA]; rfl
theorem jm {b:Bool} (h:(!b)=true):b=false:=by cases b <;> first | rfl | cases h
theorem jo {b:Bool} (h:(!b)=false):b=true:=by cases b <;> first | rfl | cases h
def Jo (C CM:Addr):FL:=λds R=>∃ n bs ms rows,ds=[wb C CM n bs ms,Rm rows]/\n<=3/\bs.length<=6/\(∀ r∈rows,r.length=n + 1)/\rows.length<=900/\R (Rm (wu n bs rows))
def Jp (C CM:Addr):FL:=λds R=>∃ n bs ms m r,ds=[wb C CM n bs ms,wn CM m,U r]/\n<=3/\bs.length<=6/\wV m n bs.length/\MBd m/\r.length=n + 1/\(∀ x∈r,Bd 9000 x)/\R (U (xO n bs.length (r.take n) (r.getD n 0) m))
def zOU:FL:=λds R=>∃ rows d ns n,ds=[Rm rows,d,.int ((n:Nat):Int)]/\IS d ns/\n<=800/\ns.length<=900/\(∀ x∈ns,Bd 9000 x)/\(∀ r∈rows,n + 1<=r.length/\∀ x∈r,Bd 9000 x)/\R (U ((cO (n + 1)).map (zX ns rows)))
def Jq:FL:=λds R=>∃ d,ds=[d]/\d.isObj=false/\R (.bool (vh d))
def zLe:FL:=λds R=>∃ d c k,ds=[d,.int ((c:Nat):Int)]/\Fw k d/\R (.bool (xm c d))
def Yj:FL:=λds R=>∃ rows tw n d k,ds=[Rm rows,U tw,d]/\tw.length=n + 1/\(∀ x∈tw,Bd 1000 x)/\vO rows n/\Fw k d/\uf d/\R (.bool (xJ rows tw n d))
def kD:FL:=λds R=>∃ d c k,ds=[d,.int c]/\Fw k d/\R (.bool (qz c d))
def Jr:FL:=λds R=>∃ rows tws n d k,ds=[Rm rows,Rm tws,d]/\vO rows n/\vO tws n/\Fw k d/\yV d/\R (.bool (u4 rows tws n d))
def zLk (C CM:Addr):FL:=λds R=>∃ n bs ms m room behind d k,ds=[wb C CM n bs ms,wn CM m,Rm room,Rm behind,d]/\jg n bs ms/\wV m n bs.length/\MS m/\wN room n/\wN behind n/\Fw k d/\yV d/\R (.bool (WM n bs room behind m d))
def zOQ (C CM:Addr):FL:=λds R=>∃ n bs ms room behind d k,ds=[wb C CM n bs ms,Rm room,Rm behind,d]/\jg n bs ms/\wN room n/\wN behind n/\Fw k d/\y8 d/\R (.bool (q9 n bs ms room behind d))
abbrev WO:List Str:=["start","goal","turns"]
abbrev kF:List Str:=["room","starts","steps","measure","step","top","falls","floors","tops"]
abbrev kG (C:Addr) (s g:List (List Int)) (t:Int):D:=.obj C WO [Rm s,Rm g,.int t]
abbrev Js (C:Addr) (room:List (List Int)) (A1 A2:D) (ws:List Int) (b st tp:Int) (A6 A7 A8:D):D:=.obj C kF [Rm room,A1,A2,U (ws++[b]),.int st,.int tp,A6,A7,A8]
def zLt (C:Addr):FL:=λds R=>∃ s g t,ds=[s,g,t]/\Fq 6 s/\Fq 6 g/\R (.obj C WO [yy s,yy g,t])
def zLr (C:Addr):FL:=λds R=>∃ a b c d e f g h i,ds=[a,b,c,d,e,f,g,h,i]/\Fq 6 a/\Fq 6 b/\Fq 6 c/\Fq 6 d/\Fq 6 g/\Fq 6 h/\Fq 6 i/\R (.obj C kF [yy a,yy b,yy c,yy d,e,f,yy g,yy h,yy i])
def zGQ (C:Addr):FL:=λds R=>∃ s g t n,ds=[kG C s g t,.int ((n:Nat):Int)]/\n<=3/\wN s n/\wN g n/\0<=t/\R (.bool true)
def Yk:FL:=λds R=>∃ ws b tp,ds=[U (ws++[b]),.int tp]/\ws.length<=100/\R (U (ws++[tp - b]))
def zOR:FL:=λds R=>∃ ws b,ds=[U (ws++[b])]/\ws.length<=100/\R (U (ws.map (λx=>-x)++[b]))
def zJX (C CM:Addr):FL:=λds R=>∃ n bs ms m ws b st,ds=[wb C CM n bs ms,wn CM m,U (ws++[b]),.int st]/\jg n bs ms/\wV m n bs.length/\MS m/\ws.length=n/\(∀ x∈ws,Bd 300 x)/\Bd 300 st/\R (U (vy n bs.length ws st m))
def zLq (CC CF:Addr):FL:=λds R=>∃ s g t room A1 A2 ws b st tp A6 A7 A8 n k,ds=[kG CC s g t,Js CF room A1 A2 ws b st tp A6 A7 A8]/\jh n room ws b st tp/\wN g n/\n<=3/\Fw k A7/\yV A7/\R (.bool (ji n room ws b g A7))
def zLl (C CM CC CF:Addr):FL:=λds R=>∃ n bs ms m s g t room A1 A2 ws b st tp A6 A7 A8 d k,ds=[wb C CM n bs ms,wn CM m,kG CC s g t,Js CF room A1 A2 ws b st tp A6 A7 A8,d]/\jg n bs ms/\wV m n bs.length/\MS m/\jh n room ws b st tp/\wN g n/\Fw k d/\yV d/\R (.bool (jj n bs room ws st g m d))
def zLs (C CM CC CF:Addr):FL:=λds R=>∃ n bs ms s g t room A1 A2 ws b st tp A6 A7 A8 k,ds=[wb C CM n bs ms,kG CC s g t,Js CF room A1 A2 ws b st tp A6 A7 A8]/\jg n bs ms/\jh n room ws b st tp/\wN g n/\Fw k A6/\y8 A6/\R (.bool (jk n bs ms room ws st g A6))
def zOP (C CM CC CF:Addr):FL:=λds R=>∃ n bs ms s g t d0 A1 A2 ws b st tp A6 A7 A8 k,ds=[wb C CM n bs ms,kG CC s g t,.obj CF kF [d0,A1,A2,U (ws++[b]),.int st,.int tp,A6,A7,A8]]/\jg n bs ms/\wN g n/\wN s n/\0<=t/\Bd 300 t/\Fw k d0/\((ua (n:Int) d0=false/\R (.bool false))\/∃ room,d0=Rm room/\jh n room ws b st tp/\Fw k A1/\Fw k A2/\Fw k A6/\Fw k A7/\Fw k A8/\yV A1/\y8 A2/\y8 A6/\yV A7/\uf A8/\R (.bool (wB n bs ms s g t room ws b st tp A1 A2 A6 A7 A8)))
def Jt (C CM CC CF:Addr):FL:=λds R=>∃ n bs ms s g t d0 A1 A2 ws b st tp A6 A7 A8 k,ds=[wb C CM n bs ms,kG CC s g t,.obj CF kF [d0,A1,A2,U (ws++[b]),.int st,.int tp,A6,A7,A8]]/\jg n bs ms/\wN g n/\wN s n/\0<=t/\Bd 300 t/\Fw k d0/\qy ms=true/\((ua (n:Int) d0=false/\R (.bool false))\/∃ room,d0=Rm room/\jh n room ws b st tp/\Fw k A1/\Fw k A2/\Fw k A6/\Fw k A7/\Fw k A8/\yV A1/\y8 A2/\y8 A6/\yV A7/\uf A8/\R (.bool (wB n bs ms s g t room ws b st tp A1 A2 A6 A7 A8)))
def fNo:FL:=λ_ _=>False
theorem zOi {α:Type} {l:List (List α)} {k:Nat} {x:List α} (h:l[k]? = some x):(l.take (k + 1)).flatten=(l.take k).flatten++x:=by
 rw [qG h,iU,fH]
structure Er (K:cg) (mg:Str->Option Value) (cC:Addr):Prop where
 mgC:mg "NotClosed" = some (.ref cC)
 excC:ip K cC bmV "ValueError.__new__" = true
 cc:iP K (.ref cC) (.ref cC)=some true
inductive Yl (C CM cC:Addr) (k:Nat) (c:Addr) (ds:List D):Prop
 | mk (n:Nat) (bs:List (Int × Int)) (ms:List MD) (es:List D) (e:ds=wb C CM n bs ms :: es) (l:es.length=k) (h:xi n bs ms) (cl:qy ms=false) (hc:c=cC):Yl C CM cC k c ds
theorem Xq {n:Nat} {bs:List (Int × Int)} {rows:List (List Int)} (h:∀ r∈rows,r.length=n + 1):∀ r∈wu n bs rows,r.length=n + bs.length + 1:=λr hr=>by
 rcases cN.mp hr with hr | hr
 ·obtain ⟨q,hq,rfl⟩:=cw.mp hr
  have:=h q hq
  unfold xW
  simp
  omega
 ·obtain ⟨l,hl,hr⟩:=iw.mp hr
  obtain ⟨i,hi,rfl⟩:=iI.mp hl
  rcases cz.mp hr with rfl | hr
  ·rw [b_,uC]; rfl
  ·rw [cn.mp hr,b_,uC]; rfl
structure Ym (e:Nat) (m:MD):Prop where
 nexts:∀ r∈m.nexts,∀ x∈r,Bd e x
 steer:∀ x∈m.steer,Bd e x
 push:∀ r∈m.push,∀ x∈r,Bd e x
 add:∀ x∈m.add,Bd e x
 div:Bd e m.div
 rows:∀ r∈m.rows,∀ x∈r,Bd e x
 few:m.rows.length<=100
theorem Ym.ms {e:Nat} {m:MD} (h:Ym e m) (k:e<=300):MS m:=⟨λr hr x hx=>(h.nexts r hr x hx).mono k,λr hr x hx=>(h.push r hr x hx).mono k,λx hx=>(h.add x hx).mono k,h.div.mono k,λr hr x hx=>(h.rows r hr x hx).mono k,h.few⟩
theorem md (a:Int) {b:Int} (h:0 < b):0<=a.fmod b/\a.fmod b < b:=⟨Int.fmod_nonneg_of_pos a h,Int.fmod_lt_of_pos a h⟩
theorem vj {n:Nat} {a b:Int} (h:Bd n b) (p:0 < b):Bd n (a.fmod b):=by
 have:=md a p
 exact h.of_le (by omega)
theorem jp {n:Nat} (h:n<=3):Bd 2 (n:Int):=by
 show (n:Int).natAbs < 2 ^ 2
 omega
theorem zOZ {α:Type} {xs:List α} {i:Int} (h0:0<=i) (h1:i < (xs.length:Int)):∃ x∈xs,xB xs i=some x:=by
 obtain ⟨k,rfl⟩:=Int.eq_ofNat_of_zero_le h0
 have hk:k < xs.length:=by omega
 refine ⟨xs[k],ek hk,?_⟩
 unfold xB vJ
 rw [if_pos (by omega),if_pos (by omega)]
 show xs[((k:Nat):Int).toNat]? = _
 rw [show ((k:Nat):Int).toNat=k by omega,cu hk]
theorem zOY {xs:List Int} {i:Int} (h0:0<=i) (h1:i < (xs.length:Int)):∃ x∈xs,xB (xs.map D.int) i=some (.int x):=by
 obtain ⟨x,hx,e⟩:=zOZ h0 h1
 exact ⟨x,hx,by rw [Zy,e]; rfl⟩
theorem xT {xs:List Int} {i:Int} {R:D->Prop} (h0:0<=i) (h1:i < (xs.length:Int)) (q:∀ x∈xs,R (.int x)):∃ d,xB (xs.map D.int) i=some d/\R d:=by
 obtain ⟨x,hx,e⟩:=zOY h0 h1
 exact ⟨_,e,q x hx⟩
theorem gB {xs:List D} {i:Int} {R:D->Prop} (h0:0<=i) (h1:i < (xs.length:Int)) (q:∀ x∈xs,R x):∃ d,xB xs i=some d/\R d:=by
 obtain ⟨x,hx,e⟩:=zOZ h0 h1
 exact ⟨_,e,q x hx⟩
theorem zRa {y f:Int} {n:Nat} (h:Bd n f) (h1 : -f<=y) (h2:y<=f):Bd n y:=h.of_le (by omega)
theorem u5 {α:Type} {P:α->Prop} {xs:List α} {y:α} (h:∀ x∈xs,P x) (k:P y):∀ x∈xs++[y],P x:=λx hx=>by
 rcases cN.mp hx with hx | hx
 ·exact h x hx
 ·rw [cn.mp hx]; exact k
theorem zJN {α β:Type} (f:α->β) (xs:List α) (y:α):(xs.map f)++[f y]=(xs++[y]).map f:=by rw [cq]; rfl
theorem Ju {xs:List D} {k:Nat}:yc xs (some (k:Int)) none=xs.drop k:=by
 unfold yc
 rw [HT.sIx_none,HT.sIx_nat,c_ (by rw [ej]; omega)]
 by_cases h:k<=xs.length
 ·rw [iJ h]
 ·rw [Nat.min_eq_right (by omega),List.drop_length,List.drop_of_length_le (by omega)]
abbrev WP:Int:=10 ^ (45:Int).toNat
def Jv:FL:=λds R=>∃ ns k,ds=[.scr ns,.int k]/\0<=k/\∀ c,R (.int c)
def WQ (xs:List Int):Prop:=∀ x∈xs,0<=x/\Bd 150 x
def WR:FL:=λds R=>∃ (c:Int) (n:Nat),ds=[.int c,.int (n:Int)]/\n<=100/\∀ xs,xs.length=n->WQ xs->R (L xs)
def Yn:FL:=λds R=>∃ x far:Int,ds=[.int x,.int far]/\0<=far/\Bd 9000 far/\∀ y,-far<=y->y<=far->R (.int y)
def Yo:FL:=λds R=>∃ (c:Int) (n:Nat) (u:Int),ds=[.int c,.int (n:Int),.int u]/\n<=3/\0<=u/\Bd 100 u/\∀ bs:List (Int × Int),bs.length=n->(∀ b∈bs,b.1<=b.2/\Bd 105 b.1/\Bd 105 b.2)->R (.lst (bs.map zq))
def xX (n i:Nat) (b:Int × Int):List (List Int):=[xx (i:Int) n 1++[b.2],(xx (i:Int) n 1).map (λx=>0 - x)++[0 - b.1]]
def y9 (bs:List (Int × Int)):List (List Int):=(bs.mapIdx (xX bs.length)).flatten
def zRI:FL:=λds R=>∃ bs:List (Int × Int),ds=[.lst (bs.map zq)]/\bs.length<=100/\R (Rm (y9 bs))
abbrev kH (m:MD):D:=.tup [Rm m.rows,Tb m.nexts,L m.steer,Tb m.push,L m.add,.int m.div]
abbrev Yp (n:Nat) (bs:List (Int × Int)) (ms:List MD) (u:Int):D:=.tup [.int (n:Int),.lst (bs.map zq),.lst (ms.map kH),.int u]
theorem zOI (i j:Nat):(if decide ((j:Int)=(i:Int))=true then (1:Int) else 0)=if (j:Int)=(i:Int) then 1 else 0:=by
 by_cases c:(j:Int)=(i:Int)
 ·rw [if_pos c,if_pos (decide_eq_true c)]
 ·rw [if_neg c,if_neg (by rw [decide_eq_false c]; exact cU)]
theorem zJU {bs:List (Int × Int)} {k:Nat} (h:k < bs.length) {i:Int} (e:i=(k:Int)):xB (bs.map zq) i=some (zq bs[k]):=by
 rw [Zy,e]
 unfold xB vJ
 rw [if_pos (by omega),if_pos (by omega)]
 show lu zq bs[((k:Nat):Int).toNat]? = _
 rw [show ((k:Nat):Int).toNat=k by omega,cu h]
 rfl
theorem zMX {α:Type} {l:List (List α)} {k:Nat} {x:List α} (h:l[k]? = some x):(l.take (k + 1)).flatten=(l.take k).flatten++x:=by
 rw [qG h,iU,fH]
theorem kI {e:Nat} {a b:Int} (h:Bd e a) (k:Bd e b):Bd e (max a b):=by
 rw [Int.max_def]
 split
 ·exact k
 ·exact h
theorem WS {a:Nat}:∀ {ns:List Int},(∀ x∈ns,Bd a x)->Bd (a + ns.length) ns.sum
 | [],_=>by rw [List.sum_nil]; exact xS
 | n :: ns,h=>by
  rw [eI,cJ]
  exact (((h n cv).mono (show a<=a + ns.length by omega)).add (WS λx hx=>h x (cr _ hx))).mono (by omega)
theorem zNt:∀ {ns:List Int},(∃ c∈ns,c≠0)->1<=(ns.map λc=>c * c).sum
 | [],h=>by obtain ⟨_,h,_⟩:=h; cases h
 | n :: ns,h=>by
  rw [cT,eI]
  have nn:∀ l:List Int,0<=(l.map λc=>c * c).sum:=λl=>by
   induction l with
   | nil=>exact eG 0
   | cons a l ih=>
    rw [cT,eI]
    have:(0:Int)<=a * a:=by rw [<- Int.natAbs_mul_self]; omega
    omega
  by_cases c:n=0
  ·obtain ⟨z,hz,z0⟩:=h
   have:=zNt (ns:=ns) ⟨z,(cz.mp hz).resolve_left (λe=>z0 (e.trans c)),z0⟩
   rw [c]
   omega
  ·have h1:=nn ns
   have h2:0 < n * n:=by
    rcases Int.lt_or_gt_of_ne c with c | c
    ·exact Int.mul_pos_of_neg_of_neg c c
    ·exact Int.mul_pos c c
   omega
theorem zRe (a b:List Int):L (a++b)=.lst (a.map D.int++b.map D.int):=by unfold L; rw [cq]
theorem vk {y:Int} {f n:Nat} (h:f < 2 ^ n) (h1 : -(f:Int)<=y) (h2:y<=(f:Int)):Bd n y:=by
 show y.natAbs < 2 ^ n
 omega
theorem Yq {α β:Type} {f:α->β} {l:List α} {k:Nat} {y:β} (h:(l.map f)[k]? = some y):∃ x,l[k]? = some x/\f x=y:=by
 rw [cV] at h
 cases c:l[k]? with
 | none=>rw [c] at h; cases h
 | some x=>rw [c] at h; cases h; exact ⟨x,rfl,rfl⟩
def zf:List Int->List (Int × Int)->Int
 | x :: xs,b :: bs=>max (x * b.1) (x * b.2) + zf xs bs
 | _,_=>0
theorem zI4:∀ {xs:List Int} {bs:List (Int × Int)} {x:Int} {b:Int × Int},xs.length=bs.length->zf (xs++[x]) (bs++[b])=zf xs bs + max (x * b.1) (x * b.2)
 | [],[],x,b,_=>by show max (x * b.1) (x * b.2) + 0=0 + max (x * b.1) (x * b.2); omega
 | [],_ :: _,_,_,h=>nomatch h
 | _ :: _,[],_,_,h=>nomatch h
 | y :: xs,c :: bs,x,b,h=>by
  show max (y * c.1) (y * c.2) + zf (xs++[x]) (bs++[b])=max (y * c.1) (y * c.2) + zf xs bs + max (x * b.1) (x * b.2)
  rw [zI4 (Nat.succ.inj h)]
  omega
theorem Jw {e f:Nat}:∀ {xs:List Int} {bs:List (Int × Int)},(∀ x∈xs,Bd f x)->(∀ b∈bs,Bd e b.1/\Bd e b.2)->Bd (f + e + xs.length) (zf xs bs)
 | [],_,_,_=>xS
 | _ :: _,[],_,_=>xS
 | x :: xs,b :: bs,h,k=>by
  have h1:=kI ((h x cv).mul (k b cv).1) ((h x cv).mul (k b cv).2)
  have h2:=Jw (xs:=xs) (bs:=bs) (λy hy=>h y (cr _ hy)) λc hc=>k c (cr _ hc)
  exact (h1.mono (eM _ _)).add h2
theorem zI3:∀ (xs:List Int) (bs:List (Int × Int)),zf (xs.take (min xs.length bs.length)) (bs.take (min xs.length bs.length))=zf xs bs
 | [],bs=>by rw [iK,Nat.zero_min]; rfl
 | x :: xs,[]=>by rw [iK,Nat.min_zero]; rfl
 | x :: xs,b :: bs=>by
  rw [cJ,cJ,Nat.succ_min_succ,gV,gV]
  show _ + zf _ _=_ + zf _ _
  rw [zI3 xs bs]
abbrev zS (s:Int × List Int):D:=.tup [.int s.1,L s.2]
abbrev yM (ss:List (Int × List Int)):D:=.lst (ss.map zS)
abbrev yE (t:List (List (Int × List Int))):D:=.lst (t.map yM)
theorem jq (j:Nat):∀ {r1:List (List Int)} {s1:List Int} {r2:List (List Int)} {s2:List Int},r1.length=s1.length->ya (r1++r2) (s1++s2) j=ya r1 s1 j + ya r2 s2 j
 | [],[],_,_,_=>by rw [Zk,eE]; rfl
 | [],_ :: _,_,_,h=>nomatch h
 | _ :: _,[],_,_,h=>nomatch h
 | r :: r1,s :: s1,r2,s2,h=>by
  show ya (r :: (r1++r2)) (s :: (s1++s2)) j=_
  rw [ut,ut,jq j (Nat.succ.inj h)]
  omega
theorem gC (j:Nat):∀ (rows:List (List Int)) (k:Nat),ya rows (cj k 0) j=0
 | [],_=>Zk _ _
 | _ :: _,0=>zMt _ _
 | r :: rows,k + 1=>by
  rw [dm,ut,gC j rows k]
  omega
theorem kJ (r:List Int) (x:Int) (j:Nat):ya [r] [x] j=r.getD j 0 * x:=by rw [ut,Zk,lA]
theorem WT {rows:List (List Int)} {tw ns:List Int} {n:Nat} (lt:tw.length=n + 1) (h:∀ j,j < n->ya rows ns j=tw.getD j 0) (k:ya rows ns n<=tw.getD n 0):uQ rows tw 1 ns n=true:=by
 unfold uQ
 rw [if_neg (by decide),Int.one_mul,decide_eq_true k,l5]
 refine decide_eq_true ?_
 rw [show (tw.take n).map (1 * ·)=tw.take n from (cX λx _=>Int.one_mul x).trans (hG _),<- zMY (by omega)]
 exact cX λj hj=>h j (eQ.mp hj)
theorem Jx {rows:List (List Int)} {tw ns:List Int} {n:Nat} (h:∀ j,j < n->ya rows ns j=0) (k:ya rows ns n < 0):uQ rows tw 0 ns n=true:=by
 unfold uQ
 rw [if_pos rfl,decide_eq_true k,l5]
 refine cR.mpr λx hx=>?_
 obtain ⟨j,hj,rfl⟩:=cw.mp hx
 exact decide_eq_true (h j (eQ.mp hj))
def yP:List Int->List Int
 | []=>[]
 | x :: xs=>max x 0 :: max (0 - x) 0 :: yP xs
theorem uJ:∀ xs:List Int,(yP xs).length=2 * xs.length
 | []=>rfl
 | _ :: xs=>by show (yP xs).length + 1 + 1=2 * (xs.length + 1); rw [uJ xs]; omega
theorem Yr:∀ xs:List Int,∀ y∈yP xs,0<=y
 | [],_,h=>nomatch h
 | x :: xs,y,h=>by
  rcases cz.mp h with rfl | h
  ·omega
  rcases cz.mp h with rfl | h
  ·omega
  exact Yr xs y h
theorem zKO {a n j:Nat} {y c:Int} (h:j < n):(xx (a:Int) n y++[c]).getD j 0=if j=a then y else 0:=by
 rw [ci,de (by rw [uC]; exact h)]
 unfold xx
 rw [cV,dM h]
 show (if ((j:Nat):Int)=((a:Nat):Int) then y else 0)=_
 by_cases e:j=a
 ·rw [if_pos e,if_pos (by omega)]
 ·rw [if_neg e,if_neg (by omega)]
theorem zI2 {a n:Nat} {y c:Int}:(xx (a:Int) n y++[c]).getD n 0=c:=by
 rw [ci,cY (by rw [uC]; omega),uC,eU]
 rfl
theorem zNe (x:Int):1 * max x 0 + (-1) * max (0 - x) 0=x:=by omega
theorem zNd {x a b:Int} (h:a<=b):b * max x 0 + (-a) * max (0 - x) 0=max (x * a) (x * b):=by
 by_cases c:0<=x
 ·rw [eV c,eN (show 0 - x<=0 by omega),dn,lA,eN (eO h c),eF]
 ·have z:x * b<=x * a:=Int.mul_le_mul_of_nonpos_left (by omega) h
  rw [eN (show x<=0 by omega),eV (show 0<=0 - x by omega),dn,eE,eV z,eA,Int.neg_mul_neg,eF]
theorem Jy {n p:Nat}:∀ {bs:List (Int × Int)} {g:List Int} (k:Nat),g.length=bs.length->k + bs.length<=p->(∀ b∈bs,b.1<=b.2)->(∀ j,j < n + p->ya ((bs.mapIdx λi b=>xr n p (k + i) b).flatten) (yP g) j=if n + k<=j then g.getD (j - (n + k)) 0 else 0)/\ya ((bs.mapIdx λi b=>xr n p (k + i) b).flatten) (yP g) (n + p)=zf g bs
 | [],[],k,_,_,_=>⟨λj _=>by
   rw [show ya ((([]:List (Int × Int)).mapIdx λi b=>xr n p (k + i) b).flatten) (yP []) j=0 from Zk _ _]
   split <;> rfl,Zk _ _⟩
 | [],_ :: _,_,h,_,_=>nomatch h
 | _ :: _,[],_,h,_,_=>nomatch h
 | b :: bs,x :: g,k,h,kp,ob=>by
  have kp:k + (bs.length + 1)<=p:=kp
  obtain ⟨i1,i2⟩:=Jy (n:=n) (p:=p) (bs:=bs) (g:=g) (k + 1) (Nat.succ.inj h) (by omega) λc hc=>ob c (cr _ hc)
  have e:(((b :: bs).mapIdx λi b=>xr n p (k + i) b).flatten)=(xx ((n + k:Nat):Int) (n + p) 1++[b.2]) :: (xx ((n + k:Nat):Int) (n + p) (-1)++[-b.1]) :: ((bs.mapIdx λi b=>xr n p (k + 1 + i) b).flatten):=by
   rw [lG,dY]
   have:(λ(i:Nat) (b:Int × Int)=>xr n p (k + (i + 1)) b)=λi b=>xr n p (k + 1 + i) b:=by funext i b; rw [show k + (i + 1)=k + 1 + i by omega]
   rw [this]
   rfl
  rw [e]
  show (∀ j,j < n + p->ya (_ :: _ :: _) (max x 0 :: max (0 - x) 0 :: yP g) j=_)/\ya (_ :: _ :: _) (max x 0 :: max (0 - x) 0 :: yP g) _=_
  refine ⟨λj hj=>?_,?_⟩
  ·rw [ut,ut,i1 j hj,zKO hj,zKO hj]
   by_cases c:j=n + k
   ·have o:=zNe x
    rw [if_pos c,if_pos c,if_neg (by omega),if_pos (by omega),c,eU]
    show 1 * _ + ((-1) * _ + 0)=x
    omega
   ·rw [if_neg c,if_neg c]
    by_cases d:n + k<=j
    ·rw [if_pos (show n + (k + 1)<=j by omega),if_pos d,show j - (n + k)=j - (n + (k + 1)) + 1 by omega]
     show 0 * _ + (0 * _ + _)=(x :: g).getD (_ + 1) 0
     rw [iV]
     omega
    ·rw [if_neg (show ¬ n + (k + 1)<=j by omega),if_neg d]
     omega
  ·rw [ut,ut,i2,zI2,zI2]
   have o:=zNd (x:=x) (ob b cv)
   show _=max (x * b.1) (x * b.2) + zf g bs
   omega
theorem zRY {bx:List (Int × Int)}:y9 bx=(bx.mapIdx λi b=>xr 0 bx.length (0 + i) b).flatten:=by
 unfold y9
 congr 1
 refine ib.mpr λi hi=>?_
 unfold xX xr
 rw [show ((0 + (0 + i):Nat):Int)=(i:Int) by omega,iL,eA]
 congr 3
 unfold xx
 rw [cA]
 refine cX λj _=>?_
 show 0 - (if ((j:Nat):Int)=(i:Int) then (1:Int) else 0)=if ((j:Nat):Int)=(i:Int) then (-1:Int) else 0
 split <;> rfl
theorem zPj {bx:List (Int × Int)} {g:List Int} (l:g.length=bx.length) (ob:∀ b∈bx,b.1<=b.2):(∀ j,j < bx.length->ya (y9 bx) (yP g) j=g.getD j 0)/\ya (y9 bx) (yP g) bx.length=zf g bx:=by
 rw [zRY]
 obtain ⟨h1,h2⟩:=Jy (n:=0) (p:=bx.length) 0 l (by omega) ob
 rw [iL] at h1 h2
 exact ⟨λj hj=>by have:=h1 j hj; rw [if_pos (by omega)] at this; exact this,h2⟩
theorem jK {g:List Int} {n j:Nat} {c:Int} (l:g.length=n) (h:j < n):(g++[c]).getD j 0=g.getD j 0:=by
 rw [ci,de (by omega),ci]
theorem ug {g:List Int} {n:Nat} {c:Int} (l:g.length=n):(g++[c]).getD n 0=c:=by
 rw [ci,cY (by omega),l,eU]
 rfl
theorem zI8 {bx:List (Int × Int)} {g:List Int} {n:Nat} {c:Int} (lb:bx.length=n) (l:g.length=n) (ob:∀ b∈bx,b.1<=b.2) (h:zf g bx<=c):uQ (y9 bx) (g++[c]) 1 (yP g) n=true:=by
 obtain ⟨h1,h2⟩:=zPj (l.trans lb.symm) ob
 rw [lb] at h1 h2
 refine WT (by rw [b_,l]; rfl) (λj hj=>?_) ?_
 ·rw [h1 j hj,jK l hj]
 ·rw [h2,ug l]; exact h
theorem Jz {n p j:Nat} {g:List Int} {c:Int} (l:g.length=n) (h:j < n + p):(xW n p (g++[c])).getD j 0=if j < n then g.getD j 0 else 0:=by
 unfold xW
 rw [dl (by omega),c_ (by omega),jK (n:=n + p) (by rw [b_,df,l]) h,ci]
 by_cases c:j < n
 ·rw [if_pos c,de (by omega),ci]
 ·rw [if_neg c,cY (by omega),List.getElem?_replicate_of_lt (by omega)]
  rfl
theorem J0 {n p:Nat} {g:List Int} {c:Int} (l:g.length=n):(xW n p (g++[c])).getD (n + p) 0=c:=by
 unfold xW
 rw [ug (by rw [b_,df,cK,b_]; omega),ug l]
theorem kK (g:List Int) (c:Int):zn (g++[c])=g.map (λx=>-x)++[-c]:=by
 unfold zn
 rw [cq]
 rfl
theorem WU (g:List Int) (j:Nat):(g.map λx=>-x).getD j 0 = -g.getD j 0:=by
 rw [ci,ci,cV]
 cases g[j]? <;> rfl
theorem J5 {n:Nat} {bs:List (Int × Int)} {rows:List (List Int)} {ns g:List Int} (ob:∀ b∈bs,b.1<=b.2) (lr:rows.length=ns.length) (lg:g.length=bs.length):(∀ j,j < n + bs.length->ya (wu n bs rows) (ns++yP g) j=ya (rows.map (xW n bs.length)) ns j + if n<=j then g.getD (j - n) 0 else 0)/\ya (wu n bs rows) (ns++yP g) (n + bs.length)=ya (rows.map (xW n bs.length)) ns (n + bs.length) + zf g bs:=by
 unfold wu
 have e:(bs.mapIdx (xr n bs.length)).flatten=(bs.mapIdx λi b=>xr n bs.length (0 + i) b).flatten:=by
  congr 1
  exact ib.mpr λi hi=>by rw [iL]
 obtain ⟨h1,h2⟩:=Jy (n:=n) (p:=bs.length) 0 lg (by omega) ob
 rw [e]
 refine ⟨λj hj=>?_,?_⟩
 ·rw [jq j (by rw [a_]; exact lr),h1 j hj,Nat.add_zero]
 ·rw [jq _ (by rw [a_]; exact lr),h2]
theorem zNj {ns:List Int} (h:∀ x∈ns,0<=x):(ns.map D.int).all vh=true:=cR.mpr λd hd=>by
 obtain ⟨x,hx,rfl⟩:=cw.mp hd
 exact decide_eq_true (h x hx)
theorem jr {rows:List (List Int)} {tw ns:List Int} {n:Nat} {o:Int} (o0:0<=o) (l:ns.length=rows.length) (n0:∀ x∈ns,0<=x) (h:uQ rows tw o ns n=true):xJ rows tw n (zS (o,ns))=true:=by
 show ((decide (0<=o) && (decide ((ns.map D.int).length=rows.length) && (ns.map D.int).all vh)) && uQ rows tw o ((ns.map D.int).map yU) n)=true
 rw [WG,h,zNj n0,a_,decide_eq_true l,decide_eq_true o0]
 rfl
theorem J7 {α β:Type} {f:α->β}:∀ {l:List α} {p:α × β},p∈l.zip (l.map f)->∃ x,x∈l/\p=(x,f x)
 | [],_,h=>nomatch h
 | x :: l,p,h=>by
  rcases cz.mp h with rfl | h
  ·exact ⟨x,cv,rfl⟩
  ·obtain ⟨y,hy,e⟩:=J7 h
   exact ⟨y,cr _ hy,e⟩
theorem J8 {rows:List (List Int)} {n:Nat} {f:List Int->Int × List Int}:∀ {tws:List (List Int)},(∀ r∈tws,xJ rows r n (zS (f r))=true)->u4 rows tws n (yM (tws.map f))=true:=λ{tws} h=>by
 show (decide ((((tws.map f).map zS).length:Int)=(tws.length:Int)) && (tws.zip ((tws.map f).map zS)).all λp=>xJ rows p.1 n p.2)=true
 rw [a_,a_,decide_eq_true rfl,fX]
 refine cR.mpr λp hp=>?_
 rw [cA] at hp
 obtain ⟨r,hr,rfl⟩:=J7 hp
 exact h r hr
def cM (ws:List Int) (m:MD) (p:Nat):List Int:=(cO p).map (zX ws m.push)
theorem gD (ws:List Int) (m:MD) (p:Nat):(cM ws m p).length=p:=by unfold cM; rw [a_,cx]
def zs (k:Nat):List Int:=cj k 0
theorem xA (k:Nat):(zs k).length=k:=df ..
theorem vW {k:Nat}:∀ x∈zs k,0<=x:=λx hx=>by rw [dG hx]; exact eG _
theorem u6 {a b:List Int} (h:∀ x∈a,0<=x) (k:∀ x∈b,0<=x):∀ x∈a++b,0<=x:=λx hx=>(cN.mp hx).elim (h x) (k x)
theorem kM {a:Int} (h:0<=a):∀ x∈[a],0<=x:=λx hx=>by rw [cn.mp hx]; exact h
structure uh (n:Nat) (bs:List (Int × Int)) (goal:List Int) (o st:Int) (m:MD):Prop where
 nx:∀ ws:List Int,ws.length=n->∀ j,j < n->zX ws m.nexts j=m.div * ws.getD j 0
 d1:1<=m.div
 ld:zf (cM goal m bs.length) bs<=0 - yD goal m.add
 fl:zf (cM (goal.map (o * ·)) m bs.length) bs + m.div * st<=0 - yD (goal.map (o * ·)) m.add
def vz (goal:List Int) (p:Nat) (m:MD):Int × List Int:=(1,[m.div]++zs m.rows.length++yP (cM goal m p))
theorem zPR {n:Nat} {bs:List (Int × Int)} {goal:List Int} {o st t2:Int} {m:MD} (X:uh n bs goal o st m) (lg:goal.length=n) (ob:∀ b∈bs,b.1<=b.2):xJ (wu n bs ([goal++[t2]]++m.rows)) (xO n bs.length goal t2 m) (n + bs.length) (zS (vz goal bs.length m))=true:=by
 have d1:=X.d1
 have lc:=gD goal m bs.length
 have l1:([goal++[t2]]++m.rows).length=([m.div]++zs m.rows.length).length:=by rw [b_,b_,xA]; rfl
 refine jr (by decide) (by rw [Sh.Xq,b_,uJ,lc,l1]) (u6 (u6 (kM (by omega)) vW) (Yr _)) ?_
 obtain ⟨h1,h2⟩:=J5 (n:=n) ob l1 lc
 have hw:∀ j,ya (([goal++[t2]]++m.rows).map (xW n bs.length)) ([m.div]++zs m.rows.length) j=(xW n bs.length (goal++[t2])).getD j 0 * m.div:=λj=>by
  rw [cq,jq j rfl,show db (xW n bs.length) [goal++[t2]]=[xW n bs.length (goal++[t2])] from rfl,kJ,zs,gC,lA]
 have lR:((cO n).map (zX goal m.nexts)).length=n:=by rw [a_,cx]
 refine WT (by unfold xO; rw [b_,b_,lR,a_,cx]; rfl) (λj hj=>?_) ?_
 ·rw [h1 j hj,hw,Jz lg hj]
  unfold xO
  rw [jK (n:=n + bs.length) (by rw [b_,lR,a_,cx]) hj,ci (l:=_++_)]
  by_cases c:j < n
  ·rw [if_pos c,if_neg (by omega),de (by omega),cV,dM c]
   show _=zX goal m.nexts j
   rw [X.nx goal lg j c,eF]
   omega
  ·rw [if_neg c,if_pos (by omega),cY (by omega),lR]
   show 0 * m.div + _=(cM goal m bs.length)[j - n]?.getD 0
   rw [ci]
   omega
 ·rw [h2,hw,J0 lg]
  unfold xO
  rw [ug (by rw [b_,lR,a_,cx])]
  have:=X.ld
  have:=eF m.div t2
  omega
def kN (k:Nat) (ws:List Int) (p:Nat) (m:MD):Int × List Int:=(1,zs k++zs m.rows.length++[0]++yP (cM ws m p))
theorem zNX {n:Nat} {bs:List (Int × Int)} {goal:List Int} {o st:Int} {m:MD} {room:List (List Int)} {aim:List Int} (X:uh n bs goal o st m) (lg:goal.length=n) (ob:∀ b∈bs,b.1<=b.2):xJ (wu n bs (room++m.rows++[zn aim])) (vy n bs.length (goal.map (o * ·)) st m) (n + bs.length) (zS (kN room.length (goal.map (o * ·)) bs.length m))=true:=by
 have lc:=gD (goal.map (o * ·)) m bs.length
 have lw:(goal.map (o * ·)).length=n:=by rw [a_]; exact lg
 have l1:(room++m.rows++[zn aim]).length=(zs room.length++zs m.rows.length++[0]).length:=by rw [b_,b_,b_,b_,xA,xA]; rfl
 refine jr (by decide) (by rw [Sh.Xq,b_,uJ,lc,l1]) (u6 (u6 (u6 vW vW) (kM (eG _))) (Yr _)) ?_
 obtain ⟨h1,h2⟩:=J5 (n:=n) ob l1 lc
 have hz:zs room.length++zs m.rows.length++[0]=cj (room.length + m.rows.length + 1) 0:=by
  unfold zs
  rw [fL,show [(0:Int)]=cj 1 0 from rfl,fL]
 have lR:((xO n bs.length (goal.map (o * ·)) 0 m).take n).length=n:=by
  unfold xO
  rw [cK,b_,b_,a_,cx]
  omega
 have lm:(wz 1 (-m.div) ((xO n bs.length (goal.map (o * ·)) 0 m).take n) (goal.map (o * ·))).length=n:=by
  unfold wz
  rw [a_,dE,lR,lw,Nat.min_self]
 refine WT (by unfold vy; rw [b_,b_,lm,a_,cx]; rfl) (λj hj=>?_) ?_
 ·rw [h1 j hj,hz,gC,eE]
  unfold vy
  rw [jK (n:=n + bs.length) (by rw [b_,lm,a_,cx]) hj,ci (l:=_++_)]
  by_cases c:j < n
  ·rw [if_neg (by omega),de (by omega)]
   have e1:((xO n bs.length (goal.map (o * ·)) 0 m).take n)[j]? = some (m.div * (goal.map (o * ·)).getD j 0):=by
    unfold xO
    rw [ii c,de (by rw [b_,a_,cx]; omega),de (by rw [a_,cx]; exact c),cV,dM c,<- X.nx _ lw j c]
    rfl
   have e2:(goal.map (o * ·))[j]? = some ((goal.map (o * ·)).getD j 0):=by rw [ci,cu (by omega)]; rfl
   have ez:(((xO n bs.length (goal.map (o * ·)) 0 m).take n).zip (goal.map (o * ·)))[j]? = some (m.div * (goal.map (o * ·)).getD j 0,(goal.map (o * ·)).getD j 0):=List.getElem?_zip_eq_some.mpr ⟨e1,e2⟩
   unfold wz
   rw [cV,ez]
   show 0=1 * (m.div * (goal.map (o * ·)).getD j 0) + (-m.div) * (goal.map (o * ·)).getD j 0
   rw [Int.neg_mul]
   omega
  ·rw [if_pos (by omega),cY (by omega),lm]
   show (cM _ m bs.length).getD (j - n) 0=(cM _ m bs.length)[j - n]?.getD 0
   rw [ci]
 ·rw [h2,hz,gC,eE]
  unfold vy
  rw [ug (by rw [b_,lm,a_,cx]),dn]
  have:=X.fl
  omega
structure Fx (n:Nat) (goal:List Int) (o:Int) (box:List (Int × Int)) (room aims:List (List Int)) (ws:List Int) (b tp:Int):Prop where
 ws:ws=goal.map (o * ·)
 tp:zf (goal.map (o * ·)) box + b<=tp
 sh:∃ B,o * (0 - B)<=b/\((room=[]/\aims=[goal++[B]])\/∃ t2,room=[goal++[t2]]/\zf goal box<=t2/\(aims=[goal++[B]]\/∃ t3,t2 < t3/\aims=[goal++[B],goal++[t3]]))
def xn (room aims:List (List Int)) (ws:List Int) (p:Nat) (m:MD):List (Int × List Int):=kN room.length ws p m :: if 1 < aims.length then [(0,[1]++zs m.rows.length++[1]++zs (2 * p))] else []
def vD (room aims:List (List Int)) (o:Int):List (Int × List Int):=(1,zs room.length++[o]) :: if 1 < aims.length then [(0,[1,1])] else []
theorem zOX:∀ k:Nat,zs (2 * k)=yP (zs k)
 | 0=>rfl
 | k + 1=>by
  show cj (2 * k + 1 + 1) 0=max (0:Int) 0 :: max (0 - 0) 0 :: yP (zs k)
  rw [dm,dm,<- zOX k]
  rfl
theorem zPp (k j:Nat):(zs k).getD j 0=0:=by
 unfold zs
 rw [ci,im]
 split <;> rfl
theorem zPz:∀ bs:List (Int × Int),zf (zs bs.length) bs=0
 | []=>rfl
 | b :: bs=>by
  show max (0 * b.1) (0 * b.2) + zf (zs bs.length) bs=0
  rw [zPz bs,fR,fR]
  rfl
theorem zQr (o:Int) (g:List Int) (j:Nat):(g.map (o * ·)).getD j 0=o * g.getD j 0:=by
 rw [ci,ci,cV]
 cases g[j]? with
 | none=>exact (dn _).symm
 | some _=>rfl
theorem zRE {n:Nat} {bs:List (Int × Int)} {goal tw:List Int} {t2 t3:Int} {rows:List (List Int)} (lg:goal.length=n) (ob:∀ b∈bs,b.1<=b.2) (h:t2 < t3):xJ (wu n bs ([goal++[t2]]++rows++[zn (goal++[t3])])) tw (n + bs.length) (zS (0,[1]++zs rows.length++[1]++zs (2 * bs.length)))=true:=by
 have l1:([goal++[t2]]++rows++[zn (goal++[t3])]).length=([1]++zs rows.length++[1]).length:=by rw [b_,b_,b_,b_,xA]; rfl
 have l0:(zs bs.length).length=bs.length:=xA _
 have eb:zs (2 * bs.length)=yP (zs bs.length):=zOX _
 refine jr (eG _) (by rw [Sh.Xq,b_,xA,l1]) (u6 (u6 (u6 (kM (by decide)) vW) (kM (by decide))) vW) ?_
 rw [eb]
 obtain ⟨h1,h2⟩:=J5 (n:=n) ob l1 l0
 have hw:∀ j,ya (([goal++[t2]]++rows++[zn (goal++[t3])]).map (xW n bs.length)) ([1]++zs rows.length++[1]) j=(xW n bs.length (goal++[t2])).getD j 0 + (xW n bs.length (zn (goal++[t3]))).getD j 0:=λj=>by
  rw [cq,jq j (by rw [a_,b_,b_,xA]; rfl),cq,jq j rfl,show db (xW n bs.length) [goal++[t2]]=[xW n bs.length (goal++[t2])] from rfl,kJ,zs,gC,show db (xW n bs.length) [zn (goal++[t3])]=[xW n bs.length (zn (goal++[t3]))] from rfl,kJ]
  omega
 have lng:(goal.map λx=>-x).length=n:=by rw [a_]; exact lg
 refine Jx (λj hj=>?_) ?_
 ·rw [h1 j hj,hw,Jz lg hj,kK,Jz lng hj,WU,zPp]
  split <;> split <;> omega
 ·rw [h2,hw,J0 lg,kK,J0 lng,zPz]
  omega
theorem zNW {n:Nat} {goal:List Int} {room:List (List Int)} {o B b:Int} (lg:goal.length=n) (o0:0<=o) (h:o * (0 - B)<=b):xJ (room++[zn (goal++[B])]) ((goal.map (o * ·)).map (λx=>-x)++[b]) n (zS (1,zs room.length++[o]))=true:=by
 refine jr (by decide) (by rw [b_,b_,xA]; rfl) (u6 vW (kM o0)) ?_
 have hw:∀ j,ya (room++[zn (goal++[B])]) (zs room.length++[o]) j=(zn (goal++[B])).getD j 0 * o:=λj=>by
  rw [jq j (xA _).symm,zs,gC,kJ,eE]
 have lng:(goal.map λx=>-x).length=n:=by rw [a_]; exact lg
 have lw:((goal.map (o * ·)).map λx=>-x).length=n:=by rw [a_,a_]; exact lg
 refine WT (by rw [b_,lw]; rfl) (λj hj=>?_) ?_
 ·rw [hw,kK,jK lng hj,jK lw hj,WU,WU,zQr,Int.neg_mul,eF]
 ·rw [hw,kK,ug lng,ug lw,eF,<- eA]
  exact h
theorem zLa {n:Nat} {goal tw:List Int} {t2 t3:Int} (lg:goal.length=n) (h:t2 < t3):xJ ([goal++[t2]]++[zn (goal++[t3])]) tw n (zS (0,[1,1]))=true:=by
 refine jr (eG _) rfl (λx hx=>?_) ?_
 ·simp only [cz,cZ,or_false,or_self] at hx
  rw [hx]; decide
 have lng:(goal.map λx=>-x).length=n:=by rw [a_]; exact lg
 have hw:∀ j,ya ([goal++[t2]]++[zn (goal++[t3])]) [1,1] j=(goal++[t2]).getD j 0 + (zn (goal++[t3])).getD j 0:=λj=>by
  rw [show [goal++[t2]]++[zn (goal++[t3])]=[goal++[t2],zn (goal++[t3])] from rfl,ut,kJ]
  omega
 refine Jx (λj hj=>?_) ?_
 ·rw [hw,jK lg hj,kK,jK lng hj,WU]
  omega
 ·rw [hw,ug lg,kK,ug lng]
  omega
theorem QA {α β:Type} {f:α->β} {g:α × β->Bool} {l:List α} (h:∀ x∈l,g (x,f x)=true):(l.zip (l.map f)).all g=true:=cR.mpr λp hp=>by
 obtain ⟨x,hx,rfl⟩:=J7 hp
 exact h x hx
theorem QB {α β:Type} {f:α->β} (l:List α):decide (((l.map f).length:Int)=(l.length:Int))=true:=by rw [a_]; exact decide_eq_true rfl
theorem kO (bx:List (Int × Int)):(y9 bx).length=2 * bx.length:=by
 unfold y9
 rw [eK]
 have e:(bx.mapIdx (xX bx.length)).map di=cj bx.length 2:=by
  refine e9 (by simp) λi h1 h2=>?_
  simp [xX]
 rw [e]
 simp
 omega
section
variable {n:Nat} {bs:List (Int × Int)} {ms:List MD} {goal:List Int} {o st:Int} {box:List (Int × Int)} {room aims:List (List Int)} {ws:List Int} {b tp:Int}
theorem Fx.rm (F:Fx n goal o box room aims ws b tp):∀ r∈room,∃ t2,r=goal++[t2]/\room=[goal++[t2]]/\zf goal box<=t2:=λr hr=>by
 obtain ⟨B,_,⟨rfl,_⟩ | ⟨t2,rfl,h,_⟩⟩:=F.sh
 ·cases hr
 ·exact ⟨t2,cn.mp hr,rfl,h⟩
theorem zJO (F:Fx n goal o box room aims ws b tp) (lg:goal.length=n) (lb:box.length=n) (ob:∀ b∈box,b.1<=b.2):u4 (y9 box) room n (yM (room.map λr=>(1,yP (r.take n))))=true:=J8 λr hr=>by
 obtain ⟨t2,rfl,_,h⟩:=F.rm r hr
 rw [dl (by omega),c_ (by omega)]
 exact jr (by decide) (by rw [uJ,kO,lb,lg]) (Yr _) (zI8 lb lg ob h)
theorem zOF (F:Fx n goal o box room aims ws b tp) (lg:goal.length=n) (lb:box.length=n) (ob:∀ b∈box,b.1<=b.2):xJ (y9 box) (ws++[tp - b]) n (zS (1,yP ws))=true:=by
 have lw:ws.length=n:=by rw [F.ws,a_]; exact lg
 refine jr (by decide) (by rw [uJ,kO,lb,lw]) (Yr _) (zI8 lb lw ob ?_)
 have:=F.tp
 rw [<- F.ws] at this
 omega
theorem QC (F:Fx n goal o box room aims ws b tp) (lg:goal.length=n) (ob:∀ b∈bs,b.1<=b.2) (X:∀ m∈ms,uh n bs goal o st m):q9 n bs ms room room (yE (ms.map λm=>room.map λ_=>vz goal bs.length m))=true:=by
 show (decide ((((ms.map λm=>room.map λ_=>vz goal bs.length m).map yM).length:Int)=(ms.length:Int)) && (ms.zip ((ms.map λm=>room.map λ_=>vz goal bs.length m).map yM)).all λp=>WM n bs room room p.1 p.2)=true
 rw [cA,QB,fX]
 refine QA λm hm=>?_
 show u4 (wu n bs (room++m.rows)) (q0 n bs.length m room) (n + bs.length) (yM (room.map λ_=>vz goal bs.length m))=true
 have e:(room.map λ_=>vz goal bs.length m)=(q0 n bs.length m room).map λ_=>vz goal bs.length m:=by unfold q0; rw [cA]; rfl
 rw [e]
 refine J8 λr hr=>?_
 obtain ⟨r2,hr2,rfl⟩:=cw.mp hr
 obtain ⟨t2,rfl,er,h⟩:=F.rm r2 hr2
 rw [er,dl (by omega),c_ (by omega),ug lg]
 exact zPR (X m hm) lg ob
theorem zJP (F:Fx n goal o box room aims ws b tp) (lg:goal.length=n) (o0:0<=o):ji n room ws b aims (yM (vD room aims o))=true:=by
 obtain ⟨B,hB,k⟩:=F.sh
 have f1:=zNW (room:=room) lg o0 hB
 rw [<- F.ws] at f1
 have one:aims=[goal++[B]]->ji n room ws b aims (yM (vD room aims o))=true:=λe=>by
  rw [e]
  show (xJ (room++[zn (goal++[B])]) _ n (zS _) && true)=true
  rw [f1]; rfl
 rcases k with ⟨_,e⟩ | ⟨t2,rfl,_,e | ⟨t3,h3,rfl⟩⟩
 ·exact one e
 ·exact one e
 ·show (xJ _ _ n (zS _) && (xJ _ _ n (zS _) && true))=true
  rw [f1,zLa lg h3]; rfl
theorem zLO (F:Fx n goal o box room aims ws b tp) (lg:goal.length=n) (ob:∀ b∈bs,b.1<=b.2) (X:∀ m∈ms,uh n bs goal o st m):jk n bs ms room ws st aims (yE (ms.map (xn room aims ws bs.length)))=true:=by
 show (decide ((((ms.map (xn room aims ws bs.length)).map yM).length:Int)=(ms.length:Int)) && (ms.zip ((ms.map (xn room aims ws bs.length)).map yM)).all λp=>jj n bs room ws st aims p.1 p.2)=true
 rw [cA,QB,fX]
 refine QA λm hm=>?_
 show jj n bs room ws st aims m (yM (xn room aims ws bs.length m))=true
 obtain ⟨B,hB,k⟩:=F.sh
 have f1:∀ aim,xJ (wu n bs (room++m.rows++[zn aim])) (vy n bs.length ws st m) (n + bs.length) (zS (kN room.length ws bs.length m))=true:=λaim=>by rw [F.ws]; exact zNX (X m hm) lg ob
 have one:aims=[goal++[B]]->jj n bs room ws st aims m (yM (xn room aims ws bs.length m))=true:=λe=>by
  rw [e]
  show (xJ _ _ _ (zS (kN room.length ws bs.length m)) && true)=true
  rw [f1]; rfl
 rcases k with ⟨_,e⟩ | ⟨t2,rfl,_,e | ⟨t3,h3,rfl⟩⟩
 ·exact one e
 ·exact one e
 ·show (xJ _ _ _ (zS (kN _ ws bs.length m)) && (xJ _ _ _ (zS (0,[1]++zs m.rows.length++[1]++zs (2 * bs.length))) && true))=true
  rw [f1,zRE lg ob h3]; rfl
def xY (n:Nat):Int × List Int:=(0,zs (2 * n)++[1])
theorem zQt {tw:List Int} (lb:box.length=n):xJ (y9 box++[zs n++[-1]]) tw n (zS (xY n))=true:=by
 refine jr (eG _) (by rw [b_,b_,kO,xA,lb]; rfl) (u6 vW (kM (by decide))) ?_
 have hw:∀ j,ya (y9 box++[zs n++[-1]]) (zs (2 * n)++[1]) j=(zs n++[-1]).getD j 0:=λj=>by
  rw [jq j (by rw [kO,xA,lb]),zs,gC,kJ]
  omega
 refine Jx (λj hj=>?_) ?_
 ·rw [hw,jK (xA n) hj,zPp]
 ·rw [hw,ug (xA n)]; decide
theorem Ys {tu:Int} (F:Fx n goal o box room aims ws b tp) (lg:goal.length=n) (lb:box.length=n) (obx:∀ b∈box,b.1<=b.2) (ob:∀ b∈bs,b.1<=b.2) (X:∀ m∈ms,uh n bs goal o st m) (o0:0<=o) (s1:1<=st) (ht:tp < tu * st):wB n bs ms (y9 box) aims tu room ws b st tp (yM (room.map λr=>(1,yP (r.take n)))) (yE (ms.map λm=>room.map λ_=>vz goal bs.length m)) (yE (ms.map (xn room aims ws bs.length))) (yM (vD room aims o)) (zS (1,yP ws))=true:=by
 unfold wB
 rw [if_neg (by omega),zJO F lg lb obx,QC F lg ob X,zOF F lg lb obx,zJP F lg o0,zLO F lg ob X]
 rfl
theorem Yt {tu:Int} (F:Fx n goal o box room aims ws b tp) (lg:goal.length=n) (lb:box.length=n) (obx:∀ b∈box,b.1<=b.2) (ob:∀ b∈bs,b.1<=b.2) (X:∀ m∈ms,uh n bs goal o st m) (s1:1<=st) (ht:tp < tu * st):wB n bs ms (y9 box) [] tu room ws b st tp (yM (room.map λr=>(1,yP (r.take n)))) (yE (ms.map λm=>room.map λ_=>vz goal bs.length m)) (.lst (ms.map λ_=>.lst [])) (.lst []) (zS (1,yP ws))=true:=by
 unfold wB
 rw [if_neg (by omega),zJO F lg lb obx,QC F lg ob X,zOF F lg lb obx]
 show jk n bs ms room ws st [] (.lst (ms.map λ_=>.lst []))=true
 show (decide (((ms.map λ_=>D.lst []).length:Int)=(ms.length:Int)) && (ms.zip (ms.map λ_=>D.lst [])).all λp=>jj n bs room ws st [] p.1 p.2)=true
 rw [QB,fX]
 exact QA λm hm=>rfl
theorem Yu (F:Fx n goal o box room aims ws b tp) (lg:goal.length=n) (lb:box.length=n) (ob:∀ b∈bs,b.1<=b.2) (X:∀ m∈ms,uh n bs goal o st m) (o0:0<=o) (s1:1<=st):wB n bs ms (y9 box++[zs n++[-1]]) aims 0 room ws b st (-1) (yM (room.map λ_=>xY n)) (yE (ms.map λm=>room.map λ_=>vz goal bs.length m)) (yE (ms.map (xn room aims ws bs.length))) (yM (vD room aims o)) (zS (xY n))=true:=by
 unfold wB
 rw [if_neg (by omega),J8 λr hr=>zQt lb,QC F lg ob X,zQt lb,zJP F lg o0,zLO F lg ob X]
 rfl
end
theorem zKT {o:Int} (o0:0<=o):∀ (cs:List Int) (bs:List (Int × Int)),zf (cs.map (o * ·)) bs=o * zf cs bs
 | [],_=>(dn _).symm
 | _ :: _,[]=>(dn _).symm
 | c :: cs,b :: bs=>by
  show max (o * c * b.1) (o * c * b.2) + zf (cs.map (o * ·)) bs=o * (max (c * b.1) (c * b.2) + zf cs bs)
  rw [zKT o0 cs bs,lS,fB,fB]
  congr 1
  by_cases h:c * b.1<=c * b.2
  ·rw [eN h,eN (eO h o0)]
  ·have h:c * b.2<=c * b.1:=by omega
   rw [eV h,eV (eO h o0)]
theorem zJG (o:Int) (j:Nat):∀ (ws:List Int) (M:List (List Int)),zX (ws.map (o * ·)) M j=o * zX ws M j
 | [],M=>by rw [iC,zJH,dn]
 | w :: ws,[]=>by
  show zX _ [] j=o * zX _ [] j
  unfold zX
  rw [i5,i5]
  exact (dn _).symm
 | w :: ws,r :: M=>by rw [cT,Zj,Zj,zJG o j ws M,lS,fB]
theorem zRW (o:Int) (goal:List Int) (m:MD) (p:Nat):cM (goal.map (o * ·)) m p=(cM goal m p).map (o * ·):=by
 unfold cM
 rw [cA]
 exact cX λj _=>zJG o j goal m.push
theorem QD (f:Int):∀ ws g:List Int,yD ws (g.map λc=>0 - c * f)=0 - yD ws g * f
 | [],_=>by show (0:Int)=0 - 0 * f; rw [fR]; rfl
 | _ :: _,[]=>by show (0:Int)=0 - 0 * f; rw [fR]; rfl
 | w :: ws,c :: g=>by
  show w * (0 - c * f) + yD ws (g.map λc=>0 - c * f)=0 - (w * c + yD ws g) * f
  rw [QD f ws g,Int.mul_sub,Int.add_mul,dn,fB]
  omega
theorem zHY (o:Int):∀ ws g:List Int,yD (ws.map (o * ·)) g=o * yD ws g
 | [],_=>(dn _).symm
 | _ :: _,[]=>(dn _).symm
 | w :: ws,c :: g=>by
  show o * w * c + yD (ws.map (o * ·)) g=o * (w * c + yD ws g)
  rw [zHY o ws g,lS,fB]
theorem QE:∀ g:List Int,yD g g=(g.map λc=>c * c).sum
 | []=>rfl
 | c :: g=>by rw [cT,eI,<- QE g]; rfl
def kR (n:Nat) (d:Int):List (List Int):=(cO n).map λ(i:Nat)=>(cO n).map λ(j:Nat)=>d * if (i:Int)=(j:Int) then 1 else 0
theorem zRQ {n:Nat} {d:Int} {ws:List Int} (l:ws.length=n) {j:Nat} (hj:j < n):zX ws (kR n d) j=d * ws.getD j 0:=by
 have key:∀ (k:Nat) (vs:List Int),k + vs.length<=n->zX vs ((cO vs.length).map λ(i:Nat)=>(cO n).map λ(j:Nat)=>d * if ((k + i:Nat):Int)=(j:Int) then 1 else 0) j=if k<=j then d * vs.getD (j - k) 0 else 0:=by
  intro k vs
  induction vs generalizing k with
  | nil=>
   intro _
   rw [zJH]
   split
   ·exact (dn _).symm
   ·rfl
  | cons v vs ih=>
   intro h
   have h:k + (vs.length + 1)<=n:=h
   have e:((cO (v :: vs).length).map λ(i:Nat)=>(cO n).map λ(j:Nat)=>d * if ((k + i:Nat):Int)=(j:Int) then 1 else 0)=((cO n).map λ(j:Nat)=>d * if (k:Int)=(j:Int) then 1 else 0) :: ((cO vs.length).map λ(i:Nat)=>(cO n).map λ(j:Nat)=>d * if ((k + 1 + i:Nat):Int)=(j:Int) then 1 else 0):=by
    show (cO (vs.length + 1)).map _=_
    rw [iz,cT,cA]
    congr 1
    refine cX λi _=>?_
    show ((cO n).map λ(j:Nat)=>d * if ((k + (i + 1):Nat):Int)=(j:Int) then 1 else 0)=_
    rw [show k + (i + 1)=k + 1 + i by omega]
   rw [e,Zj,ih (k + 1) (by omega),ci,cV,dM hj]
   show v * (d * if (k:Int)=(j:Int) then 1 else 0) + _=_
   by_cases c:k=j
   ·rw [if_pos (by omega),if_neg (by omega),if_pos (by omega),c,eU,lK,eF]
    show d * v + 0=d * v
    omega
   ·rw [if_neg (by omega),dn,dn,eE]
    by_cases c2:k<=j
    ·rw [if_pos (show k + 1<=j by omega),if_pos c2,show j - k=j - (k + 1) + 1 by omega,iV]
    ·rw [if_neg (show ¬ k + 1<=j by omega),if_neg c2]
 have:=key 0 ws (by omega)
 rw [if_pos (eg _),iF] at this
 rw [<- this]
 unfold kR
 rw [l]
 congr 1
 exact cX λi _=>by rw [iL]
theorem zRF {W s:Int} (h:0 < s):W<=(0 - (0 - W).fdiv s) * s:=by
 rw [eW _ (Int.le_of_lt h),Int.sub_mul,fR]
 have:=Int.ediv_mul_le (0 - W) (Int.ne_of_gt h)
 omega
theorem zRO {n:Nat} {bs:List (Int × Int)} {goal:List Int} {o st far:Int} {m:MD} (lg:goal.length=n) (o1:1<=o) (s1:1<=st) (d1:1<=m.div) (hn:m.nexts=kR n m.div) (ha:m.add=goal.map λc=>0 - c * far) (hf:zf ((cM goal m bs.length).map (o * ·)) bs + m.div * st<=far * (o * (goal.map λc=>c * c).sum)):uh n bs goal o st m:=by
 have e1:yD goal m.add=0 - (goal.map λc=>c * c).sum * far:=by rw [ha,QD,QE]
 have e2:yD (goal.map (o * ·)) m.add=0 - o * ((goal.map λc=>c * c).sum * far):=by rw [ha,QD,zHY,QE,fB]
 have e3:far * (o * (goal.map λc=>c * c).sum)=o * ((goal.map λc=>c * c).sum * far):=by rw [Int.mul_left_comm,eF far]
 have t:=zKT (show 0<=o by omega) (cM goal m bs.length) bs
 have p:0<=m.div * st:=ic (by omega) (by omega)
 rw [e3] at hf
 refine ⟨λws lw j hj=>by rw [hn]; exact zRQ lw hj,d1,?_,?_⟩
 ·rw [e1]
  have:o * zf (cM goal m bs.length) bs<=o * ((goal.map λc=>c * c).sum * far):=by omega
  have:=Int.le_of_mul_le_mul_left this (show 0 < o by omega)
  omega
 ·rw [zRW,e2]
  omega
theorem zKS:∀ (cs:List Int) (bs:List (Int × Int)),((cs.zip bs).map λq=>max (q.1 * q.2.1) (q.1 * q.2.2)).sum=zf cs bs
 | [],_=>rfl
 | _ :: _,[]=>rfl
 | c :: cs,b :: bs=>by rw [hZ,cT,eI,zKS cs bs]; rfl
theorem QF {j:Nat}:∀ {us:List Int} {ls:List (List Int)},us.length=ls.length->((cO us.length).map λi=>us.getD i 0 * (ls.getD i []).getD j 0).sum=zX us ls j
 | [],[],_=>rfl
 | [],_ :: _,h=>nomatch h
 | _ :: _,[],h=>nomatch h
 | u :: us,v :: vs,h=>by
  rw [cJ,iz,cT,cA,eI]
  show u * v.getD j 0 + ((cO us.length).map λi=>us.getD i 0 * (vs.getD i []).getD j 0).sum=u * v.getD j 0 + zX us vs j
  rw [QF (Nat.succ.inj h)]
theorem zH1 (x:Int):∀ xs:List Int,yP (xs++[x])=yP xs++[max x 0,max (0 - x) 0]
 | []=>rfl
 | y :: xs=>by show _ :: _ :: yP (xs++[x])=_; rw [zH1 x xs]; rfl
theorem WV {e:Nat}:∀ {xs:List Int},(∀ x∈xs,Bd e x)->∀ y∈yP xs,Bd e y
 | [],_,_,h=>nomatch h
 | x :: xs,h,y,hy=>by
  have hx:=h x cv
  rcases cz.mp hy with rfl | hy
  ·exact kI hx xS
  rcases cz.mp hy with rfl | hy
  ·rw [eA]; exact kI hx.neg xS
  exact WV (λz hz=>h z (cr _ hz)) y hy
def IF (d:D) (ns:List Int):Prop:=IS d ns\/d=D.scr ns
theorem IF.seq {d:D} {ns:List Int} (h:IF d ns) {R:List D->Prop} (q:R (ns.map D.int)):uV d R:=by
 rcases h with (rfl | rfl) | rfl <;> exact q
theorem IF.zipL {d:D} {ns:List Int} {es:List D} (h:IF d ns) {R:List D->Prop} (q:R (dA xR (ns.map D.int) es)):uW [d,.lst es] R:=by
 rcases h with (rfl | rfl) | rfl <;> exact q
theorem IF.ix {d:D} {ns:List Int} (h:IF d ns) {i:Nat} (hi:i < ns.length) {R:D->Prop} (q:R (.int (ns.getD i 0))):Zx d (.int (i:Int)) R:=by
 rcases h with (rfl | rfl) | rfl <;> exact ⟨_,uc hi rfl,q⟩
def zRH:FL:=λds R=>∃ (d:D) (ns:List Int) (bs:List (Int × Int)) (e:Nat),ds=[d,.lst (bs.map zq)]/\IF d ns/\ns.length<=3/\(∀ x∈ns,Bd 10 x)/\e<=500/\(∀ b∈bs,Bd e b.1/\Bd e b.2)/\R (.int (zf ns bs))
def QG:FL:=λds R=>∃ (d:D) (ns:List Int),ds=[d]/\IF d ns/\ns.length<=100/\R (L (yP ns))
abbrev wc (m:MD):D:=.tup [.frz (m.rows.map U),.frz (m.nexts.map D.scr),D.scr m.steer,.frz (m.push.map D.scr),D.scr m.add,.int m.div]
abbrev wQ (n:Nat) (bs:List (Int × Int)) (ms:List MD) (u:Int):D:=.tup [.int (n:Int),.frz (bs.map zq),.frz (ms.map wc),.int u]
structure Dr (n:Nat) (bs:List (Int × Int)) (ms:List MD) (u:Int) (goal:List Int) (often step:Int):Prop where
 ok:xi n bs ms
 hms:∀ m∈ms,Ym 200 m
 cl:qy ms=true
 hbs:∀ b∈bs,Bd 105 b.1/\Bd 105 b.2
 u1:1<=u
 bu:Bd 100 u
 lg:goal.length=n
 bg:∀ c∈goal,-2<=c/\c<=2
 o1:1<=often
 o3:often<=3
 s1:1<=step
 bst:Bd 101 step
 b2:bs.length<=2
 m3:ms.length<=3
 r1:∀ m∈ms,m.rows.length<=1
 pb:∀ m∈ms,∀ r∈m.push,∀ x∈r,Bd 100 x
 dv:∀ m∈ms,Bd 3 m.div
 ex:∀ m∈ms,uh n bs goal often step m
def Yv:FL:=λds R=>∃ (xs goal:List Int) (bs:List (Int × Int)) (often step:Int),ds=[L xs,L goal,.lst (bs.map zq),.int often,.int step]/\4<=xs.length/\WQ xs/\1<=goal.length/\goal.length<=3/\(∀ c∈goal,-2<=c/\c<=2)/\(∃ c∈goal,c≠0)/\bs.length<=2/\(∀ b∈bs,Bd 105 b.1/\Bd 105 b.2)/\1<=often/\often<=3/\1<=step/\Bd 101 step/\∀ m,wV m goal.length bs.length->uh goal.length bs goal often step m->Ym 200 m->(∀ x∈m.steer,x=0)->m.rows.length<=1->(∀ r∈m.push,∀ x∈r,Bd 100 x)->Bd 3 m.div->R (kH m)
def zOT:FL:=λds R=>∃ ns,ds=[.scr ns]/\∀ n bs ms u goal often step,Dr n bs ms u goal often step->R (.tup [Yp n bs ms u,L goal,.int often,.int step])
def zOK:FL:=λds R=>∃ n bs ms u m d ns,ds=[wQ n bs ms u,wc m,d]/\n<=3/\bs.length<=2/\wV m n bs.length/\(∀ r∈m.push,∀ x∈r,Bd 100 x)/\IF d ns/\ns.length=n/\(∀ x∈ns,Bd 10 x)/\R (L (yP (cM ns m bs.length)))
theorem Yx {α:Type} {f:α->D} {l:List α} {k:Nat} (z:α) (h:k < l.length):xB (l.map f) (k:Int)=some (f (l.getD k z)):=by
 rw [Zy]
 unfold xB vJ
 rw [if_pos (by omega),if_pos (by omega)]
 show lu f l[((k:Nat):Int).toNat]? = _
 rw [show ((k:Nat):Int).toNat=k by omega,cu h,ci,cu h]
 rfl
theorem WW {α:Type} {l:List α} {k:Nat} {z:α} (h:k < l.length):l.getD k z∈l:=by
 rw [ci,cu h]
 exact ek h
def qV2:D->Int × (Int × Int)
 | .tup [.int c,.tup [.int l,.int h]]=>(c,(l,h))
 | _=>(0,(0,0))
theorem zPq (cs:List Int) (bs:List (Int × Int)):dA xR (cs.map D.int) (bs.map zq)=(cs.zip bs).map λq=>xR (.int q.1) (zq q.2):=by
 rw [List.zipWith_map,List.zip,List.map_zipWith]
theorem QH {e f:Nat} {ws:List Int} {M:List (List Int)} (h:∀ x∈ws,Bd e x) (k:∀ r∈M,∀ x∈r,Bd f x) (j:Nat):Bd (e + f + ws.length) (zX ws M j):=by
 have b:∀ x∈(ws.zip M).map λq=>q.1 * q.2.getD j 0,Bd (e + f) x:=λx hx=>by
  obtain ⟨q,hq,rfl⟩:=cw.mp hx
  obtain ⟨h1,h2⟩:=cW hq
  exact (h _ h1).mul (qw (k _ h2) j)
 have:=WS b
 rw [a_,dE] at this
 exact this.mono (by omega)
theorem fdE {a b:Int} (h:0 < b):a.fdiv b=a / b:=eW _ (by omega)
theorem Yy {g:List Int} {n:Nat} (l:g.length=n) (h:g≠cj n 0):∃ c∈g,c≠0:=by
 apply eZ
 intro k
 refine h (List.eq_replicate_iff.mpr ⟨l,λc hc=>?_⟩)
 apply eZ
 intro z
 exact k ⟨c,hc,z⟩
theorem zRT (ws:List Int) (b:Int):yc (ws.map D.int++[D.int b]) none (some (-1))=ws.map D.int:=by
 rw [zJN,uI]
theorem Yz (ws:List Int) (b:Int):xB (ws.map D.int++[D.int b]) (-1)=some (.int b):=by
 rw [zJN,gA]
theorem ui (ws:List Int) (b:Int):D.tup (ws.map D.int++[D.int b])=U (ws++[b]):=by unfold U; rw [cq]; rfl
structure Fl (n:Nat) (box:List (Int × Int)) (room aims:List (List Int)) (ws:List Int) (b tp tu:Int):Prop where
 lb:box.length=n
 hb:∀ b∈box,Bd 105 b.1/\Bd 105 b.2
 rm:∀ r∈room,r.length=n + 1/\∀ x∈r,Bd 130 x
 r1:room.length<=1
 am:∀ r∈aims,r.length=n + 1/\∀ x∈r,Bd 130 x
 a2:aims.length<=2
 lw:ws.length=n
 bw:∀ x∈ws,Bd 5 x
 bb:Bd 110 b
 bt:Bd 125 tp
 t0:0<=tu
 bu:Bd 130 tu
 ord:∀ b∈box,b.1<=b.2
abbrev vm (box:List (Int × Int)) (room aims:List (List Int)) (ws:List Int) (b tp tu:Int):D:=.tup [.lst (box.map zq),Rm room,Rm aims,U (ws++[b]),.int tp,.int tu]
def zOS:FL:=λds R=>∃ n bs ms u goal often step c,ds=[wQ n bs ms u,D.scr goal,.int often,.int step,.int c]/\Dr n bs ms u goal often step/\∀ box room aims ws b tp tu,Fl n box room aims ws b tp tu->Fx n goal often box room aims ws b tp->R (vm box room aims ws b tp tu)
def ShX (goal:List Int) (box:List (Int × Int)) (B:Int) (room aims:List (List Int)):Prop:=(room=[]/\aims=[goal++[B]])\/∃ t2,room=[goal++[t2]]/\zf goal box<=t2/\(aims=[goal++[B]]\/∃ t3,t2 < t3/\aims=[goal++[B],goal++[t3]])
abbrev zRS (room:List (List Int)) (A1 A2:D) (ws:List Int) (b st tp:Int) (A6 A7 A8:D):D:=.lst [Rm room,A1,A2,U (ws++[b]),.int st,.int tp,A6,A7,A8]
theorem QI (k:Nat):cj k (D.int 0)=(cj k (0:Int)).map D.int:=(fC ..).symm
theorem Y0 (o:Int) {ns:List Int} {ds:List D} (e:ds=ns.map D.int):D.tup [.int o,.lst ds]=zS (o,ns):=by rw [e]
def vX (n:Nat) (room:List (List Int)):List (Int × List Int):=room.map λr=>(1,yP (r.take n))
def w4 (goal:List Int) (p:Nat) (room:List (List Int)) (m:MD):List (Int × List Int):=room.map λ_=>vz goal p m
def zOL:FL:=λds R=>∃ n bs ms u goal often step box room aims ws b tp tu,ds=[wQ n bs ms u,D.scr goal,.int often,.int step,vm box room aims ws b tp tu]/\Dr n bs ms u goal often step/\Fl n box room aims ws b tp tu/\R (zRS room (yM (vX n room)) (yE (ms.map (w4 goal bs.length room))) ws b step tp (yE (ms.map (xn room aims ws bs.length))) (yM (vD room aims often)) (zS (1,yP ws)))
theorem kS (k:Nat):cj k (D.int 0)=(zs k).map D.int:=QI k
theorem QJ {α β:Type} {l:List α} {k:Nat} {x:α} (f:α->β) (h:l[k]? = some x):(l.take (k + 1)).map f=(l.take k).map f++[f x]:=by rw [qG h,cq]; rfl
abbrev kL (b:Bool) (ds:List D):D:=match b with
 | true=>.frz ds
 | false=>.lst ds
theorem zQ0 {b:Bool} {ds:List D} {R:List D->Prop} (q:R ds):uV (kL b ds) R:=by cases b <;> exact q
theorem zPS {b:Bool} {ds:List D} {R:D->Prop} (q:R (.lst ds)):U9 [kL b ds] R:=by cases b <;> exact q
abbrev jL (b:Bool) (m:MD):D:=.tup [.frz (m.rows.map U),.frz (m.nexts.map D.scr),kL b (m.steer.map D.int),.frz (m.push.map D.scr),D.scr m.add,.int m.div]
abbrev QK (b:Bool) (n:Nat) (bs:List (Int × Int)) (ms:List MD) (u:Int):D:=.tup [.int (n:Int),.frz (bs.map zq),kL b (ms.map (jL b)),.int u]
def gE:D->List Int
 | .frz ds=>ds.map yU
 | _=>[]
theorem kT (ns:List Int):gE (D.scr ns)=ns:=WG ns
def zOO (C CM:Addr):FL:=λds R=>∃ a n bs ms u,ds=[QK a n bs ms u]/\xi n bs ms/\R (wb C CM n bs ms)
def jM (n:Nat) (m:MD):MD:={ m with steer:=m.steer.take (n - 1)++[1] }
theorem zOm {m m':MD} (h:wc m=wc m'):m=m':=by
 have key:∀ {a b:List Int},D.scr a=D.scr b->a=b:=λ{a b} e=>by rw [<- kT a,e,kT]
 have ky2:∀ {u:List Int->D} {v:D->List Int},(∀ x,v (u x)=x)->∀ {a b:List (List Int)},a.map u=b.map u->a=b:=λ{u v} hv {a b} e=>by
  have:=congrArg (db v) e
  rw [cA,cA,Yb (f:=v ∘ u) λx _=>hv x,Yb (f:=v ∘ u) λx _=>hv x] at this
  exact this
 cases m; cases m'
 injection h with h
 injection h with h1 h
 injection h with h2 h
 injection h with h3 h
 injection h with h4 h
 injection h with h5 h
 injection h with h6 h
 injection h1 with h1
 injection h2 with h2
 injection h4 with h4
 injection h6 with h6
 cases ky2 ub h1
 cases ky2 kT h2
 cases key h3
 cases ky2 kT h4
 cases key h5
 cases h6
 rfl
theorem zQL {f:MD->D} {g:MD->D}:∀ {ms:List MD} {es:List D},Paired (λd e=>∀ m∈ms,d=f m->e=g m) (ms.map f) es->es=ms.map g:=λ{ms es} h=>by
 have go:∀ {l:List MD} {es:List D},(∀ m∈l,m∈ms)->Paired (λd e=>∀ m∈ms,d=f m->e=g m) (l.map f) es->es=l.map g:=by
  intro l
  induction l with
  | nil=>intro es _ h; cases h; rfl
  | cons m l ih=>
   intro es hl h
   cases h with
   | cons h t=>
    rw [h m (hl m cv) rfl,ih (λx hx=>hl x (cr _ hx)) t]
    rfl
 exact go (λ_ h=>h) h
def zRJ:FL:=λds R=>∃ n bs ms u,ds=[wQ n bs ms u]/\xi n bs ms/\R (QK false n bs (ms.map (jM n)) u)
theorem zO7 {n:Nat} {bs:List (Int × Int)} {ms:List MD} (O:xi n bs ms):xi n bs (ms.map (jM n))/\qy (ms.map (jM n))=false:=by
 have n1:=O.n1
 refine ⟨⟨n1,O.n3,O.bok,O.b6,by rw [a_]; exact O.m1,by rw [a_]; exact O.m40,λx hx=>?_⟩,?_⟩
 ·obtain ⟨m,hm,rfl⟩:=cw.mp hx
  have MO:=O.mok m hm
  exact ⟨MO.rows,MO.few,MO.nexts,by show (m.steer.take (n - 1)++[1]).length=n; rw [b_,cK,MO.steer]; show min (n - 1) n + 1=n; omega,MO.push,MO.add,MO.div,MO.n3,MO.p6⟩
 ·refine Bool.eq_false_iff.mpr λc=>?_
  have m1:=O.m1
  cases ms with
  | nil=>cases m1
  | cons m ms=>
   have k:=cR.mp (cR.mp c (jM n m) cv) 1 (cN.mpr (.inr (cn.mpr rfl)))
   cases k
abbrev wd (d0 d1 d2 d3 d4 d5 d6 d7 d8:D):D:=.lst [d0,d1,d2,d3,d4,d5,d6,d7,d8]
def Y1:FL:=λds R=>∃ d0 d1 d2 d3 d4 d5 a6 d7 d8 x,ds=[wd d0 d1 d2 d3 d4 d5 (.lst a6) d7 d8,x]/\a6.length<=900/\R (wd d0 d1 d2 d3 d4 d5 (.lst (a6.map λ_=>.lst [])) (.lst []) d8)
def Y2:FL:=λds R=>∃ room d1 d2 d3 d4 d5 d6 d7 d8 n,ds=[wd (Rm room) d1 d2 d3 d4 d5 d6 d7 d8,.int ((n:Nat):Int)]/\room.length<=900/\n<=3/\R (wd (Rm room) (yM (room.map λ_=>xY n)) d2 d3 d4 (.int (-1)) d6 d7 (zS (xY n)))
def gF (e:D):Prop:=e=.non\/e=.tup []\/e=.int 5\/e=.str "1"
def Y3 (n:Nat) (room:List (List Int)) (d1 d2 d6 d7 d8 e0 e1 e2 e6 e7 e8:D):Prop:=
 (Fw 4 e0/\ua (n:Int) e0=false/\e1=d1/\e2=d2/\e6=d6/\e7=d7/\e8=d8)\/(e0=Rm room/\((gF e1/\e2=d2/\e6=d6/\e7=d7/\e8=d8)\/(e1=d1/\gF e2/\e6=d6/\e7=d7/\e8=d8)\/(e1=d1/\e2=d2/\gF e6/\e7=d7/\e8=d8)\/(e1=d1/\e2=d2/\e6=d6/\gF e7/\e8=d8)\/(e1=d1/\e2=d2/\e6=d6/\e7=d7/\gF e8)))
def Y4:FL:=λds R=>∃ n room d1 d2 d3 d4 d5 d6 d7 d8 c,ds=[wd (Rm room) d1 d2 d3 d4 d5 d6 d7 d8,.int c]/\room.length<=1/\(∀ r∈room,r.length=n + 1)/\1<=n/\n<=3/\∀ e0 e1 e2 e6 e7 e8,Y3 n room d1 d2 d6 d7 d8 e0 e1 e2 e6 e7 e8->R (wd e0 e1 e2 d3 d4 d5 e6 e7 e8)
def Y5 (C CM CC CF:Addr):FL:=λds R=>∃ n bs ms c p,ds=[wb C CM n bs ms,c,p]/\((xi n bs ms/\qy ms=false/\R (.str "open"))\/Jt C CM CC CF [wb C CM n bs ms,c,p] R)
theorem QL (t:List (List Int)):(Rm t).pl 50=true:=cR.mpr λd m=>by
 obtain ⟨r,_,rfl⟩:=cw.mp m
 exact zKu 47 r
theorem zNI {n:Nat} {room:List (List Int)} {B:List D} (e:B=[D.non,.tup (room.map U),.lst [.non],.lst [.lst [.int 0,.int 0,.int 1]],.int 7,.lst [.str "row"]]) (l:room.length<=900) (hr:∀ r∈room,r.length=n + 1) (n3:n<=3):∀ z∈B,Fw 4 z/\ua (n:Int) z=false:=λz hz=>by
 rw [e] at hz
 simp only [cz,cZ,or_false] at hz
 have one:∀ {d:D},Fw 3 d->Fw 4 (.lst [d]):=λh=>.lst (by show 1<=900; decide) λx hx=>by rw [cn.mp hx]; exact h
 rcases hz with rfl | rfl | rfl | rfl | rfl | rfl
 ·exact ⟨.non,rfl⟩
 ·exact ⟨.tup (by rw [a_]; exact l) λx hx=>by
   obtain ⟨r,h,rfl⟩:=cw.mp hx
   exact ue (by rw [hr r h]; omega),rfl⟩
 ·exact ⟨one .non,rfl⟩
 ·exact ⟨one (.lst (by decide) λx hx=>by
   simp only [cz,cZ,or_false] at hx
   rcases hx with rfl | rfl | rfl <;> exact .int _),rfl⟩
 ·exact ⟨.int _,rfl⟩
 ·exact ⟨one (.str _),rfl⟩
theorem zPO {n:Nat} {r:List Int} (lr:r.length=n + 1) (n3:n<=3):∀ y∈[D.lst (r.map D.int),.tup (r.map D.int++[.int 0]),.tup ((r.drop 1).map D.int),.tup ((r.take n).map D.int++[.bool true]),.tup ((r.take n).map D.int++[.non])],Fw 4 (.lst [y])/\ua (n:Int) (.lst [y])=false:=λy hy=>by
 have one:∀ {d:D},Fw 3 d->Fw 4 (.lst [d]):=λh=>.lst (by show 1<=900; decide) λx hx=>by rw [cn.mp hx]; exact h
 have bad:∀ {d:D},wZ (n:Int) d=false->ua (n:Int) (.lst [d])=false:=λ{d} h=>by show (wZ (n:Int) d && true)=false; rw [h]; rfl
 have nums:∀ {k:Nat} {l:List Int},∀ x∈l.map D.int,Fw (k + 1) x:=λx hx=>by
  obtain ⟨i,_,rfl⟩:=cw.mp hx
  exact .int i
 have sn:∀ {l:List Int} {z:D},l.length<=800->Fw 2 z->Fw 3 (.tup (l.map D.int++[z])):=λh hz=>.tup (by rw [b_,a_]; show _ + 1<=900; omega) λx hx=>(cN.mp hx).elim (nums x) λhx=>by rw [cn.mp hx]; exact hz
 have len:∀ {xs:List D},(xs.length:Int)≠(n:Int) + 1->wZ (n:Int) (.tup xs)=false:=λ{xs} h=>by show (decide ((xs.length:Int)=(n:Int) + 1) && xs.all vx)=false; rw [decide_eq_false h]; rfl
 have lst:∀ {xs:List D} {z:D},vx z=false->wZ (n:Int) (.tup (xs++[z]))=false:=λ{xs z} h=>by
  show (_ && (xs++[z]).all vx)=false
  rw [List.all_append]
  show (_ && (_ && (vx z && true)))=false
  rw [h,eR,dy,dy]
 simp only [cz,cZ,or_false] at hy
 rcases hy with rfl | rfl | rfl | rfl | rfl
 ·exact ⟨one (.lst (by rw [a_]; omega) nums),bad rfl⟩
 ·exact ⟨one (sn (by omega) (.int _)),bad (len (by rw [b_,a_,lr]; show ((n + 1 + 1:Nat):Int)≠_; omega))⟩
 ·exact ⟨one (.tup (by rw [a_,ej]; omega) nums),bad (len (by rw [a_,ej,lr]; omega))⟩
 ·exact ⟨one (sn (by rw [cK]; omega) (.bool _)),bad (lst rfl)⟩
 ·exact ⟨one (sn (by rw [cK]; omega) .non),bad (lst rfl)⟩
structure Em (H H':Hp):Prop where
 o:∀ a u,H a=some u->(∀ xs,u≠.lst xs)->H' a=some u
 l:∀ a xs,H a=some (.lst xs)->H' a=some (.lst xs)\/H' a=some (.lst [])
theorem Em.refl (H:Hp):Em H H:=⟨λ_ _ e _=>e,λ_ _ e=>.inl e⟩
theorem Em.trans {H H1 H2:Hp} (a:Em H H1) (b:Em H1 H2):Em H H2:=⟨λc u e n=>b.o c u (a.o c u e n) n,λc xs e=>(a.l c xs e).elim (b.l c xs) λz=>(b.l c [] z).elim .inr .inr⟩
theorem Em.new {H:Hp} {p:Addr} (n:H p=none) (o:HO):Em H (zV H p o):=⟨λa u e _=>(zl (wC e n)).trans e,λa xs e=>.inl ((zl (wC e n)).trans e)⟩
theorem Em.clear {H:Hp} {p:Addr} {xs:List V} (e:H p=some (.lst xs)):Em H (zV H p (.lst [])):=⟨λa u q n=>(zl λz=>by rw [z,e] at q; exact n xs (Option.some.inj q).symm).trans q,λa ys q=>by
 by_cases c:a=p
 ·rw [c]; exact .inr xv
 ·exact .inl ((zl c).trans q)⟩
theorem QM {H H':Hp} {k:Nat}:∀ {xs:List V} {ds:List D},yJ H xs ds->(∀ d∈ds,∀ v,DV H v d->∃ d',DV H' v d'/\Fw k d')->∃ ds',yJ H' xs ds'/\ds'.length=ds.length/\∀ d∈ds',Fw k d
 | _,_,.nil,_=>⟨[],.nil,rfl,λ_ h=>nomatch h⟩
 | _,_,.cons h t,g=>by
  obtain ⟨d',h1,h2⟩:=g _ cv _ h
  obtain ⟨ds',h3,h4,h5⟩:=QM t λd hd=>g d (cr _ hd)
  exact ⟨d' :: ds',.cons h1 h3,by rw [cJ,cJ,h4],λd hd=>(cz.mp hd).elim (λe=>e ▸ h2) (h5 d)⟩
theorem QN {H H':Hp} (m:Em H H') {k:Nat} {d:D} (f:Fw k d):∀ {v:V},DV H v d->∃ d',DV H' v d'/\Fw k d':=by
 induction f with
 | int i=>intro v h; cases h; exact ⟨_,.int i,.int i⟩
 | bool i=>intro v h; cases h; exact ⟨_,.bool i,.bool i⟩
 | non=>intro v h; cases h; exact ⟨_,.non,.non⟩
 | str i=>intro v h; cases h; exact ⟨_,.str i,.str i⟩
 | lst l _ ih=>
  intro v h
  obtain ⟨p,xs,rfl,e,hx⟩:=h.lst_inv
  rcases m.l p xs e with z | z
  ·obtain ⟨ds',h1,h2,h3⟩:=QM hx λd hd v hv=>ih d hd hv
   exact ⟨_,.lst z h1,.lst (by rw [h2]; exact l) h3⟩
  ·exact ⟨_,.lst z .nil,.lst (eg _) λ_ h=>nomatch h⟩
 | tup l _ ih=>
  intro v h
  obtain ⟨p,xs,rfl,e,hx⟩:=h.tup_inv
  obtain ⟨ds',h1,h2,h3⟩:=QM hx λd hd v hv=>ih d hd hv
  exact ⟨_,.tup (m.o p _ e λxs y=>nomatch y) h1,.tup (by rw [h2]; exact l) h3⟩
def Y6:List V->Hp->VK->Prop:=λxs H Q=>∃ x p d,xs=[x,.ref p]/\H p=some (.tup [.ty "list",.ty "tuple"])/\DV H x d/\d.isObj=false/\Q (.bl (d.isLst || d.isTup)) H
theorem zL9 {X:Cx}:vG X (.builtin "isinstance") Y6:=by
 intro pins s σ H xs us Q I r h
 obtain ⟨x,p,d,rfl,hp,hd,no,q⟩:=h
 obtain ⟨u,v,rfl,ru,rv⟩:=ZK r
 cases (show v=Value.ref p from rv)
 obtain ⟨_,its,rt,o,g,c1,n,c2⟩:=(show xU X.prog X.w H s.heap p (.tup [.ty "list",.ty "tuple"]) from I.hok p _ hp)
 obtain rfl:its=[.type "list",.type "tuple"]:=by
  cases rt with
  | cons r1 rt=>cases rt with
   | cons r2 rt=>cases rt; cases r1; cases r2; rfl
 obtain ⟨cls,dd,dt,sl⟩:=o
 cases c1
 cases c2
 have any:∀ {t:Value},cE X.K t (.type "list")=some d.isLst->cE X.K t (.type "tuple")=some d.isTup->iQ X.K t [.type "list",.type "tuple"]=some (d.isLst || d.isTup):=λ{t} h1 h2=>by
  unfold iQ
  rw [h1]
  cases d.isLst with
  | true=>rfl
  | false=>
   unfold iQ
   rw [h2]
   cases d.isTup <;> rfl
 have fin:∀ tk,EP X pins σ Q (.bool (d.isLst || d.isTup)) { s with toks:=tk }:=λtk=>⟨.bl _,H,I.tok tk,rfl,q⟩
 obtain ⟨t,ty,_,_,k1,k2⟩:=gv (K:=X.K) hd no
 cases hd with
 | non=>cases ty; cases (show u=Value.none from ru); exact eD i_ I.kIn True.intro g (any k1 k2) (λz=>nomatch z) fin
 | bool y=>cases ty; cases (show u=Value.bool y from ru); exact eD j_ I.kIn True.intro g (any k1 k2) (λz=>nomatch z) fin
 | int i=>cases ty; obtain ⟨t,e⟩:=(show ∃ t,u=Value.int i t from ru); cases e; exact eD lC I.kIn True.intro g (any k1 k2) (λz=>nomatch z) fin
 | str y=>cases ty; obtain ⟨t,e⟩:=(show ∃ t,u=Value.str y t from ru); cases e; exact eD lD I.kIn True.intro g (any k1 k2) (λz=>nomatch z) fin
 | @frz a ys es ea _=>
  obtain ⟨ob,ea⟩:=ea
  cases (show u=Value.ref a from ru)
  obtain ⟨_,_,_,n,_,h1⟩:=(show xU X.prog X.w H s.heap a (.frz ob (.lst ys)) from I.hok a _ ea)
  exact eD fK I.kIn ⟨_,h1,rfl⟩ g (any (uq X.K .lst) (uo X.K .lst)) (λz=>nomatch z) fin
 | @lst a ys es ea _=>
  cases (show u=Value.ref a from ru)
  obtain ⟨_,_,n,_,h1⟩:=(show xU X.prog X.w H s.heap a (.lst ys) from I.hok a _ ea)
  exact eD fK I.kIn ⟨_,h1,rfl⟩ g (any (uq X.K .lst) (uo X.K .lst)) (λz=>nomatch z) fin
 | @tup a ys es ea _=>
  cases (show u=Value.ref a from ru)
  obtain ⟨_,_,_,ob,h1,h2,_⟩:=(show xU X.prog X.w H s.heap a (.tup ys) from I.hok a _ ea)
  exact eD iX I.kIn ⟨ob,h1,h2⟩ g (any (uq X.K .tup) (uo X.K .tup)) (λz=>nomatch z) fin
 | obj=>cases no
def gG (k:Nat):Sp:=λvs H Q _=>∃ (v:V) (d:D),vs=[v]/\DV H v d/\Fw k d/\∀ H',Em H H'->Q .non H'
theorem zMb:∀ vs H Q E,¬ gG 0 vs H Q E:=λ_ _ _ _ ⟨_,_,_,_,f,_⟩=>by cases f
structure gH (s:Int × List Int):Prop where
 o:Bd 210 s.1
 l:s.2.length<=100
 b:∀ x∈s.2,Bd 210 x
def WX (ss:List (Int × List Int)):Prop:=ss.length<=40/\∀ s∈ss,gH s
def gI (t:List (List (Int × List Int))):Prop:=t.length<=40/\∀ ss∈t,WX ss
def Sy (y:D):Prop:=(∃ i,y=.int i/\Bd 1000 i)\/y=.bool true
theorem Y7 {o:Int} {ys:List D} (bo:Bd 1000 o) (l:ys.length<=900) (h:∀ y∈ys,Sy y):Fw 3 (.tup [.int o,.lst ys])/\uf (.tup [.int o,.lst ys]):=by
 refine ⟨.tup (by show 2<=900; decide) λd hd=>?_,λo' ys' e=>?_⟩
 ·rcases cz.mp hd with rfl | hd
  ·exact .int _
  ·rw [cn.mp hd]
   refine .lst l λy hy=>?_
   rcases h y hy with ⟨i,rfl,_⟩ | rfl
   ·exact .int i
   ·exact .bool _
 ·cases e
  refine ⟨bo,λy hy=>?_⟩
  rcases h y hy with ⟨i,rfl,b⟩ | rfl
  ·exact b
  ·exact xS
theorem Y8 {s:Int × List Int} (h:gH s):Fw 3 (zS s)/\uf (zS s):=Y7 (h.o.mono) (by rw [a_]; have:=h.l; omega) λy hy=>by
 obtain ⟨i,hi,rfl⟩:=cw.mp hy
 exact .inl ⟨i,rfl,(h.b i hi).mono⟩
theorem Y9 {k:Nat} {as:List D} (l:as.length<=900) (h:∀ a∈as,Fw 3 a/\uf a):Fw (k + 4) (.lst as)/\yV (.lst as):=⟨.lst l λa ha=>(h a ha).1.mono (by omega),λas' e=>by cases e; exact λa ha=>(h a ha).2⟩
theorem jt {k:Nat} {ss:List (Int × List Int)} (h:WX ss):Fw (k + 4) (yM ss)/\yV (yM ss):=Y9 (by rw [a_]; have:=h.1; omega) λa ha=>by
 obtain ⟨s,hs,rfl⟩:=cw.mp ha
 exact Y8 (h.2 s hs)
theorem zNs {as:List D} (l:as.length<=900) (h:∀ a∈as,Fw 4 a/\yV a):Fw 5 (.lst as)/\y8 (.lst as):=⟨.lst l λa ha=>(h a ha).1,λas' e=>by cases e; exact λa ha=>(h a ha).2⟩
theorem gJ {t:List (List (Int × List Int))} (h:gI t):Fw 5 (yE t)/\y8 (yE t):=zNs (by rw [a_]; have:=h.1; omega) λa ha=>by
 obtain ⟨s,hs,rfl⟩:=cw.mp ha
 exact jt (k:=0) (h.2 s hs)
theorem QO {bs:List (Int × Int)} {n:Nat} (l:bs.length=n) (n3:n<=3) (h:∀ b∈bs,Bd 105 b.1/\Bd 105 b.2):(y9 bs).length<=100/\∀ r∈y9 bs,r.length=n + 1/\∀ x∈r,Bd 110 x:=by
 refine ⟨?_,λr hr=>?_⟩
 ·unfold y9
  rw [eK]
  have e:(bs.mapIdx (xX bs.length)).map di=cj bs.length 2:=by
   refine e9 (by simp) λi h1 h2=>?_
   simp [xX]
  rw [e]
  simp
  omega
 ·obtain ⟨q,hq,hr⟩:=iw.mp hr
  obtain ⟨i,hi,rfl⟩:=iI.mp hq
  have hb:=h _ (ek hi)
  have u1:=zMC (n:=bs.length) (pl:=(i:Int)) (e:=110) ((Bd.lit (i:=1) (n:=1)).mono)
  rcases cz.mp hr with rfl | hr
  ·exact ⟨by rw [b_,uC,l]; rfl,u5 u1 (hb.2.mono)⟩
  ·rw [cn.mp hr]
   refine ⟨by rw [b_,a_,uC,l]; rfl,u5 (λx hx=>?_) (by rw [eA]; exact hb.1.neg.mono)⟩
   obtain ⟨y,hy,rfl⟩:=cw.mp hx
   rw [eA]
   exact (u1 y hy).neg
structure ju (n:Nat) (bs:List (Int × Int)) (ms:List MD) (c:Int) (S A:List (List Int)) (t:Int) (ws:List Int) (b st tp:Int) (e0 e1 e2 e6 e7 e8:D):Prop where
 f0:Fw 5 e0
 f1:Fw 5 e1
 f2:Fw 5 e2
 f6:Fw 5 e6
 f7:Fw 5 e7
 f8:Fw 5 e8
 rs:wN S n
 ra:wN A n
 t0:0<=t
 bt:Bd 300 t
 alt:(ua (n:Int) e0=false/\decide (c.fmod 8<=3)=false)\/∃ room,e0=Rm room/\jh n room ws b st tp/\yV e1/\y8 e2/\y8 e6/\yV e7/\uf e8/\wB n bs ms S A t room ws b st tp e1 e2 e6 e7 e8=decide (c.fmod 8<=3)
theorem jv {o:Int} {ns:List Int} (h:Bd 210 o) (l:ns.length<=100) (b:∀ x∈ns,Bd 210 x):gH (o,ns):=⟨h,l,b⟩
theorem u7:Bd 210 (1:Int):=(Bd.lit (i:=1) (n:=1)).mono
theorem bz {k:Nat}:∀ x∈zs k,Bd 210 x:=λx hx=>by rw [dG hx]; exact xS
theorem ba {a b:List Int} (h:∀ x∈a,Bd 210 x) (k:∀ x∈b,Bd 210 x):∀ x∈a++b,Bd 210 x:=λx hx=>(cN.mp hx).elim (h x) (k x)
theorem jw {a:Int} (h:Bd 210 a):∀ x∈[a],Bd 210 x:=λx hx=>by rw [cn.mp hx]; exact h
section
variable {n:Nat} {bs:List (Int × Int)} {ms:List MD} {u:Int} {goal:List Int} {o st:Int} {box:List (Int × Int)} {room aims:List (List Int)} {ws:List Int} {b tp tu:Int}
theorem Dr.bgo (dr:Dr n bs ms u goal o st):∀ c∈goal,Bd 2 c:=λc hc=>vk (f:=3) (by decide) (by have:=dr.bg c hc; omega) (by have:=dr.bg c hc; omega)
theorem zRX {m:MD} {vs:List Int} (dr:Dr n bs ms u goal o st) (hm:m∈ms) (l:vs.length<=3) (h:∀ x∈vs,Bd 5 x):∀ x∈yP (cM vs m bs.length),Bd 210 x:=WV λx hx=>by
 obtain ⟨j,_,rfl⟩:=cw.mp hx
 exact (QH h (dr.pb m hm) j).mono (by omega)
theorem gK (dr:Dr n bs ms u goal o st) (fl:Fl n box room aims ws b tp tu):WX (vX n room):=⟨by unfold vX; rw [a_]; have:=fl.r1; omega,λs hs=>by
 obtain ⟨r,hr,rfl⟩:=cw.mp hs
 have n3:=dr.ok.n3
 refine jv u7 (by rw [uJ,cK]; omega) (WV λx hx=>((fl.rm r hr).2 x (dS hx)).mono)⟩
theorem jN (dr:Dr n bs ms u goal o st) (fl:Fl n box room aims ws b tp tu):gI (ms.map (w4 goal bs.length room)):=⟨by rw [a_]; have:=dr.m3; omega,λss hs=>by
 obtain ⟨m,hm,rfl⟩:=cw.mp hs
 refine ⟨by unfold w4; rw [a_]; have:=fl.r1; omega,λs hs=>?_⟩
 obtain ⟨r,hr,rfl⟩:=cw.mp hs
 have n3:=dr.ok.n3
 have lg:=dr.lg
 have r1:=dr.r1 m hm
 have b2:=dr.b2
 exact jv u7 (by rw [b_,b_,xA,uJ,gD]; show 1 + _ + _<=100; omega) (ba (ba (jw ((dr.dv m hm).mono)) bz) (zRX dr hm (by omega) λx hx=>(dr.bgo x hx).mono))⟩
theorem gL (dr:Dr n bs ms u goal o st) (fl:Fl n box room aims ws b tp tu):gI (ms.map (xn room aims ws bs.length)):=⟨by rw [a_]; have:=dr.m3; omega,λss hs=>by
 obtain ⟨m,hm,rfl⟩:=cw.mp hs
 have n3:=dr.ok.n3
 have lw:=fl.lw
 have r1:=dr.r1 m hm
 have r2:=fl.r1
 have b2:=dr.b2
 have P1:gH (kN room.length ws bs.length m):=jv u7 (by rw [b_,b_,b_,xA,xA,uJ,gD]; show _ + _ + 1 + _<=100; omega) (ba (ba (ba bz bz) (jw xS)) (zRX dr hm (by omega) fl.bw))
 unfold xn
 split
 ·refine ⟨by show 2<=40; decide,λs hs=>?_⟩
  rcases cz.mp hs with rfl | hs
  ·exact P1
  ·rw [cn.mp hs]
   exact jv xS (by rw [b_,b_,b_,xA,xA]; show 1 + _ + 1 + _<=100; omega) (ba (ba (ba (jw u7) bz) (jw u7)) bz)
 ·exact ⟨by show 1<=40; decide,λs hs=>by rw [cn.mp hs]; exact P1⟩⟩
theorem gM (dr:Dr n bs ms u goal o st) (fl:Fl n box room aims ws b tp tu):WX (vD room aims o):=by
 have o1:=dr.o1
 have o3:=dr.o3
 have r2:=fl.r1
 have P1:gH (1,zs room.length++[o]):=jv u7 (by rw [b_,xA]; show _ + 1<=100; omega) (ba bz (jw (Bd.mono (n:=2) (vk (f:=3) (by decide) (by omega) (by omega)) (by decide))))
 unfold vD
 split
 ·refine ⟨by show 2<=40; decide,λs hs=>?_⟩
  rcases cz.mp hs with rfl | hs
  ·exact P1
  ·rw [cn.mp hs]
   exact jv xS (by show 2<=100; decide) (ba (a:=[1]) (b:=[1]) (jw u7) (jw u7))
 ·exact ⟨by show 1<=40; decide,λs hs=>by rw [cn.mp hs]; exact P1⟩
theorem gN (dr:Dr n bs ms u goal o st) (fl:Fl n box room aims ws b tp tu):gH (1,yP ws):=jv u7 (by rw [uJ]; have:=fl.lw; have:=dr.ok.n3; omega) (WV λx hx=>(fl.bw x hx).mono)
theorem zQX (n3:n<=3):gH (xY n):=jv xS (by rw [b_,xA]; show _ + 1<=100; omega) (ba bz (jw u7))
theorem uj {S:List (List Int)} {e:Nat} (l:S.length<=100) (k:e<=300) (h:∀ r∈S,r.length=n + 1/\∀ x∈r,Bd e x):wN S n:=⟨λr hr=>⟨(h r hr).1,λx hx=>((h r hr).2 x hx).mono k⟩,l⟩
theorem WY (dr:Dr n bs ms u goal o st) (fl:Fl n box room aims ws b tp tu) {tp':Int} (h:Bd 300 tp'):jh n room ws b st tp':=⟨uj (by have:=fl.r1; omega) (by decide) fl.rm,fl.lw,λx hx=>(fl.bw x hx).mono,fl.bb.mono,dr.bst.mono,h⟩
theorem XA (n3:n<=3) {S:List (List Int)} (h:wN S n):Fw 5 (Rm S):=kB (by have:=h.few; omega) λr hr=>by rw [(h.row r hr).1]; omega
theorem zPu {tp st:Int} (s1:1<=st):tp < max 0 (tp.fdiv st + 1) * st:=by
 have h:tp < (tp.fdiv st + 1) * st:=by
  rw [eW _ (show 0<=st by omega)]
  exact Int.lt_ediv_add_one_mul_self _ (by omega)
 by_cases c:0<=tp.fdiv st + 1
 ·rw [eN c]; exact h
 ·rw [eV (by omega),fR]
  have:=Int.mul_nonpos_of_nonpos_of_nonneg (show tp.fdiv st + 1<=0 by omega) (show 0<=st by omega)
  omega
abbrev jx (tp st:Int):Int:=max 0 (tp.fdiv st + 1)
theorem zPv (fl:Fl n box room aims ws b tp tu):Bd 300 (jx tp st):=kI xS (((Bd.fdiv fl.bt _).add ((Bd.lit (i:=1) (n:=1)).mono)).mono)
theorem zQW (dr:Dr n bs ms u goal o st) (fl:Fl n box room aims ws b tp tu) (F:Fx n goal o box room aims ws b tp) {c:Int} (hc:c.fmod 8<=3):ju n bs ms c (y9 box) aims (jx tp st) ws b st tp (Rm room) (yM (vX n room)) (yE (ms.map (w4 goal bs.length room))) (yE (ms.map (xn room aims ws bs.length))) (yM (vD room aims o)) (zS (1,yP ws)):=by
 have n3:=dr.ok.n3
 have BX:=QO fl.lb n3 fl.hb
 have PS:=WY dr fl (fl.bt.mono)
 have k1:=jt (k:=1) (gK dr fl)
 have k2:=gJ (jN dr fl)
 have k6:=gJ (gL dr fl)
 have k7:=jt (k:=1) (gM dr fl)
 have k8:=Y8 (gN dr fl)
 have s1:=dr.s1
 have o1:=dr.o1
 exact ⟨XA n3 PS.rm,k1.1,k2.1,k6.1,k7.1,k8.1.mono,uj BX.1 (by decide) BX.2,uj (by have:=fl.a2; omega) (by decide) fl.am,lT _ _,zPv fl,.inr ⟨room,rfl,PS,k1.2,k2.2,k6.2,k7.2,k8.2,by rw [decide_eq_true hc]; exact Ys F dr.lg fl.lb fl.ord dr.ok.bok dr.ex (by omega) s1 (zPu s1)⟩⟩
theorem XB (dr:Dr n bs ms u goal o st) (fl:Fl n box room aims ws b tp tu) (F:Fx n goal o box room aims ws b tp) {c:Int} (hc:c.fmod 8<=3):ju n bs ms c (y9 box) [] (jx tp st) ws b st tp (Rm room) (yM (vX n room)) (yE (ms.map (w4 goal bs.length room))) (.lst (ms.map λ_=>.lst [])) (.lst []) (zS (1,yP ws)):=by
 have n3:=dr.ok.n3
 have BX:=QO fl.lb n3 fl.hb
 have PS:=WY dr fl (fl.bt.mono)
 have k1:=jt (k:=1) (gK dr fl)
 have k2:=gJ (jN dr fl)
 have k6:Fw 5 (.lst (ms.map λ_=>D.lst []))/\y8 (.lst (ms.map λ_=>D.lst [])):=zNs (by rw [a_]; have:=dr.m3; omega) λa ha=>by
  obtain ⟨m,_,rfl⟩:=cw.mp ha
  exact ⟨.lst (eg _) λ_ h=>(nomatch h),λas e=>by cases e; exact λ_ h=>(nomatch h)⟩
 have k7:Fw 5 (.lst [])/\yV (.lst []):=⟨.lst (eg _) λ_ h=>(nomatch h),λas e=>by cases e; exact λ_ h=>nomatch h⟩
 have k8:=Y8 (gN dr fl)
 have s1:=dr.s1
 exact ⟨XA n3 PS.rm,k1.1,k2.1,k6.1,k7.1,k8.1.mono,uj BX.1 (by decide) BX.2,⟨λ_ h=>(nomatch h),eg _⟩,lT _ _,zPv fl,.inr ⟨room,rfl,PS,k1.2,k2.2,k6.2,k7.2,k8.2,by rw [decide_eq_true hc]; exact Yt F dr.lg fl.lb fl.ord dr.ok.bok dr.ex s1 (zPu s1)⟩⟩
theorem XC (dr:Dr n bs ms u goal o st) (fl:Fl n box room aims ws b tp tu) (F:Fx n goal o box room aims ws b tp) {c:Int} (hc:c.fmod 8<=3):ju n bs ms c (y9 box++[zs n++[-1]]) aims 0 ws b st (-1) (Rm room) (yM (room.map λ_=>xY n)) (yE (ms.map (w4 goal bs.length room))) (yE (ms.map (xn room aims ws bs.length))) (yM (vD room aims o)) (zS (xY n)):=by
 have n3:=dr.ok.n3
 have BX:=QO fl.lb n3 fl.hb
 have bm:Bd 300 (-1:Int):=(Bd.lit (i:=1) (n:=1)).neg.mono
 have PS:=WY dr fl bm
 have k1:Fw 5 (yM (room.map λ_=>xY n))/\yV (yM (room.map λ_=>xY n)):=jt (k:=1) ⟨by rw [a_]; have:=fl.r1; omega,λs hs=>by
  obtain ⟨r,_,rfl⟩:=cw.mp hs
  exact zQX n3⟩
 have k2:=gJ (jN dr fl)
 have k6:=gJ (gL dr fl)
 have k7:=jt (k:=1) (gM dr fl)
 have k8:=Y8 (zQX n3)
 have o1:=dr.o1
 have rs:wN (y9 box++[zs n++[-1]]) n:=⟨λr hr=>by
  rcases cN.mp hr with hr | hr
  ·exact ⟨(BX.2 r hr).1,λx hx=>((BX.2 r hr).2 x hx).mono⟩
  ·rw [cn.mp hr]
   exact ⟨by rw [b_,xA]; rfl,λx hx=>(cN.mp hx).elim (λh=>(bz x h).mono) λh=>by rw [cn.mp h]; exact bm⟩,by
  rw [b_,kO,fl.lb]
  show _ + 1<=100
  omega⟩
 exact ⟨XA n3 PS.rm,k1.1,k2.1,k6.1,k7.1,k8.1.mono,rs,uj (by have:=fl.a2; omega) (by decide) fl.am,eG _,xS,.inr ⟨room,rfl,PS,k1.2,k2.2,k6.2,k7.2,k8.2,by rw [decide_eq_true hc]; exact Yu F dr.lg fl.lb dr.ok.bok dr.ex (by omega) dr.s1⟩⟩
theorem zQp {e:D} (h:gF e):Fw 5 e/\yV e/\y8 e/\uf e:=by
 rcases h with rfl | rfl | rfl | rfl
 ·exact ⟨.non,(λ_ z=>nomatch z),(λ_ z=>nomatch z),λ_ _ z=>nomatch z⟩
 ·exact ⟨.tup (eg _) λ_ z=>(nomatch z),(λ_ z=>nomatch z),(λ_ z=>nomatch z),λ_ _ z=>nomatch z⟩
 ·exact ⟨.int _,(λ_ z=>nomatch z),(λ_ z=>nomatch z),λ_ _ z=>nomatch z⟩
 ·exact ⟨.str _,(λ_ z=>nomatch z),(λ_ z=>nomatch z),λ_ _ z=>nomatch z⟩
theorem XD (dr:Dr n bs ms u goal o st) (fl:Fl n box room aims ws b tp tu) (F:Fx n goal o box room aims ws b tp) {c:Int} (hc:¬ c.fmod 8<=3) {e0 e1 e2 e6 e7 e8:D} (h:Y3 n room (yM (vX n room)) (yE (ms.map (w4 goal bs.length room))) (yE (ms.map (xn room aims ws bs.length))) (yM (vD room aims o)) (zS (1,yP ws)) e0 e1 e2 e6 e7 e8):ju n bs ms c (y9 box) aims (jx tp st) ws b st tp e0 e1 e2 e6 e7 e8:=by
 have P:=zQW dr fl F (c:=0) (by decide)
 obtain ⟨_,er,PS,q1,q2,q6,q7,q8,_⟩:∃ room',Rm room=Rm room'/\jh n room ws b st tp/\yV (yM (vX n room))/\y8 (yE (ms.map (w4 goal bs.length room)))/\y8 (yE (ms.map (xn room aims ws bs.length)))/\yV (yM (vD room aims o))/\uf (zS (1,yP ws))/\True:=⟨room,rfl,WY dr fl (fl.bt.mono),(jt (k:=1) (gK dr fl)).2,(gJ (jN dr fl)).2,(gJ (gL dr fl)).2,(jt (k:=1) (gM dr fl)).2,(Y8 (gN dr fl)).2,trivial⟩
 have nf:decide (c.fmod 8<=3)=false:=decide_eq_false hc
 rcases h with ⟨g0,hb,rfl,rfl,rfl,rfl,rfl⟩ | ⟨rfl,h⟩
 ·exact ⟨g0.mono,P.f1,P.f2,P.f6,P.f7,P.f8,P.rs,P.ra,P.t0,P.bt,.inl ⟨hb,nf⟩⟩
 have fin:∀ {e1 e2 e6 e7 e8:D},(Fw 5 e1/\yV e1)->(Fw 5 e2/\y8 e2)->(Fw 5 e6/\y8 e6)->(Fw 5 e7/\yV e7)->(Fw 5 e8/\uf e8)->(u4 (y9 box) room n e1 && (q9 n bs ms room room e2 && (xJ (y9 box) (ws++[tp - b]) n e8 && (ji n room ws b aims e7 && jk n bs ms room ws st aims e6))))=false->ju n bs ms c (y9 box) aims (jx tp st) ws b st tp (Rm room) e1 e2 e6 e7 e8:=λh1 h2 h6 h7 h8 z=>⟨P.f0,h1.1,h2.1,h6.1,h7.1,h8.1,P.rs,P.ra,P.t0,P.bt,.inr ⟨room,rfl,PS,h1.2,h2.2,h6.2,h7.2,h8.2,by unfold wB; rw [z,nf]; split <;> rfl⟩⟩
 rcases h with ⟨z,rfl,rfl,rfl,rfl⟩ | ⟨rfl,z,rfl,rfl,rfl⟩ | ⟨rfl,rfl,z,rfl,rfl⟩ | ⟨rfl,rfl,rfl,z,rfl⟩ | ⟨rfl,rfl,rfl,rfl,z⟩ <;> obtain ⟨k1,k2,k3,k4⟩:=zQp z
 ·refine fin ⟨k1,k2⟩ ⟨P.f2,q2⟩ ⟨P.f6,q6⟩ ⟨P.f7,q7⟩ ⟨P.f8,q8⟩ ?_
  rw [show u4 (y9 box) room n e1=false by rcases z with rfl | rfl | rfl | rfl <;> rfl,eR]
 ·refine fin ⟨P.f1,q1⟩ ⟨k1,k3⟩ ⟨P.f6,q6⟩ ⟨P.f7,q7⟩ ⟨P.f8,q8⟩ ?_
  rw [show q9 n bs ms room room e2=false by rcases z with rfl | rfl | rfl | rfl <;> rfl,eR,dy]
 ·refine fin ⟨P.f1,q1⟩ ⟨P.f2,q2⟩ ⟨k1,k3⟩ ⟨P.f7,q7⟩ ⟨P.f8,q8⟩ ?_
  rw [show jk n bs ms room ws st aims e6=false by rcases z with rfl | rfl | rfl | rfl <;> rfl,dy,dy,dy,dy]
 ·refine fin ⟨P.f1,q1⟩ ⟨P.f2,q2⟩ ⟨P.f6,q6⟩ ⟨k1,k2⟩ ⟨P.f8,q8⟩ ?_
  rw [show ji n room ws b aims e7=false by rcases z with rfl | rfl | rfl | rfl <;> rfl,eR,dy,dy,dy]
 ·refine fin ⟨P.f1,q1⟩ ⟨P.f2,q2⟩ ⟨P.f6,q6⟩ ⟨P.f7,q7⟩ ⟨k1,k4⟩ ?_
  rw [show xJ (y9 box) (ws++[tp - b]) n e8=false by rcases z with rfl | rfl | rfl | rfl <;> rfl,eR,dy,dy]
end
section
variable {X:Cx} {st:Stmt} {sts:List Stmt} {p q:xD} {t:TS}
inductive kU (p:xD) (t:TS) (D0:yf) (σ:St) (H:Hp):Prop
 | mk (Z0:Addr->Prop) (H0:Hp) (Z:Addr->Prop) (Γ:List Sl) (M:List Sl->Prop) (E:yk Z0 H0 Z Γ σ H) (h:p { nx:=M,rt:=λd=>d=.bool true } Γ) (rt:∀ H',D0.rt (.bl true) H') (nx:∀ Z' Γ' σ' H',yk Z0 H0 Z' Γ' σ' H'->zL (zK Z H) (zK Z' H')->M Γ'->t D0 σ' H'):kU p t D0 σ H
theorem QP {t t':TS} (h:yT X sts t) (w:∀ D σ H,t' D σ H->t D σ H):yT X sts t':=λpins s σ H D I k=>h pins s σ H D I (w D σ H k)
theorem zKn (h1:PS X st (yY p)) (h2:yT X sts t):yT X (st :: sts) (kU p t):=QP (vE h1 h2) λD σ H ⟨Z0,H0,Z,Γ,M,E,h,rt,nx⟩=>
 ⟨Z0,H0,Z,Γ,{ nx:=M,rt:=λd=>d=.bool true },E,h,nx,λd v H' _ dv e=>by subst e; cases dv; exact rt H',λ_ _ _ _ _ _ z=>z.elim,λ_ _ _ _ _ _ z=>z.elim⟩
theorem XE (h1:PS X st (yY p)) (h2:yT X sts (kU q t)):yT X (st :: sts) (kU (YL p q) t):=QP (vE h1 h2) λD σ H ⟨Z0,H0,Z,Γ,M,E,h,rt,nx⟩=>
 ⟨Z0,H0,Z,Γ,{ nx:=q { nx:=M,rt:=λd=>d=.bool true },rt:=λd=>d=.bool true },E,h,λZ' Γ' σ' H' E' s' h'=>⟨Z0,H0,Z',Γ',M,E',h',rt,λZ2 Γ2 σ2 H2 E2 s2 m=>nx Z2 Γ2 σ2 H2 E2 (s'.trans s2) m⟩,λd v H' _ dv e=>by subst e; cases dv; exact rt H',λ_ _ _ _ _ _ z=>z.elim,λ_ _ _ _ _ _ z=>z.elim⟩
theorem XF (h1:PS X st (yY p)) (h2:yT X sts (kU q t)):yT X (st :: sts) (kU (zQZ p q) t):=QP (vE h1 h2) λD σ H ⟨Z0,H0,Z,Γ,M,E,⟨N,h,k⟩,rt,nx⟩=>
 ⟨Z0,H0,Z,Γ,{ nx:=N,rt:=λd=>d=.bool true },E,h,λZ' Γ' σ' H' E' s' h'=>⟨Z0,H0,Z',Γ',M,E',k Γ' h',rt,λZ2 Γ2 σ2 H2 E2 s2 m=>nx Z2 Γ2 σ2 H2 E2 (s'.trans s2) m⟩,λd v H' _ dv e=>by subst e; cases dv; exact rt H',λ_ _ _ _ _ _ z=>z.elim,λ_ _ _ _ _ _ z=>z.elim⟩
end
def gO:List Sl->Bool
 | []=>true
 | .no :: t=>gO t
 | .sh _ :: t=>gO t
 | _=>false
theorem WZ:∀ {Γ:List Sl} {i:Nat},gO Γ=true->slot Γ i=.no\/∃ d,slot Γ i=.sh d
 | [],_,_=>.inl rfl
 | .no :: _,0,_=>.inl rfl
 | .sh d :: _,0,_=>.inr ⟨d,rfl⟩
 | .no :: t,i + 1,h=>WZ (Γ:=t) h
 | .sh _ :: t,i + 1,h=>WZ (Γ:=t) h
theorem QQ {Γ:List Sl} {i:Nat} {ds:List D} (h:gO Γ=true):slot Γ i≠.ow ds:=λe=>by rcases WZ (i:=i) h with z | ⟨d,z⟩ <;> rw [z] at e <;> cases e
theorem zNv {Γ:List Sl} {i:Nat} {o c:Addr} {ns:List Str} {ds:List D} (h:gO Γ=true):slot Γ i≠.ob o c ns ds:=λe=>by rcases WZ (i:=i) h with z | ⟨d,z⟩ <;> rw [z] at e <;> cases e
theorem QR {Z:Addr->Prop} {Γ:List Sl} {σ:St} {H:Hp} (E:zr Z Γ σ H) (h:gO Γ=true):yk Z H Z Γ σ H:=⟨E,λ_ z=>z,E.zd,Sm.refl _,λi ds l e=>absurd e (QQ h),λi o c ns ds e=>absurd e (zNv h)⟩
def Wa:Sl->Sl
 | .sh d=>.sh (za d)
 | _=>.no
theorem zKY:∀ {Γ:List Sl} {i:Nat} {d:D},slot (Γ.map Wa) i=.sh d->∃ d0,slot Γ i=.sh d0/\d=za d0
 | [],_,_,h=>nomatch h
 | .sh d :: _,0,_,h=>by cases h; exact ⟨d,rfl,rfl⟩
 | .no :: _,0,_,h=>nomatch h
 | .ow _ :: _,0,_,h=>nomatch h
 | .ob .. :: _,0,_,h=>nomatch h
 | _ :: t,i + 1,_,h=>zKY (Γ:=t) h
theorem gP:∀ Γ:List Sl,gO (Γ.map Wa)=true
 | []=>rfl
 | .sh _ :: t=>gP t
 | .no :: t=>gP t
 | .ow _ :: t=>gP t
 | .ob .. :: t=>gP t
theorem zRM (hI:∀ H:Hp,yW.I H) {Z:Addr->Prop} {Γ:List Sl} {σ:St} {H H2:Hp} (E:zr Z Γ σ H) (f:Fz H H2):zr Z (Γ.map Wa) σ H2 where
 sh:=λi d e=>by
  obtain ⟨d0,e0,rfl⟩:=zKY e
  obtain ⟨v,h1,h2⟩:=E.sh i d0 e0
  exact ⟨v,h1,h2.fz f⟩
 ow:=λi ds e=>absurd e (QQ (gP Γ))
 ob:=λi o c ns ds e=>absurd e (zNv (gP Γ))
 ne:=λi j as bs l e=>absurd e (QQ (gP Γ))
 zd:=⟨λb hb=>by
  obtain ⟨u,e,n⟩:=E.zd.z b hb
  by_cases c:∃ xs,u=.lst xs
  ·obtain ⟨xs,rfl⟩:=c
   obtain ⟨o,q⟩:=f.l b xs e
   exact ⟨_,q,λ_ z=>nomatch z⟩
  ·exact ⟨u,(f.o b λxs z=>c ⟨xs,by rw [e] at z; exact Option.some.inj z⟩).trans e,n⟩,hI _⟩
 len:=by rw [a_]; exact E.len
theorem Wb (hI:∀ H:Hp,yW.I H) {σ:St} {H:Hp} {Z:Addr->Prop} (zd:∀ b,Z b->∃ u,H b=some u/\∀ xs,u≠.tup xs):zr Z (cj σ.length .no) σ H:=by
 have no:∀ k i,slot (cj k .no) i=.no:=λk=>by
  induction k with
  | zero=>intro i; rfl
  | succ k ih=>intro i; cases i with
   | zero=>rfl
   | succ i=>exact ih i
 exact ⟨λi d e=>(by rw [no] at e; cases e),λi d e=>(by rw [no] at e; cases e),λi o c ns ds e=>(by rw [no] at e; cases e),λi j as bs l e=>(by rw [no] at e; cases e),⟨zd,hI _⟩,df ..⟩
theorem v0 {Z:Addr->Prop} {Γ:List Sl} {σ:St} {H:Hp} (E:zr Z Γ σ H) {i:Nat} {v:V} {d:D} (hi:σ[i]? = some (some v)) (h:DV (zK Z H) v d):zr Z (yA Γ i (.sh d)) σ H:=by
 have:=E.set h i
 have e:σ.set i (some v)=σ:=by
  obtain ⟨hl,e⟩:=cP.mp hi
  rw [<- e]
  exact List.set_getElem_self hl
 rw [e] at this
 exact this
mutual
def yZ (l f:Bool):D->Bool
 | .lst ds=>l && zy l f ds
 | .frz ds=>f && zy l f ds
 | .tup ds=>zy l f ds
 | .obj _ _ ds=>zy l f ds
 | .int _=>true
 | .bool _=>true
 | .non=>true
 | .str _=>true
def zy (l f:Bool):List D->Bool
 | []=>true
 | d :: ds=>yZ l f d && zy l f ds
end
theorem XG {l f:Bool}:∀ {ds:List D},(∀ d∈ds,yZ l f d=true)->zy l f ds=true
 | [],_=>by rw [zy]
 | d :: ds,h=>by rw [zy,h d cv,XG λx hx=>h x (cr _ hx)]; rfl
theorem DV.keep {l f:Bool} {H H':Hp} (kl:l=true->∀ a xs,H a=some (.lst xs)->H' a=some (.lst xs)) (kf:f=true->∀ a o xs,H a=some (.frz o (.lst xs))->H' a=some (.frz o (.lst xs))) (kt:∀ a xs,H a=some (.tup xs)->H' a=some (.tup xs)) (ki:∀ a c d fs,H a=some (.ins c d fs)->H' a=some (.ins c d fs)):∀ {v:V} {d:D},DV H v d->yZ l f d=true->DV H' v d
 | _,_,.int i,_=>.int i
 | _,_,.bool b,_=>.bool b
 | _,_,.non,_=>.non
 | _,_,.str x,_=>.str x
 | _,_,.lst e h,k=>by
  rw [yZ,dq] at k
  exact .lst (kl k.1 _ _ e) (go kl kf kt ki h k.2)
 | _,_,.frz ⟨o,e⟩ h,k=>by
  rw [yZ,dq] at k
  exact .frz ⟨o,kf k.1 _ _ _ e⟩ (go kl kf kt ki h k.2)
 | _,_,.tup e h,k=>by
  rw [yZ] at k
  exact .tup (kt _ _ e) (go kl kf kt ki h k)
 | _,_,.obj e q h,k=>by
  rw [yZ] at k
  exact .obj (ki _ _ _ _ e) q (go kl kf kt ki h k)
where
 go {l f:Bool} {H H':Hp} (kl:l=true->∀ a xs,H a=some (.lst xs)->H' a=some (.lst xs)) (kf:f=true->∀ a o xs,H a=some (.frz o (.lst xs))->H' a=some (.frz o (.lst xs))) (kt:∀ a xs,H a=some (.tup xs)->H' a=some (.tup xs)) (ki:∀ a c d fs,H a=some (.ins c d fs)->H' a=some (.ins c d fs)):∀ {xs:List V} {ds:List D},Paired (DV H) xs ds->zy l f ds=true->Paired (DV H') xs ds
  | _,_,.nil,_=>.nil
  | _,_,.cons h t,k=>by
   rw [zy,dq] at k
   exact .cons (DV.keep kl kf kt ki h k.1) (go kl kf kt ki t k.2)
theorem Wc {l f:Bool} {H H':Hp} {v:V} {d:D} (h:DV H v d) (kl:l=true->∀ a xs,H a=some (.lst xs)->H' a=some (.lst xs)) (kf:f=true->∀ a o xs,H a=some (.frz o (.lst xs))->H' a=some (.frz o (.lst xs))) (kt:∀ a xs,H a=some (.tup xs)->H' a=some (.tup xs)) (ki:∀ a c d fs,H a=some (.ins c d fs)->H' a=some (.ins c d fs)) (k:yZ l f d=true):DV H' v d:=DV.keep kl kf kt ki h k
theorem Fw.kd {k:Nat} {d:D} (h:Fw k d):yZ true false d=true:=by
 induction h with
 | lst _ _ ih=>rw [yZ,XG ih]; rfl
 | tup _ _ ih=>rw [yZ,XG ih]
 | _=>rw [yZ]
theorem We (ns:List Int):yZ false true (D.scr ns)=true:=by
 rw [yZ,XG λd hd=>?_]
 ·rfl
 ·obtain ⟨i,_,rfl⟩:=cw.mp hd
  rw [yZ]
theorem kW {α:Type} {l f:Bool} {u:α->D} (h:∀ x,yZ l f (u x)=true) (xs:List α):zy l f (xs.map u)=true:=XG λd hd=>by
 obtain ⟨x,_,rfl⟩:=cw.mp hd
 exact h x
theorem QS {l f:Bool} (r:List Int):yZ l f (U r)=true:=by
 rw [yZ]
 exact kW (λi=>by rw [yZ]) r
theorem zQz (n:Nat) (bs:List (Int × Int)) (ms:List MD) (u:Int):yZ false true (wQ n bs ms u)=true:=by
 have kp:∀ b:Int × Int,yZ false true (zq b)=true:=λb=>by simp [yZ,zy]
 have km:∀ m:MD,yZ false true (wc m)=true:=λm=>by
  have h1:=kW (l:=false) (f:=true) (u:=U) QS m.rows
  have h2:=kW (l:=false) (f:=true) (u:=D.scr) We m.nexts
  have h3:=kW (l:=false) (f:=true) (u:=D.scr) We m.push
  have h4:=We m.steer
  have h5:=We m.add
  rw [yZ,zy,zy,zy,zy,zy,zy,zy,yZ,h1,yZ,h2,h4,yZ,h3,h5,yZ]
  rfl
 have h1:=kW (l:=false) (f:=true) kp bs
 have h2:=kW (l:=false) (f:=true) km ms
 rw [yZ,zy,zy,zy,zy,zy,yZ,yZ,h1,yZ,h2,yZ]
 rfl
theorem QT (ns:List Int):(ns.map D.int).map za=ns.map D.int:=by
 rw [cA]
 exact cX λi _=>by show za (.int i)=_; rw [za]
theorem jO (ns:List Int):za (L ns)=D.scr ns:=by rw [za,uZ,QT]
theorem zRA (ns:List Int):za (D.scr ns)=D.scr ns:=by rw [za,uZ,QT]
theorem XH (ns:List Int):za (U ns)=U ns:=by rw [za,uZ,QT]
theorem zRD (t:List (List Int)):za (Rm t)=.frz (t.map U):=by
 rw [za,uZ,cA]
 congr 1
 exact cX λr _=>XH r
theorem zRC (t:List (List Int)):za (.frz (t.map U))=.frz (t.map U):=by
 rw [za,uZ,cA]
 congr 1
 exact cX λr _=>XH r
theorem zRB (t:List (List Int)):za (Tb t)=.frz (t.map D.scr):=by
 rw [za,uZ,cA]
 congr 1
 exact cX λr _=>jO r
theorem zPX (n:Nat) (bs:List (Int × Int)) (ms:List MD) (u:Int):za (Yp n bs ms u)=wQ n bs ms u:=by
 have hp:(bs.map zq).map za=bs.map zq:=by
  rw [cA]
  exact cX λb _=>by show za (zq b)=_; rw [za,zi,zi,zi,za,za]
 have hm:(ms.map kH).map za=ms.map wc:=by
  rw [cA]
  refine cX λm _=>?_
  show za (kH m)=_
  rw [za,zi,zi,zi,zi,zi,zi,zi,zRD,zRB,jO,zRB,jO,za]
 rw [za,zi,zi,zi,zi,zi,za,za,uZ,hp,za,uZ,hm,za]
def Wf:Sp:=λvs H Q _=>∃ (a:Addr) (o:Obj) (ns:List Int),vs=[.ref a]/\H a=some (.frz o (.lst (ns.map V.int)))/\(∀ b u,H b=some u->∃ o xs,u=.frz o (.lst xs))/\∀ H',Q (.bl true) H'
def gQ:F2
 | .tup [d],.int k,R=>0<=k/\k<=1000/\R (.tup (cj k.toNat d))
 | _,_,_=>False
theorem zM5 {K:cg}:wj (Um K) gQ:=λZ H x y a b R Q zd hx hy h q=>by
 unfold gQ at h
 split at h
 ·rename_i d k
  obtain ⟨p,xs,rfl,e1,h1⟩:=hx.tup_inv
  cases hy
  cases h1 with
  | cons hd t=>
   cases t
   exact ⟨p,k,_,rfl,rfl,zo _ _ e1,(λz=>nomatch z),h.1,h.2.1,by show 1<=1000; decide,λp' H' s' e'=>have s':=Sm.of s'; q _ _ _ h.2.2 s' (Us (zd.same s') e' (by rw [qd]; exact xN (yg s') (Uu hd _)))⟩
 ·exact h.elim
theorem zOu {X:Cx} {a b:Expr} {pos:Pos} {pa pb:zx} (ha:PE X a (tP pa)) (hb:PE X b (tP pb)):PE X (.BinOp a .Mult b pos) (tP (xu gQ pa pb)):=qX zO8 zM5 ha hb
theorem wo {H H2:Hp} (f:Fz H H2) {a:Addr} {u:HO} (e:H a=some u) (n:∀ xs,u≠.lst xs):H2 a=some u:=(f.o a λxs z=>by rw [e] at z; exact n xs (Option.some.inj z)).trans e
section
variable {J1 J1f J2 J2f J3 J3f J4 J4f J6:Hp} {h0 h1:Addr} {ys0 ys1:List V}
abbrev T1 (J1:Hp):Addr->Prop:=λa=>∃ xs,J1 a=some (.lst xs)
abbrev T2 (h0 h1:Addr):Addr->Prop:=λa=>a=h0\/a=h1
abbrev T3 (J2 J4:Hp):Addr->Prop:=λa=>(∃ xs,J2 a=some (.lst xs))\/∃ xs,J4 a=some (.lst xs)
noncomputable abbrev J9 (J6:Hp) (h0 h1:Addr):Hp:=zV (zV (wA (T2 h0 h1) J6) h0 (.lst [])) h1 (.lst [])
structure Ch (J1 J1f J2 J2f J3 J3f J4 J4f:Hp):Prop where
 f2:Fz J1 J1f
 s2:Sm J1f J2
 f3:Fz J2 J2f
 s3:Sm J2f J3
 f4:Fz J3 J3f
 s4:Sm J3f J4
 f5:Fz J4 J4f
def Kp (u:HO):Prop:=uR u=false/\∀ xs,u≠.lst xs
theorem Ch.k4 (c:Ch J1 J1f J2 J2f J3 J3f J4 J4f) {a:Addr} {u:HO} (k:Kp u) (e:J3f a=some u):J4 a=some u/\J4f a=some u:=⟨c.s4.at e k.1,wo c.f5 (c.s4.at e k.1) k.2⟩
theorem Ch.k3 (c:Ch J1 J1f J2 J2f J3 J3f J4 J4f) {a:Addr} {u:HO} (k:Kp u) (e:J2f a=some u):J3 a=some u/\J3f a=some u:=⟨c.s3.at e k.1,wo c.f4 (c.s3.at e k.1) k.2⟩
theorem Ch.k2 (c:Ch J1 J1f J2 J2f J3 J3f J4 J4f) {a:Addr} {u:HO} (k:Kp u) (e:J1f a=some u):J2 a=some u/\J2f a=some u:=⟨c.s2.at e k.1,wo c.f3 (c.s2.at e k.1) k.2⟩
theorem jP {o:Obj} {xs:List V}:Kp (.frz o (.lst xs)):=⟨rfl,λ_ z=>nomatch z⟩
theorem jQ {xs:List V}:Kp (.tup xs):=⟨rfl,λ_ z=>nomatch z⟩
theorem jy {c d:Addr} {fs:List (Str × V)}:Kp (.ins c d fs):=⟨rfl,λ_ z=>nomatch z⟩
theorem Ch.l1 (c:Ch J1 J1f J2 J2f J3 J3f J4 J4f) {a:Addr} {xs:List V} (e:J1 a=some (.lst xs)):∃ o,J2 a=some (.frz o (.lst xs))/\J3 a=some (.frz o (.lst xs))/\J4 a=some (.frz o (.lst xs))/\J4f a=some (.frz o (.lst xs)):=by
 obtain ⟨o,q⟩:=c.f2.l a xs e
 have h2:=c.k2 jP q
 have h3:=c.k3 jP h2.2
 have h4:=c.k4 jP h3.2
 exact ⟨o,h2.1,h3.1,h4.1,h4.2⟩
theorem Ch.l2 (c:Ch J1 J1f J2 J2f J3 J3f J4 J4f) {a:Addr} {xs:List V} (e:J2 a=some (.lst xs)):∃ o,J3 a=some (.frz o (.lst xs))/\J4f a=some (.frz o (.lst xs)):=by
 obtain ⟨o,q⟩:=c.f3.l a xs e
 have h3:=c.k3 jP q
 exact ⟨o,h3.1,(c.k4 jP h3.2).2⟩
theorem Ch.l3 (c:Ch J1 J1f J2 J2f J3 J3f J4 J4f) {a:Addr} {xs:List V} (e:J3 a=some (.lst xs)):∃ o,J4 a=some (.frz o (.lst xs))/\J4f a=some (.frz o (.lst xs)):=by
 obtain ⟨o,q⟩:=c.f4.l a xs e
 have h4:=c.k4 jP q
 exact ⟨o,h4.1,h4.2⟩
theorem Ch.parts (c:Ch J1 J1f J2 J2f J3 J3f J4 J4f) {v:V} {d:D} {k:Nat} (h:DV (zK (λ_=>False) J1) v d) (f:Fw k d):DV (wA (T1 J1) J4f) v d:=
 Wc (l:=true) (f:=false) h (λ_ a xs e=>by
  have e:=zo _ _ e
  obtain ⟨o,_,_,_,q⟩:=c.l1 e
  exact g6 ⟨xs,e⟩ q) (λz=>nomatch z) (λa xs e=>by
  have e:=wo c.f2 (zo _ _ e) λ_ z=>nomatch z
  have q:=(c.k4 jQ (c.k3 jQ (c.k2 jQ e).2).2).2
  exact (jI λo ys z=>by rw [q] at z; cases z).trans q) (λa cc dd fs e=>by
  have e:=wo c.f2 (zo _ _ e) λ_ z=>nomatch z
  have q:=(c.k4 jy (c.k3 jy (c.k2 jy e).2).2).2
  exact (jI λo ys z=>by rw [q] at z; cases z).trans q) f.kd
variable (c:Ch J1 J1f J2 J2f J3 J3f J4 J4f) (e0:J3 h0=some (.lst ys0)) (e1:J3 h1=some (.lst ys1)) (em:Em (wA (T1 J1) J4f) J6)
include c em
theorem Ch.six {a:Addr} {u:HO} (e:J4f a=some u) (k:∀ xs,u≠.lst xs) (n:(∃ o xs,u=.frz o (.lst xs))->¬ T1 J1 a):J6 a=some u:=by
 refine em.o a u ?_ k
 by_cases z:∃ o xs,u=.frz o (.lst xs)
 ·exact (YW (n z)).trans e
 ·exact (jI λo xs y=>z ⟨o,xs,by rw [e] at y; exact Option.some.inj y⟩).trans e
include e0 e1
theorem Ch.h3 {a:Addr} {ys:List V} (e:J3 a=some (.lst ys)):∃ o,J6 a=some (.frz o (.lst ys)):=by
 obtain ⟨o,_,q⟩:=c.l3 e
 exact ⟨o,c.six em q (λ_ z=>nomatch z) λ_ ⟨xs,z⟩=>by
  obtain ⟨o',_,q',_⟩:=c.l1 z
  rw [q'] at e
  cases e⟩
theorem Ch.at0:wA (T2 h0 h1) J6 h0=some (.lst ys0):=let ⟨_,q⟩:=c.h3 e0 e1 em e0; g6 (.inl rfl) q
theorem Ch.at1:wA (T2 h0 h1) J6 h1=some (.lst ys1):=let ⟨_,q⟩:=c.h3 e0 e1 em e1; g6 (.inr rfl) q
theorem Ch.tup {p:Addr} {xs:List V} (e:J3 p=some (.tup xs)):wA (T2 h0 h1) J6 p=some (.tup xs):=by
 have q:=(c.k4 jQ (wo c.f4 e λ_ z=>nomatch z)).2
 have q:=c.six em q (λ_ z=>nomatch z) λ⟨_,_,z⟩=>nomatch z
 exact (jI λo ys z=>by rw [q] at z; cases z).trans q
theorem Ch.nine {a:Addr} {u:HO} (e:J4f a=some u) (k:∀ xs,u≠.lst xs) (n:(∃ o xs,u=.frz o (.lst xs))->¬ T1 J1 a/\a≠h0/\a≠h1):J9 J6 h0 h1 a=some u:=by
 have q:=c.six em e k λz=>(n z).1
 have q7:wA (T2 h0 h1) J6 a=some u:=by
  by_cases z:∃ o xs,u=.frz o (.lst xs)
  ·exact (YW λy=>y.elim (n z).2.1 (n z).2.2).trans q
  ·exact (jI λo xs y=>z ⟨o,xs,by rw [q] at y; exact Option.some.inj y⟩).trans q
 have a0:a≠h0:=λz=>by rw [z,c.at0 e0 e1 em] at q7; exact k ys0 (Option.some.inj q7).symm
 have a1:a≠h1:=λz=>by rw [z,c.at1 e0 e1 em] at q7; exact k ys1 (Option.some.inj q7).symm
 exact (zl a1).trans ((zl a0).trans q7)
theorem Ch.ten {a:Addr} {u:HO} (e:J4f a=some u) (k:∀ xs,u≠.lst xs) (n:∀ o xs,u≠.frz o (.lst xs)):wA (T3 J2 J4) (J9 J6 h0 h1) a=some u:=by
 have q:=c.nine e0 e1 em e k λ⟨o,xs,z⟩=>absurd z (n o xs)
 exact (jI λo xs z=>by rw [q] at z; exact n o xs (Option.some.inj z)).trans q
theorem Ch.paper {v:V} {d:D} (h:DV (zK (λ_=>False) J2) v d) (f:yZ true false d=true):DV (zK (λ_=>False) (wA (T3 J2 J4) (J9 J6 h0 h1))) v d:=
 Wc (l:=true) (f:=false) h (λ_ a xs e=>by
  have e:=zo _ _ e
  obtain ⟨o,q3,q⟩:=c.l2 e
  refine xj (λz=>z) (g6 (.inl ⟨xs,e⟩) (c.nine e0 e1 em q (λ_ z=>nomatch z) λ_=>⟨λ⟨ys,z⟩=>?_,λz=>?_,λz=>?_⟩))
  ·obtain ⟨o',q',_⟩:=c.l1 z
   rw [q'] at e; cases e
  ·rw [z,e0] at q3; cases q3
  ·rw [z,e1] at q3; cases q3) (λz=>nomatch z) (λa xs e=>by
  have e:=wo c.f3 (zo _ _ e) λ_ z=>nomatch z
  exact xj (λz=>z) (c.ten e0 e1 em (c.k4 jQ (c.k3 jQ e).2).2 (λ_ z=>nomatch z) λ_ _ z=>nomatch z)) (λa cc dd fs e=>by
  have e:=wo c.f3 (zo _ _ e) λ_ z=>nomatch z
  exact xj (λz=>z) (c.ten e0 e1 em (c.k4 jy (c.k3 jy e).2).2 (λ_ z=>nomatch z) λ_ _ z=>nomatch z)) f
theorem Ch.claim {v:V} {d:D} (h:DV (zK (λ_=>False) J4) v d) (f:yZ true false d=true):DV (zK (λ_=>False) (wA (T3 J2 J4) (J9 J6 h0 h1))) v d:=
 Wc (l:=true) (f:=false) h (λ_ a xs e=>by
  have e:=zo _ _ e
  obtain ⟨o,q⟩:=c.f5.l a xs e
  refine xj (λz=>z) (g6 (.inr ⟨xs,e⟩) (c.nine e0 e1 em q (λ_ z=>nomatch z) λ_=>⟨λ⟨ys,z⟩=>?_,λz=>?_,λz=>?_⟩))
  ·obtain ⟨o',_,_,q',_⟩:=c.l1 z
   rw [q'] at e; cases e
  ·obtain ⟨o',q',_⟩:=c.l3 e0
   rw [z,q'] at e; cases e
  ·obtain ⟨o',q',_⟩:=c.l3 e1
   rw [z,q'] at e; cases e) (λz=>nomatch z) (λa xs e=>xj (λz=>z) (c.ten e0 e1 em (wo c.f5 (zo _ _ e) λ_ z=>nomatch z) (λ_ z=>nomatch z) λ_ _ z=>nomatch z)) (λa cc dd fs e=>xj (λz=>z) (c.ten e0 e1 em (wo c.f5 (zo _ _ e) λ_ z=>nomatch z) (λ_ z=>nomatch z) λ_ _ z=>nomatch z)) f
theorem Ch.spec {v:V} {d:D} (h:DV (zK (λ_=>False) J1) v d) (f:yZ false true d=true):DV (zK (λ_=>False) (wA (T3 J2 J4) (J9 J6 h0 h1))) v d:=
 Wc (l:=false) (f:=true) h (λz=>nomatch z) (λ_ a o xs e=>by
  have e:=zo _ _ e
  have k2:=c.k2 jP (wo c.f2 e λ_ z=>nomatch z)
  have k3:=c.k3 jP k2.2
  have k4:=c.k4 jP k3.2
  refine xj (λz=>z) ((YW λz=>?_).trans (c.nine e0 e1 em k4.2 (λ_ z=>nomatch z) λ_=>⟨λ⟨ys,z⟩=>?_,λz=>?_,λz=>?_⟩))
  ·rcases z with ⟨ys,z⟩ | ⟨ys,z⟩
   ·rw [k2.1] at z; cases z
   ·rw [k4.1] at z; cases z
  ·rw [e] at z; cases z
  ·rw [z,e0] at k3; cases k3.1
  ·rw [z,e1] at k3; cases k3.1) (λa xs e=>xj (λz=>z) (c.ten e0 e1 em (c.k4 jQ (c.k3 jQ (c.k2 jQ (wo c.f2 (zo _ _ e) λ_ z=>nomatch z)).2).2).2 (λ_ z=>nomatch z) λ_ _ z=>nomatch z)) (λa cc dd fs e=>xj (λz=>z) (c.ten e0 e1 em (c.k4 jy (c.k3 jy (c.k2 jy (wo c.f2 (zo _ _ e) λ_ z=>nomatch z)).2).2).2 (λ_ z=>nomatch z) λ_ _ z=>nomatch z)) f
end
section
variable {P:Program} {w:World} {K:cg} {mg:Str->Option Value} {base:Heap}
abbrev QU:Stmt:=zp 7
theorem zIH:zb ["thing"] ["thing"] (zP QU):=.a
abbrev QV:Stmt:=zp 9
theorem zD7:zb ["value","count"] ["value","count"] (zP QV):=.a
abbrev QW:Stmt:=zp 10
theorem zFN:zb ["value","tall","wide"] ["value","tall","wide"] (zP QW):=.a
abbrev QX:Stmt:=zp 11
theorem QY:zb ["value","depth"] ["value","depth"] (zP QX):=.a
abbrev QZ:Stmt:=zp 12
theorem zKe:zb ["place","wide","number"] ["place","wide","number"] (zP QZ):=.a
abbrev Qa:Stmt:=zp 13
theorem zHd:zb ["factor","numbers"] ["factor","numbers"] (zP Qa):=.a
abbrev Qb:Stmt:=zp 14
theorem zJC:zb ["factor","numbers","other_factor","others"] ["factor","numbers","other_factor","others"] (zP Qb):=.a
abbrev Qc:Stmt:=zp 15
theorem zHe:zb ["numbers","others"] ["numbers","others"] (zP Qc):=.a
abbrev Qd:Stmt:=zp 16
theorem zFQ:zb ["numbers","lists","wide"] ["numbers","lists","wide"] (zP Qd):=.a
abbrev Qe:Stmt:=zp 22
theorem zHg:zb ["value","many"] ["value","many"] (zP Qe):=.a
abbrev Qf:Stmt:=zp 23
theorem zGJ:zb ["value","many"] ["value","many"] (zP Qf):=.a
abbrev Qg:Stmt:=zp 24
theorem zKf:zb ["place","many","number","bound"] ["place","many","number","bound"] (zP Qg):=.a
abbrev Qh:Stmt:=zp 25
theorem zD1:zb ["row"] ["row"] (zP Qh):=.a
abbrev Qi:Stmt:=qC (zp 38) 0
theorem zE9:zb ["self","rows","nexts","steer","push","add","divisor"] ["self","rows","nexts","steer","push","add","divisor"] (zP Qi):=.a
abbrev Qj:Stmt:=zp 41
theorem zJt:zb ["value"] ["value"] (zP Qj):=.a
abbrev Qk:Stmt:=zp 42
theorem zJu:zb ["value","many","wide"] ["value","many","wide"] (zP Qk):=.a
abbrev Ql:Stmt:=zp 40
theorem Qm:zb ["many","pushes","modes"] ["many","pushes","modes"] (zP Ql):=.a
abbrev Qn:Stmt:=qC (zp 39) 0
theorem zET:zb ["self","many","pushes","modes"] ["self","many","pushes","modes"] (zP Qn):=.a
abbrev Qo:Stmt:=qC (zp 39) 1
theorem zFR:zb ["self"] ["self"] (zP Qo):=.a
abbrev Qp:Stmt:=qC (zp 39) 2
theorem zGA:zb ["self"] ["self"] (zP Qp):=.a
abbrev Qq:Stmt:=zp 43
theorem zDH:zb ["mode"] ["mode"] (zP Qq):=.a
abbrev Qr:Stmt:=qC (zp 39) 3
theorem zCb:zb ["self"] ["self"] (zP Qr):=.a
abbrev Wg:Stmt:=zp 44
theorem zD9:zb ["thing"] ["thing"] (zP Wg):=.a
abbrev Qs:Stmt:=zp 27
theorem jR:zb ["thing","rows","pushes","wide","noughts","told","place","push"] ["thing","rows"] (zP Qs):=.a
abbrev Qt:Stmt:=zp 28
theorem Qu:zb ["thing","mode","row","numbers","ahead"] ["thing","mode","row"] (zP Qt):=.a
abbrev Qv:Stmt:=zp 30
theorem zMg:zb ["rows","numbers","many"] ["rows","numbers","many"] (zP Qv):=.a
abbrev Qw:Stmt:=zp 31
theorem zFO:zb ["value"] ["value"] (zP Qw):=.a
abbrev Qx:Stmt:=zp 32
theorem zEA:zb ["value","count"] ["value","count"] (zP Qx):=.a
abbrev Qy:Stmt:=zp 33
theorem Wi:zb ["rows","target","shares","total","wanted"] ["rows","target","shares"] (zP Qy):=.a
abbrev Qz:Stmt:=zp 50
theorem zGh:zb ["value","count"] ["value","count"] (zP Qz):=.a
abbrev Q0:Stmt:=zp 51
theorem zD8:zb ["rows","targets","shares"] ["rows","targets","shares"] (zP Q0):=.a
abbrev Q1:Stmt:=zp 58
theorem zD2:zb ["thing","mode","room","behind","shares"] ["thing","mode","room","behind","shares"] (zP Q1):=.a
abbrev Q2:Stmt:=zp 57
theorem Q3:zb ["thing","room","behind","steps","modes"] ["thing","room","behind","steps"] (zP Q2):=.a
abbrev Q4:Stmt:=qC (zp 20) 0
theorem zEV:zb ["self","start","goal","turns"] ["self","start","goal","turns"] (zP Q4):=.a
abbrev Q5:Stmt:=qC (zp 48) 0
theorem zEU:zb ["self","room","starts","steps","measure","step","top","falls","floors","tops"] ["self","room","starts","steps","measure","step","top","falls","floors","tops"] (zP Q5):=.a
abbrev Q6:Stmt:=zp 53
theorem zGi:zb ["claim","many"] ["claim","many"] (zP Q6):=.a
abbrev Q7:Stmt:=zp 61
theorem zES:zb ["measure","top"] ["measure","top"] (zP Q7):=.a
abbrev Q8:Stmt:=zp 62
theorem zCV:zb ["measure"] ["measure"] (zP Q8):=.a
abbrev Q9:Stmt:=zp 63
theorem KA:zb ["thing","mode","measure","step","ahead","less"] ["thing","mode","measure","step"] (zP Q9):=.a
abbrev KB:Stmt:=zp 64
theorem KC:zb ["claim","paper","target"] ["claim","paper"] (zP KB):=.a
abbrev KD:Stmt:=zp 66
theorem Wj:zb ["thing","mode","claim","paper","shares","target","rows"] ["thing","mode","claim","paper","shares"] (zP KD):=.a
abbrev KE:Stmt:=zp 65
theorem KF:zb ["thing","claim","paper","modes"] ["thing","claim","paper"] (zP KE):=.a
abbrev KG:Stmt:=zp 60
theorem zFL:zb ["thing","claim","paper"] ["thing","claim","paper"] (zP KG):=.a
abbrev Wl:Stmt:=zp 49
theorem zGI:zb ["thing","claim","paper"] ["thing","claim","paper"] (zP Wl):=.a
abbrev KH:Stmt:=zp 68
theorem zHf:zb ["_law_script","_law_k"] ["_law_script","_law_k"] (zP KH):=.a
abbrev KI:Stmt:=zp 69
theorem jz:zb ["_law_cell","_law_many","_law_found","_law_rest","_law_k","_law_number_here"] ["_law_cell","_law_many"] (zP KI):=.a
abbrev KJ:Stmt:=zp 70
theorem zIG:zb ["_law_x","_law_far"] ["_law_x","_law_far"] (zP KJ):=.a
abbrev KL:Stmt:=zp 72
theorem XI:zb ["_law_cell","_law_many","_law_unit","_law_xs","_law_box_here","_law_i","_law_low"] ["_law_cell","_law_many","_law_unit"] (zP KL):=.a
abbrev KM:Stmt:=zp 73
theorem kX:zb ["_law_box_here","_law_rows_here","_law_i","_law_ones"] ["_law_box_here"] (zP KM):=.a
abbrev KN:Stmt:=zp 74
theorem XJ:zb ["_law_numbers","_law_box_here","_law_found","_law_number_here","_law_bounds"] ["_law_numbers","_law_box_here"] (zP KN):=.a
abbrev KO:Stmt:=zp 75
theorem Wm:zb ["_law_numbers","_law_found","_law_number_here"] ["_law_numbers"] (zP KO):=.a
abbrev KP:Stmt:=zp 77
theorem we:zb ["_law_xs","_law_goal","_law_pushes","_law_often","_law_step","_law_many","_law_divisor","_law_push","_law_i","_law_pushed_here","_law_worst_push","_law_size","_law_far","_law_nexts","_law_rows_here","_law_row"] ["_law_xs","_law_goal","_law_pushes","_law_often","_law_step"] (zP KP):=.a
abbrev KQ:Stmt:=zp 76
theorem v4:zb ["_law_script","_law_first","_law_xs","_law_unit","_law_many","_law_goal","_law_pushes","_law_k","_law_often","_law_step","_law_modes"] ["_law_script"] (zP KQ):=.a
abbrev KR:Stmt:=zp 78
theorem j1:zb ["_law_spec","_law_mode","_law_numbers","_law_rows_here","_law_nexts","_law_steer","_law_push","_law_add","_law_divisor"] ["_law_spec","_law_mode","_law_numbers"] (zP KR):=.a
abbrev KS:Stmt:=zp 79
theorem uk:zb ["_law_spec","_law_goal","_law_often","_law_step","_law_cell","_law_xs","_law_box_here","_law_bound","_law_slack","_law_measure","_law_top_here","_law_turns","_law_aims","_law_room"] ["_law_spec","_law_goal","_law_often","_law_step","_law_cell"] (zP KS):=.a
abbrev KT:Stmt:=zp 80
theorem wq:zb ["_law_spec","_law_goal","_law_often","_law_step","_law_told","_law_box_here","_law_room","_law_aims","_law_measure","_law_top_here","_law_turns","_law_starts","_law_steps","_law_falls","_law_mode","_law_none","_law_some","_law_floors","_law_tops","_law_found"] ["_law_spec","_law_goal","_law_often","_law_step","_law_told"] (zP KT):=.a
abbrev KU:Stmt:=zp 71
theorem vY:zb ["_law_spec","_law_many","_law_pushes","_law_modes","_law_unit","_law_some","_law_rows_here","_law_nexts","_law_steer","_law_push","_law_add","_law_divisor","_law_lists"] ["_law_spec"] (zP KU):=.a
abbrev KW:Stmt:=zp 86
theorem KY:zb ["_law_spec","_law_modes"] ["_law_spec"] (zP KW):=.a
abbrev KZ:Stmt:=zp 81
theorem uK:zb ["_law_parts","_law_told","_law_room","_law_starts","_law_steps","_law_measure","_law_step","_law_top_here","_law_falls","_law_floors","_law_tops","_law_found"] ["_law_parts","_law_told"] (zP KZ):=.a
abbrev Ka:Stmt:=zp 82
theorem vn:zb ["_law_parts","_law_many","_law_room","_law_starts","_law_steps","_law_measure","_law_step","_law_top_here","_law_falls","_law_floors","_law_tops","_law_shares","_law_found"] ["_law_parts","_law_many"] (zP Ka):=.a
abbrev Kb:Stmt:=zp 85
theorem XM:zb ["_law_thing","_law_claim","_law_paper","_law_found"] ["_law_thing","_law_claim","_law_paper"] (zP Kb):=.a
abbrev Kc:Stmt:=zp 83
theorem j2:zb ["_law_parts","_law_cell","_law_at","_law_room","_law_bad","_law_row","_law_more"] ["_law_parts","_law_cell"] (zP Kc):=.a
abbrev Ke:Stmt:=zp 84
theorem zE0:zb ["_law_thing","_law_one"] ["_law_thing"] (zP Ke):=.a
abbrev kY:Stmt:=zp 87
theorem xK:zb ["_law_script","_law_spec","_law_goal","_law_often","_law_step","_law_told","_law_box_here","_law_room","_law_aims","_law_measure","_law_top_here","_law_turns","_law_parts","_law_start","_law_cell","_law_starts","_law_steps","_law_rest","_law_paper","_law_handed","_law_claim","_law_found"] ["_law_script"] (zP kY):=.a
variable {aClaim aSettles aComes af ag aPaper aRooms aFalls:Addr} (TClaim:yo K mg "Claim" aClaim) (AClaim:zMM K aClaim) (TSettles:yo K mg "Settles" aSettles) (ASettles:zIC K aSettles) (TComes:yo K mg "Comes" aComes) (AComes:zML K aComes) (aa:yo K mg "Mode" af) (ad:zOb K af) (ac:yo K mg "Thing" ag) (ae:zMH K ag) (TPaper:yo K mg "Paper" aPaper) (APaper:zMJ K aPaper) (TRooms:yo K mg "Rooms" aRooms) (ARooms:zMI K aRooms) (TFalls:yo K mg "Falls" aFalls) (AFalls:zMK K aFalls) (Y:qO K aComes aSettles aFalls aPaper aClaim) {k:Nat} {f:Addr} {fd:FuncData} (B:Bl mg)
include TClaim AClaim TSettles ASettles TComes AComes aa ad ac ae TPaper APaper TRooms ARooms TFalls AFalls Y B
theorem zIe (F:ze K "is_whole" "is_whole" QU f fd):zF P w K mg base zT (k + 1) f fd ["thing"] (zG (je)):=by
 refine zz F zIH λ_ _ _ _ _ _ hr=>⟨_,(zM (zU (wX (yK (xc vB rfl B.isinstance_ xq (zg (zA 0) (zg (wf (v:=.ty "int") (u:=.type "int") rfl B.int_ UV rfl) yO))) (vT zQ5)) (vd (zQF (yK (xc vB rfl B.isinstance_ xq (zg (zA 0) (zg (wf (v:=.ty "bool") (u:=.type "bool") rfl B.bool_ zGV rfl) yO))) (vT zJS))))))),λds R h=>?_⟩
 obtain ⟨d,rfl,o,q⟩:=h
 refine ⟨o,λc=>⟨o,bR q ?_⟩,λc=>bR q ?_⟩
 ·unfold vx; rw [c]; rfl
 ·unfold vx; rw [c]; rfl
theorem zG5 (F:ze K "is_numbers" "is_numbers" QV f fd) (ai:Fn P w K mg base "is_whole" ["thing"] k (zG (je))):zF P w K mg base zT (k + 1) f fd ["value","count"] (zG (Jc)):=by
 refine zz F zD7 λ_ _ _ _ _ _ hr=>⟨_,(zM (zU (wX (yK (xc vB rfl B.isinstance_ xq (zg (zA 0) (zg (wf (v:=.ty "list") (u:=.type "list") rfl B.list_ xg rfl) yO))) (vT jb)) (wX (uv hr.units (zt yu yx rfl B.len_ yw (zB (zA 0) zC)) (zA 1)) (vd (zt (vM rfl) vR rfl B.all_ vN (zB (yd (own:=["number"]) (caps:=[]) (yN zD7) rfl rfl yX (y6 (zA 0)) (λ_ _ _ _=>(yG 0 (zv ["number"]))) (λ_ _ _ _=>(zQ ai hr rfl (zB (zA 0) zC)))) zC))))))),λds R h=>?_⟩
 obtain ⟨d,n,k,rfl,f,q⟩:=h
 refine ⟨f.no,λc=>?_,λc=>bR q ?_⟩
 ·obtain ⟨es,rfl,le,j,rfl,hj⟩:=f.lst_inv c
  refine ⟨λc2=>?_,λc2=>bR q ?_⟩
  ·refine zh.bool vx (by omega) (λd m=>⟨d,rfl,(hj d m).no,rfl⟩) ⟨_,rfl,bR q ?_⟩
   show (decide _ && _)=_
   rw [c2,vg]
   rfl
  ·show (decide _ && _)=_
   rw [c2]
   rfl
 ·cases d <;> first | rfl | cases c
theorem zIf (F:ze K "is_table" "is_table" QW f fd) (ar:Fn P w K mg base "is_numbers" ["value","count"] k (zG (Jc))):zF P w K mg base zT (k + 1) f fd ["value","tall","wide"] (zG (YZ)):=by
 refine zz F zFN λ_ _ _ _ _ _ hr=>⟨_,(zM (zU (wX (yK (xc vB rfl B.isinstance_ xq (zg (zA 0) (zg (wf (v:=.ty "list") (u:=.type "list") rfl B.list_ xg rfl) yO))) (vT jb)) (wX (uv hr.units (zt yu yx rfl B.len_ yw (zB (zA 0) zC)) (zA 1)) (vd (zt (vM rfl) vR rfl B.all_ vN (zB (yd (own:=["part"]) (caps:=[(2,"wide")]) (yN zFN) rfl rfl yX (y6 (zA 0)) (λ_ _ _ _=>(yG 0 (zv ["part","wide"]))) (λ_ _ _ _=>(zQ ar hr rfl (zB (zA 0) (zB (zA 1) zC))))) zC))))))),λds R h=>?_⟩
 obtain ⟨d,h,w,k,rfl,f,q⟩:=h
 refine ⟨f.no,λc=>?_,λc=>bR q ?_⟩
 ·obtain ⟨es,rfl,le,j,rfl,hj⟩:=f.lst_inv c
  refine ⟨λc2=>?_,λc2=>bR q ?_⟩
  ·refine zh.bool (WE w) (by omega) (λd m=>⟨d,w,j,rfl,hj d m,rfl⟩) ⟨_,rfl,bR q ?_⟩
   show (decide _ && _)=_
   rw [c2,vg]
   rfl
  ·show (decide _ && _)=_
   rw [c2]
   rfl
 ·cases d <;> first | rfl | cases c
theorem kZ {dv:Value} {j:Nat} (F:xh K "copied" "copied" QX f fd dv) (ah:vp P w K mg base "copied" ["value","depth"] k (zG (jf j)) (.int 5)):zF P w K mg base zT (k + 1) f fd ["value","depth"] (zG (jf (j + 1))):=by
 refine YT F QY λ_ _ _ _ _ _ hr=>⟨_,(zH (yS (uw hr.units (zA 1) zD) (zM (zU (zA 0))) yR)
  (zH (yS (yh (yK (xc vB rfl B.isinstance_ xq (zg (zA 0) (zg (wf (v:=.ty "list") (u:=.type "list") rfl B.list_ xg rfl) yO))) (vT jb))) (zM (zU (yd (own:=["part"]) (caps:=[(1,"depth")]) (yN QY) rfl rfl yX (y6 (zA 0)) (λ_ _ _ _=>(yG 0 (zv ["part","depth"]))) (λ_ _ _ _=>(zQ ah.fn hr rfl (zB (zA 0) (zB (wv (zA 1) zD) zC))))))) yR)
  (zH (yS (yh (yK (xc vB rfl B.isinstance_ xq (zg (zA 0) (zg (wf (v:=.ty "tuple") (u:=.type "tuple") rfl B.tuple_ wH rfl) yO))) (vT X8))) (zM (zU (y4 w8 vC rfl B.tuple_ wH (zB (yd (own:=["part"]) (caps:=[(1,"depth")]) (yN QY) rfl rfl yX (y6 (zA 0)) (λ_ _ _ _=>(yG 0 (zv ["part","depth"]))) (λ_ _ _ _=>(zQ ah.fn hr rfl (zB (zA 0) (zB (wv (zA 1) zD) zC))))) zC)))) yR)
  (zM (zU (zA 0)))))),λds R h=>?_⟩
 obtain ⟨d,n,rfl,f,jn,q⟩:=h
 refine ⟨λc=>?_,λc=>?_⟩
 ·have c:n=0:=of_decide_eq_true c
  have j0:j=0:=by omega
  subst j0
  cases f <;> rw [yy] at q <;> exact q
 have go:∀ {k:Nat} {ds:List D} {R:D->Prop},j=k + 1->ds.length<=900->(∀ d∈ds,Fq (k + 1) d)->R (.lst (wa ds))->zh ds (λd S=>jf j [d,.int (n - 1)] S) R:=λ{k ds R} e le h q=>zh.map yy (by omega) (λd m=>⟨d,_,rfl,by rw [e]; exact h d m,by omega,rfl⟩) (by rw [<- kA]; exact q)
 refine ⟨f.no,λc=>?_,λc=>?_⟩
 ·cases f with
  | lst l h=>rw [yy] at q; exact go rfl l h q
  | frz l h=>rw [yy] at q; exact go rfl l h q
  | _=>cases c
 refine ⟨f.no,λc2=>?_,λc2=>?_⟩
 ·cases f with
  | tup l h=>rw [yy] at q; exact go rfl l h q
  | _=>cases c2
 ·cases f with
  | lst l h=>cases c
  | frz l h=>cases c
  | tup l h=>cases c2
  | _=>rw [yy] at q; exact q
theorem zPM {dv:Value} (F:xh K "unit" "unit" QZ f fd dv):zF P w K mg base zT (k + 1) f fd ["place","wide","number"] (zG (zRG)):=by
 refine YT F zKe λ_ _ _ _ _ _ hr=>⟨_,(zM (zU (yd (own:=["other"]) (caps:=[(0,"place"),(2,"number")]) (yN zKe) rfl rfl yX (wY rfl B.range_ (zB (zA 1) zC)) (λ_ _ _ _=>(yG 0 (zv ["other","place","number"]))) (λ_ _ _ _=>(zMl (uw hr.units (zA 0) (zA 1)) (zA 2) zD))))),λds R h=>?_⟩
 obtain ⟨p,w,n,rfl,w0,w1,q⟩:=h
 refine ⟨by omega,by omega,zh.rng0 (λi=>.int (if (i:Int)=p then n else 0)) (by omega) (λk hk=>?_) ?_⟩
 ·refine ⟨λc=>?_,λc=>?_⟩
  ·show D.int n=_
   rw [if_pos (of_decide_eq_true c)]
  ·show D.int 0=_
   rw [if_neg (of_decide_eq_false c)]
 ·unfold xx L at q
  rw [cA] at q
  exact q
theorem zK7 (F:ze K "scaled" "scaled" Qa f fd):zF P w K mg base zT (k + 1) f fd ["factor","numbers"] (zG (zLf)):=by
 refine zz F zHd λ_ _ _ _ _ _ hr=>⟨_,(zM (zU (yd (own:=["number"]) (caps:=[(0,"factor")]) (yN zHd) rfl rfl yX (y6 (zA 1)) (λ_ _ _ _=>(yG 0 (zv ["number","factor"]))) (λ_ _ _ _=>(yL (zA 1) (zA 0)))))),λds R h=>?_⟩
 obtain ⟨f,d,ns,rfl,h,l,bf,bn,q⟩:=h
 exact h.seq (zh.int _ (by omega) (λn hn=>⟨bf.mono,(bn n hn).mono,rfl⟩) q)
theorem zM9 (F:ze K "mixed" "mixed" Qb f fd):zF P w K mg base zT (k + 1) f fd ["factor","numbers","other_factor","others"] (zG (zON)):=by
 refine zz F zJC λ_ _ _ _ _ _ hr=>⟨_,(zM (zU (yd (own:=["number","other"]) (caps:=[(0,"factor"),(2,"other_factor")]) (yN zJC) rfl rfl (uU (wL (wL uX))) (uy rfl B.zip_ (zB (zA 1) (zB (zA 3) zC))) (λ_ _ _ _=>(xz rfl (zc 0 (zv ["number","other","factor","other_factor"]) (zc 1 (zv ["number","other","factor","other_factor"]) xy)))) (λ_ _ _ _=>(zY (yL (zA 2) (zA 0)) (yL (zA 3) (zA 1))))))),λds R h=>?_⟩
 obtain ⟨f,g,d,e,ns,os,rfl,h,k,l,bf,bg,bn,bo,q⟩:=h
 exact h.zip k (zRU (λq=>f * q.1 + g * q.2) (by rw [dE]; omega) (λp hp=>⟨bf.mono,(bn _ (cW hp).1).mono,bg.mono,(bo _ (cW hp).2).mono,rfl⟩) q)
theorem zK8 (F:ze K "paired" "paired" Qc f fd):zF P w K mg base zT (k + 1) f fd ["numbers","others"] (zG (zLh)):=by
 refine zz F zHe λ_ _ _ _ _ _ hr=>⟨_,(zM (zU (zt (gh rfl) gt rfl B.sum_ gg (zB (yd (own:=["number","other"]) (caps:=[]) (yN zHe) rfl rfl (uU (wL (wL uX))) (uy rfl B.zip_ (zB (zA 0) (zB (zA 1) zC))) (λ_ _ _ _=>(xz rfl (zc 0 (zv ["number","other"]) (zc 1 (zv ["number","other"]) xy)))) (λ_ _ _ _=>(yL (zA 0) (zA 1)))) zC)))),λds R h=>?_⟩
 obtain ⟨d,e,ns,os,rfl,h,k,l,bn,bo,q⟩:=h
 refine h.zip k (zRU (λq=>q.1 * q.2) (by rw [dE]; omega) (λp hp=>⟨(bn _ (cW hp).1).mono,(bo _ (cW hp).2).mono,rfl⟩) ⟨_,rfl,?_⟩)
 rw [zI5]
 exact q
theorem zIi (F:ze K "added_up" "added_up" Qd f fd):zF P w K mg base zT (k + 1) f fd ["numbers","lists","wide"] (zG (Jd)):=by
 refine zz F zFQ λ_ _ _ _ _ _ hr=>⟨_,(zM (zU (yd (own:=["place"]) (caps:=[(0,"numbers"),(1,"lists")]) (yN zFQ) rfl rfl yX (wY rfl B.range_ (zB (zA 2) zC)) (λ_ _ _ _=>(yG 0 (zv ["place","numbers","lists"]))) (λ_ _ _ _=>(zt (gh rfl) gt rfl B.sum_ gg (zB (yd (own:=["number","part"]) (caps:=[(0,"place")]) WD rfl rfl (uU (wL (wL uX))) (uy rfl B.zip_ (zB (zA 1) (zB (zA 2) zC))) (λ_ _ _ _=>(xz rfl (zc 0 (zv ["number","part","place"]) (zc 1 (zv ["number","part","place"]) xy)))) (λ_ _ _ _=>(yL (zA 0) (zN (zA 1) (zA 2))))) zC)))))),λds R h=>?_⟩
 obtain ⟨d,e,ns,ls,w,rfl,h,k,lw,ln,bn,bl,q⟩:=h
 refine ⟨by omega,by omega,?_⟩
 rw [show ((w:Nat):Int).toNat=w by omega]
 refine zh.rng0 (λj=>.int (zX ns ls j)) (by omega) (λj hj=>?_) (by unfold L at q; rw [cA] at q; exact q)
 refine h.zipT k λu hu=>vV (λq=>xR (.int q.1) (u q.2)) v2 (Yc hu) (λq=>.int (q.1 * q.2.getD j 0)) (by rw [dE]; omega) (λq hq=>?_) ⟨(ns.zip ls).map λq=>q.1 * q.2.getD j 0,by rw [cA]; rfl,rfl⟩
 have hb:=bl q.2 (cW hq).2
 rcases hu with rfl | rfl
 all_goals exact ⟨_,uc (j:=j) (by omega) (by omega),(bn _ (cW hq).1).mono,(qw hb.2 j).mono,rfl⟩
theorem zLD (F:ze K "is_row" "is_row" Qe f fd) (ai:Fn P w K mg base "is_whole" ["thing"] k (zG (je))):zF P w K mg base zT (k + 1) f fd ["value","many"] (zG (qv)):=by
 refine zz F zHg λ_ _ _ _ _ _ hr=>⟨_,(zM (zU (wX (yK (xc vB rfl B.isinstance_ xq (zg (zA 0) (zg (wf (v:=.ty "tuple") (u:=.type "tuple") rfl B.tuple_ wH rfl) yO))) (vT X8)) (wX (uv hr.units (zt yu yx rfl B.len_ yw (zB (zA 0) zC)) (zY (zA 1) zD)) (vd (zt (vM rfl) vR rfl B.all_ vN (zB (yd (own:=["number"]) (caps:=[]) (yN zHg) rfl rfl yX (y6 (zA 0)) (λ_ _ _ _=>(yG 0 (zv ["number"]))) (λ_ _ _ _=>(zQ ai hr rfl (zB (zA 0) zC)))) zC))))))),λds R h=>?_⟩
 obtain ⟨d,n,k,rfl,f,q⟩:=h
 refine ⟨f.no,λc=>?_,λc=>bR q ?_⟩
 ·obtain ⟨es,rfl,le,j,rfl,hj⟩:=f.tup_inv c
  refine ⟨λc2=>?_,λc2=>bR q ?_⟩
  ·refine zh.bool vx (by omega) (λd m=>⟨d,rfl,(hj d m).no,rfl⟩) ⟨_,rfl,bR q ?_⟩
   show (decide _ && _)=_
   rw [c2,vg]
   rfl
  ·show (decide _ && _)=_
   rw [c2]
   rfl
 ·cases d <;> first | rfl | cases c
theorem zJ2 (F:ze K "is_room" "is_room" Qf f fd) (ax:Fn P w K mg base "is_row" ["value","many"] k (zG (qv))):zF P w K mg base zT (k + 1) f fd ["value","many"] (zG (WF)):=by
 refine zz F zGJ λ_ _ _ _ _ _ hr=>⟨_,(zM (zU (wX (yK (xc vB rfl B.isinstance_ xq (zg (zA 0) (zg (wf (v:=.ty "list") (u:=.type "list") rfl B.list_ xg rfl) yO))) (vT jb)) (vd (zt (vM rfl) vR rfl B.all_ vN (zB (yd (own:=["row"]) (caps:=[(1,"many")]) (yN zGJ) rfl rfl yX (y6 (zA 0)) (λ_ _ _ _=>(yG 0 (zv ["row","many"]))) (λ_ _ _ _=>(zQ ax hr rfl (zB (zA 0) (zB (zA 1) zC))))) zC)))))),λds R h=>?_⟩
 obtain ⟨d,n,k,rfl,f,q⟩:=h
 refine ⟨f.no,λc=>?_,λc=>bR q ?_⟩
 ·obtain ⟨es,rfl,le,j,rfl,hj⟩:=f.lst_inv c
  refine zh.bool (wZ n) (by omega) (λd m=>⟨d,n,j,rfl,hj d m,rfl⟩) ⟨_,rfl,bR q ?_⟩
  rw [vg]
  rfl
 ·cases d <;> first | rfl | cases c
theorem zK6 (F:ze K "single" "single" Qg f fd) (aN:vp P w K mg base "unit" ["place","wide","number"] k (zG (zRG)) (.int 1)):zF P w K mg base zT (k + 1) f fd ["place","many","number","bound"] (zG (zLd)):=by
 refine zz F zKf λ_ _ _ _ _ _ hr=>⟨_,(zM (zU (zY (y4 w8 vC rfl B.tuple_ wH (zB (zQ aN.fn hr rfl (zB (zA 0) (zB (zA 1) (zB (zA 2) zC)))) zC)) (xG (zB (zA 3) zC))))),λds R h=>?_⟩
 obtain ⟨p,w,n,b,rfl,w0,w1,q⟩:=h
 refine ⟨p,w,n,rfl,w0,w1,k0,by rw [a_,uC]; show _ + 1<=1000; omega,?_⟩
 unfold U at q
 rw [cq] at q
 exact q
theorem zG2 (F:ze K "other_side" "other_side" Qh f fd):zF P w K mg base zT (k + 1) f fd ["row"] (zG (Je)):=by
 refine zz F zD1 λ_ _ _ _ _ _ hr=>⟨_,(zM (zU (y4 w8 vC rfl B.tuple_ wH (zB (yd (own:=["number"]) (caps:=[]) (yN zD1) rfl rfl yX (y6 (zA 0)) (λ_ _ _ _=>(yG 0 (zv ["number"]))) (λ_ _ _ _=>(yr (zA 0)))) zC)))),λds R h=>?_⟩
 obtain ⟨d,ns,rfl,h,l,q⟩:=h
 exact h.seq (zh.int (λx=>-x) (by omega) (λn hn=>rfl) q)
theorem zFA (F:ze K "__init__" "Mode.__init__" Qi f fd) (ah:vp P w K mg base "copied" ["value","depth"] k (zG (jf 6)) (.int 5)):zF P w K mg base zT (k + 1) f fd ["self","rows","nexts","steer","push","add","divisor"] (vU af (zOM af)):=by
 refine WB F zE9 (λds R h=>by obtain ⟨r,n,s,p,a,d,rfl,_⟩:=h; rfl) λcdv A outer s H E hr=>⟨_,(zH (yF (wG (yI 0) (vf (.int 5) (λ_=>.int 5) ah hr rfl (zB (zA 1) zC)) rfl) wM)
  (zH (yF (wG (yI 0) (vf (.int 5) (λ_=>.int 5) ah hr rfl (zB (zA 2) zC)) rfl) wM)
  (zH (yF (wG (yI 0) (vf (.int 5) (λ_=>.int 5) ah hr rfl (zB (zA 3) zC)) rfl) wM)
  (zH (yF (wG (yI 0) (vf (.int 5) (λ_=>.int 5) ah hr rfl (zB (zA 4) zC)) rfl) wM)
  (zH (yF (wG (yI 0) (vf (.int 5) (λ_=>.int 5) ah hr rfl (zB (zA 5) zC)) rfl) wM)
  (zM (yF (wG (yI 0) (zA 6) rfl) wM))))))),λo ds R h=>?_⟩
 obtain ⟨r,n,s,p,a,d,rfl,f1,f2,f3,f4,f5,q⟩:=h
 rw [<- f1.cp.2,<- f2.cp.2,<- f3.cp.2,<- f4.cp.2,<- f5.cp.2] at q
 refine ⟨r,5,rfl,f1.cp.1,by decide,⟨aa.cl,ad.n_rows⟩,by decide +kernel,by decide,rfl,?_⟩
 refine ⟨n,5,rfl,f2.cp.1,by decide,⟨aa.cl,ad.n_nexts⟩,by decide +kernel,by decide,rfl,?_⟩
 refine ⟨s,5,rfl,f3.cp.1,by decide,⟨aa.cl,ad.n_steer⟩,by decide +kernel,by decide,rfl,?_⟩
 refine ⟨p,5,rfl,f4.cp.1,by decide,⟨aa.cl,ad.n_push⟩,by decide +kernel,by decide,rfl,?_⟩
 refine ⟨a,5,rfl,f5.cp.1,by decide,⟨aa.cl,ad.n_add⟩,by decide +kernel,by decide,rfl,?_⟩
 exact ⟨⟨aa.cl,ad.n_divisor⟩,by decide +kernel,by decide,rfl,rfl,q⟩
theorem zJ3 (F:ze K "is_push" "is_push" Qj f fd) (ai:Fn P w K mg base "is_whole" ["thing"] k (zG (je))):zF P w K mg base zT (k + 1) f fd ["value"] (zG (zLn)):=by
 refine zz F zJt λ_ _ _ _ _ _ hr=>⟨_,(zH (yS (PW.pt (wx (y3 (yh (yK (xc vB rfl B.isinstance_ xq (zg (zA 0) (zg (wf (v:=.ty "tuple") (u:=.type "tuple") rfl B.tuple_ wH rfl) yO))) (vT X8)))) (vc (X0 hr.units (zt yu yx rfl B.len_ yw (zB (zA 0) zC)) zD)))) (zM (zU xk)) yR)
  (zM (zU (wX (zQ ai hr rfl (zB (zN (zA 0) zD) zC)) (wX (zQ ai hr rfl (zB (zN (zA 0) zD) zC)) (vd (Uw (zN (zA 0) zD) (zN (zA 0) zD)))))))),λds R h=>?_⟩
 obtain ⟨b,rfl,h,q⟩:=h
 refine ⟨rfl,wF rfl (wF rfl ?_)⟩
 refine ⟨_,rfl,_,rfl,rfl,wT rfl ?_⟩
 refine ⟨_,rfl,_,rfl,rfl,wT rfl ?_⟩
 exact ⟨_,rfl,_,rfl,bR q (decide_eq_true h).symm⟩
theorem zJ4 (F:ze K "is_mode" "is_mode" Qk f fd) (ao:Fn P w K mg base "is_room" ["value","many"] k (zG (WF))) (aH:Fn P w K mg base "is_table" ["value","tall","wide"] k (zG (YZ))) (ar:Fn P w K mg base "is_numbers" ["value","count"] k (zG (Jc))) (ai:Fn P w K mg base "is_whole" ["thing"] k (zG (je))):zF P w K mg base zT (k + 1) f fd ["value","many","wide"] (zG (zLo af)):=by
 refine zz F zJu λ_ _ _ _ _ _ hr=>⟨_,(zH (yS (PW.pt (wx (y3 (yh (yK (xc qL rfl B.isinstance_ xq (zg (zA 0) (zg (qK aa rfl) yO))) qt))) (vc (y3 (yh (zQ ao hr rfl (zB (zu K (zA 0) rfl) (zB (zA 1) zC)))))))) (zM (zU xk)) yR)
  (zH (yS (PW.pt (wx (y3 (yh (zQ aH hr rfl (zB (zu K (zA 0) rfl) (zB (zA 1) (zB (zA 1) zC)))))) (vc (y3 (yh (zQ aH hr rfl (zB (zu K (zA 0) rfl) (zB (zA 1) (zB (zA 2) zC))))))))) (zM (zU xk)) yR)
  (zH (yS (PW.pt (wx (y3 (yh (zQ ar hr rfl (zB (zu K (zA 0) rfl) (zB (zA 1) zC))))) (vc (y3 (yh (zQ ar hr rfl (zB (zu K (zA 0) rfl) (zB (zA 1) zC)))))))) (zM (zU xk)) yR)
  (zM (zU (wX (zQ ai hr rfl (zB (zu K (zA 0) rfl) zC)) (vd (zQG (zu K (zA 0) rfl) zD)))))))),λds R h=>?_⟩
 obtain ⟨m,n,p,rfl,h,q⟩:=h
 have n3:=h.n3
 have p6:=h.p6
 refine ⟨⟨_,_,aa⟩,_,Ul,wF rfl ?_⟩
 refine ⟨⟨aa.cl,ad.n_rows⟩,_,rfl,_,_,3,rfl,kB h.few (λr hr=>by rw [h.rows r hr]; omega),wF (by rw [WJ λr hr=>by rw [h.rows r hr]; rfl]; rfl) ?_⟩
 refine ⟨⟨aa.cl,ad.n_nexts⟩,_,rfl,_,_,_,3,rfl,WI (by rw [h.nexts.1]; omega) (λr hr=>by rw [h.nexts.2 r hr]; omega),wF (by rw [zNp (by rw [h.nexts.1]) (λr hr=>by rw [h.nexts.2 r hr])]; rfl) ?_⟩
 refine ⟨⟨aa.cl,ad.n_push⟩,_,rfl,_,_,_,3,rfl,WI (by rw [h.push.1]; omega) (λr hr=>by rw [h.push.2 r hr]; omega),wF (by rw [zNp (by rw [h.push.1]) (λr hr=>by rw [h.push.2 r hr])]; rfl) ?_⟩
 refine ⟨⟨aa.cl,ad.n_steer⟩,_,rfl,_,_,2,rfl,ud (by rw [h.steer]; omega),wF (by rw [Jf (by rw [h.steer])]; rfl) ?_⟩
 refine ⟨⟨aa.cl,ad.n_add⟩,_,rfl,_,_,2,rfl,ud (by rw [h.add]; omega),wF (by rw [Jf (by rw [h.add])]; rfl) ?_⟩
 refine ⟨⟨aa.cl,ad.n_divisor⟩,_,rfl,_,rfl,rfl,wT rfl ?_⟩
 exact ⟨⟨aa.cl,ad.n_divisor⟩,_,rfl,bR q (decide_eq_true h.div).symm⟩
theorem zIg (F:ze K "is_sound" "is_sound" Ql f fd) (ai:Fn P w K mg base "is_whole" ["thing"] k (zG (je))) (aO:Fn P w K mg base "is_push" ["value"] k (zG (zLn))) (aP:Fn P w K mg base "is_mode" ["value","many","wide"] k (zG (zLo af))):zF P w K mg base zT (k + 1) f fd ["many","pushes","modes"] (zG (zJW af)):=by
 refine zz F Qm λ_ _ _ _ _ _ hr=>⟨_,(zH (yS (PW.pt (wx (y3 (yh (zQ ai hr rfl (zB (zA 0) zC)))) (wx (Uz (zA 0) zD) (vc (qi (zA 0) (Ur rfl B.MOST_NUMBERS_)))))) (zM (zU xk)) yR)
  (zH (yS (PW.pt (wx (y3 (yh (yK (xc vB rfl B.isinstance_ xq (zg (zA 1) (zg (wf (v:=.ty "list") (u:=.type "list") rfl B.list_ xg rfl) yO))) (vT jb)))) (vc (y3 (yh (zt (vM rfl) vR rfl B.all_ vN (zB (yd (own:=["push"]) (caps:=[]) (yN Qm) rfl rfl yX (y6 (zA 1)) (λ_ _ _ _=>(yG 0 (zv ["push"]))) (λ_ _ _ _=>(zQ aO hr rfl (zB (zA 0) zC)))) zC))))))) (zM (zU xk)) yR)
  (zH (yS (PW.pt (wx (y3 (yh (yK (xc vB rfl B.isinstance_ xq (zg (zA 2) (zg (wf (v:=.ty "list") (u:=.type "list") rfl B.list_ xg rfl) yO))) (vT jb)))) (vc (uw hr.units (zt yu yx rfl B.len_ yw (zB (zA 2) zC)) zD)))) (zM (zU xk)) yR)
  (zM (zU (zt (vM rfl) vR rfl B.all_ vN (zB (yd (own:=["mode"]) (caps:=[(0,"many"),(1,"pushes")]) (yN Qm) rfl rfl yX (y6 (zA 2)) (λ_ _ _ _=>(yG 0 (zv ["mode","many","pushes"]))) (λ_ _ _ _=>(zQ aP hr rfl (zB (zA 0) (zB (zA 1) (zB (zt yu yx rfl B.len_ yw (zB (zA 2) zC)) zC)))))) zC))))))),λds R h=>?_⟩
 obtain ⟨n,bs,ms,rfl,h,q⟩:=h
 have n1:=h.n1
 have n3:=h.n3
 have m40:=h.m40
 have m1:=h.m1
 have b6:=h.b6
 refine ⟨_,rfl,rfl,wF rfl (wF (decide_eq_false (by omega)) (wF (decide_eq_false (by omega)) ?_))⟩
 refine ⟨rfl,wF rfl ?_⟩
 refine vV zq Yd (λ_=>rfl) (λ_=>.bool true) (by omega) (λb hb=>⟨b,rfl,h.bok b hb,rfl⟩) ⟨bs.map λ_=>true,by rw [cA]; rfl,?_⟩
 rw [show (bs.map λ_=>true).all id=true from cR.mpr λx hx=>by obtain ⟨_,_,rfl⟩:=cw.mp hx; rfl]
 refine wF rfl ?_
 refine ⟨rfl,wF rfl (wF (decide_eq_false (by rw [a_]; omega)) ?_)⟩
 refine vV (wn af) xV (WK _) (λ_=>.bool true) (by omega) (λm hm=>⟨m,n,bs.length,by rw [a_],h.mok m hm,rfl⟩) ⟨ms.map λ_=>true,by rw [cA]; rfl,bR q ?_⟩
 exact (cR.mpr λx hx=>by obtain ⟨_,_,rfl⟩:=cw.mp hx; rfl).symm
theorem zEn (F:ze K "__init__" "Thing.__init__" Qn f fd) (aQ:Fn P w K mg base "is_sound" ["many","pushes","modes"] k (zG (zJW af))):zF P w K mg base zT (k + 1) f fd ["self","many","pushes","modes"] (vU ag (zLc ag af)):=by
 refine WB F zET (λds R h=>by obtain ⟨n,bs,ms,rfl,_⟩:=h; rfl) λcdv A outer s H E hr=>⟨_,(zH (yS (y3 (yh (zQ aQ hr rfl (zB (zA 1) (zB (zA 2) (zB (zA 3) zC)))))) (zM JM) yR)
  (zH (yS (PW.pt (wx (qi (zt yu yx rfl B.len_ yw (zB (zA 2) zC)) (Ur rfl B.MOST_PUSHES_)) (vc (qi (zt yu yx rfl B.len_ yw (zB (zA 3) zC)) (Ur rfl B.MOST_MODES_))))) (zM JM) yR)
  (zH (yF (wG (yI 0) (zA 1) rfl) wM)
  (zH (yF (wG (yI 0) (y4 vK vQ rfl B.list_ xg (zB (zA 2) zC)) rfl) wM)
  (zM (yF (wG (yI 0) (y4 vK vQ rfl B.list_ xg (zB (zA 3) zC)) rfl) wM)))))),λo ds R h=>?_⟩
 obtain ⟨n,bs,ms,rfl,h,q⟩:=h
 have m40:=h.m40
 have b6:=h.b6
 refine ⟨n,bs,ms,rfl,h,wF rfl ?_⟩
 refine wF (decide_eq_false (by rw [a_]; omega)) (wF (decide_eq_false (by rw [a_]; omega)) ?_)
 refine ⟨⟨ac.cl,ae.n_many⟩,by decide +kernel,by decide,rfl,?_⟩
 refine ⟨⟨ac.cl,ae.n_kept_pushes⟩,by decide +kernel,by decide,rfl,?_⟩
 exact ⟨⟨ac.cl,ae.n_kept_modes⟩,by decide +kernel,by decide,rfl,rfl,q⟩
theorem zFj (F:ze K "pushes" "Thing.pushes" Qo f fd):zF P w K mg base zT (k + 1) f fd ["self"] (zG (Jg ag af)):=by
 refine zz F zFR λ_ _ _ _ _ _ hr=>⟨_,(zM (zU (y4 vK vQ rfl B.list_ xg (zB (zu K (zA 0) rfl) zC)))),λds R h=>?_⟩
 obtain ⟨n,bs,ms,rfl,q⟩:=h
 exact ⟨⟨ac.cl,ae.n_kept_pushes⟩,_,rfl,q⟩
theorem zGE (F:ze K "modes" "Thing.modes" Qp f fd):zF P w K mg base zT (k + 1) f fd ["self"] (zG (Jh ag af)):=by
 refine zz F zGA λ_ _ _ _ _ _ hr=>⟨_,(zM (zU (y4 vK vQ rfl B.list_ xg (zB (zu K (zA 0) rfl) zC)))),λds R h=>?_⟩
 obtain ⟨n,bs,ms,rfl,q⟩:=h
 exact ⟨⟨ac.cl,ae.n_kept_modes⟩,_,rfl,q⟩
theorem zFh (F:ze K "is_unsteered" "is_unsteered" Qq f fd):zF P w K mg base zT (k + 1) f fd ["mode"] (zG (zGP af)):=by
 refine zz F zDH λ_ _ _ _ _ _ hr=>⟨_,(zM (zU (zt (vM rfl) vR rfl B.all_ vN (zB (yd (own:=["number"]) (caps:=[]) (yN zDH) rfl rfl yX (y6 (zu K (zA 0) rfl)) (λ_ _ _ _=>(yG 0 (zv ["number"]))) (λ_ _ _ _=>(uv hr.units (zA 0) zD))) zC)))),λds R h=>?_⟩
 obtain ⟨m,rfl,h,q⟩:=h
 refine ⟨⟨aa.cl,ad.n_steer⟩,_,rfl,?_⟩
 refine zRV (λx=>decide (x=0)) (by omega) (λn hn=>rfl) ⟨_,rfl,bR q ?_⟩
 rw [vg]
theorem zEF (F:ze K "is_closed" "Thing.is_closed" Qr f fd) (aR:Fn P w K mg base "is_unsteered" ["mode"] k (zG (zGP af))):zF P w K mg base zT (k + 1) f fd ["self"] (zG (Ji ag af)):=by
 refine zz F zCb λ_ _ _ _ _ _ hr=>⟨_,(zM (zU (zt (vM rfl) vR rfl B.all_ vN (zB (yd (own:=["mode"]) (caps:=[]) (yN zCb) rfl rfl yX (y6 (zu K (zA 0) rfl)) (λ_ _ _ _=>(yG 0 (zv ["mode"]))) (λ_ _ _ _=>(zQ aR hr rfl (zB (zA 0) zC)))) zC)))),λds R h=>?_⟩
 obtain ⟨n,bs,ms,rfl,h,q⟩:=h
 refine ⟨⟨ac.cl,ae.n_kept_modes⟩,_,rfl,?_⟩
 have m40:=h.m40
 refine vV (wn af) xV (WK _) (λm=>.bool (m.steer.all λx=>decide (x=0))) (by omega) (λm hm=>⟨m,rfl,by have:=(h.mok m hm).steer; have:=h.n3; omega,rfl⟩) ⟨ms.map λm=>m.steer.all λx=>decide (x=0),by rw [cA]; rfl,bR q ?_⟩
 rw [vg]
 rfl
theorem zHA (F:ze K "ask_closed" "ask_closed" Wg f fd) (ay:uB P w K mg base ag "is_closed" ["self"] k (zG (Ji ag af))):zF P w K mg base zT (k + 1) f fd ["thing"] (zG (zGR ag af)):=by
 refine zz F zD9 λ_ _ _ _ _ _ hr=>⟨_,(zM (yS (y3 (yh (gw ay ac hr (zA 0)))) (zM JM) yR)),λds R h=>?_⟩
 obtain ⟨n,bs,ms,rfl,h,c,q⟩:=h
 exact ⟨rfl,by decide +kernel,n,bs,ms,rfl,h,wF (by rw [c]; rfl) q⟩
theorem zIa (F:ze K "standing" "standing" Qs f fd) (az:uB P w K mg base ag "pushes" ["self"] k (zG (Jg ag af))) (aI:Fn P w K mg base "single" ["place","many","number","bound"] k (zG (zLd))):zF P w K mg base zT (k + 1) f fd ["thing","rows"] (zG (Jo ag af)):=by
 refine zz F jR λ_ _ _ _ _ _ hr=>⟨_,(zH (zj 2 jR.nd (gw az ac hr (zA 0)))
  (zH (zj 3 jR.nd (zY (zu K (zA 0) rfl) (zt yu yx rfl B.len_ yw (zB (zA 2) zC))))
  (zH (zj 4 jR.nd (y4 w8 vC rfl B.tuple_ wH (zB (yd (own:=["push"]) (caps:=[]) (yN jR) rfl rfl yX (y6 (zA 2)) (λ_ _ _ _=>(yG 0 (zv ["push"]))) (λ_ _ _ _=>zD)) zC)))
  (zH (u3 5 true jR.nd rfl rfl (own:=["row"]) (caps:=[(4,"noughts")]) (yN jR) rfl rfl yX (y6 (zA 1)) (λ_ _ _ _=>(yG 0 (zv ["row","noughts"]))) (λ_ _ _ _=>(zY (zY (xQ (zA 0) xP (xH (yr zD))) (zA 1)) (xG (zB (zN (zA 0) (yr zD)) zC)))) rfl)
  (zH (uH PassesOwn.never rfl (zKk rfl B.enumerate_ (zB (zA 2) zC) (zu K (zA 0) rfl)) (xz rfl (zc 6 jR.nd (zc 7 jR.nd xy))) (zH (yF (xb (wg cD cH cI yj (yI 5) (zg (zQ aI hr rfl (zB (zA 6) (zB (zA 3) (zB zD (zB (zN (zA 7) zD) zC))))) yO))) wm)
   (zM (yF (xb (wg cD cH cI yj (yI 5) (zg (zQ aI hr rfl (zB (zA 6) (zB (zA 3) (zB (yr zD) (zB (yr (zN (zA 7) zD)) zC))))) yO))) wm))))
  (zM (wy 5 (zU (zA 5))))))))),λds R h=>?_⟩
 obtain ⟨n,bs,ms,rows,rfl,n3,b6,hr0,l9,q⟩:=h
 have hp:(db zq bs).length=bs.length:=a_ ..
 refine ⟨rfl,by decide +kernel,n,bs,ms,rfl,?_⟩
 refine ⟨⟨ac.cl,ae.n_many⟩,_,rfl,?_⟩
 refine vV zq Yd (λ_=>rfl) (λ_=>.int 0) (by omega) (λb hb=>rfl) ?_
 refine vV U yB ub (λr=>U (xW n bs.length r)) (by omega) (λr hr=>?_) ?_
 ·have lr:=hr0 r hr
  refine ⟨by rw [vi lr,a_,a_,cK]; omega,_,Yg lr,k0,by rw [vi lr,b_,a_,a_,cK]; show _ + 1<=1000; omega,?_⟩
  rw [vi lr]
  unfold xW U
  rw [cq,cq,fC,List.map_const']
  rfl
 refine ⟨⟨ac.cl,ae.n_many⟩,_,rfl,by omega,by omega,?_⟩
 rw [show ((n:Nat):Int).toNat=n by omega]
 refine ⟨λk Γ=>∃ s6 s7,Γ=[.sh (wb ag af n bs ms),.sh (Rm rows),.sh (.lst (bs.map zq)),.sh (.int ((n:Int) + ((bs.map zq).length:Int))),.sh (.tup (bs.map λ_=>.int 0)),.ow ((rows.map (xW n bs.length)++((bs.mapIdx (xr n bs.length)).take k).flatten).map U),s6,s7],⟨_,_,by rw [List.take_zero,List.flatten_nil,dQ,cA]; rfl⟩,?_,?_⟩
 ·rintro k d Γ' hk ⟨s6,s7,rfl⟩
  obtain ⟨d',hd',rfl⟩:=JW hk
  rw [cV] at hd'
  cases hb:bs[k]? with
  | none=>rw [hb] at hd'; cases hd'
  | some b=>
  rw [hb] at hd'
  cases hd'
  have kl:k < bs.length:=(cP.mp hb).1
  have hx:(bs.mapIdx (xr n bs.length))[k]? = some (xr n bs.length k b):=by rw [iM,hb]; rfl
  have ll:((bs.mapIdx (xr n bs.length)).take k).flatten.length=2 * k:=by
   rw [eK]
   have e:((bs.mapIdx (xr n bs.length)).take k).map di=cj k 2:=by
    refine e9 (by simp; omega) λi h1 h2=>?_
    simp [xr]
   rw [e]
   simp
   omega
  have lw:((rows.map (xW n bs.length)++((bs.mapIdx (xr n bs.length)).take k).flatten).map U).length=rows.length + 2 * k:=by rw [a_,b_,a_,ll]
  have e:((rows.map (xW n bs.length)++((bs.mapIdx (xr n bs.length)).take (k + 1)).flatten).map U)=((rows.map (xW n bs.length)++((bs.mapIdx (xr n bs.length)).take k).flatten).map U)++[U (xx ((n + k:Nat):Int) ((n:Int) + ((bs.map zq).length:Int)).toNat 1++[b.2])]++[U (xx ((n + k:Nat):Int) ((n:Int) + ((bs.map zq).length:Int)).toNat (-1)++[-b.1])]:=by
   rw [zOi hx,<- eC,cq,hp,show ((n:Int) + (bs.length:Int)).toNat=n + bs.length by omega,eC]
   rfl
  refine ⟨_,rfl,_,_,_,_,rfl,by omega,by omega,by omega,?_⟩
  refine ⟨_,rfl,_,_,_,_,rfl,by omega,by omega,by rw [b_]; show _ + 1 < 1000; omega,?_⟩
  refine ⟨.sh (.int ((n + k:Nat):Int)),.sh (zq b),?_⟩
  rw [e]
  rfl
 ·rintro Γ' ⟨s6,s7,rfl⟩
  rw [JV,hp,c_ (by rw [i6]; omega)]
  exact q
theorem zM8 (F:ze K "reach" "reach" Qt f fd) (au:Fn P w K mg base "added_up" ["numbers","lists","wide"] k (zG (Jd))) (az:uB P w K mg base ag "pushes" ["self"] k (zG (Jg ag af))) (aS:Fn P w K mg base "paired" ["numbers","others"] k (zG (zLh))):zF P w K mg base zT (k + 1) f fd ["thing","mode","row"] (zG (Jp ag af)):=by
 refine zz F Qu λ_ _ _ _ _ _ hr=>⟨_,(zH (zj 3 Qu.nd (xQ (zA 2) xP (xH (yr zD))))
  (zH (zj 4 Qu.nd (zY (zQ au hr rfl (zB (zA 3) (zB (zu K (zA 1) rfl) (zB (zu K (zA 0) rfl) zC)))) (zQ au hr rfl (zB (zA 3) (zB (zu K (zA 1) rfl) (zB (zt yu yx rfl B.len_ yw (zB (gw az ac hr (zA 0)) zC)) zC))))))
  (zM (zU (zY (y4 w8 vC rfl B.tuple_ wH (zB (zA 4) zC)) (xG (zB (wv (yL (zu K (zA 1) rfl) (zN (zA 2) (yr zD))) (zQ aS hr rfl (zB (zA 3) (zB (zu K (zA 1) rfl) zC)))) zC))))))),λds R h=>?_⟩
 obtain ⟨n,bs,ms,m,r,rfl,n3,b6,MO,MB,lr,br,q⟩:=h
 have lt:(r.take n).length=n:=by rw [cK]; omega
 have bt:∀ x∈r.take n,Bd 9000 x:=λx hx=>br x (dS hx)
 have hp:(db zq bs).length=bs.length:=a_ ..
 refine ⟨⟨aa.cl,ad.n_nexts⟩,_,rfl,⟨ac.cl,ae.n_many⟩,_,rfl,_,_,r.take n,m.nexts,n,rfl,.inr (by rw [vi lr]),.inl rfl,by omega,by omega,bt,λx hx=>⟨by rw [MO.nexts.2 x hx]; omega,MB.nexts x hx⟩,?_⟩
 refine ⟨⟨aa.cl,ad.n_push⟩,_,rfl,rfl,by decide +kernel,n,bs,ms,rfl,_,_,r.take n,m.push,bs.length,by rw [hp],.inr (by rw [vi lr]),.inl rfl,by omega,by omega,bt,λx hx=>⟨by rw [MO.push.2 x hx]; omega,MB.push x hx⟩,?_⟩
 refine ⟨by rw [a_,a_,a_,a_,cx,cx]; omega,?_⟩
 refine ⟨⟨aa.cl,ad.n_divisor⟩,_,rfl,_,Yg lr,MB.div.mono,(qw br n).mono,⟨aa.cl,ad.n_add⟩,_,rfl,_,_,r.take n,m.add,rfl,.inr (by rw [vi lr]),.inl rfl,by omega,bt,MB.add,k0,?_,?_⟩
 ·rw [b_,a_,a_,a_,a_,cx,cx]
  show _ + 1<=1000
  omega
 ·unfold xO U at q
  rw [cq,cq] at q
  exact q
theorem zNF (F:ze K "added" "added" Qv f fd) (au:Fn P w K mg base "added_up" ["numbers","lists","wide"] k (zG (Jd))):zF P w K mg base zT (k + 1) f fd ["rows","numbers","many"] (zG (zOU)):=by
 refine zz F zMg λ_ _ _ _ _ _ hr=>⟨_,(zM (zU (y4 w8 vC rfl B.tuple_ wH (zB (zQ au hr rfl (zB (zA 1) (zB (zA 0) (zB (zY (zA 2) zD) zC)))) zC)))),λds R h=>?_⟩
 obtain ⟨rows,d,ns,n,rfl,h,n8,l9,bn,br,q⟩:=h
 exact ⟨_,_,ns,rows,n + 1,rfl,h,.inr rfl,by omega,l9,bn,br,q⟩
theorem zFi (F:ze K "is_from_0_on" "is_from_0_on" Qw f fd) (ai:Fn P w K mg base "is_whole" ["thing"] k (zG (je))):zF P w K mg base zT (k + 1) f fd ["value"] (zG (Jq)):=by
 refine zz F zFO λ_ _ _ _ _ _ hr=>⟨_,(zM (zU (wX (zQ ai hr rfl (zB (zA 0) zC)) (vd (zQG (zA 0) zD))))),λds R h=>?_⟩
 obtain ⟨d,rfl,o,q⟩:=h
 refine ⟨d,rfl,o,w2 (λc=>?_) (λc=>bR q ?_)⟩
 ·obtain ⟨i,rfl⟩:=zKL c
  exact q
 ·cases d <;> first | rfl | cases c
theorem zHB (F:ze K "are_shares" "are_shares" Qx f fd) (av:Fn P w K mg base "is_from_0_on" ["value"] k (zG (Jq))):zF P w K mg base zT (k + 1) f fd ["value","count"] (zG (zLe)):=by
 refine zz F zEA λ_ _ _ _ _ _ hr=>⟨_,(zH (yS (PW.pt (wx (y3 (yh (yK (xc vB rfl B.isinstance_ xq (zg (zA 0) (zg (wf (v:=.ty "tuple") (u:=.type "tuple") rfl B.tuple_ wH rfl) yO))) (vT X8)))) (vc (X0 hr.units (zt yu yx rfl B.len_ yw (zB (zA 0) zC)) zD)))) (zM (zU xk)) yR)
  (zH (yS (PW.pt (wx (y3 (yh (zQ av hr rfl (zB (zN (zA 0) zD) zC)))) (wx (y3 (yh (yK (xc vB rfl B.isinstance_ xq (zg (zN (zA 0) zD) (zg (wf (v:=.ty "list") (u:=.type "list") rfl B.list_ xg rfl) yO))) (vT jb)))) (vc (X0 hr.units (zt yu yx rfl B.len_ yw (zB (zN (zA 0) zD) zC)) (zA 1)))))) (zM (zU xk)) yR)
  (zM (zU (zt (vM rfl) vR rfl B.all_ vN (zB (yd (own:=["number"]) (caps:=[]) (yN zEA) rfl rfl yX (y6 (zN (zA 0) zD)) (λ_ _ _ _=>(yG 0 (zv ["number"]))) (λ_ _ _ _=>(zQ av hr rfl (zB (zA 0) zC)))) zC)))))),λds R h=>?_⟩
 obtain ⟨d,c,k,rfl,f,q⟩:=h
 refine ⟨f.no,w2 (λc1=>wT rfl (bR q ?_)) λc1=>?_⟩
 ·cases d <;> first | rfl | cases c1
 obtain ⟨es,rfl,le,j,rfl,hj⟩:=f.tup_inv (by cases z:d.isTup with | true=>rfl | false=>rw [z] at c1; cases c1)
 refine w2 (λc2=>bR q ?_) λc2=>?_
 ·match es,c2 with
  | [],_=>rfl
  | [_],_=>rfl
  | [_,_],c2=>cases c2
  | _ :: y :: _ :: _,_=>cases y <;> rfl
 obtain ⟨x,y,rfl⟩:∃ x y,es=[x,y]:=by
  match es,c2 with
  | [x,y],_=>exact ⟨x,y,rfl⟩
  | [],c2=>cases c2
  | [_],c2=>cases c2
  | _ :: _ :: _ :: _,c2=>
   have c2:(!decide (((_:Nat):Int)=2))=false:=c2
   rw [i7,decide_eq_true_iff] at c2
   simp at c2
   omega
 have fx:=hj x cv
 have fy:=hj y (cr _ cv)
 refine ⟨x,rfl,x,rfl,fx.no,w2 (λc3=>wT rfl (bR q ?_)) λc3=>?_⟩
 ·cases y <;> first | rfl | (show (vh x && _)=false; rw [show vh x=false by cases z:vh x with | false=>rfl | true=>rw [z] at c3; cases c3]; rfl)
 have c3:vh x=true:=by cases z:vh x with | true=>rfl | false=>rw [z] at c3; cases c3
 refine ⟨y,rfl,fy.no,w2 (λc4=>wT rfl (bR q ?_)) λc4=>?_⟩
 ·cases y <;> first | rfl | cases c4
 obtain ⟨ys,rfl,ly,i,rfl,hi⟩:=fy.lst_inv (by cases z:y.isLst with | true=>rfl | false=>rw [z] at c4; cases c4)
 have key:xm c (.tup [x,.lst ys])=(decide (ys.length=c) && ys.all vh):=by
  show (vh x && _)=_
  rw [c3]
  rfl
 rw [key] at q
 refine ⟨_,rfl,w2 (λc5=>bR q ?_) λc5=>?_⟩
 ·have c5:(!decide ((ys.length:Int)=(c:Int)))=true:=c5
  rw [lj,decide_eq_false_iff_not] at c5
  rw [decide_eq_false (by omega)]
  rfl
 have c5:(!decide ((ys.length:Int)=(c:Int)))=false:=c5
 rw [i7,decide_eq_true_iff] at c5
 refine ⟨_,rfl,zh.bool vh (by omega) (λd m=>⟨d,rfl,(hi d m).no,rfl⟩) ⟨_,rfl,bR q ?_⟩⟩
 rw [vg,decide_eq_true (by omega)]
 rfl
theorem zM7 (F:ze K "shows" "shows" Qy f fd) (aT:Fn P w K mg base "are_shares" ["value","count"] k (zG (zLe))) (aU:Fn P w K mg base "added" ["rows","numbers","many"] k (zG (zOU))) (aV:Fn P w K mg base "scaled" ["factor","numbers"] k (zG (zLf))):zF P w K mg base zT (k + 1) f fd ["rows","target","shares"] (zG (Yj)):=by
 refine zz F Wi λ_ _ _ _ _ _ hr=>⟨_,(zH (yS (y3 (yh (zQ aT hr rfl (zB (zA 2) (zB (zt yu yx rfl B.len_ yw (zB (zA 0) zC)) zC))))) (zM (zU xk)) yR)
  (zH (zj 3 Wi.nd (zQ aU hr rfl (zB (zA 0) (zB (zN (zA 2) zD) (zB (wv (zt yu yx rfl B.len_ yw (zB (zA 1) zC)) zD) zC)))))
  (zH (yS (uw hr.units (zN (zA 2) zD) zD) (zM (zU (wX (zt (vM rfl) vR rfl B.all_ vN (zB (yd (own:=["number"]) (caps:=[]) (yN Wi) rfl rfl yX (y6 (xQ (zA 3) xP (xH (yr zD)))) (λ_ _ _ _=>(yG 0 (zv ["number"]))) (λ_ _ _ _=>(uv hr.units (zA 0) zD))) zC)) (vd (Zo (zN (zA 3) (yr zD)) zD))))) yR)
  (zH (zj 4 Wi.nd (zQ aV hr rfl (zB (zN (zA 2) zD) (zB (zA 1) zC))))
  (zM (zU (wX (uv hr.units (y4 vK vQ rfl B.list_ xg (zB (xQ (zA 3) xP (xH (yr zD))) zC)) (xQ (zA 4) xP (xH (yr zD)))) (vd (Uw (zN (zA 3) (yr zD)) (zN (zA 4) (yr zD))))))))))),λds R h=>?_⟩
 obtain ⟨rows,tw,n,d,k,rfl,lt,bt,RW,f,sb,q⟩:=h
 have lr:(db U rows).length=rows.length:=a_ ..
 have ltw:(db D.int tw).length=n + 1:=by rw [a_]; exact lt
 have nar:=RW.nar
 have fewr:=RW.few
 refine ⟨d,rows.length,k,by rw [lr],f,w2 (λc1=>bR q ?_) λc1=>?_⟩
 ·exact zMc (by cases z:xm rows.length d with | false=>rfl | true=>rw [z] at c1; cases c1)
 have c1:xm rows.length d=true:=by cases z:xm rows.length d with | true=>rfl | false=>rw [z] at c1; cases c1
 obtain ⟨o,ns,rfl,o0,ln,n0⟩:=zMd c1
 rw [zKc c1] at q
 obtain ⟨bo,bn⟩:=sb o _ rfl
 have bn:∀ x∈ns,Bd 1000 x:=λx hx=>bn (.int x) (cw.mpr ⟨x,hx,rfl⟩)
 have tot:(cO (n + 1)).map (zX ns rows)=(cO n).map (zX ns rows)++[zX ns rows n]:=by rw [List.range_succ,cq]; rfl
 have e1:(cO n).map (ya rows ns)=(cO n).map (zX ns rows):=cX λj _=>Jj rows ns j
 unfold uQ at q
 rw [e1,Jj] at q
 refine ⟨_,rfl,rows,_,ns,n,by rw [ltw]; show [Rm rows,L ns,D.int (((n + 1:Nat):Int) - 1)]=_; rw [show ((n + 1:Nat):Int) - 1=(n:Int) by omega],.inl rfl,by omega,by omega,λx hx=>(bn x hx).mono,λr hr=>⟨by rw [(RW.row r hr).1]; omega,λx hx=>((RW.row r hr).2 x hx).mono⟩,?_⟩
 rw [tot]
 refine ⟨_,rfl,w2 (λc2=>?_) λc2=>?_⟩
 ·rw [if_pos (of_decide_eq_true c2)] at q
  refine zh.cast (uI _ _) (zRV (λx=>decide (x=0)) (by rw [a_,cx]; omega) (λx hx=>rfl) ⟨_,rfl,w2 (λc3=>?_) λc3=>bR q ?_⟩)
  ·refine ⟨_,gA _ _,bR q ?_⟩
   rw [vg] at c3
   rw [c3]
   rfl
  ·rw [vg] at c3
   rw [c3]
   rfl
 ·rw [if_neg (of_decide_eq_false c2)] at q
  have lsc:(tw.map (o * ·)).length=n + 1:=by rw [a_]; exact lt
  have ets:(tw.map (o * ·)).take n=(tw.take n).map (o * ·):=(iq ..).symm
  refine ⟨_,rfl,o,_,tw,rfl,.inr rfl,by omega,bo.mono,λx hx=>(bt x hx).mono,?_⟩
  refine ⟨by rw [uI]; exact jJ _,by rw [vi lsc]; exact jJ _,w2 (λc3=>?_) λc3=>bR q ?_⟩
  all_goals rw [uI,vi lsc,zRL,ets] at c3
  ·refine ⟨_,gA _ _,_,Yg lsc,bR q ?_⟩
   rw [c3]
   rw [show (tw.map (o * ·)).getD n 0=o * tw.getD n 0 by
    rw [ci,cV,cu (by omega),ci,cu (by omega)]; rfl]
   rfl
  ·rw [c3]
   rfl
theorem zG6 (F:ze K "is_list_of" "is_list_of" Qz f fd):zF P w K mg base zT (k + 1) f fd ["value","count"] (zG (kD)):=by
 refine zz F zGh λ_ _ _ _ _ _ hr=>⟨_,(zM (zU (wX (yK (xc vB rfl B.isinstance_ xq (zg (zA 0) (zg (wf (v:=.ty "list") (u:=.type "list") rfl B.list_ xg rfl) yO))) (vT jb)) (vd (uv hr.units (zt yu yx rfl B.len_ yw (zB (zA 0) zC)) (zA 1)))))),λds R h=>?_⟩
 obtain ⟨d,c,k,rfl,f,q⟩:=h
 refine ⟨f.no,w2 (λc1=>?_) λc1=>bR q ?_⟩
 ·obtain ⟨es,rfl,le,j,rfl,hj⟩:=f.lst_inv c1
  exact q
 ·cases d <;> first | rfl | cases c1
theorem zG8 (F:ze K "each_shown" "each_shown" Q0 f fd) (aj:Fn P w K mg base "is_list_of" ["value","count"] k (zG (kD))) (al:Fn P w K mg base "shows" ["rows","target","shares"] k (zG (Yj))):zF P w K mg base zT (k + 1) f fd ["rows","targets","shares"] (zG (Jr)):=by
 refine zz F zD8 λ_ _ _ _ _ _ hr=>⟨_,(zH (yS (y3 (yh (zQ aj hr rfl (zB (zA 2) (zB (zt yu yx rfl B.len_ yw (zB (zA 1) zC)) zC))))) (zM (zU xk)) yR)
  (zM (zU (zt (vM rfl) vR rfl B.all_ vN (zB (yd (own:=["target","part"]) (caps:=[(0,"rows")]) (yN zD8) rfl rfl (uU (wL (wL uX))) (uy rfl B.zip_ (zB (zA 1) (zB (zA 2) zC))) (λ_ _ _ _=>(xz rfl (zc 0 (zv ["target","part","rows"]) (zc 1 (zv ["target","part","rows"]) xy)))) (λ_ _ _ _=>(zQ al hr rfl (zB (zA 2) (zB (zA 0) (zB (zA 1) zC)))))) zC))))),λds R h=>?_⟩
 obtain ⟨rows,tws,n,d,k,rfl,RW,RT,f,sb,q⟩:=h
 have lt:(db U tws).length=tws.length:=a_ ..
 have fewt:=RT.few
 refine ⟨d,_,k,rfl,f,w2 (λc1=>bR q ?_) λc1=>?_⟩
 ·rw [lt] at c1
  exact zNa (jm c1)
 rw [lt] at c1
 obtain ⟨as,rfl,la⟩:=Ye (jo c1)
 obtain ⟨es,e1,le,j,rfl,hj⟩:=f.lst_inv rfl
 cases e1
 have sb:=sb as rfl
 refine Yi U yB ub (λt a=>xJ rows t n a) (by omega) (λt a hm=>?_) ⟨_,rfl,bR q ?_⟩
 ·have h1:=(cW hm).1
  have h2:=(cW hm).2
  exact ⟨rows,t,n,a,j,rfl,(RT.row t h1).1,(RT.row t h1).2,RW,hj a h2,sb a h2,rfl⟩
 ·show (decide _ && _)=_
  rw [decide_eq_true la,vg]
  rfl
theorem zG3 (F:ze K "mode_leads" "mode_leads" Q1 f fd) (aA:Fn P w K mg base "each_shown" ["rows","targets","shares"] k (zG (Jr))) (aB:Fn P w K mg base "reach" ["thing","mode","row"] k (zG (Jp ag af))) (aD:Fn P w K mg base "standing" ["thing","rows"] k (zG (Jo ag af))):zF P w K mg base zT (k + 1) f fd ["thing","mode","room","behind","shares"] (zG (zLk ag af)):=by
 refine zz F zD2 λ_ _ _ _ _ _ hr=>⟨_,(zM (zU (zQ aA hr rfl (zB (zQ aD hr rfl (zB (zA 0) (zB (zY (zA 2) (zu K (zA 1) rfl)) zC))) (zB (yd (own:=["row"]) (caps:=[(0,"thing"),(1,"mode")]) (yN zD2) rfl rfl yX (y6 (zA 3)) (λ_ _ _ _=>(yG 0 (zv ["row","thing","mode"]))) (λ_ _ _ _=>(zQ aB hr rfl (zB (zA 1) (zB (zA 2) (zB (zA 0) zC)))))) (zB (zA 4) zC)))))),λds R h=>?_⟩
 obtain ⟨n,bs,ms,m,room,behind,d,k,rfl,TS,MO,MSm,R1,R2,f,sb,q⟩:=h
 have n1:=TS.ok.n1
 have n3:=TS.ok.n3
 have b6:=TS.ok.b6
 have f1:=R1.few
 have f2:=R2.few
 have f3:=MSm.few
 have hrl:∀ r∈room++m.rows,r.length=n + 1/\∀ x∈r,Bd 1000 x:=λr hr=>by
  rcases cN.mp hr with hr | hr
  ·exact ⟨(R1.row r hr).1,λx hx=>((R1.row r hr).2 x hx).mono⟩
  ·exact ⟨MO.rows r hr,λx hx=>(MSm.rows r hr x hx).mono⟩
 refine ⟨⟨aa.cl,ad.n_rows⟩,_,rfl,by rw [a_,a_]; omega,n,bs,ms,room++m.rows,by rw [WN],n3,b6,λr hr=>(hrl r hr).1,by rw [b_]; omega,?_⟩
 refine vV U yB ub (λr=>U (xO n bs.length (r.take n) (r.getD n 0) m)) (by omega) (λr hr=>?_) ?_
 ·exact ⟨n,bs,ms,m,r,rfl,n3,b6,MO,MSm.mbd,(R2.row r hr).1,λx hx=>((R2.row r hr).2 x hx).mono,rfl⟩
 have RW2:vO (q0 n bs.length m behind) (n + bs.length):=by
  refine ⟨λr hr=>?_,by unfold q0; rw [a_]; omega,by omega⟩
  obtain ⟨r0,h0,rfl⟩:=cw.mp hr
  obtain ⟨lr,br⟩:=R2.row r0 h0
  exact ⟨Jm ..,λx hx=>(Jn MSm (by rw [cK]; omega) (λy hy=>(br y (dS hy)).mono) (Jk br n).mono x hx).mono⟩
 exact ⟨_,q0 n bs.length m behind,n + bs.length,d,k,by rw [RmM (λr:List Int=>xO n bs.length (r.take n) (r.getD n 0) m)]; rfl,zI6 hrl (by rw [b_]; omega) n3 b6 TS.bs,RW2,f,sb,q⟩
theorem zNA (F:ze K "leads" "leads" Q2 f fd) (aE:uB P w K mg base ag "modes" ["self"] k (zG (Jh ag af))) (aj:Fn P w K mg base "is_list_of" ["value","count"] k (zG (kD))) (aW:Fn P w K mg base "mode_leads" ["thing","mode","room","behind","shares"] k (zG (zLk ag af))):zF P w K mg base zT (k + 1) f fd ["thing","room","behind","steps"] (zG (zOQ ag af)):=by
 refine zz F Q3 λ_ _ _ _ _ _ hr=>⟨_,(zH (zj 4 Q3.nd (gw aE ac hr (zA 0)))
  (zH (yS (y3 (yh (zQ aj hr rfl (zB (zA 3) (zB (zt yu yx rfl B.len_ yw (zB (zA 4) zC)) zC))))) (zM (zU xk)) yR)
  (zM (zU (zt (vM rfl) vR rfl B.all_ vN (zB (yd (own:=["mode","shares"]) (caps:=[(0,"thing"),(1,"room"),(2,"behind")]) (yN Q3) rfl rfl (uU (wL (wL uX))) (uy rfl B.zip_ (zB (zA 4) (zB (zA 3) zC))) (λ_ _ _ _=>(xz rfl (zc 0 (zv ["mode","shares","thing","room","behind"]) (zc 1 (zv ["mode","shares","thing","room","behind"]) xy)))) (λ_ _ _ _=>(zQ aW hr rfl (zB (zA 2) (zB (zA 0) (zB (zA 3) (zB (zA 4) (zB (zA 1) zC)))))))) zC)))))),λds R h=>?_⟩
 obtain ⟨n,bs,ms,room,behind,d,k,rfl,TS,R1,R2,f,sb,q⟩:=h
 have m40:=TS.ok.m40
 have lm:(db (wn af) ms).length=ms.length:=a_ ..
 refine ⟨rfl,by decide +kernel,n,bs,ms,rfl,?_⟩
 refine ⟨d,_,k,rfl,f,w2 (λc1=>bR q ?_) λc1=>?_⟩
 ·rw [lm] at c1
  exact zLQ (jm c1)
 rw [lm] at c1
 obtain ⟨as,rfl,la⟩:=Ye (jo c1)
 obtain ⟨es,e1,le,j,rfl,hj⟩:=f.lst_inv rfl
 cases e1
 have sb:=sb as rfl
 refine Yi (wn af) xV (WK _) (λm a=>WM n bs room behind m a) (by omega) (λm a hm=>?_) ⟨_,rfl,bR q ?_⟩
 ·have h1:=(cW hm).1
  have h2:=(cW hm).2
  exact ⟨n,bs,ms,m,room,behind,a,j,rfl,TS,TS.ok.mok m h1,TS.ms m h1,R1,R2,hj a h2,sb a h2,rfl⟩
 ·show (decide _ && _)=_
  rw [decide_eq_true la,vg]
  rfl
theorem zEp (F:ze K "__init__" "Comes.__init__" Q4 f fd) (ah:vp P w K mg base "copied" ["value","depth"] k (zG (jf 6)) (.int 5)):zF P w K mg base zT (k + 1) f fd ["self","start","goal","turns"] (vU aComes (zLt aComes)):=by
 refine WB F zEV (λds R h=>by obtain ⟨s,g,t,rfl,_⟩:=h; rfl) λcdv A outer s H E hr=>⟨_,(zH (yF (wG (yI 0) (vf (.int 5) (λ_=>.int 5) ah hr rfl (zB (zA 1) zC)) rfl) wM)
  (zH (yF (wG (yI 0) (vf (.int 5) (λ_=>.int 5) ah hr rfl (zB (zA 2) zC)) rfl) wM)
  (zM (yF (wG (yI 0) (zA 3) rfl) wM)))),λo ds R h=>?_⟩
 obtain ⟨s,g,t,rfl,f1,f2,q⟩:=h
 refine ⟨s,5,rfl,f1,by decide,⟨TComes.cl,AComes.n_start⟩,by decide +kernel,by decide,rfl,?_⟩
 refine ⟨g,5,rfl,f2,by decide,⟨TComes.cl,AComes.n_goal⟩,by decide +kernel,by decide,rfl,?_⟩
 exact ⟨⟨TComes.cl,AComes.n_turns⟩,by decide +kernel,by decide,rfl,rfl,q⟩
theorem zEo (F:ze K "__init__" "Falls.__init__" Q5 f fd) (ah:vp P w K mg base "copied" ["value","depth"] k (zG (jf 6)) (.int 5)):zF P w K mg base zT (k + 1) f fd ["self","room","starts","steps","measure","step","top","falls","floors","tops"] (vU aFalls (zLr aFalls)):=by
 refine WB F zEU (λds R h=>by obtain ⟨a,b,c,d,e,f,g,h,i,rfl,_⟩:=h; rfl) λcdv A outer s H E hr=>⟨_,(zH (yF (wG (yI 0) (vf (.int 5) (λ_=>.int 5) ah hr rfl (zB (zA 1) zC)) rfl) wM)
  (zH (yF (wG (yI 0) (vf (.int 5) (λ_=>.int 5) ah hr rfl (zB (zA 2) zC)) rfl) wM)
  (zH (yF (wG (yI 0) (vf (.int 5) (λ_=>.int 5) ah hr rfl (zB (zA 3) zC)) rfl) wM)
  (zH (yF (wG (yI 0) (vf (.int 5) (λ_=>.int 5) ah hr rfl (zB (zA 4) zC)) rfl) wM)
  (zH (yF (wG (yI 0) (zA 5) rfl) wM)
  (zH (yF (wG (yI 0) (zA 6) rfl) wM)
  (zH (yF (wG (yI 0) (vf (.int 5) (λ_=>.int 5) ah hr rfl (zB (zA 7) zC)) rfl) wM)
  (zH (yF (wG (yI 0) (vf (.int 5) (λ_=>.int 5) ah hr rfl (zB (zA 8) zC)) rfl) wM)
  (zM (yF (wG (yI 0) (vf (.int 5) (λ_=>.int 5) ah hr rfl (zB (zA 9) zC)) rfl) wM)))))))))),λo ds R h=>?_⟩
 obtain ⟨a,b,c,d,e,f,g,h,i,rfl,f1,f2,f3,f4,f7,f8,f9,q⟩:=h
 refine ⟨a,5,rfl,f1,by decide,⟨TFalls.cl,AFalls.n_room⟩,by decide +kernel,by decide,rfl,?_⟩
 refine ⟨b,5,rfl,f2,by decide,⟨TFalls.cl,AFalls.n_starts⟩,by decide +kernel,by decide,rfl,?_⟩
 refine ⟨c,5,rfl,f3,by decide,⟨TFalls.cl,AFalls.n_steps⟩,by decide +kernel,by decide,rfl,?_⟩
 refine ⟨d,5,rfl,f4,by decide,⟨TFalls.cl,AFalls.n_measure⟩,by decide +kernel,by decide,rfl,?_⟩
 refine ⟨⟨TFalls.cl,AFalls.n_step⟩,by decide +kernel,by decide,rfl,?_⟩
 refine ⟨⟨TFalls.cl,AFalls.n_top⟩,by decide +kernel,by decide,rfl,?_⟩
 refine ⟨g,5,rfl,f7,by decide,⟨TFalls.cl,AFalls.n_falls⟩,by decide +kernel,by decide,rfl,?_⟩
 refine ⟨h,5,rfl,f8,by decide,⟨TFalls.cl,AFalls.n_floors⟩,by decide +kernel,by decide,rfl,?_⟩
 exact ⟨i,5,rfl,f9,by decide,⟨TFalls.cl,AFalls.n_tops⟩,by decide +kernel,by decide,rfl,rfl,q⟩
theorem zG9 (F:ze K "comes_over" "comes_over" Q6 f fd) (av:Fn P w K mg base "is_from_0_on" ["value"] k (zG (Jq))) (ao:Fn P w K mg base "is_room" ["value","many"] k (zG (WF))):zF P w K mg base zT (k + 1) f fd ["claim","many"] (zG (zGQ aComes)):=by
 refine zz F zGi λ_ _ _ _ _ _ hr=>⟨_,(zM (zU (wX (zQ ao hr rfl (zB (zu K (zA 0) rfl) (zB (zA 1) zC))) (wX (zQ ao hr rfl (zB (zu K (zA 0) rfl) (zB (zA 1) zC))) (vd (zQ av hr rfl (zB (zu K (zA 0) rfl) zC))))))),λds R h=>?_⟩
 obtain ⟨s,g,t,n,rfl,n3,RS,RG,t0,q⟩:=h
 refine ⟨⟨TComes.cl,AComes.n_start⟩,_,rfl,_,_,3,rfl,kB (by have:=RS.few; omega) (λr hr=>by rw [(RS.row r hr).1]; omega),wT (by rw [WJ λr hr=>by rw [(RS.row r hr).1]; rfl]) ?_⟩
 refine ⟨⟨TComes.cl,AComes.n_goal⟩,_,rfl,_,_,3,rfl,kB (by have:=RG.few; omega) (λr hr=>by rw [(RG.row r hr).1]; omega),wT (by rw [WJ λr hr=>by rw [(RG.row r hr).1]; rfl]) ?_⟩
 exact ⟨⟨TComes.cl,AComes.n_turns⟩,_,rfl,_,rfl,rfl,bR q (decide_eq_true t0).symm⟩
theorem zEm (F:ze K "height_at_most" "height_at_most" Q7 f fd):zF P w K mg base zT (k + 1) f fd ["measure","top"] (zG (Yk)):=by
 refine zz F zES λ_ _ _ _ _ _ hr=>⟨_,(zM (zU (zY (xQ (zA 0) xP (xH (yr zD))) (xG (zB (wv (zA 1) (zN (zA 0) (yr zD))) zC))))),λds R h=>?_⟩
 obtain ⟨ws,b,tp,rfl,l1,q⟩:=h
 refine ⟨_,gA _ _,k0,by rw [uI,a_]; show _ + 1<=1000; omega,?_⟩
 rw [uI]
 unfold U at q
 rw [cq] at q
 exact q
theorem zDq (F:ze K "height_from_0_on" "height_from_0_on" Q8 f fd):zF P w K mg base zT (k + 1) f fd ["measure"] (zG (zOR)):=by
 refine zz F zCV λ_ _ _ _ _ _ hr=>⟨_,(zM (zU (zY (y4 w8 vC rfl B.tuple_ wH (zB (yd (own:=["number"]) (caps:=[]) (yN zCV) rfl rfl yX (y6 (xQ (zA 0) xP (xH (yr zD)))) (λ_ _ _ _=>(yG 0 (zv ["number"]))) (λ_ _ _ _=>(yr (zA 0)))) zC)) (xG (zB (zN (zA 0) (yr zD)) zC))))),λds R h=>?_⟩
 obtain ⟨ws,b,rfl,l1,q⟩:=h
 refine zh.cast (uI _ _) (zh.int (λx=>-x) (by omega) (λx hx=>rfl) ⟨_,gA _ _,k0,by rw [a_,a_]; show _ + 1<=1000; omega,?_⟩)
 unfold U at q
 rw [cq] at q
 exact q
theorem zIh (F:ze K "fall_row" "fall_row" Q9 f fd) (aB:Fn P w K mg base "reach" ["thing","mode","row"] k (zG (Jp ag af))) (aX:Fn P w K mg base "mixed" ["factor","numbers","other_factor","others"] k (zG (zON))):zF P w K mg base zT (k + 1) f fd ["thing","mode","measure","step"] (zG (zJX ag af)):=by
 refine zz F KA λ_ _ _ _ _ _ hr=>⟨_,(zH (zj 4 KA.nd (zQ aB hr rfl (zB (zA 0) (zB (zA 1) (zB (zY (xQ (zA 2) xP (xH (yr zD))) (xG (zB zD zC))) zC)))))
  (zH (zj 5 KA.nd (zQ aX hr rfl (zB zD (zB (xQ (zA 4) xP (xH (zu K (zA 0) rfl))) (zB (yr (zu K (zA 1) rfl)) (zB (xQ (zA 2) xP (xH (yr zD))) zC))))))
  (zM (zU (zY (zY (y4 w8 vC rfl B.tuple_ wH (zB (zA 5) zC)) (xQ (zA 4) (xH (zu K (zA 0) rfl)) (xH (yr zD)))) (xG (zB (wv (zN (zA 4) (yr zD)) (yL (zu K (zA 1) rfl) (zA 3))) zC))))))),λds R h=>?_⟩
 obtain ⟨n,bs,ms,m,ws,b,st,rfl,TS,MO,MSm,lw,bw,bst,q⟩:=h
 have n3:=TS.ok.n3
 have b6:=TS.ok.b6
 have e0:(ws++[(0:Int)]).take n=ws:=by rw [dl (by omega),c_ (by omega)]
 have e00:(ws++[(0:Int)]).getD n 0=0:=by rw [ci,cY (by omega),lw,eU]; rfl
 refine ⟨k0,by rw [uI,a_]; show _ + 1<=1000; omega,n,bs,ms,m,ws++[0],by rw [uI,U,cq]; rfl,n3,b6,MO,MSm.mbd,by rw [b_,lw]; rfl,λx hx=>?_,?_⟩
 ·rcases cN.mp hx with hx | hx
  ·exact (bw x hx).mono
  ·rw [cn.mp hx]; exact xS
 rw [e0,e00]
 have lR:(xO n bs.length ws 0 m).length=n + bs.length + 1:=Jm ..
 have bR:=Jn (n:=n) (p:=bs.length) (b:=0) MSm (by omega) (λx hx=>(bw x hx).mono (show 300<=301 by decide)) xS
 have c1:yc ((xO n bs.length ws 0 m).map D.int) none (some (n:Int))=((xO n bs.length ws 0 m).take n).map D.int:=by
  unfold yc
  rw [HT.sIx_none,HT.sIx_nat,h_,iF,a_,lR,iJ (by omega),iq]
 have c2:yc ((xO n bs.length ws 0 m).map D.int) (some (n:Int)) (some (-1))=(((xO n bs.length ws 0 m).drop n).take bs.length).map D.int:=by
  unfold yc
  have e2:HT.sIx (n + bs.length + 1) (n + bs.length + 1) (some (-1))=n + bs.length:=by
   show (if (-1:Int) < 0 then ((-1:Int) + ((n + bs.length + 1:Nat):Int)).toNat else min (-1:Int).toNat (n + bs.length + 1))=n + bs.length
   rw [if_pos (by decide)]
   omega
  rw [HT.sIx_nat,a_,lR,e2,iJ (by omega),show n + bs.length - n=bs.length by omega,iq,ir]
 have eP:((xO n bs.length ws 0 m).drop n).take bs.length=(cO bs.length).map (zX ws m.push):=by
  have lN:((cO n).map (zX ws m.nexts)).length=n:=by rw [a_,cx]
  unfold xO
  rw [eC,List.drop_append_of_le_length (by omega),List.drop_eq_nil_of_le (by omega),iB,dl (by rw [a_,cx]; omega),c_ (by rw [a_,cx]; omega)]
 have eB:(xO n bs.length ws 0 m).getD (n + bs.length) 0=m.div * 0 - yD ws m.add:=by
  unfold xO
  rw [ci,cY (by rw [b_,a_,a_,cx,cx]; omega),b_,a_,a_,cx,cx,eU]
  rfl
 refine ⟨⟨ac.cl,ae.n_many⟩,_,rfl,⟨aa.cl,ad.n_divisor⟩,_,rfl,1,-m.div,_,_,_,ws,rfl,.inr (by rw [c1]),.inr (by rw [uI]),by rw [cK]; omega,(Bd.lit (i:=1) (n:=1)).mono,MSm.div.neg.mono,λx hx=>(bR x (dS hx)).mono,λx hx=>(bw x hx).mono,?_⟩
 have lX:(wz 1 (-m.div) ((xO n bs.length ws 0 m).take n) ws).length=n:=by
  unfold wz
  rw [a_,dE,cK]
  omega
 refine ⟨⟨ac.cl,ae.n_many⟩,_,rfl,by rw [c2,a_,a_,lX,cK]; omega,?_⟩
 refine ⟨_,Yg lR,⟨aa.cl,ad.n_divisor⟩,_,rfl,MSm.div.mono,bst.mono,k0,by rw [c2,b_,a_,a_,lX,cK]; show _ + 1<=1000; omega,?_⟩
 rw [c2,eP,eB]
 unfold vy U at q
 rw [cq,cq] at q
 exact q
theorem zGD (F:ze K "floors_hold" "floors_hold" KB f fd) (aj:Fn P w K mg base "is_list_of" ["value","count"] k (zG (kD))) (aY:Fn P w K mg base "height_from_0_on" ["measure"] k (zG (zOR))) (al:Fn P w K mg base "shows" ["rows","target","shares"] k (zG (Yj))) (aF:Fn P w K mg base "other_side" ["row"] k (zG (Je))):zF P w K mg base zT (k + 1) f fd ["claim","paper"] (zG (zLq aComes aFalls)):=by
 refine zz F KC λ_ _ _ _ _ _ hr=>⟨_,(zH (yS (y3 (yh (zQ aj hr rfl (zB (zu K (zA 1) rfl) (zB (zt yu yx rfl B.len_ yw (zB (zu K (zA 0) rfl) zC)) zC))))) (zM (zU xk)) yR)
  (zH (zj 2 KC.nd (zQ aY hr rfl (zB (zu K (zA 1) rfl) zC)))
  (zM (zU (zt (vM rfl) vR rfl B.all_ vN (zB (yd (own:=["row","shares"]) (caps:=[(1,"paper"),(2,"target")]) (yN KC) rfl rfl (uU (wL (wL uX))) (uy rfl B.zip_ (zB (zu K (zA 0) rfl) (zB (zu K (zA 1) rfl) zC))) (λ_ _ _ _=>(xz rfl (zc 0 (zv ["row","shares","paper","target"]) (zc 1 (zv ["row","shares","paper","target"]) xy)))) (λ_ _ _ _=>(zQ al hr rfl (zB (zY (zu K (zA 2) rfl) (yC (zB (zQ aF hr rfl (zB (zA 0) zC)) zC))) (zB (zA 3) (zB (zA 1) zC)))))) zC)))))),λds R h=>?_⟩
 obtain ⟨s,g,t,room,A1,A2,ws,b,st,tp,A6,A7,A8,n,k,rfl,PS,RG,n3,f,sb,q⟩:=h
 have lg:(db U g).length=g.length:=a_ ..
 have fg:=RG.few
 have fr:=PS.rm.few
 have lw:=PS.lw
 refine ⟨⟨TFalls.cl,AFalls.n_floors⟩,_,rfl,⟨TComes.cl,AComes.n_goal⟩,_,rfl,A7,_,k,rfl,f,w2 (λc1=>bR q ?_) λc1=>?_⟩
 ·rw [lg] at c1
  exact zKD (jm c1)
 rw [lg] at c1
 obtain ⟨as,rfl,la⟩:=Ye (jo c1)
 obtain ⟨es,e1,le,j,rfl,hj⟩:=f.lst_inv rfl
 cases e1
 have sb:=sb as rfl
 refine ⟨⟨TFalls.cl,AFalls.n_measure⟩,_,rfl,ws,b,rfl,by omega,?_⟩
 refine ⟨⟨TComes.cl,AComes.n_goal⟩,_,rfl,⟨TFalls.cl,AFalls.n_floors⟩,_,rfl,?_⟩
 refine Yi U yB ub (λr a=>xJ (room++[zn r]) (ws.map (λx=>-x)++[b]) n a) (by omega) (λr a hm=>?_) ⟨_,rfl,bR q ?_⟩
 ·have h1:=(cW hm).1
  have h2:=(cW hm).2
  refine ⟨⟨TFalls.cl,AFalls.n_room⟩,_,rfl,_,r,rfl,.inr rfl,by rw [(RG.row r h1).1]; omega,k0,by rw [a_]; show _ + 1<=1000; omega,room++[zn r],_,n,a,j,by rw [<- WN]; rfl,by rw [b_,a_,lw]; rfl,λx hx=>?_,⟨λy hy=>?_,by rw [b_]; show _ + 1<=500; omega,by omega⟩,hj a h2,sb a h2,rfl⟩
  ·rcases cN.mp hx with hx | hx
   ·obtain ⟨z,hz,rfl⟩:=cw.mp hx
    exact (PS.bw z hz).neg.mono
   ·rw [cn.mp hx]; exact PS.bb.mono
  ·rcases cN.mp hy with hy | hy
   ·exact ⟨(PS.rm.row y hy).1,λx hx=>((PS.rm.row y hy).2 x hx).mono⟩
   ·rw [cn.mp hy]
    have:=zLK (RG.row r h1)
    exact ⟨this.1,λx hx=>(this.2 x hx).mono⟩
 ·show (decide _ && _)=_
  rw [decide_eq_true la,vg]
  rfl
theorem zG4 (F:ze K "mode_falls" "mode_falls" KD f fd) (aj:Fn P w K mg base "is_list_of" ["value","count"] k (zG (kD))) (aZ:Fn P w K mg base "fall_row" ["thing","mode","measure","step"] k (zG (zJX ag af))) (al:Fn P w K mg base "shows" ["rows","target","shares"] k (zG (Yj))) (aD:Fn P w K mg base "standing" ["thing","rows"] k (zG (Jo ag af))) (aF:Fn P w K mg base "other_side" ["row"] k (zG (Je))):zF P w K mg base zT (k + 1) f fd ["thing","mode","claim","paper","shares"] (zG (zLl ag af aComes aFalls)):=by
 refine zz F Wj λ_ _ _ _ _ _ hr=>⟨_,(zH (yS (y3 (yh (zQ aj hr rfl (zB (zA 4) (zB (zt yu yx rfl B.len_ yw (zB (zu K (zA 2) rfl) zC)) zC))))) (zM (zU xk)) yR)
  (zH (zj 5 Wj.nd (zQ aZ hr rfl (zB (zA 0) (zB (zA 1) (zB (zu K (zA 3) rfl) (zB (zu K (zA 3) rfl) zC))))))
  (zH (zj 6 Wj.nd (zY (zu K (zA 3) rfl) (zu K (zA 1) rfl)))
  (zM (zU (zt (vM rfl) vR rfl B.all_ vN (zB (yd (own:=["row","part"]) (caps:=[(0,"thing"),(5,"target"),(6,"rows")]) (yN Wj) rfl rfl (uU (wL (wL uX))) (uy rfl B.zip_ (zB (zu K (zA 2) rfl) (zB (zA 4) zC))) (λ_ _ _ _=>(xz rfl (zc 0 (zv ["row","part","thing","target","rows"]) (zc 1 (zv ["row","part","thing","target","rows"]) xy)))) (λ_ _ _ _=>(zQ al hr rfl (zB (zQ aD hr rfl (zB (zA 2) (zB (zY (zA 4) (yC (zB (zQ aF hr rfl (zB (zA 0) zC)) zC))) zC))) (zB (zA 3) (zB (zA 1) zC)))))) zC))))))),λds R h=>?_⟩
 obtain ⟨n,bs,ms,m,s,g,t,room,A1,A2,ws,b,st,tp,A6,A7,A8,d,k,rfl,TS,MO,MSm,PS,RG,f,sb,q⟩:=h
 have lg:(db U g).length=g.length:=a_ ..
 have fg:=RG.few
 have fr:=PS.rm.few
 have fm:=MSm.few
 have lw:=PS.lw
 have n3:=TS.ok.n3
 have b6:=TS.ok.b6
 refine ⟨⟨TComes.cl,AComes.n_goal⟩,_,rfl,d,_,k,rfl,f,w2 (λc1=>bR q ?_) λc1=>?_⟩
 ·rw [lg] at c1
  exact zJ5 (jm c1)
 rw [lg] at c1
 obtain ⟨as,rfl,la⟩:=Ye (jo c1)
 obtain ⟨es,e1,le,j,rfl,hj⟩:=f.lst_inv rfl
 cases e1
 have sb:=sb as rfl
 have FO:=zPc (n:=n) (p:=bs.length) MSm lw n3 PS.bw PS.st
 refine ⟨⟨TFalls.cl,AFalls.n_measure⟩,_,rfl,⟨TFalls.cl,AFalls.n_step⟩,_,rfl,n,bs,ms,m,ws,b,st,rfl,TS,MO,MSm,lw,PS.bw,PS.st,?_⟩
 refine ⟨⟨TFalls.cl,AFalls.n_room⟩,_,rfl,⟨aa.cl,ad.n_rows⟩,_,rfl,by rw [a_,a_]; omega,?_⟩
 rw [WN]
 refine ⟨⟨TComes.cl,AComes.n_goal⟩,_,rfl,?_⟩
 refine Yi U yB ub (λr a=>xJ (wu n bs (room++m.rows++[zn r])) (vy n bs.length ws st m) (n + bs.length) a) (by omega) (λr a hm=>?_) ⟨_,rfl,bR q ?_⟩
 ·have h1:=(cW hm).1
  have h2:=(cW hm).2
  have hR:∀ y∈room++m.rows++[zn r],y.length=n + 1/\∀ x∈y,Bd 1000 x:=λy hy=>by
   rcases cN.mp hy with hy | hy
   ·rcases cN.mp hy with hy | hy
    ·exact ⟨(PS.rm.row y hy).1,λx hx=>((PS.rm.row y hy).2 x hx).mono⟩
    ·exact ⟨MO.rows y hy,λx hx=>(MSm.rows y hy x hx).mono⟩
   ·rw [cn.mp hy]
    have:=zLK (RG.row r h1)
    exact ⟨this.1,λx hx=>(this.2 x hx).mono⟩
  have lR:(room++m.rows++[zn r]).length<=400:=by
   rw [b_,b_]
   show _ + 1<=400
   omega
  exact ⟨_,r,rfl,.inr rfl,by rw [(RG.row r h1).1]; omega,k0,by rw [a_,b_]; show _ + 1<=1000; omega,n,bs,ms,room++m.rows++[zn r],by rw [<- WN]; rfl,n3,b6,λy hy=>(hR y hy).1,by omega,_,_,n + bs.length,a,j,rfl,FO.1,FO.2,zI6 hR lR n3 b6 TS.bs,hj a h2,sb a h2,rfl⟩
 ·show (decide _ && _)=_
  rw [decide_eq_true la,vg]
  rfl
theorem zG7 (F:ze K "falls_hold" "falls_hold" KE f fd) (aE:uB P w K mg base ag "modes" ["self"] k (zG (Jh ag af))) (aj:Fn P w K mg base "is_list_of" ["value","count"] k (zG (kD))) (bc:Fn P w K mg base "mode_falls" ["thing","mode","claim","paper","shares"] k (zG (zLl ag af aComes aFalls))):zF P w K mg base zT (k + 1) f fd ["thing","claim","paper"] (zG (zLs ag af aComes aFalls)):=by
 refine zz F KF λ_ _ _ _ _ _ hr=>⟨_,(zH (zj 3 KF.nd (gw aE ac hr (zA 0)))
  (zH (yS (y3 (yh (zQ aj hr rfl (zB (zu K (zA 2) rfl) (zB (zt yu yx rfl B.len_ yw (zB (zA 3) zC)) zC))))) (zM (zU xk)) yR)
  (zM (zU (zt (vM rfl) vR rfl B.all_ vN (zB (yd (own:=["mode","shares"]) (caps:=[(0,"thing"),(1,"claim"),(2,"paper")]) (yN KF) rfl rfl (uU (wL (wL uX))) (uy rfl B.zip_ (zB (zA 3) (zB (zu K (zA 2) rfl) zC))) (λ_ _ _ _=>(xz rfl (zc 0 (zv ["mode","shares","thing","claim","paper"]) (zc 1 (zv ["mode","shares","thing","claim","paper"]) xy)))) (λ_ _ _ _=>(zQ bc hr rfl (zB (zA 2) (zB (zA 0) (zB (zA 3) (zB (zA 4) (zB (zA 1) zC)))))))) zC)))))),λds R h=>?_⟩
 obtain ⟨n,bs,ms,s,g,t,room,A1,A2,ws,b,st,tp,A6,A7,A8,k,rfl,TS,PS,RG,f,sb,q⟩:=h
 have m40:=TS.ok.m40
 have lm:(db (wn af) ms).length=ms.length:=a_ ..
 refine ⟨rfl,by decide +kernel,n,bs,ms,rfl,?_⟩
 refine ⟨⟨TFalls.cl,AFalls.n_falls⟩,_,rfl,A6,_,k,rfl,f,w2 (λc1=>bR q ?_) λc1=>?_⟩
 ·rw [lm] at c1
  exact zLb (jm c1)
 rw [lm] at c1
 obtain ⟨as,rfl,la⟩:=Ye (jo c1)
 obtain ⟨es,e1,le,j,rfl,hj⟩:=f.lst_inv rfl
 cases e1
 have sb:=sb as rfl
 refine ⟨⟨TFalls.cl,AFalls.n_falls⟩,_,rfl,?_⟩
 refine Yi (wn af) xV (WK _) (λm a=>jj n bs room ws st g m a) (by omega) (λm a hm=>?_) ⟨_,rfl,bR q ?_⟩
 ·have h1:=(cW hm).1
  have h2:=(cW hm).2
  exact ⟨n,bs,ms,m,s,g,t,room,A1,A2,ws,b,st,tp,_,A7,A8,a,j,rfl,TS,TS.ok.mok m h1,TS.ms m h1,PS,RG,hj a h2,sb a h2,rfl⟩
 ·show (decide _ && _)=_
  rw [decide_eq_true la,vg]
  rfl
theorem zFe (F:ze K "lets_fall_by" "lets_fall_by" KG f fd) (ao:Fn P w K mg base "is_room" ["value","many"] k (zG (WF))) (be:Fn P w K mg base "comes_over" ["claim","many"] k (zG (zGQ aComes))) (ai:Fn P w K mg base "is_whole" ["thing"] k (zG (je))) (ax:Fn P w K mg base "is_row" ["value","many"] k (zG (qv))) (aA:Fn P w K mg base "each_shown" ["rows","targets","shares"] k (zG (Jr))) (bh:Fn P w K mg base "leads" ["thing","room","behind","steps"] k (zG (zOQ ag af))) (al:Fn P w K mg base "shows" ["rows","target","shares"] k (zG (Yj))) (bA:Fn P w K mg base "height_at_most" ["measure","top"] k (zG (Yk))) (bB:Fn P w K mg base "falls_hold" ["thing","claim","paper"] k (zG (zLs ag af aComes aFalls))) (bC:Fn P w K mg base "floors_hold" ["claim","paper"] k (zG (zLq aComes aFalls))):zF P w K mg base zT (k + 1) f fd ["thing","claim","paper"] (zG (zOP ag af aComes aFalls)):=by
 refine zz F zFL λ_ _ _ _ _ _ hr=>⟨_,(zH (yS (PW.pt (wx (y3 (yh (zQ be hr rfl (zB (zA 1) (zB (zu K (zA 0) rfl) zC))))) (vc (y3 (yh (zQ ao hr rfl (zB (zu K (zA 2) rfl) (zB (zu K (zA 0) rfl) zC)))))))) (zM (zU xk)) yR)
  (zH (yS (PW.pt (wx (y3 (yh (zQ ax hr rfl (zB (zu K (zA 2) rfl) (zB (zu K (zA 0) rfl) zC))))) (wx (y3 (yh (zQ ai hr rfl (zB (zu K (zA 2) rfl) zC)))) (vc (y3 (yh (zQ ai hr rfl (zB (zu K (zA 2) rfl) zC)))))))) (zM (zU xk)) yR)
  (zH (yS (PW.pt (wx (Uz (zu K (zA 2) rfl) zD) (vc (zN0 (yL (zu K (zA 1) rfl) (zu K (zA 2) rfl)) (zu K (zA 2) rfl))))) (zM (zU xk)) yR)
  (zH (yS (y3 (yh (zQ aA hr rfl (zB (zu K (zA 1) rfl) (zB (zu K (zA 2) rfl) (zB (zu K (zA 2) rfl) zC)))))) (zM (zU xk)) yR)
  (zH (yS (y3 (yh (zQ bh hr rfl (zB (zA 0) (zB (zu K (zA 2) rfl) (zB (zu K (zA 2) rfl) (zB (zu K (zA 2) rfl) zC))))))) (zM (zU xk)) yR)
  (zH (yS (y3 (yh (zQ al hr rfl (zB (zu K (zA 1) rfl) (zB (zQ bA hr rfl (zB (zu K (zA 2) rfl) (zB (zu K (zA 2) rfl) zC))) (zB (zu K (zA 2) rfl) zC)))))) (zM (zU xk)) yR)
  (zM (zU (wX (zQ bC hr rfl (zB (zA 1) (zB (zA 2) zC))) (vd (zQ bB hr rfl (zB (zA 0) (zB (zA 1) (zB (zA 2) zC)))))))))))))),λds R h=>?_⟩
 obtain ⟨n,bs,ms,s,g,t,d0,A1,A2,ws,b,st,tp,A6,A7,A8,k,rfl,TS,RG,RS,t0,bt,F0,alt⟩:=h
 have n3:=TS.ok.n3
 rcases alt with ⟨hb,q⟩ | ⟨room,rfl,PS,F1,F2,F6,F7,F8,B1,B2,B6,B7,B8,q⟩
 ·exact ⟨⟨ac.cl,ae.n_many⟩,_,rfl,s,g,t,n,rfl,n3,RS,RG,t0,wF rfl ⟨⟨TFalls.cl,AFalls.n_room⟩,_,rfl,⟨ac.cl,ae.n_many⟩,_,rfl,d0,_,k,rfl,F0,wT (by rw [hb]; rfl) q⟩⟩
 have lw:=PS.lw
 refine ⟨⟨ac.cl,ae.n_many⟩,_,rfl,s,g,t,n,rfl,n3,RS,RG,t0,wF rfl ?_⟩
 refine ⟨⟨TFalls.cl,AFalls.n_room⟩,_,rfl,⟨ac.cl,ae.n_many⟩,_,rfl,_,_,3,rfl,kB (by have:=PS.rm.few; omega) (λr hr=>by rw [(PS.rm.row r hr).1]; omega),wF (by rw [WJ λr hr=>by rw [(PS.rm.row r hr).1]; rfl]; rfl) ?_⟩
 refine ⟨⟨TFalls.cl,AFalls.n_measure⟩,_,rfl,⟨ac.cl,ae.n_many⟩,_,rfl,_,_,2,rfl,ue (by rw [b_]; show _ + 1<=900; omega),wF (by rw [zNx (by rw [b_,lw]; rfl)]; rfl) ?_⟩
 refine ⟨⟨TFalls.cl,AFalls.n_step⟩,_,rfl,_,rfl,rfl,wF rfl ?_⟩
 refine ⟨⟨TFalls.cl,AFalls.n_top⟩,_,rfl,_,rfl,rfl,wF rfl ?_⟩
 refine ⟨⟨TFalls.cl,AFalls.n_step⟩,_,rfl,w2 (λc1=>wT rfl (bR q (if_pos (.inl (of_decide_eq_true c1))))) λc1=>?_⟩
 refine ⟨⟨TComes.cl,AComes.n_turns⟩,_,rfl,⟨TFalls.cl,AFalls.n_step⟩,_,rfl,bt.mono,PS.st.mono,⟨TFalls.cl,AFalls.n_top⟩,_,rfl,w2 (λc2=>bR q (if_pos (.inr (of_decide_eq_true c2)))) λc2=>?_⟩
 have z:wB n bs ms s g t room ws b st tp A1 A2 A6 A7 A8=(u4 s room n A1 && (q9 n bs ms room room A2 && (xJ s (ws++[tp - b]) n A8 && (ji n room ws b g A7 && jk n bs ms room ws st g A6)))):=if_neg (λh=>h.elim (of_decide_eq_false c1) (of_decide_eq_false c2))
 rw [z] at q
 clear z
 refine ⟨⟨TComes.cl,AComes.n_start⟩,_,rfl,⟨TFalls.cl,AFalls.n_room⟩,_,rfl,⟨TFalls.cl,AFalls.n_starts⟩,_,rfl,s,room,n,A1,k,rfl,RS.rw n3,PS.rm.rw n3,F1,B1,w2 (λc3=>bR q (by rw [jm c3]; rfl)) λc3=>?_⟩
 rw [jo c3] at q
 refine ⟨⟨TFalls.cl,AFalls.n_room⟩,_,rfl,⟨TFalls.cl,AFalls.n_room⟩,_,rfl,⟨TFalls.cl,AFalls.n_steps⟩,_,rfl,n,bs,ms,room,room,A2,k,rfl,TS,PS.rm,PS.rm,F2,B2,w2 (λc4=>bR q (by rw [jm c4]; rfl)) λc4=>?_⟩
 rw [jo c4] at q
 refine ⟨⟨TComes.cl,AComes.n_start⟩,_,rfl,⟨TFalls.cl,AFalls.n_measure⟩,_,rfl,⟨TFalls.cl,AFalls.n_top⟩,_,rfl,ws,b,tp,rfl,by omega,?_⟩
 refine ⟨⟨TFalls.cl,AFalls.n_tops⟩,_,rfl,s,ws++[tp - b],n,A8,k,rfl,by rw [b_,lw]; rfl,λx hx=>?_,RS.rw n3,F8,B8,w2 (λc5=>bR q (by rw [jm c5]; rfl)) λc5=>?_⟩
 ·rcases cN.mp hx with hx | hx
  ·exact (PS.bw x hx).mono
  ·rw [cn.mp hx]
   exact (PS.tp.sub PS.bb).mono
 rw [jo c5] at q
 refine ⟨s,g,t,room,A1,A2,ws,b,st,tp,A6,A7,A8,n,k,rfl,PS,RG,n3,F7,B7,w2 (λc6=>?_) λc6=>bR q (by rw [c6]; rfl)⟩
 rw [c6] at q
 exact ⟨n,bs,ms,s,g,t,room,A1,A2,ws,b,st,tp,A6,A7,A8,k,rfl,TS,PS,RG,F6,B6,q⟩
theorem zJ0 (F:ze K "lets_by" "lets_by" Wl f fd) (bE:Fn P w K mg base "ask_closed" ["thing"] k (zG (zGR ag af))) (bF:Fn P w K mg base "lets_rooms_by" ["thing","claim","paper"] k (zG fNo)) (bG:Fn P w K mg base "lets_fall_by" ["thing","claim","paper"] k (zG (zOP ag af aComes aFalls))):zF P w K mg base zT (k + 1) f fd ["thing","claim","paper"] (zG (Jt ag af aComes aFalls)):=by
 refine zz F zGI λ_ _ _ _ _ _ hr=>⟨_,(zH (zMj (zQ bE hr rfl (zB (zA 0) zC)))
  (zH (yS (PW.pt (U3 (yh (yK (xc qL rfl B.isinstance_ xq (zg (zA 1) (zg (qK TSettles rfl) yO))) qt)) (U2 (yh (yK (xc qL rfl B.isinstance_ xq (zg (zA 2) (zg (qK TRooms rfl) yO))) qt))))) (zM (zU (zQ bF hr rfl (zB (zA 0) (zB (zA 1) (zB (zA 2) zC)))))) yR)
  (zH (yS (PW.pt (U3 (yh (yK (xc qL rfl B.isinstance_ xq (zg (zA 1) (zg (qK TComes rfl) yO))) qt)) (U2 (yh (yK (xc qL rfl B.isinstance_ xq (zg (zA 2) (zg (qK TFalls rfl) yO))) qt))))) (zM (zU (zQ bG hr rfl (zB (zA 0) (zB (zA 1) (zB (zA 2) zC)))))) yR)
  (zM (zU xk))))),λds R h=>?_⟩
 obtain ⟨n,bs,ms,s,g,t,d0,A1,A2,ws,b,st,tp,A6,A7,A8,k,rfl,TS,RG,RS,t0,bt,F0,cl,alt⟩:=h
 refine ⟨n,bs,ms,rfl,TS.ok,cl,?_⟩
 refine ⟨⟨_,_,TComes⟩,_,Y.k_Comes_Settles,wF rfl (wF rfl ?_)⟩
 refine ⟨⟨_,_,TComes⟩,_,Ul,wT rfl ?_⟩
 refine ⟨⟨_,_,TFalls⟩,_,Ul,wT rfl ?_⟩
 exact ⟨n,bs,ms,s,g,t,d0,A1,A2,ws,b,st,tp,A6,A7,A8,k,rfl,TS,RG,RS,t0,bt,F0,alt⟩
theorem zGC {cC:Addr} (Z:Er K mg cC) (F:ze K "ask_closed" "ask_closed" Wg f fd) (ay:uB P w K mg base ag "is_closed" ["self"] k (zG (Ji ag af))):zF P w K mg base (xZ P w) (k + 1) f fd ["thing"] (jd (Yl ag af cC 0)):=by
 refine F.okX zD9 (zKW λC ds h=>by cases h with | mk n bs ms es e l=>rw [e,cJ,l]; rfl) λcdv A outer s H vs Q E hr h=>⟨_,vE (XV (y3 (yh (gw ay ac hr (zA 0)))) (vE (zMo (C:=cC) (E:=E) (λ_ _ _ _ _ _ _ _ I mx qx=>zJx I mx qx) Z.excC rfl Z.mgC rfl (zB Zn zC)) gU) gU) gU,?_⟩
 obtain ⟨Z0,ds,C,zd,hv,⟨n,bs,ms,es,rfl,l,h,cl,rfl⟩,q⟩:=h
 refine YR (JZ (N:=["thing"]) (ps:=["thing"]) zd hv (by rw [cJ,l]; rfl)) ?_ ?_ q
 ·exact ⟨rfl,by decide +kernel,n,bs,ms,rfl,h,(by show (!_)=true; rw [cl]; rfl)⟩
 ·show 1<=1000
  decide
theorem zIZ {cC:Addr} (F:ze K "lets_by" "lets_by" Wl f fd) (x_ask_closed:jU P w K mg base "ask_closed" ["thing"] k (jd (Yl ag af cC 0))):zF P w K mg base (xZ P w) (k + 1) f fd ["thing","claim","paper"] (jd (Yl ag af cC 2)):=by
 refine F.okX zGI (zKW λC ds h=>by cases h with | mk n bs ms es e l=>rw [e,cJ,l]; rfl) λcdv A outer s H vs Q E hr h=>?_
 obtain ⟨Z0,ds,C,zd,hv,⟨n,bs,ms,es,rfl,l,h,cl,rfl⟩,q⟩:=h
 exact ⟨_,vE (xb (zM1 x_ask_closed hr rfl (zB (zA 0) zC))) zMn,zOe (JZ (N:=["thing","claim","paper"]) (ps:=["thing","claim","paper"]) zd hv (by rw [cJ,l]; rfl)) ⟨n,bs,ms,[],rfl,rfl,h,cl,rfl⟩ q⟩
theorem zHp (F:ze K "_law_cell_at" "_law_cell_at" KH f fd):zF P w K mg base zT (k + 1) f fd ["_law_script","_law_k"] (zG (Jv)):=by
 refine zz F zHf λ_ _ _ _ _ _ hr=>⟨_,(zH (yS (Uz (zA 1) (zt yu yx rfl B.len_ yw (zB (zA 0) zC))) (zM (zU (zN (zA 0) (zA 1)))) yR)
  (zM (zU zD))),λds R h=>?_⟩
 obtain ⟨ns,k,rfl,h0,q⟩:=h
 refine w2 (λc=>?_) λc=>q 0
 obtain ⟨x,_,e⟩:=zOY h0 (by have:=of_decide_eq_true c; rw [a_] at this; exact this)
 exact ⟨_,e,q x⟩
theorem zIb (F:ze K "_law_stream" "_law_stream" KI f fd):zF P w K mg base zT (k + 1) f fd ["_law_cell","_law_many"] (zG (WR)):=by
 refine zz F jz λ_ _ _ _ _ _ hr=>⟨_,(zH (ve 2 jz.nd rfl (Or.inl rfl) zC)
  (zH (yS (zQE (zA 0) (jW zD zD)) (zH (zj 3 jz.nd (wv (zA 0) (jW zD zD)))
   (zH (uH PassesOwn.never rfl (wY rfl B.range_ (zB (zA 1) zC)) (yG 4 jz.nd) (zH (yF (xb (wg cD cH cI yj (yI 2) (zg (yq (zA 3) (jW zD zD)) yO))) wm)
    (zM (zj 3 jz.nd (wl (zA 3) (jW zD zD))))))
   (zM (wy 2 (zU (zA 2)))))) yR)
  (zH (zj 5 jz.nd (zY (yq (zA 0) (zY (jW zD zD) zD)) zD))
  (zH (uH PassesOwn.never rfl (wY rfl B.range_ (zB (zY (zA 1) zD) zC)) (yG 4 jz.nd) (zH (zj 5 jz.nd (yq (zY (zY (yL (zA 5) (zA 5)) (yL zD (zA 5))) (zA 4)) (zY (jW zD zD) zD)))
   (zM (yF (xb (wg cD cH cI yj (yI 2) (zg (zA 5) yO))) wm))))
  (zM (wy 2 (zU (xQ (zA 2) (xH zD) xP)))))))),λds R h=>?_⟩
 obtain ⟨c,n,rfl,n1,q⟩:=h
 have b45:Bd 150 WP:=Bd.lit
 have p45:(0:Int) < WP:=by decide
 have b18:Bd 60 ((10:Int) ^ (18:Int).toNat + 9):=Bd.lit
 have p18:(0:Int) < (10:Int) ^ (18:Int).toNat + 9:=by decide
 refine ⟨k0,⟨by decide,by decide,by decide⟩,w2 (λc1=>?_) λc1=>?_⟩
 ·refine ⟨⟨by decide,by decide,by decide⟩,by omega,by omega,?_⟩
  rw [show ((n:Nat):Int).toNat=n by omega]
  refine ⟨λk Γ=>∃ (xs:List Int) (r:Int) (s4:Sl),Γ=[.sh (.int c),.sh (.int (n:Int)),.ow (xs.map D.int),.sh (.int r),s4,.no]/\xs.length=k/\WQ xs,⟨[],_,.no,rfl,rfl,λ_ h=>nomatch h⟩,?_,?_⟩
  ·rintro k d Γ' hk ⟨xs,r,s4,rfl,lx,hx⟩
   obtain ⟨kn,rfl⟩:=qj hk
   refine ⟨⟨by decide,by decide,by decide⟩,by decide,by rw [a_]; omega,?_⟩
   refine ⟨⟨by decide,by decide,by decide⟩,by decide,b45.mono,?_⟩
   refine ⟨xs++[r.fmod WP],r.fdiv WP,.sh (.int (k:Int)),?_,by rw [b_,lx]; rfl,u5 hx ⟨(md r p45).1,vj b45 p45⟩⟩
   rw [cq]
   rfl
  ·rintro Γ' ⟨xs,r,s4,rfl,lx,hx⟩
   rw [qk] at lx
   exact q xs lx hx
 ·refine ⟨⟨by decide,by decide,by decide⟩,by decide,?_⟩
  have m0:=md c p18
  have bm:Bd 60 (c.fmod ((10:Int) ^ (18:Int).toNat + 9)):=vj b18 p18
  refine ⟨by omega,by omega,?_⟩
  rw [show ((n:Int) + 2).toNat=n + 2 by omega]
  refine ⟨λk Γ=>∃ (xs:List Int) (r:Int) (s4:Sl),Γ=[.sh (.int c),.sh (.int (n:Int)),.ow (xs.map D.int),.no,s4,.sh (.int r)]/\xs.length=k/\WQ xs/\Bd 70 r,⟨[],_,.no,rfl,rfl,(λ_ h=>nomatch h),((bm.mono (show 60<=65 by decide)).add ((Bd.lit (i:=48271) (n:=16)).mono (show 16<=65 by decide))).mono⟩,?_,?_⟩
  ·rintro k d Γ' hk ⟨xs,r,s4,rfl,lx,hx,br⟩
   obtain ⟨kn,rfl⟩:=qj hk
   refine ⟨br.mono,br.mono,(Bd.lit (i:=48271) (n:=16)).mono,br.mono,⟨by decide,by decide,by decide⟩,by decide,by rw [a_]; omega,?_⟩
   refine ⟨xs++[(r * r + 48271 * r + (k:Int)).fmod ((10:Int) ^ (18:Int).toNat + 9)],(r * r + 48271 * r + (k:Int)).fmod ((10:Int) ^ (18:Int).toNat + 9),.sh (.int (k:Int)),?_,?_,u5 hx ⟨(md (r * r + 48271 * r + (k:Int)) p18).1,(vj b18 p18).mono⟩,(vj b18 p18).mono⟩
   ·rw [cq]
    rfl
   ·rw [b_,lx]; rfl
  ·rintro Γ' ⟨xs,r,s4,rfl,lx,hx,br⟩
   rw [qk] at lx
   have e:yc (xs.map D.int) (some 2) none=(xs.drop 2).map D.int:=by rw [show (2:Int)=((2:Nat):Int) from rfl,Ju,ir]
   have qq:=q (xs.drop 2) (by rw [ej]; omega) (λx hx'=>hx x (iN hx'))
   unfold L at qq
   rw [<- e] at qq
   exact qq
theorem zId (F:ze K "_law_number" "_law_number" KJ f fd):zF P w K mg base zT (k + 1) f fd ["_law_x","_law_far"] (zG (Yn)):=by
 refine zz F zIG λ_ _ _ _ _ _ hr=>⟨_,(zM (zU (wv (yq (zA 0) (zY (yL zD (zA 1)) zD)) (zA 1)))),λds R h=>?_⟩
 obtain ⟨x,far,rfl,f0,bf,q⟩:=h
 have:=md x (show (0:Int) < 2 * far + 1 by omega)
 exact ⟨(Bd.lit (i:=2) (n:=2)).mono,bf.mono,by omega,q _ (by omega) (by omega)⟩
theorem zNE (F:ze K "_law_box" "_law_box" KL f fd) (ap:Fn P w K mg base "_law_stream" ["_law_cell","_law_many"] k (zG (WR))) (ak:Fn P w K mg base "_law_number" ["_law_x","_law_far"] k (zG (Yn))):zF P w K mg base zT (k + 1) f fd ["_law_cell","_law_many","_law_unit"] (zG (Yo)):=by
 refine zz F XI λ_ _ _ _ _ _ hr=>⟨_,(zH (zj 3 XI.nd (zQ ap hr rfl (zB (zA 0) (zB (yL zD (zA 1)) zC))))
  (zH (ve 4 XI.nd rfl (Or.inl rfl) zC)
  (zH (uH PassesOwn.never rfl (wY rfl B.range_ (zB (zA 1) zC)) (yG 5 XI.nd) (zH (zj 6 XI.nd (yL (zQ ak hr rfl (zB (zN (zA 3) (yL zD (zA 5))) (zB zD zC))) (zA 2)))
   (zM (yF (xb (wg cD cH cI yj (yI 4) (zg (xG (zB (zA 6) (zB (zY (zY (zA 6) (yL (yq (zN (zA 3) (zY (yL zD (zA 5)) zD)) zD) (zA 2))) (yq (wl (zN (zA 3) (zY (yL zD (zA 5)) zD)) zD) zD)) zC))) yO))) wm))))
  (zM (wy 4 (zU (zA 4))))))),λds R h=>?_⟩
 obtain ⟨c,n,u,rfl,n3,u0,bu,q⟩:=h
 have b2:Bd 2 (2:Int):=Bd.lit
 refine ⟨b2.mono,(jp n3).mono,c,2 * n,by rw [show ((2 * n:Nat):Int)=2 * (n:Int) by omega],by omega,λxs lx hx=>?_⟩
 refine ⟨k0,by omega,by omega,?_⟩
 rw [show ((n:Nat):Int).toNat=n by omega]
 refine ⟨λk Γ=>∃ (bs:List (Int × Int)) (s5 s6:Sl),Γ=[.sh (.int c),.sh (.int (n:Int)),.sh (.int u),.sh (L xs),.ow (bs.map zq),s5,s6]/\bs.length=k/\∀ b∈bs,b.1<=b.2/\Bd 105 b.1/\Bd 105 b.2,⟨[],.no,.no,rfl,rfl,λ_ h=>nomatch h⟩,?_,?_⟩
 ·rintro k d Γ' hk ⟨bs,s5,s6,rfl,lb,hb⟩
  obtain ⟨kn,rfl⟩:=qj hk
  have bk:Bd 2 (k:Int):=jp (by omega)
  refine ⟨b2.mono,bk.mono,xT (by omega) (by omega) λx hx1=>⟨x,3,rfl,by decide,(Bd.lit (i:=3) (n:=2)).mono,λy y1 y2=>?_⟩⟩
  have by2:Bd 2 y:=zRa (f:=3) Bd.lit y1 y2
  refine ⟨by2.mono,bu.mono,?_⟩
  refine ⟨b2.mono,bk.mono,xT (by omega) (by omega) λx2 hx2=>⟨by decide,(Bd.mono (n:=3) (vj Bd.lit (by decide)) (by decide)),bu.mono,b2.mono,bk.mono,xT (by omega) (by omega) λx3 hx3=>⟨by decide,(Bd.lit (i:=4) (n:=3)).mono,by decide,k0,by rw [a_]; omega,?_⟩⟩⟩
  have m1:=md x2 (show (0:Int) < 4 by decide)
  have m2:=md (x3.fdiv 4) (show (0:Int) < 2 by decide)
  have g0:0<=x2.fmod 4 * u:=ic m1.1 u0
  have c1:Bd 102 (y * u):=by2.mul bu
  have c2:Bd 103 (x2.fmod 4 * u):=(vj (n:=3) Bd.lit (by decide)).mul bu
  have c3:Bd 2 ((x3.fdiv 4).fmod 2):=vj Bd.lit (by decide)
  refine ⟨bs++[(y * u,y * u + x2.fmod 4 * u + (x3.fdiv 4).fmod 2)],.sh (.int (k:Int)),.sh (.int (y * u)),?_,by rw [b_,lb]; rfl,u5 hb ⟨by show y * u<=y * u + x2.fmod 4 * u + (x3.fdiv 4).fmod 2; omega,c1.mono,((c1.mono (show 102<=103 by decide)).add c2 |>.add c3.mono).mono⟩⟩
  rw [cq]
  rfl
 ·rintro Γ' ⟨bs,s5,s6,rfl,lb,hb⟩
  rw [qk] at lb
  exact q bs lb hb
theorem zK9 (F:ze K "_law_rows" "_law_rows" KM f fd):zF P w K mg base zT (k + 1) f fd ["_law_box_here"] (zG (zRI)):=by
 refine zz F kX λ_ _ _ _ _ _ hr=>⟨_,(zH (ve 1 kX.nd rfl (Or.inl rfl) zC)
  (zH (uH PassesOwn.never rfl (wY rfl B.range_ (zB (zt yu yx rfl B.len_ yw (zB (zA 0) zC)) zC)) (yG 2 kX.nd) (zH (u3 3 false kX.nd rfl rfl (own:=["_law_j"]) (caps:=[(2,"_law_i")]) (yN kX) rfl rfl yX (wY rfl B.range_ (zB (zt yu yx rfl B.len_ yw (zB (zA 0) zC)) zC)) (λ_ _ _ _=>(yG 0 (zv ["_law_j","_law_i"]))) (λ_ _ _ _=>(y4 Kz zMA rfl B.int_ UV (zB (uv hr.units (zA 0) (zA 1)) zC))) rfl)
   (zH (yF (xb (wg cD cH cI yj (yI 1) (zg (y4 w8 vC rfl B.tuple_ wH (zB (zY (zA 3) (yC (zB (zN (zN (zA 0) (zA 2)) zD) zC))) zC)) yO))) wm)
   (zM (yF (xb (wg cD cH cI yj (yI 1) (zg (y4 w8 vC rfl B.tuple_ wH (zB (zY (yd (own:=["_law_one"]) (caps:=[]) (yN kX) rfl rfl yX (y6 (zA 3)) (λ_ _ _ _=>(yG 0 (zv ["_law_one"]))) (λ_ _ _ _=>(wv zD (zA 0)))) (yC (zB (wv zD (zN (zN (zA 0) (zA 2)) zD)) zC))) zC)) yO))) wm)))))
  (zM (wy 1 (zU (zA 1)))))),λds R h=>?_⟩
 obtain ⟨bs,rfl,l1,q⟩:=h
 have lp:(db zq bs).length=bs.length:=a_ ..
 refine ⟨k0,by omega,by omega,?_⟩
 rw [show ((di (db zq bs):Nat):Int).toNat=bs.length by omega]
 refine ⟨λk Γ=>∃ (s2 s3:Sl),Γ=[.sh (.lst (bs.map zq)),.ow ((((bs.mapIdx (xX bs.length)).take k).flatten).map U),s2,s3],⟨.no,.no,rfl⟩,?_,?_⟩
 ·rintro k d Γ' hk ⟨s2,s3,rfl⟩
  obtain ⟨kn,rfl⟩:=qj hk
  have hx:(bs.mapIdx (xX bs.length))[k]? = some (xX bs.length k bs[k]):=by rw [iM,cu kn]; rfl
  have ll:((bs.mapIdx (xX bs.length)).take k).flatten.length=2 * k:=by
   rw [eK]
   have e:((bs.mapIdx (xX bs.length)).take k).map di=cj k 2:=by
    refine e9 (by simp; omega) λi h1 h2=>?_
    simp [xX]
   rw [e]
   simp
   omega
  refine ⟨by omega,by omega,?_⟩
  rw [show ((di (db zq bs):Nat):Int).toNat=bs.length by omega]
  refine zh.rng0 (λj=>.int (if (j:Int)=(k:Int) then 1 else 0)) (by omega) (λj hj=>by show D.int _=_; rw [zOI]) ?_
  have eu:(cO bs.length).map (λj:Nat=>D.int (if (j:Int)=(k:Int) then 1 else 0))=(xx (k:Int) bs.length 1).map D.int:=by unfold xx; rw [cA]; rfl
  rw [eu]
  refine ⟨_,zJU kn rfl,_,rfl,k0,by rw [a_,uC]; show _ + 1<=1000; omega,by rw [a_]; omega,?_⟩
  refine zh.int (λx=>0 - x) (by rw [uC]; omega) (λx hx=>rfl) ?_
  refine ⟨_,zJU kn rfl,_,rfl,k0,by rw [a_,a_,uC]; show _ + 1<=1000; omega,by rw [b_,a_]; show _ + 1 < 1000; omega,?_⟩
  refine ⟨.sh (.int (k:Int)),.sh (L (xx (k:Int) bs.length 1)),?_⟩
  rw [zMX hx,cq]
  unfold xX
  rw [cT,cT,iC,U,U,cq,cq,<- List.append_cons]
  rfl
 ·rintro Γ' ⟨s2,s3,rfl⟩
  rw [qk,c_ (by rw [i6]; omega)]
  exact q
theorem zNB (F:ze K "_law_top" "_law_top" KN f fd):zF P w K mg base zT (k + 1) f fd ["_law_numbers","_law_box_here"] (zG (zRH)):=by
 refine zz F XJ λ_ _ _ _ _ _ hr=>⟨_,(zH (zj 2 XJ.nd zD)
  (zH (uH PassesOwn.never rfl (uy rfl B.zip_ (zB (zA 0) (zB (zA 1) zC))) (xz rfl (zc 3 XJ.nd (zc 4 XJ.nd xy))) (zM (zj 2 XJ.nd (zY (zA 2) (zt (ga rfl) gu rfl B.max_ gf (zB (yL (zA 3) (zN (zA 4) zD)) (zB (yL (zA 3) (zN (zA 4) zD)) zC)))))))
  (zM (zU (zA 2))))),λds R h=>?_⟩
 obtain ⟨d,ns,bs,ee,rfl,h,l3,bn,e5,bb,q⟩:=h
 refine h.zipL ?_
 refine ⟨λk Γ=>∃ (s3 s4:Sl),Γ=[.sh d,.sh (.lst (bs.map zq)),.sh (.int (zf (ns.take k) (bs.take k))),s3,s4],⟨.no,.no,rfl⟩,?_,?_⟩
 ·rintro k d' Γ' hk ⟨s3,s4,rfl⟩
  obtain ⟨x1,b1,h1,h2,rfl⟩:=JE _ hk
  obtain ⟨x,hx,rfl⟩:=Yq h1
  obtain ⟨b,hb,rfl⟩:=Yq h2
  have hx':=bn x (dh hx)
  have hb':=bb b (dh hb)
  have kx:=(cP.mp hx).1
  have kb:=(cP.mp hb).1
  refine ⟨_,rfl,hx'.mono,hb'.1.mono (by omega),_,rfl,hx'.mono,hb'.2.mono (by omega),.sh (.int x),.sh (zq b),?_⟩
  rw [qG hx,qG hb,zI4 (by rw [cK,cK]; omega)]
  rfl
 ·rintro Γ' ⟨s3,s4,rfl⟩
  rw [iS,a_,a_,zI3]
  exact q
theorem zLC (F:ze K "_law_both" "_law_both" KO f fd):zF P w K mg base zT (k + 1) f fd ["_law_numbers"] (zG (QG)):=by
 refine zz F Wm λ_ _ _ _ _ _ hr=>⟨_,(zH (zj 1 Wm.nd (yC zC))
  (zH (uH PassesOwn.never rfl (y6 (zA 0)) (yG 2 Wm.nd) (zM (zj 1 Wm.nd (zY (zA 1) (yC (zB (zt (ga rfl) gu rfl B.max_ gf (zB (zA 2) (zB zD zC))) (zB (zt (ga rfl) gu rfl B.max_ gf (zB (wv zD (zA 2)) (zB zD zC))) zC)))))))
  (zM (zU (zA 1))))),λds R h=>?_⟩
 obtain ⟨d,ns,rfl,h,l3,q⟩:=h
 refine ⟨k0,h.seq ?_⟩
 refine ⟨λk Γ=>∃ (s2:Sl),Γ=[.sh d,.sh (L (yP (ns.take k))),s2],⟨.no,rfl⟩,?_,?_⟩
 ·rintro k d' Γ' hk ⟨s2,rfl⟩
  have kl:=(cP.mp hk).1
  rw [a_] at kl
  obtain ⟨x,hx,rfl⟩:=Yq hk
  refine ⟨k0,by rw [a_,uJ,cK]; show _ + 2<=1000; omega,?_⟩
  refine ⟨.sh (.int x),?_⟩
  rw [qG hx,zH1,zRe]
  rfl
 ·rintro Γ' ⟨s2,rfl⟩
  rw [a_,fV]
  exact q
theorem zFg (F:ze K "_law_drift_mode" "_law_drift_mode" KP f fd) (ak:Fn P w K mg base "_law_number" ["_law_x","_law_far"] k (zG (Yn))):zF P w K mg base zT (k + 1) f fd ["_law_xs","_law_goal","_law_pushes","_law_often","_law_step"] (zG (Yv)):=by
 refine zz F we λ_ _ _ _ _ _ hr=>⟨_,(zH (zj 5 we.nd (zt yu yx rfl B.len_ yw (zB (zA 1) zC)))
  (zH (zj 6 we.nd (zY zD (yq (zN (zA 0) zD) zD)))
  (zH (ve 7 we.nd rfl (Or.inr rfl) zC)
  (zH (uH PassesOwn.never rfl (wY rfl B.range_ (zB (zA 5) zC)) (yG 8 we.nd) (zM (yF (xb (wg cD cH cI yj (yI 7) (zg (yd (own:=["_law_j"]) (caps:=[(0,"_law_xs"),(8,"_law_i")]) (yN we) rfl rfl yX (wY rfl B.range_ (zB (zt yu yx rfl B.len_ yw (zB (zA 2) zC)) zC)) (λ_ _ _ _=>(yG 0 (zv ["_law_j","_law_xs","_law_i"]))) (λ_ _ _ _=>(zQ ak hr rfl (zB (wl (zN (zA 1) zD) (zY (zY zD (yL zD (zA 2))) (yL zD (zA 0)))) (zB zD zC))))) yO))) wm)))
  (zH (wy 7 (u3 9 false we.nd rfl rfl (own:=["_law_j"]) (caps:=[(1,"_law_goal"),(3,"_law_often"),(5,"_law_many"),(7,"_law_push")]) (yN we) rfl rfl yX (wY rfl B.range_ (zB (zt yu yx rfl B.len_ yw (zB (zA 2) zC)) zC)) (λ_ _ _ _=>(yG 0 (zv ["_law_j","_law_goal","_law_often","_law_many","_law_push"]))) (λ_ _ _ _=>(yL (zA 2) (zt (gh rfl) gt rfl B.sum_ gg (zB (yd (own:=["_law_i"]) (caps:=[(0,"_law_j"),(1,"_law_goal"),(4,"_law_push")]) WD rfl rfl yX (wY rfl B.range_ (zB (zA 3) zC)) (λ_ _ _ _=>(yG 0 (zv ["_law_i","_law_j","_law_goal","_law_push"]))) (λ_ _ _ _=>(yL (zN (zA 2) (zA 0)) (zN (zN (zA 3) (zA 0)) (zA 1))))) zC)))) rfl))
  (zH (zj 10 we.nd (zt (gh rfl) gt rfl B.sum_ gg (zB (yd (own:=["_law_c","_law_low","_law_high"]) (caps:=[]) (yN we) rfl rfl (uU (wL (pnc (uU (wL (wL uX))) uX))) (uy rfl B.zip_ (zB (zA 9) (zB (zA 2) zC))) (λ_ _ _ _=>(xz rfl (zc 0 (zv ["_law_c","_law_low","_law_high"]) (zKm (xz rfl (zc 1 (zv ["_law_c","_law_low","_law_high"]) (zc 2 (zv ["_law_c","_law_low","_law_high"]) xy))) (uU (wL (wL uX))) xy)))) (λ_ _ _ _=>(zt (ga rfl) gu rfl B.max_ gf (zB (yL (zA 0) (zA 1)) (zB (yL (zA 0) (zA 2)) zC))))) zC)))
  (zH (zj 11 we.nd (yL (zA 3) (zt (gh rfl) gt rfl B.sum_ gg (zB (yd (own:=["_law_c"]) (caps:=[]) (yN we) rfl rfl yX (y6 (zA 1)) (λ_ _ _ _=>(yG 0 (zv ["_law_c"]))) (λ_ _ _ _=>(yL (zA 0) (zA 0)))) zC))))
  (zH (zj 12 we.nd (wv zD (wl (wv (wv zD (zA 10)) (yL (zA 6) (zA 4))) (zA 11))))
  (zH (u3 13 false we.nd rfl rfl (own:=["_law_i"]) (caps:=[(5,"_law_many"),(6,"_law_divisor")]) (yN we) rfl rfl yX (wY rfl B.range_ (zB (zA 5) zC)) (λ_ _ _ _=>(yG 0 (zv ["_law_i","_law_many","_law_divisor"]))) (λ_ _ _ _=>(yd (own:=["_law_j"]) (caps:=[(0,"_law_i"),(2,"_law_divisor")]) WD rfl rfl yX (wY rfl B.range_ (zB (zA 1) zC)) (λ_ _ _ _=>(yG 0 (zv ["_law_j","_law_i","_law_divisor"]))) (λ_ _ _ _=>(yL (zA 2) (y4 Kz zMA rfl B.int_ UV (zB (uv hr.units (zA 1) (zA 0)) zC)))))) rfl)
  (zH (ve 14 we.nd rfl (Or.inl rfl) zC)
  (uY (yS (uw hr.units (yq (zN (zA 0) zD) zD) zD) (zH (u3 15 false we.nd rfl rfl (own:=["_law_i"]) (caps:=[(0,"_law_xs")]) (yN we) rfl rfl yX (wY rfl B.range_ (zB (zA 5) zC)) (λ_ _ _ _=>(yG 0 (zv ["_law_i","_law_xs"]))) (λ_ _ _ _=>(zQ ak hr rfl (zB (wl (zN (zA 1) zD) (zY zD (yL zD (zA 0)))) (zB zD zC)))) rfl)
   (zM (yF (xb (wg cD cH cI yj (yI 14) (zg (y4 w8 vC rfl B.tuple_ wH (zB (zY (zA 15) (yC (zB (yL (zQ ak hr rfl (zB (zN (zA 0) zD) (zB zD zC))) (zA 4)) zC))) zC)) yO))) wm))) yR)
  (zM (wy 14 (zU (xG (zB (zA 14) (zB (zA 13) (zB (yL (yC (zB zD zC)) (zA 5)) (zB (zA 7) (zB (yd (own:=["_law_c"]) (caps:=[(12,"_law_far")]) (yN we) rfl rfl yX (y6 (zA 1)) (λ_ _ _ _=>(yG 0 (zv ["_law_c","_law_far"]))) (λ_ _ _ _=>(wv zD (yL (zA 0) (zA 1))))) (zB (zA 6) zC))))))))))))))))))))),λds R h=>?_⟩
 obtain ⟨xs,goal,bs,often,step,rfl,lx,hx,g1,g3,bg,gz,b2,bb,o1,o3,s1,bst,q⟩:=h
 obtain ⟨n,en⟩:∃ n,goal.length=n:=⟨_,rfl⟩
 rw [en] at g1 g3 q
 have lg:(db D.int goal).length=n:=by rw [a_]; exact en
 have lb:(db zq bs).length=bs.length:=a_ ..
 have bo:Bd 2 often:=vk (f:=3) (by decide) (by omega) (by omega)
 have bgo:∀ c∈goal,Bd 2 c:=λc hc=>vk (f:=3) (by decide) (by have:=bg c hc; omega) (by have:=bg c hc; omega)
 refine xT (by decide) (by omega) λx0 _=>⟨by decide,?_⟩
 have d0:=md x0 (show (0:Int) < 3 by decide)
 obtain ⟨dv,hdv⟩:∃ dv,dv=1 + x0.fmod 3:=⟨_,rfl⟩
 have dv1:1<=dv:=by omega
 have bdv:Bd 3 dv:=vk (f:=7) (by decide) (by omega) (by omega)
 refine ⟨k0,by omega,by omega,?_⟩
 rw [show ((di (db D.int goal):Nat):Int).toNat=n by omega]
 refine ⟨λk Γ=>∃ (P:List (List Int)) (s8:Sl),Γ=[.sh (L xs),.sh (L goal),.sh (.lst (bs.map zq)),.sh (.int often),.sh (.int step),.sh (.int ((db D.int goal).length:Int)),.sh (.int dv),.ow (P.map L),s8,.no,.no,.no,.no,.no,.no,.no]/\P.length=k/\∀ r∈P,r.length=bs.length/\∀ x∈r,Bd 2 x,⟨[],.no,by rw [hdv]; rfl,rfl,λ_ h=>nomatch h⟩,?_,?_⟩
 ·rintro k d Γ' hk ⟨P,s8,rfl,lP,hP⟩
  obtain ⟨kn,rfl⟩:=qj hk
  have bk:Bd 2 (k:Int):=jp (by omega)
  refine ⟨by omega,by omega,?_⟩
  rw [show ((di (db zq bs):Nat):Int).toNat=bs.length by omega]
  refine zh.nums (λx=>Bd 2 x) (by omega) (λj hj=>?_) λns ln hn=>?_
  ·have bj:Bd 2 (j:Int):=jp (by omega)
   refine xT (by decide) (by omega) λx1 _=>⟨(Bd.lit (i:=7) (n:=3)).mono,bk.mono,(Bd.lit (i:=3) (n:=2)).mono,bj.mono,by omega,Bd.mono (n:=10) (vk (f:=1000) (by decide) (by omega) (by omega)) (by decide),_,2,rfl,by decide,(Bd.lit (i:=2) (n:=2)).mono,λy y1 y2=>⟨y,rfl,vk (f:=3) (by decide) (by omega) (by omega)⟩⟩
  ·refine ⟨by rw [a_]; omega,P++[ns],.sh (.int (k:Int)),?_,by rw [b_,lP]; rfl,u5 hP ⟨ln,hn⟩⟩
   rw [cq]
   rfl
 rintro Γ' ⟨P,s8,rfl,lP,hP⟩
 rw [qk] at lP
 refine ⟨by omega,by omega,?_⟩
 rw [show ((di (db zq bs):Nat):Int).toNat=bs.length by omega]
 refine zh.rng0 (λj=>.int (often * zX goal P j)) (by omega) (λj hj=>?_) ?_
 ·refine ⟨by omega,by omega,?_⟩
  rw [show ((di (db D.int goal):Nat):Int).toNat=n by omega]
  refine zh.rng0 (λi=>.int (goal.getD i 0 * (P.getD i []).getD j 0)) (by omega) (λi hi=>?_) ?_
  ·have k2:i < P.length:=by omega
   exact ⟨_,uc (j:=i) (by omega) rfl,_,Yx [] k2,_,uc (j:=j) (by rw [(hP _ (WW k2)).1]; exact hj) rfl,(qw bgo i).mono,(qw (hP _ (WW k2)).2 j).mono,rfl⟩
  ·have es:((cO n).map λi=>goal.getD i 0 * (P.getD i []).getD j 0).sum=zX goal P j:=by
    rw [<- en]
    exact QF (by rw [en,lP])
   refine ⟨(cO n).map λi=>goal.getD i 0 * (P.getD i []).getD j 0,by rw [cA]; rfl,bo.mono,?_,?_⟩
   ·rw [es]
    exact (QH bgo (λr h=>(hP r h).2) j).mono (by rw [en]; omega)
   ·rw [es]
 obtain ⟨ph,eph⟩:∃ ph,ph=(cO bs.length).map λj=>often * zX goal P j:=⟨_,rfl⟩
 have lph:ph.length=bs.length:=by rw [eph,a_,cx]
 have hph:∀ x∈ph,Bd 9 x:=λx hx=>by
  rw [eph] at hx
  obtain ⟨j,_,rfl⟩:=cw.mp hx
  exact (bo.mul (QH bgo (λr h=>(hP r h).2) j)).mono (by rw [en]; omega)
 rw [show (cO bs.length).map (λj=>D.int (often * zX goal P j))=ph.map D.int by rw [eph,cA]; rfl]
 show zh (dA xR (ph.map D.int) (bs.map zq)) _ _
 rw [zPq]
 refine vV (λq:Int × (Int × Int)=>xR (.int q.1) (zq q.2)) qV2 (λ_=>rfl) (λq=>.int (max (q.1 * q.2.1) (q.1 * q.2.2))) (by rw [dE]; omega) (λq hq=>?_) ?_
 ·obtain ⟨hc,hb⟩:=cW hq
  have b0:=(bb q.2 hb).1
  have b1:=(bb q.2 hb).2
  exact ⟨(hph _ hc).mono,b0.mono,(hph _ hc).mono,b1.mono,rfl⟩
 obtain ⟨wp,ewp⟩:∃ wp,wp=(ph.zip bs).map λq=>max (q.1 * q.2.1) (q.1 * q.2.2):=⟨_,rfl⟩
 have hwp:∀ x∈wp,Bd 114 x:=λx hx=>by
  rw [ewp] at hx
  obtain ⟨q,hq,rfl⟩:=cw.mp hx
  obtain ⟨hc,hb⟩:=cW hq
  exact kI ((hph _ hc).mul (bb q.2 hb).1) ((hph _ hc).mul (bb q.2 hb).2)
 have lwp:wp.length<=2:=by rw [ewp,a_,dE]; omega
 have wt:wp.sum=zf ph bs:=by rw [ewp]; exact zKS ph bs
 rw [show (ph.zip bs).map (λq=>D.int (max (q.1 * q.2.1) (q.1 * q.2.2)))=wp.map D.int by rw [ewp,cA]; rfl]
 have bwp:Bd 116 wp.sum:=(WS hwp).mono (by omega)
 refine ⟨wp,rfl,?_⟩
 refine zh.int (λc=>c * c) (by omega) (λc hc=>⟨(bgo c hc).mono,(bgo c hc).mono,rfl⟩) ?_
 have sq:∀ x∈goal.map (λc=>c * c),Bd 4 x:=λx hx=>by
  obtain ⟨c,hc,rfl⟩:=cw.mp hx
  exact (bgo c hc).mul (bgo c hc)
 have bsq:Bd 7 (goal.map λc=>c * c).sum:=(WS sq).mono (by rw [a_]; omega)
 have psq:=zNt gz
 refine ⟨_,rfl,bo.mono,bsq.mono,?_⟩
 have psz:1<=often * (goal.map λc=>c * c).sum:=by
  have:=lU o1 psq (by decide) (by omega)
  omega
 refine ⟨bdv.mono,bst.mono,by omega,(bo.mul bsq).mono,?_⟩
 have bfar:Bd 130 (0 - (0 - wp.sum - dv * step).fdiv (often * (goal.map λc=>c * c).sum)):=by
  rw [eA]
  refine (Bd.fdiv (n:=130) ?_ _).neg
  rw [eA]
  exact ((bwp.neg.mono (show 116<=120 by decide)).sub ((bdv.mul bst).mono)).mono
 refine ⟨by omega,by omega,?_⟩
 rw [show ((di (db D.int goal):Nat):Int).toNat=n by omega]
 refine zh.rng0 (λi=>L ((cO n).map λ(j:Nat)=>dv * if (i:Int)=(j:Int) then 1 else 0)) (by omega) (λi hi=>?_) ?_
 ·refine ⟨by omega,by omega,?_⟩
  rw [show ((di (db D.int goal):Nat):Int).toNat=n by omega]
  refine zh.rng0 (λj=>.int (dv * if (i:Int)=(j:Int) then 1 else 0)) (by omega) (λj hj=>⟨bdv.mono,?_,by rw [zOI]⟩) (by show D.lst _=L _; unfold L; rw [cA]; rfl)
  split
  ·exact (Bd.lit (i:=1) (n:=1)).mono
  ·exact xS
 obtain ⟨nx,enx⟩:∃ nx,nx=kR n dv:=⟨_,rfl⟩
 have le2:nx.length=n:=by rw [enx]; unfold kR; rw [a_,cx]
 have hnx:∀ r∈nx,r.length=n/\∀ x∈r,Bd 4 x:=λr hr=>by
  rw [enx] at hr
  obtain ⟨i,_,rfl⟩:=cw.mp hr
  refine ⟨by rw [a_,cx],λx hx=>?_⟩
  obtain ⟨j,_,rfl⟩:=cw.mp hx
  split
  ·rw [lK]; exact bdv.mono
  ·rw [dn]; exact xS
 rw [show (cO n).map (λ(i:Nat)=>L ((cO n).map λ(j:Nat)=>dv * if (i:Int)=(j:Int) then 1 else 0))=nx.map L by rw [enx]; unfold kR; rw [cA]; rfl]
 have hfar:=zRF (W:=wp.sum + dv * step) (show 0 < often * (goal.map λc=>c * c).sum by omega)
 rw [show 0 - (wp.sum + dv * step)=0 - wp.sum - dv * step by omega] at hfar
 have fin:∀ rows:List (List Int),rows.length<=1->(∀ r∈rows,r.length=n + 1/\∀ x∈r,Bd 110 x)->R (kH ⟨rows,nx,cj n 0,P,goal.map λc=>0 - c * (0 - (0 - wp.sum - dv * step).fdiv (often * (goal.map λc=>c * c).sum)),dv⟩):=λrows lr hr=>by
  refine q _ ⟨λr h=>(hr r h).1,by show rows.length<=900; omega,⟨le2,λr h=>(hnx r h).1⟩,df ..,⟨lP,λr h=>(hP r h).1⟩,by show (goal.map _).length=n; rw [a_]; exact en,dv1,g3,by omega⟩ (zRO (far:=0 - (0 - wp.sum - dv * step).fdiv (often * (goal.map λc=>c * c).sum)) en o1 s1 dv1 enx rfl (by rw [show (cM goal _ bs.length).map (often * ·)=ph by rw [eph]; unfold cM; rw [cA]; rfl,<- wt]; exact hfar)) ⟨λr h x hx=>((hnx r h).2 x hx).mono,λx hx=>by rw [dG hx]; exact xS,λr h x hx=>((hP r h).2 x hx).mono,λx hx=>?_,bdv.mono,λr h x hx=>((hr r h).2 x hx).mono,by show rows.length<=100; omega⟩ (λx hx=>dG hx) lr (λr h x hx=>((hP r h).2 x hx).mono) bdv
  obtain ⟨c,hc,rfl⟩:=cw.mp hx
  rw [eA]
  exact ((bgo c hc).mul bfar).neg.mono
 have rep:D.lst (cj n (D.int 0))=L (cj n 0):=by unfold L; rw [fC]
 refine ⟨k0,λΓ=>∃ (rows:List (List Int)) (s15:Sl),Γ=[.sh (L xs),.sh (L goal),.sh (.lst (bs.map zq)),.sh (.int often),.sh (.int step),.sh (.int ((db D.int goal).length:Int)),.sh (.int dv),.sh (.lst (P.map L)),s8,.sh (L ph),.sh (.int wp.sum),.sh (.int (often * (goal.map λc=>c * c).sum)),.sh (.int (0 - (0 - wp.sum - dv * step).fdiv (often * (goal.map λc=>c * c).sum))),.sh (Tb nx),.ow (rows.map U),s15]/\rows.length<=1/\∀ r∈rows,r.length=n + 1/\∀ x∈r,Bd 110 x,xT (by decide) (by omega) λx2 _=>⟨by decide,w2 (λc1=>?_) λc1=>⟨[],_,rfl,by decide,λ_ h=>nomatch h⟩⟩,?_⟩
 ·refine ⟨by omega,by omega,?_⟩
  rw [show ((di (db D.int goal):Nat):Int).toNat=n by omega]
  refine zh.nums (λx=>Bd 2 x) (by omega) (λi hi=>?_) λrw_ lrw hrw=>?_
  ·have bi:Bd 2 (i:Int):=jp (by omega)
   exact xT (by decide) (by omega) λx3 _=>⟨(Bd.lit (i:=5) (n:=3)).mono,bi.mono,by omega,Bd.mono (n:=10) (vk (f:=1000) (by decide) (by omega) (by omega)) (by decide),_,1,rfl,by decide,(Bd.lit (i:=1) (n:=1)).mono,λy y1 y2=>⟨y,rfl,vk (f:=3) (by decide) (by omega) (by omega)⟩⟩
  refine xT (by decide) (by omega) λx4 _=>⟨_,5,rfl,by decide,(Bd.lit (i:=5) (n:=3)).mono,λy y1 y2=>?_⟩
  have by3:Bd 3 y:=vk (f:=7) (by decide) (by omega) (by omega)
  refine ⟨by3.mono,bst.mono,k0,by rw [a_]; show _ + 1<=1000; omega,by decide,[rw_++[y * step]],.sh (L rw_),?_,by show 1<=1; decide,λr hr=>?_⟩
  ·rw [cT,iC,U,cq]
   rfl
  ·rw [cn.mp hr]
   exact ⟨by rw [b_,lrw]; rfl,u5 (λx hx=>(hrw x hx).mono) ((by3.mul bst).mono)⟩
 rintro Γ' ⟨rows,s15,rfl,lr,hr⟩
 have F:=fin rows lr hr
 refine ⟨k0,by omega,by omega,?_⟩
 rw [show ((di (db D.int goal):Nat):Int).toNat=n by omega,rep]
 exact zh.int (λc=>0 - c * (0 - (0 - wp.sum - dv * step).fdiv (often * (goal.map λc=>c * c).sum))) (by omega) (λc hc=>⟨(bgo c hc).mono,bfar.mono,rfl⟩) ⟨k0,F⟩
theorem zJ1 (F:ze K "_law_drift" "_law_drift" KQ f fd) (aq:Fn P w K mg base "_law_cell_at" ["_law_script","_law_k"] k (zG (Jv))) (ap:Fn P w K mg base "_law_stream" ["_law_cell","_law_many"] k (zG (WR))) (ak:Fn P w K mg base "_law_number" ["_law_x","_law_far"] k (zG (Yn))) (bH:Fn P w K mg base "_law_drift_mode" ["_law_xs","_law_goal","_law_pushes","_law_often","_law_step"] k (zG (Yv))):zF P w K mg base zT (k + 1) f fd ["_law_script"] (zG (zOT)):=by
 refine zz F v4 λ_ _ _ _ _ _ hr=>⟨_,(zH (zj 1 v4.nd (zQ aq hr rfl (zB (zA 0) (zB zD zC))))
  (zH (zj 2 v4.nd (zQ ap hr rfl (zB (zQ aq hr rfl (zB (zA 0) (zB zD zC))) (zB zD zC))))
  (zH (zj 3 v4.nd (zY zD (yq (wl (zA 1) zD) (zN (yC (zB zD (zB zD (zB (jW zD zD) (zB (jW zD zD) zC))))) (yq (zA 1) zD)))))
  (zH (zj 4 v4.nd (zY (zY zD (yq (yq (zN (zA 2) zD) zD) zD)) (wl (yq (wl (zN (zA 2) zD) zD) zD) zD)))
  (zH (u3 5 true v4.nd rfl rfl (own:=["_law_i"]) (caps:=[(2,"_law_xs")]) (yN v4) rfl rfl yX (wY rfl B.range_ (zB (zA 4) zC)) (λ_ _ _ _=>(yG 0 (zv ["_law_i","_law_xs"]))) (λ_ _ _ _=>(zQ ak hr rfl (zB (zN (zA 1) (zY zD (zA 0))) (zB zD zC)))) rfl)
  (uY (yS (zOs 5 (uw hr.units (zA 5) (yL (yC (zB zD zC)) (zA 4)))) (zM (yF (Kn zD (zQO (yI 5) zD Uj)) zPy)) yR)
  (zH (ve 6 v4.nd rfl (Or.inl rfl) zC)
  (zH (uH PassesOwn.never rfl (wY rfl B.range_ (zB (yq (zN (zA 2) zD) zD) zC)) (yG 7 v4.nd) (zM (yF (xb (wg cD cH cI yj (yI 6) (zg (xG (zB (wv zD (yL (yq (zN (zA 2) (zY zD (zA 7))) zD) (zA 3))) (zB (yL (yq (wl (zN (zA 2) (zY zD (zA 7))) zD) zD) (zA 3)) zC))) yO))) wm)))
  (zH (zj 8 v4.nd (zY zD (yq (zN (zA 2) zD) zD)))
  (zH (zj 9 v4.nd (zY zD (yq (zN (zA 2) zD) (zN (yC (zB zD (zB (zA 3) zC))) (yq (zN (zA 2) zD) zD)))))
  (zH (ve 10 v4.nd rfl (Or.inl rfl) zC)
  (zH (wy 5 (wy 6 (uH PassesOwn.never rfl (wY rfl B.range_ (zB (zY zD (yq (zN (zA 2) zD) zD)) zC)) (yG 7 v4.nd) (zM (yF (xb (wg cD cH cI yj (yI 10) (zg (zQ bH hr rfl (zB (xQ (zA 2) (xH (zY zD (yL zD (zA 7)))) xP) (zB (zA 5) (zB (zA 6) (zB (zA 8) (zB (zA 9) zC)))))) yO))) wm)))))
  (zM (wy 10 (zU (xG (zB (xG (zB (zA 4) (zB (zA 6) (zB (zA 10) (zB (zA 3) zC))))) (zB (zA 5) (zB (zA 8) (zB (zA 9) zC)))))))))))))))))))),λds R h=>?_⟩
 obtain ⟨ns,rfl,q⟩:=h
 refine ⟨ns,0,rfl,by decide,λfirst=>?_⟩
 refine ⟨ns,1,rfl,by decide,λc1=>⟨c1,24,rfl,by decide,λxs lx hx=>?_⟩⟩
 have key:∀ x∈[D.int 3,D.int 9,D.int (10 ^ (15:Int).toNat),D.int (10 ^ (30:Int).toNat)],vS (λv=>1<=v/\Bd 100 v) x:=λx hx=>by
  simp only [cz,cZ,or_false] at hx
  rcases hx with rfl | rfl | rfl | rfl <;> exact ⟨_,rfl,by decide,Bd.lit⟩
 have f4:=md first (show (0:Int) < 4 by decide)
 refine ⟨by decide,(Bd.lit (i:=4) (n:=3)).mono,⟨by decide,by decide,by decide⟩,⟨by decide,by decide,by decide⟩,k0,by decide,gB f4.1 (by show first.fmod 4 < 4; omega) λx hxk=>?_⟩
 obtain ⟨v,rfl,v1,bv⟩:=key x hxk
 have fv:=md (first.fdiv 4) (show (0:Int) < v by omega)
 have bu:Bd 100 (1 + (first.fdiv 4).fmod v):=bv.of_le (by omega)
 refine ⟨by omega,?_⟩
 refine xT (by decide) (by omega) λx0 h0=>⟨by decide,by decide,xT (by decide) (by omega) λx1 h1=>⟨by decide,(Bd.lit (i:=6) (n:=3)).mono,by decide,by decide,(Bd.lit (i:=7) (n:=3)).mono,?_⟩⟩
 obtain ⟨n,en,n1,n3⟩:∃ n:Nat,1 + (x0.fmod 3).fmod 2 + ((x1.fdiv 6).fmod 8).fdiv 7=(n:Int)/\1<=n/\n<=3:=by
  have a1:=md (x0.fmod 3) (show (0:Int) < 2 by decide)
  have a2:=md (x1.fdiv 6) (show (0:Int) < 8 by decide)
  rw [fdE (show (0:Int) < 7 by decide)]
  exact ⟨(1 + (x0.fmod 3).fmod 2 + (x1.fdiv 6).fmod 8 / 7).toNat,by omega,by omega,by omega⟩
 refine ⟨by omega,by omega,?_⟩
 rw [show (1 + (x0.fmod 3).fmod 2 + ((x1.fdiv 6).fmod 8).fdiv 7).toNat=n by omega]
 refine zh.nums (λx=>-2<=x/\x<=2) (by omega) (λk hk=>xT (by omega) (by omega) λx _=>⟨_,2,rfl,by decide,(Bd.lit (i:=2) (n:=2)).mono,λy y1 y2=>⟨y,rfl,y1,y2⟩⟩) λg0 lg0 hg0=>?_
 refine ⟨λΓ=>∃ g:List Int,Γ=[.sh (.scr ns),.sh (.int first),.sh (L xs),.sh (.int (1 + (first.fdiv 4).fmod v)),.sh (.int (n:Int)),.ow (g.map D.int),.no,.no,.no,.no,.no]/\g.length=n/\(∀ c∈g,-2<=c/\c<=2)/\∃ c∈g,c≠0,?_,?_⟩
 ·have rep:D.lst (cj (1 + (x0.fmod 3).fmod 2 + ((x1.fdiv 6).fmod 8).fdiv 7).toNat (D.int 0))=L (cj n 0):=by unfold L; rw [fC,show (1 + (x0.fmod 3).fmod 2 + ((x1.fdiv 6).fmod 8).fdiv 7).toNat=n by omega]
  refine ⟨k0,by omega,by omega,jJ _,by rw [rep]; exact jJ _,w2 (λc=>?_) λc=>?_⟩
  ·refine ⟨0,0,rfl,?_,g0.set 0 1,?_,by rw [dk]; exact lg0,λc hc=>?_,1,?_,by decide⟩
   ·unfold vJ
    rw [if_pos (by decide),if_pos (by rw [a_]; omega)]
    rfl
   ·rw [List.map_set,<- en]
    rfl
   ·rcases List.mem_or_eq_of_mem_set hc with hc | rfl
    ·exact hg0 c hc
    ·omega
   ·cases g0 with
    | nil=>rw [iK] at lg0; omega
    | cons a t=>exact cv
  ·rw [rep,zRL] at c
   exact ⟨g0,by rw [<- en]; rfl,lg0,hg0,Yy lg0 (of_decide_eq_false c)⟩
 rintro Γ' ⟨g,rfl,lg,bg,gz⟩
 refine ⟨k0,xT (by decide) (by omega) λx4 _=>⟨by decide,?_⟩⟩
 have m4:=md x4 (show (0:Int) < 3 by decide)
 refine ⟨by omega,by omega,?_⟩
 refine ⟨λk Γ=>∃ (bs:List (Int × Int)) (s7:Sl),Γ=[.sh (.scr ns),.sh (.int first),.sh (L xs),.sh (.int (1 + (first.fdiv 4).fmod v)),.sh (.int (n:Int)),.ow (g.map D.int),.ow (bs.map zq),s7,.no,.no,.no]/\bs.length=k/\∀ b∈bs,b.1<=b.2/\Bd 105 b.1/\Bd 105 b.2,⟨[],.no,rfl,rfl,λ_ h=>nomatch h⟩,?_,?_⟩
 ·rintro k d Γ' hk ⟨bs,s7,rfl,lb,hb⟩
  obtain ⟨kn,rfl⟩:=qj hk
  refine xT (by omega) (by omega) λy1 _=>⟨by decide,Bd.mono (n:=2) (vj Bd.lit (by decide)) (by decide),bu.mono,xT (by omega) (by omega) λy2 _=>⟨by decide,(Bd.lit (i:=3) (n:=2)).mono,by decide,Bd.mono (n:=2) (vj Bd.lit (by decide)) (by decide),bu.mono,k0,by rw [a_]; omega,?_⟩⟩
  have a1:=md y1 (show (0:Int) < 3 by decide)
  have a2:=md (y2.fdiv 3) (show (0:Int) < 3 by decide)
  have g1:0<=y1.fmod 3 * (1 + (first.fdiv 4).fmod v):=ic a1.1 (by omega)
  have g2:0<=(y2.fdiv 3).fmod 3 * (1 + (first.fdiv 4).fmod v):=ic a2.1 (by omega)
  have e1:Bd 102 (y1.fmod 3 * (1 + (first.fdiv 4).fmod v)):=(vj (n:=2) Bd.lit (by decide)).mul bu
  have e2:Bd 102 ((y2.fdiv 3).fmod 3 * (1 + (first.fdiv 4).fmod v)):=(vj (n:=2) Bd.lit (by decide)).mul bu
  refine ⟨bs++[(0 - y1.fmod 3 * (1 + (first.fdiv 4).fmod v),(y2.fdiv 3).fmod 3 * (1 + (first.fdiv 4).fmod v))],.sh (.int (k:Int)),?_,by rw [b_,lb]; rfl,u5 hb ⟨by show 0 - _<=_; omega,by show Bd 105 (0 - _); rw [eA]; exact e1.neg.mono,e2.mono⟩⟩
  rw [cq]
  rfl
 rintro Γ' ⟨bs,s7,rfl,lb,hb⟩
 rw [qk] at lb
 refine xT (by decide) (by omega) λx7 _=>⟨by decide,?_⟩
 have m7:=md x7 (show (0:Int) < 3 by decide)
 refine xT (by decide) (by omega) λx8 _=>⟨k0,xT (by decide) (by omega) λx9 _=>⟨by decide,gB (md x9 (by decide)).1 (by have:=md x9 (show (0:Int) < 2 by decide); show x9.fmod 2 < 2; omega) λz hz=>?_⟩⟩
 obtain ⟨w,rfl,w1,bw⟩:vS (λw=>1<=w/\Bd 100 w) z:=by
  rcases cz.mp hz with rfl | hz
  ·exact ⟨1,rfl,by decide,Bd.lit⟩
  ·rw [cn.mp hz]
   exact ⟨_,rfl,by omega,bu⟩
 have m8:=md x8 (show (0:Int) < w by omega)
 have bst:Bd 101 (1 + x8.fmod w):=(bw.of_le (by omega)).mono
 refine ⟨by omega,k0,xT (by decide) (by omega) λx10 _=>⟨by decide,?_⟩⟩
 have m10:=md x10 (show (0:Int) < 3 by decide)
 refine ⟨by omega,by omega,?_⟩
 refine ⟨λk Γ=>∃ (ms:List MD) (s7:Sl),Γ=[.sh (.scr ns),.sh (.int first),.sh (L xs),.sh (.int (1 + (first.fdiv 4).fmod v)),.sh (.int (n:Int)),.sh (L g),.sh (.lst (bs.map zq)),s7,.sh (.int (1 + x7.fmod 3)),.sh (.int (1 + x8.fmod w)),.ow (ms.map kH)]/\ms.length=k/\∀ m∈ms,wV m n bs.length/\Ym 200 m/\(∀ x∈m.steer,x=0)/\m.rows.length<=1/\(∀ r∈m.push,∀ x∈r,Bd 100 x)/\Bd 3 m.div/\uh n bs g (1 + x7.fmod 3) (1 + x8.fmod w) m,⟨[],_,rfl,rfl,λ_ h=>nomatch h⟩,?_,?_⟩
 ·rintro k d Γ' hk ⟨ms,s7,rfl,lm,hm⟩
  obtain ⟨kn,rfl⟩:=qj hk
  have kn3:k < 3:=by omega
  have ec:yc (xs.map D.int) (some (10 + 4 * (k:Int))) none=(xs.drop (10 + 4 * k)).map D.int:=by rw [show 10 + 4 * (k:Int)=((10 + 4 * k:Nat):Int) by omega,Ju,ir]
  refine ⟨(Bd.lit (i:=4) (n:=3)).mono,(jp (by omega)).mono,xs.drop (10 + 4 * k),g,bs,_,_,by rw [ec],by rw [ej]; omega,λx hx'=>hx x (iN hx'),by omega,by omega,bg,gz,by omega,λb hb'=>(hb b hb').2,by omega,by omega,by omega,bst,λm o1 ox o2 o3 o4 o5 o6=>⟨by rw [a_]; omega,ms++[m],.sh (.int (k:Int)),by rw [cq]; rfl,by rw [b_,lm]; rfl,u5 hm ⟨by rw [<- lg]; exact o1,o2,o3,o4,o5,o6,by rw [<- lg]; exact ox⟩⟩⟩
 rintro Γ' ⟨ms,s7,rfl,lm,hm⟩
 rw [qk] at lm
 refine ⟨k0,k0,q n bs ms _ g _ _ ⟨⟨n1,n3,λb hb'=>(hb b hb').1,by omega,by omega,by omega,λm hm'=>(hm m hm').1⟩,λm hm'=>(hm m hm').2.1,cR.mpr λm hm'=>cR.mpr λx hx'=>decide_eq_true ((hm m hm').2.2.1 x hx'),λb hb'=>(hb b hb').2,by omega,bu,lg,bg,by omega,by omega,by omega,bst,by omega,by omega,λm hm'=>(hm m hm').2.2.2.1,λm hm'=>(hm m hm').2.2.2.2.1,λm hm'=>(hm m hm').2.2.2.2.2.1,λm hm'=>(hm m hm').2.2.2.2.2.2⟩⟩
theorem zIc (F:ze K "_law_pushed" "_law_pushed" KR f fd) (aw:Fn P w K mg base "_law_both" ["_law_numbers"] k (zG (QG))):zF P w K mg base zT (k + 1) f fd ["_law_spec","_law_mode","_law_numbers"] (zG (zOK)):=by
 refine zz F j1 λ_ _ _ _ _ _ hr=>⟨_,(zH (uz (zA 1) (xz rfl (zc 3 j1.nd (zc 4 j1.nd (zc 5 j1.nd (zc 6 j1.nd (zc 7 j1.nd (zc 8 j1.nd xy))))))))
  (zM (zU (zQ aw hr rfl (zB (yd (own:=["_law_j"]) (caps:=[(0,"_law_spec"),(2,"_law_numbers"),(6,"_law_push")]) (yN j1) rfl rfl yX (wY rfl B.range_ (zB (zt yu yx rfl B.len_ yw (zB (zN (zA 0) zD) zC)) zC)) (λ_ _ _ _=>(yG 0 (zv ["_law_j","_law_spec","_law_numbers","_law_push"]))) (λ_ _ _ _=>(zt (gh rfl) gt rfl B.sum_ gg (zB (yd (own:=["_law_i"]) (caps:=[(0,"_law_j"),(2,"_law_numbers"),(3,"_law_push")]) WD rfl rfl yX (wY rfl B.range_ (zB (zN (zA 1) zD) zC)) (λ_ _ _ _=>(yG 0 (zv ["_law_i","_law_j","_law_numbers","_law_push"]))) (λ_ _ _ _=>(yL (zN (zA 2) (zA 0)) (zN (zN (zA 3) (zA 0)) (zA 1))))) zC)))) zC))))),λds R h=>?_⟩
 obtain ⟨n,bs,ms,u,m,d,ns,rfl,n3,b2,o,bp,h,ln,bn,q⟩:=h
 have lb:(db zq bs).length=bs.length:=a_ ..
 refine ⟨_,rfl,by omega,by omega,?_⟩
 rw [show ((di (db zq bs):Nat):Int).toNat=bs.length by omega]
 refine zh.rng0 (λj=>.int (zX ns m.push j)) (by omega) (λj hj=>?_) ⟨_,cM ns m bs.length,rfl,.inl (.inl (by unfold cM L; rw [cA]; rfl)),by rw [gD]; omega,q⟩
 refine ⟨_,rfl,by omega,by omega,?_⟩
 rw [show ((n:Nat):Int).toNat=n by omega]
 refine zh.rng0 (λi=>.int (ns.getD i 0 * (m.push.getD i []).getD j 0)) (by omega) (λi hi=>?_) ⟨(cO n).map λi=>ns.getD i 0 * (m.push.getD i []).getD j 0,by rw [cA]; rfl,?_⟩
 ·have k2:i < m.push.length:=by rw [o.push.1]; exact hi
  refine h.ix (by omega) ⟨_,Yx [] k2,_,uc (j:=j) (by rw [o.push.2 _ (WW k2)]; exact hj) rfl,(qw bn i).mono,(qw (bp _ (WW k2)) j).mono,rfl⟩
 ·show D.int _=D.int _
  rw [<- QF (by rw [ln,o.push.1]),ln]
theorem zHo (F:ze K "_law_falling" "_law_falling" KS f fd) (ap:Fn P w K mg base "_law_stream" ["_law_cell","_law_many"] k (zG (WR))) (bI:Fn P w K mg base "_law_box" ["_law_cell","_law_many","_law_unit"] k (zG (Yo))) (ak:Fn P w K mg base "_law_number" ["_law_x","_law_far"] k (zG (Yn))) (aJ:Fn P w K mg base "_law_top" ["_law_numbers","_law_box_here"] k (zG (zRH))):zF P w K mg base zT (k + 1) f fd ["_law_spec","_law_goal","_law_often","_law_step","_law_cell"] (zG (zOS)):=by
 refine zz F uk λ_ _ _ _ _ _ hr=>⟨_,(zH (zj 5 uk.nd (zQ ap hr rfl (zB (zA 4) (zB zD zC))))
  (zH (zj 6 uk.nd (zQ bI hr rfl (zB (zN (zA 5) zD) (zB (zN (zA 0) zD) (zB (zN (zA 0) zD) zC)))))
  (zH (zj 7 uk.nd (yL (zQ ak hr rfl (zB (zN (zA 5) zD) (zB zD zC))) (zN (zA 0) zD)))
  (zH (zj 8 uk.nd (zN (yC (zB zD (zB zD (zB (yq (zN (zA 5) zD) (zY zD (zN (zA 0) zD))) zC)))) (yq (zN (zA 5) zD) zD)))
  (zH (zj 9 uk.nd (y4 w8 vC rfl B.tuple_ wH (zB (zY (yd (own:=["_law_c"]) (caps:=[(2,"_law_often")]) (yN uk) rfl rfl yX (y6 (zA 1)) (λ_ _ _ _=>(yG 0 (zv ["_law_c","_law_often"]))) (λ_ _ _ _=>(yL (zA 1) (zA 0)))) (yC (zB (wv (zA 8) (yL (zA 2) (zA 7))) zC))) zC)))
  (zH (zj 10 uk.nd (zY (zY (zQ aJ hr rfl (zB (xQ (zA 9) xP (xH (yr zD))) (zB (zA 6) zC))) (zN (zA 9) (yr zD))) (yq (wl (zN (zA 5) zD) zD) zD)))
  (zH (zj 11 uk.nd (zt (ga rfl) gu rfl B.max_ gf (zB zD (zB (zY (wl (zA 10) (zA 3)) (zN (yC (zB zD (zB zD (zB zD (zB zD zC))))) (yq (zN (zA 5) zD) zD))) zC))))
  (zH (ve 12 uk.nd rfl (Or.inl rfl) (zB (y4 w8 vC rfl B.tuple_ wH (zB (zY (zA 1) (yC (zB (zA 7) zC))) zC)) zC))
  (zH (ve 13 uk.nd rfl (Or.inl rfl) zC)
  (uY (yS (uw hr.units (yq (zN (zA 5) zD) zD) zD) (zH (yF (xb (wg cD cH cI yj (yI 13) (zg (y4 w8 vC rfl B.tuple_ wH (zB (zY (zA 1) (yC (zB (zY (zQ aJ hr rfl (zB (zA 1) (zB (zA 6) zC))) (yq (wl (zN (zA 5) zD) zD) zD)) zC))) zC)) yO))) wm)
   (zM (yS (PW.pt (U3 (uw hr.units (yq (wl (zN (zA 5) zD) zD) zD) zD) (U2 (zN0 (zA 7) (zN (zN1 13 zD (λ_ _=>rfl)) (yr zD)))))) (zM (yF (xb (wg cD cH cI yj (yI 12) (zg (y4 w8 vC rfl B.tuple_ wH (zB (zY (zA 1) (yC (zB (zY (zY (zN (zN1 13 zD (λ_ _=>rfl)) (yr zD)) zD) (yq (wl (zN (zA 5) zD) zD) zD)) zC))) zC)) yO))) wm)) yR))) yR)
  (zM (wy 12 (wy 13 (zU (xG (zB (zA 6) (zB (zA 13) (zB (zA 12) (zB (zA 9) (zB (zA 10) (zB (zA 11) zC))))))))))))))))))))),λds R h=>?_⟩
 obtain ⟨n,bs,ms,u,goal,often,step,c,rfl,dr,q⟩:=h
 have n3:=dr.ok.n3
 have u1:=dr.u1
 have o1:=dr.o1
 have o3:=dr.o3
 have s1:=dr.s1
 have lg:=dr.lg
 have lgm:(db D.int goal).length=n:=by rw [a_]; exact lg
 have bo:Bd 2 often:=vk (f:=3) (by decide) (by omega) (by omega)
 have bgo:∀ c∈goal,Bd 2 c:=λc hc=>vk (f:=3) (by decide) (by have:=dr.bg c hc; omega) (by have:=dr.bg c hc; omega)
 refine ⟨c,6,rfl,by decide,λxs lx hx=>?_⟩
 refine xT (by decide) (by omega) λx0 _=>⟨_,rfl,_,rfl,x0,n,u,rfl,n3,by omega,dr.bu,λbox lbx hbx=>?_⟩
 refine xT (by decide) (by omega) λx1 _=>⟨_,4,rfl,by decide,(Bd.lit (i:=4) (n:=3)).mono,λy y1 y2=>⟨_,rfl,?_⟩⟩
 have by3:Bd 3 y:=vk (f:=7) (by decide) (by omega) (by omega)
 refine ⟨by3.mono,dr.bu.mono,?_⟩
 have bbd:Bd 103 (y * u):=by3.mul dr.bu
 refine xT (by decide) (by omega) λx2 _=>⟨_,rfl,by omega,k0,xT (by decide) (by omega) λx3 _=>⟨by decide,gB (md x3 (by decide)).1 (by have:=md x3 (show (0:Int) < 3 by decide); show x3.fmod 3 < 3; omega) λz hz=>?_⟩⟩
 have m2:=md x2 (show (0:Int) < 1 + u by omega)
 obtain ⟨sl,rfl,sl0,bsl⟩:vS (λs=>0<=s/\Bd 102 s) z:=by
  simp only [cz,cZ,or_false] at hz
  rcases hz with rfl | rfl | rfl
  ·exact ⟨0,rfl,eG _,xS⟩
  ·exact ⟨0,rfl,eG _,xS⟩
  ·exact ⟨_,rfl,m2.1,(dr.bu.of_le (by omega)).mono⟩
 refine zh.int (λc=>often * c) (by omega) (λc hc=>⟨bo.mono,(bgo c hc).mono,rfl⟩) ⟨bo.mono,bbd.mono,k0,by rw [a_,a_]; show _ + 1<=1000; omega,?_⟩
 have bws:∀ x∈goal.map (λc=>often * c),Bd 4 x:=λx hx'=>by
  obtain ⟨c,hc,rfl⟩:=cw.mp hx'
  exact bo.mul (bgo c hc)
 have bme:Bd 108 (sl - often * (y * u)):=((bsl.mono (show 102<=105 by decide)).sub ((bo.mul bbd).mono)).mono
 obtain ⟨t,et⟩:∃ t,t=zf (goal.map (λc=>often * c)) box:=⟨_,rfl⟩
 have bt:Bd 120 t:=by rw [et]; exact (Jw bws λb hb'=>(hbx b hb').2).mono (by rw [a_]; omega)
 refine ⟨_,goal.map (λc=>often * c),box,105,rfl,.inl (.inr (by rw [zRT])),by rw [a_]; omega,λx hx'=>(bws x hx').mono,by decide,λb hb'=>(hbx b hb').2,?_⟩
 rw [<- et]
 refine ⟨_,Yz _ _,xT (by decide) (by omega) λx4 _=>⟨by decide,(Bd.lit (i:=3) (n:=2)).mono,by decide,?_⟩⟩
 have btp:Bd 125 (t + (sl - often * (y * u)) + (x4.fdiv 3).fmod 2):=(((bt.mono (show 120<=121 by decide)).add bme.mono).add ((vj (n:=2) Bd.lit (by decide)).mono)).mono
 refine ⟨by omega,dr.bst.mono,k0,xT (by decide) (by omega) λx5 _=>⟨by decide,gB (md x5 (by decide)).1 (by have:=md x5 (show (0:Int) < 4 by decide); show x5.fmod 4 < 4; omega) λz2 hz2=>?_⟩⟩
 obtain ⟨w,rfl,bw⟩:vS (Bd 3) z2:=by
  simp only [cz,cZ,or_false] at hz2
  rcases hz2 with rfl | rfl | rfl | rfl <;> exact ⟨_,rfl,Bd.lit⟩
 refine ⟨k0,by rw [a_]; show _ + 1<=1000; omega,k0,k0,?_⟩
 rw [ui,ui]
 have brow:∀ z:Int,Bd 130 z->(goal++[z]).length=n + 1/\∀ x∈goal++[z],Bd 130 x:=λz hz=>⟨by rw [b_,lg]; rfl,u5 (λx hx'=>(bgo x hx').mono) hz⟩
 refine ⟨λΓ=>∃ room aims:List (List Int),Γ=[.sh (wQ n bs ms u),.sh (D.scr goal),.sh (.int often),.sh (.int step),.sh (.int c),.sh (L xs),.sh (.lst (box.map zq)),.sh (.int (y * u)),.sh (.int sl),.sh (U (goal.map (λc=>often * c)++[sl - often * (y * u)])),.sh (.int (t + (sl - often * (y * u)) + (x4.fdiv 3).fmod 2)),.sh (.int (max 0 ((t + (sl - often * (y * u)) + (x4.fdiv 3).fmod 2).fdiv step + w))),.ow (aims.map U),.ow (room.map U)]/\(∀ r∈room,r.length=n + 1/\∀ x∈r,Bd 130 x)/\room.length<=1/\(∀ r∈aims,r.length=n + 1/\∀ x∈r,Bd 130 x)/\aims.length<=2/\ShX goal box (y * u) room aims,?_,?_⟩
 ·refine xT (by decide) (by omega) λx6 _=>⟨by decide,w2 (λc1=>?_) λc1=>⟨[],[goal++[y * u]],rfl,(λ_ h=>nomatch h),by decide,(λr hr=>by rw [cn.mp hr]; exact brow _ bbd.mono),by show 1<=2; decide,.inl ⟨rfl,rfl⟩⟩⟩
  obtain ⟨t2,et2⟩:∃ t,t=zf goal box:=⟨_,rfl⟩
  have bt2:Bd 120 t2:=by rw [et2]; exact (Jw bgo λb hb'=>(hbx b hb').2).mono (by omega)
  refine ⟨_,goal,box,105,rfl,.inr rfl,by omega,λx hx'=>(bgo x hx').mono,by decide,λb hb'=>(hbx b hb').2,?_⟩
  rw [<- et2]
  refine xT (by decide) (by omega) λx7 _=>⟨by decide,(Bd.lit (i:=2) (n:=2)).mono,by decide,k0,by rw [a_]; show _ + 1<=1000; omega,by decide,?_⟩
  have b2:Bd 122 (t2 + (x7.fdiv 2).fmod 3):=((bt2.mono (show 120<=121 by decide)).add ((vj (n:=2) Bd.lit (by decide)).mono)).mono
  rw [ui]
  have m7:=md (x7.fdiv 2) (show (0:Int) < 3 by decide)
  have fin1:∀ a2:List (List Int),a2.length<=1->(∀ r∈a2,r.length=n + 1/\∀ x∈r,Bd 130 x)->(∀ r∈[goal++[t2 + (x7.fdiv 2).fmod 3]],r.length=n + 1/\∀ x∈r,Bd 130 x)/\[goal++[t2 + (x7.fdiv 2).fmod 3]].length<=1/\(∀ r∈[goal++[y * u]]++a2,r.length=n + 1/\∀ x∈r,Bd 130 x)/\([goal++[y * u]]++a2).length<=2:=λa2 l2 h2=>⟨λr hr=>by rw [cn.mp hr]; exact brow _ b2.mono,by show 1<=1; decide,λr hr=>by
   rcases cN.mp hr with hr | hr
   ·rw [cn.mp hr]; exact brow _ bbd.mono
   ·exact h2 r hr,by rw [b_]; show 1 + _<=2; omega⟩
  have Z1:∀ {Q:Prop},Q->(∀ r∈[goal++[t2 + (x7.fdiv 2).fmod 3]],r.length=n + 1/\∀ x∈r,Bd 130 x)/\[goal++[t2 + (x7.fdiv 2).fmod 3]].length<=1/\(∀ r∈[goal++[y * u]],r.length=n + 1/\∀ x∈r,Bd 130 x)/\[goal++[y * u]].length<=2/\Q:=λz=>let ⟨a,b,c,d⟩:=fin1 [] (by decide) (λ_ h=>nomatch h); ⟨a,b,c,d,z⟩
  refine xT (by decide) (by omega) λx8 _=>⟨by decide,(Bd.lit (i:=8) (n:=4)).mono,by decide,w2 (λc2=>?_) λc2=>wF rfl ⟨[goal++[t2 + (x7.fdiv 2).fmod 3]],[goal++[y * u]],rfl,Z1 (.inr ⟨_,rfl,by omega,.inl rfl⟩)⟩⟩
  refine ⟨_,rfl,_,gA _ _,w2 (λc3=>?_) λc3=>⟨[goal++[t2 + (x7.fdiv 2).fmod 3]],[goal++[y * u]],rfl,Z1 (.inr ⟨_,rfl,by omega,.inl rfl⟩)⟩⟩
  refine ⟨_,rfl,_,gA _ _,xT (by decide) (by omega) λx9 _=>⟨by decide,(Bd.lit (i:=16) (n:=5)).mono,by decide,k0,by rw [a_]; show _ + 1<=1000; omega,by show 1 < 1000; decide,?_⟩⟩
  have m9:=md (x9.fdiv 16) (show (0:Int) < 3 by decide)
  have b3:Bd 125 (t2 + (x7.fdiv 2).fmod 3 + 1 + (x9.fdiv 16).fmod 3):=(((b2.add ((Bd.lit (i:=1) (n:=1)).mono)).mono (show 123<=124 by decide)).add ((vj (n:=2) Bd.lit (by decide)).mono)).mono
  rw [ui]
  exact ⟨[goal++[t2 + (x7.fdiv 2).fmod 3]],[goal++[y * u]]++[goal++[t2 + (x7.fdiv 2).fmod 3 + 1 + (x9.fdiv 16).fmod 3]],rfl,let ⟨a,b,c,d⟩:=fin1 [goal++[t2 + (x7.fdiv 2).fmod 3 + 1 + (x9.fdiv 16).fmod 3]] (by show 1<=1; decide) (λr hr=>by rw [cn.mp hr]; exact brow _ b3.mono); ⟨a,b,c,d,.inr ⟨_,rfl,by omega,.inr ⟨_,by omega,rfl⟩⟩⟩⟩
 rintro Γ' ⟨room,aims,rfl,h1,h2,h3,h4,h5⟩
 have m4:=md (x4.fdiv 3) (show (0:Int) < 2 by decide)
 refine ⟨k0,q box room aims _ _ _ _ ⟨lbx,λb hb'=>(hbx b hb').2,h1,h2,h3,h4,by rw [a_]; exact lg,λx hx'=>(bws x hx').mono,bme.mono,btp,by omega,kI xS (((Bd.fdiv btp _).add bw.mono).mono),λb hb'=>(hbx b hb').1⟩ ⟨rfl,by show zf (goal.map (λc=>often * c)) box + _<=_; rw [<- et]; omega,y * u,by rw [Int.mul_sub,dn]; omega,h5⟩⟩
theorem zFf (F:ze K "_law_fall_parts" "_law_fall_parts" KT f fd) (aw:Fn P w K mg base "_law_both" ["_law_numbers"] k (zG (QG))) (aK:Fn P w K mg base "_law_pushed" ["_law_spec","_law_mode","_law_numbers"] k (zG (zOK))):zF P w K mg base zT (k + 1) f fd ["_law_spec","_law_goal","_law_often","_law_step","_law_told"] (zG (zOL)):=by
 refine zz F wq λ_ _ _ _ _ _ hr=>⟨_,(uY (uz (zA 4) (xz rfl (zc 5 wq.nd (zc 6 wq.nd (zc 7 wq.nd (zc 8 wq.nd (zc 9 wq.nd (zc 10 wq.nd xy))))))))
  (zH (u3 11 false wq.nd rfl rfl (own:=["_law_row"]) (caps:=[]) (yN wq) rfl rfl yX (y6 (zA 6)) (λ_ _ _ _=>(yG 0 (zv ["_law_row"]))) (λ_ _ _ _=>(xG (zB zD (zB (zQ aw hr rfl (zB (xQ (zA 0) xP (xH (yr zD))) zC)) zC)))) rfl)
  (zH (ve 12 wq.nd rfl (Or.inl rfl) zC)
  (zH (ve 13 wq.nd rfl (Or.inl rfl) zC)
  (zH (uH PassesOwn.never rfl (y6 (zN (zA 0) zD)) (yG 14 wq.nd) (zH (zj 15 wq.nd (yL (yC (zB zD zC)) (zt yu yx rfl B.len_ yw (zB (zN (zA 14) zD) zC))))
   (zH (yF (xb (wg cD cH cI yj (yI 12) (zg (yd (own:=["_law_row"]) (caps:=[(0,"_law_spec"),(1,"_law_goal"),(14,"_law_mode"),(15,"_law_none")]) (yN wq) rfl rfl yX (y6 (zA 6)) (λ_ _ _ _=>(yG 0 (zv ["_law_row","_law_spec","_law_goal","_law_mode","_law_none"]))) (λ_ _ _ _=>(xG (zB zD (zB (zY (zY (yC (zB (zN (zA 3) zD) zC)) (zA 4)) (zQ aK hr rfl (zB (zA 1) (zB (zA 3) (zB (zA 2) zC))))) zC))))) yO))) wm)
   (zH (ve 16 wq.nd rfl (Or.inl rfl) (zB (xG (zB zD (zB (zY (zY (zY (yL (yC (zB zD zC)) (zt yu yx rfl B.len_ yw (zB (zA 6) zC))) (zA 15)) (yC (zB zD zC))) (zQ aK hr rfl (zB (zA 0) (zB (zA 14) (zB (xQ (zA 8) xP (xH (yr zD))) zC))))) zC))) zC))
   (uY (yS (qi (zt yu yx rfl B.len_ yw (zB (zA 7) zC)) zD) (zM (yF (xb (wg cD cH cI yj (yI 16) (zg (xG (zB zD (zB (zY (zY (zY (yC (zB zD zC)) (zA 15)) (yC (zB zD zC))) (yL (yC (zB zD zC)) (yL zD (zt yu yx rfl B.len_ yw (zB (zN (zA 0) zD) zC))))) zC))) yO))) wm)) yR)
   (zM (wy 16 (yF (xb (wg cD cH cI yj (yI 13) (zg (zA 16) yO))) wm))))))))
  (zH (ve 17 wq.nd rfl (Or.inl rfl) (zB (xG (zB zD (zB (zY (yL (yC (zB zD zC)) (zt yu yx rfl B.len_ yw (zB (zA 6) zC))) (yC (zB (zA 2) zC))) zC))) zC))
  (uY (yS (qi (zt yu yx rfl B.len_ yw (zB (zA 7) zC)) zD) (zM (yF (xb (wg cD cH cI yj (yI 17) (zg (xG (zB zD (zB (yC (zB zD (zB zD zC))) zC))) yO))) wm)) yR)
  (zH (zj 18 wq.nd (xG (zB zD (zB (zQ aw hr rfl (zB (xQ (zA 8) xP (xH (yr zD))) zC)) zC))))
  (zH (wy 12 (zj 19 wq.nd (yC (zB (zA 6) (zB (zA 11) (zB (zA 12) (zB (zA 8) (zB (zA 3) zC))))))))
  (zM (wy 13 (wy 17 (zU (zY (zA 19) (yC (zB (zA 9) (zB (zA 13) (zB (zA 17) (zB (zA 18) zC))))))))))))))))))),λds R h=>?_⟩
 obtain ⟨n,bs,ms,u,goal,often,step,box,room,aims,ws,b,tp,tu,rfl,dr,fl,q⟩:=h
 have n3:=dr.ok.n3
 have b2:=dr.b2
 have m3:=dr.m3
 have r1:=fl.r1
 have lw:=fl.lw
 have lr:(db U room).length=room.length:=a_ ..
 have lb:(db zq bs).length=bs.length:=a_ ..
 have la:(db U aims).length=aims.length:=a_ ..
 have bgo:∀ c∈goal,Bd 2 c:=λc hc=>vk (f:=3) (by decide) (by have:=dr.bg c hc; omega) (by have:=dr.bg c hc; omega)
 refine ⟨λΓ=>Γ=[.sh (wQ n bs ms u),.sh (D.scr goal),.sh (.int often),.sh (.int step),.sh (vm box room aims ws b tp tu),.sh (.lst (box.map zq)),.sh (Rm room),.sh (Rm aims),.sh (U (ws++[b])),.sh (.int tp),.sh (.int tu),.no,.no,.no,.no,.no,.no,.no,.no,.no],rfl,?_⟩
 rintro Γ' rfl
 refine vV U yB ub (λr=>zS (1,yP (r.take n))) (by omega) (λr hr=>?_) ?_
 ·have h:=fl.rm r hr
  exact ⟨_,r.take n,rfl,.inl (.inr (by rw [vi h.1])),by rw [cK]; omega,k0,rfl⟩
 rw [show (room.map λr=>zS (1,yP (r.take n)))=(vX n room).map zS by unfold vX; rw [cA]; rfl]
 refine ⟨k0,k0,_,rfl,?_⟩
 refine ⟨λk Γ=>∃ (s14 s15 s16:Sl),Γ=[.sh (wQ n bs ms u),.sh (D.scr goal),.sh (.int often),.sh (.int step),.sh (vm box room aims ws b tp tu),.sh (.lst (box.map zq)),.sh (Rm room),.sh (Rm aims),.sh (U (ws++[b])),.sh (.int tp),.sh (.int tu),.sh (yM (vX n room)),.ow (((ms.take k).map (w4 goal bs.length room)).map yM),.ow (((ms.take k).map (xn room aims ws bs.length)).map yM),s14,s15,s16,.no,.no,.no],⟨_,_,_,rfl⟩,?_,?_⟩
 ·rintro k d Γ' hk ⟨s14,s15,s16,rfl⟩
  obtain ⟨m,hg,rfl⟩:=Yq hk
  have hm:=dh hg
  have kl:=(cP.mp hg).1
  have om:=dr.ok.mok m hm
  have rm1:=dr.r1 m hm
  have lrw:(db U m.rows).length=m.rows.length:=a_ ..
  have bp:=dr.pb m hm
  refine ⟨k0,_,rfl,by omega,by omega,?_⟩
  rw [show ((di (db U m.rows):Nat):Int).toNat=m.rows.length by omega,kS]
  refine vV U yB ub (λ_=>zS (vz goal bs.length m)) (by omega) (λr hr=>?_) ?_
  ·refine ⟨_,rfl,k0,by rw [a_,xA]; show 1 + _<=1000; omega,n,bs,ms,u,m,_,goal,rfl,n3,b2,om,bp,.inr rfl,dr.lg,λx hx=>(bgo x hx).mono,by rw [b_,a_,a_,xA,uJ,gD]; show 1 + _ + _<=1000; omega,k0,?_⟩
   exact Y0 1 (by rw [cq,cq]; rfl)
  rw [show (room.map λ_=>zS (vz goal bs.length m))=(w4 goal bs.length room m).map zS by unfold w4; rw [cA]; rfl]
  refine ⟨by rw [a_,a_,cK]; omega,?_⟩
  refine ⟨k0,by omega,by omega,?_⟩
  rw [show ((di (db U room):Nat):Int).toNat=room.length by omega,kS]
  refine ⟨by rw [a_,a_,xA,xA]; omega,k0,by rw [b_,a_,a_,xA,xA]; show _ + 1<=1000; omega,n,bs,ms,u,m,_,ws,rfl,n3,b2,om,bp,.inl (.inr (by rw [uI])),lw,λx hx=>(fl.bw x hx).mono,by rw [b_,b_,a_,a_,a_,xA,xA,uJ,gD]; show _ + 1 + _<=1000; omega,k0,k0,?_⟩
  rw [Y0 1 (ns:=zs room.length++zs m.rows.length++[0]++yP (cM ws m bs.length)) (by rw [cq,cq,cq]; rfl)]
  refine ⟨λΓ=>Γ=[.sh (wQ n bs ms u),.sh (D.scr goal),.sh (.int often),.sh (.int step),.sh (vm box room aims ws b tp tu),.sh (.lst (box.map zq)),.sh (Rm room),.sh (Rm aims),.sh (U (ws++[b])),.sh (.int tp),.sh (.int tu),.sh (yM (vX n room)),.ow (((ms.take (k + 1)).map (w4 goal bs.length room)).map yM),.ow (((ms.take k).map (xn room aims ws bs.length)).map yM),.sh (wc m),.sh (L (zs m.rows.length)),.ow ((xn room aims ws bs.length m).map zS),.no,.no,.no],w2 (λc1=>?_) λc1=>?_,?_⟩
  ·have c1:1 < aims.length:=by have:=of_decide_eq_true c1; omega
   refine ⟨k0,by rw [a_,xA]; show 1 + _<=1000; omega,k0,by rw [b_,a_,xA]; show 1 + _ + 1<=1000; omega,k0,_,rfl,(Bd.lit (i:=2) (n:=2)).mono,(jp (by omega)).mono,by omega,by omega,by rw [b_,b_,a_,xA,df]; show 1 + _ + 1 + _<=1000; omega,k0,by show 1 < 1000; decide,?_⟩
   rw [kS,show (2 * ((di (db zq bs):Nat):Int)).toNat=2 * bs.length by omega,Y0 0 (ns:=[1]++zs m.rows.length++[1]++zs (2 * bs.length)) (by rw [cq,cq,cq]; rfl),QJ _ hg]
   unfold xn
   rw [if_pos c1,cq (l₂:=[_])]
   rfl
  ·have c1:¬ 1 < aims.length:=by have:=of_decide_eq_false c1; omega
   rw [QJ _ hg]
   unfold xn
   rw [if_neg c1,cq (l₂:=[_])]
   rfl
  rintro Γ' rfl
  refine ⟨by rw [a_,a_,cK]; omega,.sh (wc m),.sh (L (zs m.rows.length)),.sh (yM (xn room aims ws bs.length m)),?_⟩
  rw [QJ (xn room aims ws bs.length) hg,cq (l₂:=[xn room aims ws bs.length m])]
  rfl
 rintro Γ' ⟨s14,s15,s16,rfl⟩
 rw [a_,fV]
 refine ⟨k0,by omega,by omega,?_⟩
 rw [show ((di (db U room):Nat):Int).toNat=room.length by omega,kS]
 refine ⟨k0,by rw [a_,xA]; show _ + 1<=1000; omega,k0,k0,?_⟩
 rw [Y0 1 (ns:=zs room.length++[often]) (by rw [cq]; rfl)]
 refine ⟨λΓ=>Γ=[.sh (wQ n bs ms u),.sh (D.scr goal),.sh (.int often),.sh (.int step),.sh (vm box room aims ws b tp tu),.sh (.lst (box.map zq)),.sh (Rm room),.sh (Rm aims),.sh (U (ws++[b])),.sh (.int tp),.sh (.int tu),.sh (yM (vX n room)),.ow ((ms.map (w4 goal bs.length room)).map yM),.ow ((ms.map (xn room aims ws bs.length)).map yM),s14,s15,s16,.ow ((vD room aims often).map zS),.no,.no],w2 (λc1=>⟨k0,k0,by show 1 < 1000; decide,?_⟩) λc1=>?_,?_⟩
 ·have c1:1 < aims.length:=by have:=of_decide_eq_true c1; omega
  unfold vD
  rw [if_pos c1]
  rfl
 ·have c1:¬ 1 < aims.length:=by have:=of_decide_eq_false c1; omega
  unfold vD
  rw [if_neg c1]
  rfl
 rintro Γ' rfl
 exact ⟨_,ws,rfl,.inl (.inr (by rw [uI])),by omega,k0,k0,k0,k0,q⟩
theorem zLB (F:ze K "_law_made" "_law_made" KU f fd) (bJ:ur P w K mg base af ["self","rows","nexts","steer","push","add","divisor"] k (vU af (zOM af))) (bK:ur P w K mg base ag ["self","many","pushes","modes"] k (vU ag (zLc ag af))):zF P w K mg base zT (k + 1 + 1) f fd ["_law_spec"] (zG (zOO ag af)):=by
 refine zz F vY λ_ _ _ _ _ _ hr=>⟨_,(zH (uz (zA 0) (xz rfl (zc 1 vY.nd (zc 2 vY.nd (zc 3 vY.nd (zc 4 vY.nd xy))))))
  (zH (ve 5 vY.nd rfl (Or.inl rfl) zC)
  (zH (uH PassesOwn.never rfl (y6 (zA 3)) (xz rfl (zc 6 vY.nd (zc 7 vY.nd (zc 8 vY.nd (zc 9 vY.nd (zc 10 vY.nd (zc 11 vY.nd xy))))))) (zH (u3 12 false vY.nd rfl rfl (own:=["_law_one"]) (caps:=[]) (yN vY) rfl rfl yX (y6 (zA 7)) (λ_ _ _ _=>(yG 0 (zv ["_law_one"]))) (λ_ _ _ _=>(y4 vK vQ rfl B.list_ xg (zB (zA 0) zC))) rfl)
   (zM (yF (xb (wg cD cH cI yj (yI 5) (zg (WC bJ aa hr rfl (zB (y4 vK vQ rfl B.list_ xg (zB (zA 6) zC)) (zB (zA 12) (zB (y4 vK vQ rfl B.list_ xg (zB (zA 8) zC)) (zB (yd (own:=["_law_one"]) (caps:=[]) (yN vY) rfl rfl yX (y6 (zA 9)) (λ_ _ _ _=>(yG 0 (zv ["_law_one"]))) (λ_ _ _ _=>(y4 vK vQ rfl B.list_ xg (zB (zA 0) zC)))) (zB (y4 vK vQ rfl B.list_ xg (zB (zA 10) zC)) (zB (zA 11) zC))))))) yO))) wm))))
  (zM (wy 5 (zU (WC bK ac hr rfl (zB (zA 1) (zB (y4 vK vQ rfl B.list_ xg (zB (zA 2) zC)) (zB (zA 5) zC)))))))))),λds R h=>?_⟩
 obtain ⟨a,n,bs,ms,u,rfl,TO,q⟩:=h
 have m40:=TO.m40
 have n3:=TO.n3
 have b6:=TO.b6
 refine ⟨k0,zQ0 ?_⟩
 refine ⟨λk Γ=>∃ s6 s7 s8 s9 s10 s11 s12:Sl,Γ=[.sh (QK a n bs ms u),.sh (.int (n:Int)),.sh (.frz (bs.map zq)),.sh (kL a (ms.map (jL a))),.sh (.int u),.ow ((ms.take k).map (wn af)),s6,s7,s8,s9,s10,s11,s12],⟨_,_,_,_,_,_,_,rfl⟩,?_,?_⟩
 ·rintro k d Γ' hk ⟨s6,s7,s8,s9,s10,s11,s12,rfl⟩
  obtain ⟨m,hk2,rfl⟩:=Yq hk
  have kl:=(cP.mp hk2).1
  have o:=TO.mok m (dh hk2)
  refine vV D.scr gE kT L (by rw [o.nexts.1]; omega) (λr hr=>rfl) ?_
  refine zPS ?_
  refine vV D.scr gE kT L (by rw [o.push.1]; omega) (λr hr=>rfl) ?_
  refine ⟨_,_,_,_,_,_,rfl,kB o.few (λr hr=>by rw [o.rows r hr]; omega),WI (by rw [o.nexts.1]; omega) (λr hr=>by rw [o.nexts.2 r hr]; omega),ud (by rw [o.steer]; omega),WI (by rw [o.push.1]; omega) (λr hr=>by rw [o.push.2 r hr]; omega),ud (by rw [o.add]; omega),by rw [a_,cK]; omega,?_⟩
  refine ⟨.sh (.frz (m.rows.map U)),.sh (.frz (m.nexts.map D.scr)),.sh (kL a (m.steer.map D.int)),.sh (.frz (m.push.map D.scr)),.sh (D.scr m.add),.sh (.int m.div),.sh (Tb m.nexts),?_⟩
  rw [qG hk2,cq]
  rfl
 ·rintro Γ' ⟨s6,s7,s8,s9,s10,s11,s12,rfl⟩
  rw [a_,fV]
  exact ⟨n,bs,ms,rfl,TO,q⟩
theorem zLA (F:ze K "_law_open" "_law_open" KW f fd):zF P w K mg base zT (k + 1) f fd ["_law_spec"] (zG (zRJ)):=by
 refine zz F KY λ_ _ _ _ _ _ hr=>⟨_,(zH (u3 1 false KY.nd rfl rfl (own:=["_law_mode"]) (caps:=[]) (yN KY) rfl rfl yX (y6 (zN (zA 0) zD)) (λ_ _ _ _=>(yG 0 (zv ["_law_mode"]))) (λ_ _ _ _=>(xG (zB (zN (zA 0) zD) (zB (zN (zA 0) zD) (zB (zY (zKo (zN (zA 0) zD) xP (xH (yr zD))) (yC (zB zD zC))) (zB (zN (zA 0) zD) (zB (zN (zA 0) zD) (zB (zN (zA 0) zD) zC)))))))) rfl)
  (zM (zU (xG (zB (zN (zA 0) zD) (zB (zN (zA 0) zD) (zB (zA 1) (zB (zN (zA 0) zD) zC)))))))),λds R h=>?_⟩
 obtain ⟨n,bs,ms,u,rfl,TO,q⟩:=h
 have m40:=TO.m40
 have n3:=TO.n3
 have n1:=TO.n1
 refine ⟨_,rfl,zh.at (λd e=>∀ m∈ms,d=wc m->e=jL false (jM n m)) (by rw [a_]; omega) (λd hd=>?_) λes pe=>?_⟩
 ·obtain ⟨m,hm,rfl⟩:=cw.mp hd
  have o:=TO.mok m hm
  obtain ⟨j,rfl⟩:∃ j,n=j + 1:=⟨n - 1,by omega⟩
  have ec:yc (m.steer.map D.int) none (some (-1))=(m.steer.take j).map D.int:=vi o.steer
  refine ⟨_,rfl,_,rfl,_,rfl,k0,by rw [ec,a_,cK]; show _ + 1<=1000; omega,_,rfl,_,rfl,_,rfl,k0,λm' hm' e'=>?_⟩
  rw [<- zOm e',ec]
  unfold jM
  show D.tup [_,_,.lst (_++[_]),_,_,_]=D.tup [_,_,.lst (db D.int (_++[1])),_,_,_]
  rw [cq]
  rfl
 ·have ee:es=(ms.map (jM n)).map (jL false):=by
   rw [cA]
   exact zQL pe
  rw [ee]
  exact ⟨_,rfl,_,rfl,_,rfl,k0,q⟩
theorem zEl (F:ze K "_law_without_goal" "_law_without_goal" KZ f fd):zF P w K mg base zT (k + 1) f fd ["_law_parts","_law_told"] (zG (Y1)):=by
 refine zz F uK λ_ _ _ _ _ _ hr=>⟨_,(uY (uz (xQ (zA 0) xP (xH zD)) (xz rfl (zc 2 uK.nd (zc 3 uK.nd (zc 4 uK.nd (zc 5 uK.nd xy))))))
  (uY (uz (xQ (zA 0) (xH zD) xP) (xz rfl (zc 6 uK.nd (zc 7 uK.nd (zc 8 uK.nd (zc 9 uK.nd (zc 10 uK.nd xy)))))))
  (zH (zj 11 uK.nd (yC (zB (zA 2) (zB (zA 3) (zB (zA 4) (zB (zA 5) (zB (zA 6) zC)))))))
  (zM (zU (zY (zA 11) (yC (zB (zA 7) (zB (yd (own:=["_law_some"]) (caps:=[]) (yN uK) rfl rfl yX (y6 (zA 8)) (λ_ _ _ _=>(yG 0 (zv ["_law_some"]))) (λ_ _ _ _=>(yC zC))) (zB (yC zC) (zB (zA 10) zC))))))))))),λds R h=>?_⟩
 obtain ⟨d0,d1,d2,d3,d4,d5,a6,d7,d8,x,rfl,la,q⟩:=h
 refine ⟨λΓ=>Γ=[.sh (wd d0 d1 d2 d3 d4 d5 (.lst a6) d7 d8),.sh x,.sh d0,.sh d1,.sh d2,.sh d3,.no,.no,.no,.no,.no,.no],rfl,?_⟩
 rintro Γ' rfl
 refine ⟨λΓ=>Γ=[.sh (wd d0 d1 d2 d3 d4 d5 (.lst a6) d7 d8),.sh x,.sh d0,.sh d1,.sh d2,.sh d3,.sh d4,.sh d5,.sh (.lst a6),.sh d7,.sh d8,.no],rfl,?_⟩
 rintro Γ' rfl
 refine ⟨k0,zh.map (λ_=>.lst []) (by omega) (λd hd=>⟨k0,rfl⟩) ⟨k0,k0,?_⟩⟩
 exact ⟨k0,q⟩
theorem zEE (F:ze K "_law_without_start" "_law_without_start" Ka f fd):zF P w K mg base zT (k + 1) f fd ["_law_parts","_law_many"] (zG (Y2)):=by
 refine zz F vn λ_ _ _ _ _ _ hr=>⟨_,(uY (uz (xQ (zA 0) xP (xH zD)) (xz rfl (zc 2 vn.nd (zc 3 vn.nd (zc 4 vn.nd (zc 5 vn.nd xy))))))
  (uY (uz (xQ (zA 0) (xH zD) xP) (xz rfl (zc 6 vn.nd (zc 7 vn.nd (zc 8 vn.nd (zc 9 vn.nd (zc 10 vn.nd xy)))))))
  (zH (zj 11 vn.nd (xG (zB zD (zB (zY (yL (yC (zB zD zC)) (yL zD (zA 1))) (yC (zB zD zC))) zC))))
  (zH (u3 3 false vn.nd rfl rfl (own:=["_law_row"]) (caps:=[(11,"_law_shares")]) (yN vn) rfl rfl yX (y6 (zA 2)) (λ_ _ _ _=>(yG 0 (zv ["_law_row","_law_shares"]))) (λ_ _ _ _=>(xG (zB zD (zB (y4 vK vQ rfl B.list_ xg (zB (zN (zA 1) zD) zC)) zC)))) rfl)
  (zH (zj 12 vn.nd (yC (zB (zA 2) (zB (zA 3) (zB (zA 4) (zB (zA 5) (zB (zA 6) zC)))))))
  (zM (zU (zY (zA 12) (yC (zB (yr zD) (zB (zA 8) (zB (zA 9) (zB (zA 11) zC))))))))))))),λds R h=>?_⟩
 obtain ⟨room,d1,d2,d3,d4,d5,d6,d7,d8,n,rfl,lr,n3,q⟩:=h
 refine ⟨λΓ=>Γ=[.sh (wd (Rm room) d1 d2 d3 d4 d5 d6 d7 d8),.sh (.int (n:Int)),.sh (Rm room),.sh d1,.sh d2,.sh d3,.no,.no,.no,.no,.no,.no,.no],rfl,?_⟩
 rintro Γ' rfl
 refine ⟨λΓ=>Γ=[.sh (wd (Rm room) d1 d2 d3 d4 d5 d6 d7 d8),.sh (.int (n:Int)),.sh (Rm room),.sh d1,.sh d2,.sh d3,.sh d4,.sh d5,.sh d6,.sh d7,.sh d8,.no,.no],rfl,?_⟩
 rintro Γ' rfl
 have en:(2 * (n:Int)).toNat=2 * n:=by omega
 refine ⟨k0,(Bd.lit (i:=2) (n:=2)).mono,(jp n3).mono,by omega,by omega,k0,by rw [df]; show _ + 1<=1000; omega,k0,?_⟩
 rw [kS,en,Y0 0 (ns:=zs (2 * n)++[1]) (by rw [cq]; rfl)]
 refine vV U yB ub (λ_=>zS (xY n)) (by omega) (λr hr=>⟨_,rfl,k0,rfl⟩) ?_
 rw [show (room.map λ_=>zS (xY n))=(room.map λ_=>xY n).map zS by rw [cA]; rfl]
 exact ⟨k0,k0,k0,q⟩
theorem zND {cC:Addr} (Z:Er K mg cC) (F:ze K "_law_let" "_law_let" Kb f fd) (x_lets_by:jU P w K mg base "lets_by" ["thing","claim","paper"] k (jd (Yl ag af cC 2))) (bL:Fn P w K mg base "lets_by" ["thing","claim","paper"] k (zG (Jt ag af aComes aFalls))):zF P w K mg base zT (k + 1) f fd ["_law_thing","_law_claim","_law_paper"] (zG (Y5 ag af aComes aFalls)):=by
 refine zz F XM λ_ _ _ _ _ _ hr=>⟨_,(zH (zj 3 XM.nd gq)
  (zH (yF (zOz rfl Z.mgC rfl rfl rfl (zKq (zQI (zOx (i:=3) XM.nd rfl (Or.inl rfl) (zKw x_lets_by hr rfl (zB (zA 0) (zB (zA 1) (zB (zA 2) zC))))) (zQJ (zj 3 XM.nd (zQ bL hr rfl (zB (zA 0) (zB (zA 1) (zB (zA 2) zC))))))) zMm) (λ_=>(zM (zj 3 XM.nd Zn)))) (zOg (i:=3)))
  (zM (zU (zA 3))))),λds R h=>?_⟩
 obtain ⟨n,bs,ms,c,p,rfl,alt⟩:=h
 rcases alt with ⟨O,cl,q⟩ | q
 ·exact .inl ⟨cC,⟨n,bs,ms,[c,p],rfl,rfl,O,cl,rfl⟩,Z.cc,q⟩
 ·exact .inr q
theorem zNC (F:ze K "_law_odd" "_law_odd" Kc f fd):zF P w K mg base zT (k + 1) f fd ["_law_parts","_law_cell"] (zG (Y4)):=by
 refine zz F j2 λ_ _ _ _ _ _ hr=>⟨_,(zH (zj 2 j2.nd (zN (yC (zB zD (zB zD (zB zD (zB zD (zB zD (zB zD (zB zD (zB zD zC))))))))) (yq (zA 1) zD)))
  (zH (yS (qi (zA 2) zD) (zM (zU (zY (zY (xQ (zA 0) xP (xH (zA 2))) (yC (zB (zN (yC (zB gq (zB (xG zC) (zB zD (zB Zn zC))))) (yq (wl (zA 1) zD) zD)) zC))) (xQ (zA 0) (xH (zY (zA 2) zD)) xP)))) yR)
  (zH (zj 3 j2.nd (zN (zA 0) zD))
  (zH (zj 4 j2.nd (yC (zB gq (zB (y4 w8 vC rfl B.tuple_ wH (zB (zA 3) zC)) (zB (yC (zB gq zC)) (zB (yC (zB (yC (zB zD (zB zD (zB zD zC)))) zC)) (zB zD (zB (yC (zB Zn zC)) zC))))))))
  (uY (yS (zOr hr.units (zA 3) (yC zC)) (zH (zj 5 j2.nd (zN (zA 3) zD))
   (zH (zj 6 j2.nd (yC (zB (y4 vK vQ rfl B.list_ xg (zB (zA 5) zC)) (zB (zY (zA 5) (xG (zB zD zC))) (zB (xQ (zA 5) (xH zD) xP) (zB (zY (xQ (zA 5) xP (xH (yr zD))) (xG (zB xk zC))) (zB (zY (xQ (zA 5) xP (xH (yr zD))) (xG (zB gq zC))) zC)))))))
   (zM (zj 4 j2.nd (zY (zY (zA 4) (yd (own:=["_law_one"]) (caps:=[]) (yN j2) rfl rfl yX (y6 (zA 6)) (λ_ _ _ _=>(yG 0 (zv ["_law_one"]))) (λ_ _ _ _=>(yC (zB (zA 0) zC))))) (yC (zB (zY (zA 3) (yC (zB gq zC))) zC))))))) yR)
  (zM (zU (zY (yC (zB (zN (zA 4) (yq (wl (zA 1) zD) (zt yu yx rfl B.len_ yw (zB (zA 4) zC)))) zC)) (xQ (zA 0) (xH zD) xP))))))))),λds R h=>?_⟩
 obtain ⟨n,room,d1,d2,d3,d4,d5,d6,d7,d8,c,rfl,r1,hr,n1,n3,q⟩:=h
 have m8:=md c (show (0:Int) < 8 by decide)
 have m4:=md (c.fdiv 8) (show (0:Int) < 4 by decide)
 have bad:∀ {R:D->Prop},(∀ z,gF z->R z)->∃ d,xB [D.non,.tup [],.int 5,.str "1"] ((c.fdiv 8).fmod 4)=some d/\R d:=λ{R} k=>gB m4.1 (by show (c.fdiv 8).fmod 4 < 4; omega) λz hz=>k z (by
  simp only [cz,cZ,or_false] at hz
  exact hz)
 refine ⟨k0,by decide,gB m8.1 (by show c.fmod 8 < 8; omega) λz hz=>?_⟩
 obtain ⟨a,rfl,ha⟩:∃ a:Int,z=.int a/\(a=0\/a=1\/a=2\/a=6\/a=7\/a=8):=by
  simp only [cz,cZ,or_false] at hz
  rcases hz with rfl | rfl | rfl | rfl | rfl | rfl | rfl | rfl <;> exact ⟨_,rfl,by decide⟩
 rcases ha with rfl | rfl | rfl | rfl | rfl | rfl
 ·refine wF rfl ⟨_,rfl,k0,k0,k0,k0,k0,?_⟩
  obtain ⟨B,eB⟩:∃ B,B=[D.non,.tup (room.map U),.lst [.non],.lst [.lst [.int 0,.int 0,.int 1]],.int 7,.lst [.str "row"]]:=⟨_,rfl⟩
  have hB:∀ z∈B,Fw 4 z/\ua (n:Int) z=false:=zNI eB (by omega) hr n3
  refine ⟨λΓ=>∃ (M:List D) (s5 s6:Sl),Γ=[.sh (wd (Rm room) d1 d2 d3 d4 d5 d6 d7 d8),.sh (.int c),.sh (.int 0),.sh (Rm room),.sh (.lst M),s5,s6]/\1<=M.length/\M.length<=20/\∀ z∈M,Fw 4 z/\ua (n:Int) z=false,⟨k0,QL room,rfl,w2 (λc1=>?_) λc1=>⟨B,_,_,by rw [eB]; rfl,by rw [eB]; show 1<=6; decide,by rw [eB]; show 6<=20; decide,hB⟩⟩,?_⟩
  ·obtain ⟨r,rfl⟩:∃ r,room=[r]:=by
    cases room with
    | nil=>cases c1
    | cons r t=>
     cases t with
     | nil=>exact ⟨r,rfl⟩
     | cons s t=>have r1:t.length + 1 + 1<=1:=r1; omega
   have lr:=hr r cv
   have l9:(r.map D.int).length=n + 1:=by rw [a_]; exact lr
   refine ⟨_,rfl,k0,by rw [l9]; show _ + 1<=1000; omega,k0,by rw [vi lr,a_,cK]; show _ + 1<=1000; omega,k0,by rw [vi lr,a_,cK]; show _ + 1<=1000; omega,k0,?_⟩
   refine zh.map (λd=>.lst [d]) (by show 5<=1000; decide) (λd hd=>⟨k0,rfl⟩) ⟨by show 6 + 5<=1000; decide,k0,by show 1 + 1<=1000; decide,k0,by show 11 + 1<=1000; decide,?_⟩
   rw [vi lr]
   have ef:yc (r.map D.int) (some 1) none=(r.drop 1).map D.int:=by rw [show (1:Int)=((1:Nat):Int) from rfl,Ju,ir]
   rw [ef]
   refine ⟨_,_,_,rfl,by show 1<=12; decide,by show 12<=20; decide,λz hz=>?_⟩
   rcases cN.mp hz with hz | hz
   ·rcases cN.mp hz with hz | hz
    ·exact hB z (by rw [eB]; exact hz)
    ·obtain ⟨y,hy,rfl⟩:=cw.mp hz
     exact zPO lr n3 y hy
   ·rw [cn.mp hz]
    exact ⟨.lst (by show 2<=900; decide) λx hx=>by
     rcases cz.mp hx with rfl | hx
     ·exact ue (by omega)
     ·rw [cn.mp hx]; exact .non,by show (wZ _ _ && (false && true))=false; rw [eR,dy]⟩
  rintro Γ' ⟨M,s5,s6,rfl,l1,l20,hM⟩
  have mM:=md (c.fdiv 8) (show (0:Int) < (M.length:Int) by omega)
  exact ⟨by decide,(Bd.lit (i:=8) (n:=4)).mono,by omega,gB mM.1 mM.2 λz hz=>⟨k0,by show 1 + 8<=1000; decide,q z d1 d2 d6 d7 d8 (.inl ⟨(hM z hz).1,(hM z hz).2,rfl,rfl,rfl,rfl,rfl⟩)⟩⟩
 ·exact wT rfl ⟨k0,k0,by decide,(Bd.lit (i:=8) (n:=4)).mono,by decide,bad λz hz=>⟨k0,by show 1 + 1<=1000; decide,by show 2 + 7<=1000; decide,q (Rm room) z d2 d6 d7 d8 (.inr ⟨rfl,.inl ⟨hz,rfl,rfl,rfl,rfl⟩⟩)⟩⟩
 ·exact wT rfl ⟨k0,k0,by decide,(Bd.lit (i:=8) (n:=4)).mono,by decide,bad λz hz=>⟨k0,by show 2 + 1<=1000; decide,by show 3 + 6<=1000; decide,q (Rm room) d1 z d6 d7 d8 (.inr ⟨rfl,.inr (.inl ⟨rfl,hz,rfl,rfl,rfl⟩)⟩)⟩⟩
 ·exact wT rfl ⟨k0,k0,by decide,(Bd.lit (i:=8) (n:=4)).mono,by decide,bad λz hz=>⟨k0,by show 6 + 1<=1000; decide,by show 7 + 2<=1000; decide,q (Rm room) d1 d2 z d7 d8 (.inr ⟨rfl,.inr (.inr (.inl ⟨rfl,rfl,hz,rfl,rfl⟩))⟩)⟩⟩
 ·exact wT rfl ⟨k0,k0,by decide,(Bd.lit (i:=8) (n:=4)).mono,by decide,bad λz hz=>⟨k0,by show 7 + 1<=1000; decide,by show 8 + 1<=1000; decide,q (Rm room) d1 d2 d6 z d8 (.inr ⟨rfl,.inr (.inr (.inr (.inl ⟨rfl,rfl,rfl,hz,rfl⟩)))⟩)⟩⟩
 ·exact wT rfl ⟨k0,k0,by decide,(Bd.lit (i:=8) (n:=4)).mono,by decide,bad λz hz=>⟨k0,by show 8 + 1<=1000; decide,by show 9 + 0<=1000; decide,q (Rm room) d1 d2 d6 d7 z (.inr ⟨rfl,.inr (.inr (.inr (.inr ⟨rfl,rfl,rfl,rfl,hz⟩)))⟩)⟩⟩
theorem ka {d0:Nat} (F:ze K "_law_emptied" "_law_emptied" Ke f fd) (aG:Fn P w K mg base "_law_emptied" ["_law_thing"] k (gG d0)):zF P w K mg base zT (k + 1) f fd ["_law_thing"] (gG (d0 + 1)):=by
 refine F.ok zE0 (λvs H Q E h=>?_) (λcdv A outer s H vs Q E hr h=>?_)
 ·obtain ⟨_,_,rfl,_⟩:=h
  rfl
 obtain ⟨v,d,rfl,hv,f,q⟩:=h
 refine ⟨_,(vE (XV (Wx (xc zL9 rfl B.isinstance_ xq (zg (yI 0) (zg (K3 (zg (wf (v:=.ty "list") (u:=.type "list") rfl B.list_ xg rfl) (zg (wf (v:=.ty "tuple") (u:=.type "tuple") rfl B.tuple_ wH rfl) yO))) yO)))) (ku (Kq PassesOwn.never rfl (zN5 (yI 0)) (W2 (i:=1) zE0.nd rfl (Or.inl rfl)) (ku (xb (UU aG hr rfl (zg (yI 1) yO)))))) gU)
  (ku (XV (Wx (xc Zd rfl B.isinstance_ xq (zg (yI 0) (zg (wf (v:=.ty "list") (u:=.type "list") rfl B.list_ xg rfl) yO)))) (ku (xb (UK cD fD fE UN (yI 0)))) gU))),?_⟩
 try dsimp only [zW,Cx.nox,Cx.wish]
 refine ⟨_,rfl,(by show 2<=sizeLine; decide),λp hp=>?_⟩
 have m0:=Em.new hp (HO.tup [.ty "list",.ty "tuple"])
 have m0s:∀ {a u},H a=some u->zV H p (HO.tup [.ty "list",.ty "tuple"]) a=some u:=λe=>(zl (wC e hp)).trans e
 have hv0:=hv.same (jD hp (HO.tup [.ty "list",.ty "tuple"]))
 have key:∀ o H1,Em H H1->(j3 (tB (gb (Ui K) (um (wU 0) (um (tC (V.ty "list")) wS)))) (gW (ZR K "list" zNz (wU 0))) XU { nx:=λ_ H'=>Q V.non H',rt:=Q }) [some v,o] H1:=λo H1 m=>by
  obtain ⟨d',hd',f'⟩:=QN m f hv
  obtain ⟨t,ty,_,_,kl,_⟩:=gv (K:=K) hd' f'.no
  refine ⟨_,rfl,v,"list",t,_,rfl,ty,kl,_,rfl,?_⟩
  cases hd' with
  | lst e h=>exact UW rfl ⟨_,rfl,.inl ⟨rfl,_,zw.of e⟩,_,_,rfl,rfl,e,q _ (m.trans (Em.clear e))⟩
  | frz e h=>cases f'
  | _=>exact zQ3 rfl (q _ m)
 refine ⟨v,p,d,rfl,xv,hv0,f.no,_,rfl,?_⟩
 cases f with
 | lst l ff=>
  refine UW rfl ?_
  obtain ⟨a,xs,rfl,e,hx⟩:=hv.lst_inv
  refine ⟨_,rfl,.inl ⟨a,rfl,⟨xs,zw.of (m0s e)⟩,λi m σ' H'=>(∃ o,σ'=[some (V.ref a),o])/\Em H H'/\i + m=xs.length,⟨xs.length,⟨none,rfl⟩,m0,by omega⟩,?_⟩⟩
  rintro i m σ' H' ⟨⟨o,rfl⟩,mm,hm⟩
  have go:∀ (D0:yf) (z:H' a=some (.lst xs)) (hi:i < xs.length),∃ N:St->Hp->Prop,(∀ σ' H',N σ' H'->∃ m',m' < m/\((∃ o,σ'=[some (V.ref a),o])/\Em H H'/\i + 1 + m'=xs.length))/\∀ x H2,(XW K a).yld i H' x H2->gY 1 x [some (V.ref a),o] H2 λσ2 H2=>gW (jC (gG d0) [] E0 (um (wU 1) wS)) { D0 with nx:=N,ct:=N,bk:=D0.nx } σ2 H2:=λD0 z hi=>by
   refine ⟨λσ2 H2=>(∃ o,σ2=[some (V.ref a),o])/\Em H H2,λσ2 H2 k=>⟨m - 1,by omega,k.1,k.2,by omega⟩,λx H2 ⟨e2,hy⟩=>?_⟩
   subst e2
   obtain ⟨b,hb,hd⟩:=Uf hx (hy xs (zw.of z))
   obtain ⟨b',hd',f'⟩:=QN mm (ff b (dh hb)) hd
   exact ⟨x,rfl,x,b',rfl,hd',f',λH3 m3=>⟨⟨_,rfl⟩,mm.trans m3⟩⟩
  rcases mm.l a xs e with z | z
  ·by_cases hi:i < xs.length
   ·exact .inr ⟨⟨xs,xs[i],zw.of z,cu hi⟩,go _ z hi⟩
   ·exact .inl ⟨⟨xs,zw.of z,by omega⟩,key o H' mm⟩
  ·exact .inl ⟨⟨[],zw.of z,eg _⟩,key o H' mm⟩
 | tup l ff=>
  refine UW rfl ?_
  obtain ⟨a,xs,rfl,e,hx⟩:=hv.tup_inv
  refine ⟨_,rfl,.inr ⟨a,rfl,⟨xs,yH.of (m0s e)⟩,λi m σ' H'=>(∃ o,σ'=[some (V.ref a),o])/\Em H H'/\i + m=xs.length,⟨xs.length,⟨none,rfl⟩,m0,by omega⟩,?_⟩⟩
  rintro i m σ' H' ⟨⟨o,rfl⟩,mm,hm⟩
  have go:∀ (D0:yf) (z:H' a=some (.tup xs)) (hi:i < xs.length),∃ N:St->Hp->Prop,(∀ σ' H',N σ' H'->∃ m',m' < m/\((∃ o,σ'=[some (V.ref a),o])/\Em H H'/\i + 1 + m'=xs.length))/\∀ x H2,(XX K a).yld i H' x H2->gY 1 x [some (V.ref a),o] H2 λσ2 H2=>gW (jC (gG d0) [] E0 (um (wU 1) wS)) { D0 with nx:=N,ct:=N,bk:=D0.nx } σ2 H2:=λD0 z hi=>by
   refine ⟨λσ2 H2=>(∃ o,σ2=[some (V.ref a),o])/\Em H H2,λσ2 H2 k=>⟨m - 1,by omega,k.1,k.2,by omega⟩,λx H2 ⟨e2,hy⟩=>?_⟩
   subst e2
   obtain ⟨b,hb,hd⟩:=Uf hx (hy xs (yH.of z))
   obtain ⟨b',hd',f'⟩:=QN mm (ff b (dh hb)) hd
   exact ⟨x,rfl,x,b',rfl,hd',f',λH3 m3=>⟨⟨_,rfl⟩,mm.trans m3⟩⟩
  have z:H' a=some (.tup xs):=mm.o a _ e λxs y=>nomatch y
  by_cases hi:i < xs.length
  ·exact .inr ⟨⟨xs,xs[i],yH.of z,cu hi⟩,go _ z hi⟩
  ·exact .inl ⟨⟨xs,yH.of z,by omega⟩,key o H' mm⟩
 | _=>exact zQ3 rfl (key none _ m0)
theorem zQn (hI:∀ H:Hp,yW.I H) (F:ze K "law" "law" kY f fd) (aG:Fn P w K mg base "_law_emptied" ["_law_thing"] (k + 1) (gG 6)) (aL:Fn P w K mg base "_law_let" ["_law_thing","_law_claim","_law_paper"] (k + 1) (zG (Y5 ag af aComes aFalls))) (aM:Fn P w K mg base "_law_made" ["_law_spec"] (k + 1) (zG (zOO ag af))) (bM:Fn P w K mg base "_law_open" ["_law_spec"] (k + 1) (zG (zRJ))) (bN:ur P w K mg base aComes ["self","start","goal","turns"] k (vU aComes (zLt aComes))) (bO:ur P w K mg base aFalls ["self","room","starts","steps","measure","step","top","falls","floors","tops"] k (vU aFalls (zLr aFalls))) (bP:Fn P w K mg base "_law_odd" ["_law_parts","_law_cell"] (k + 1) (zG (Y4))) (bQ:Fn P w K mg base "_law_without_start" ["_law_parts","_law_many"] (k + 1) (zG (Y2))) (bS:Fn P w K mg base "_law_without_goal" ["_law_parts","_law_told"] (k + 1) (zG (Y1))) (aq:Fn P w K mg base "_law_cell_at" ["_law_script","_law_k"] (k + 1) (zG (Jv))) (bT:Fn P w K mg base "_law_rows" ["_law_box_here"] (k + 1) (zG (zRI))) (bU:Fn P w K mg base "_law_fall_parts" ["_law_spec","_law_goal","_law_often","_law_step","_law_told"] (k + 1) (zG (zOL))) (bV:Fn P w K mg base "_law_falling" ["_law_spec","_law_goal","_law_often","_law_step","_law_cell"] (k + 1) (zG (zOS))) (bW:Fn P w K mg base "_law_drift" ["_law_script"] (k + 1) (zG (zOT))):zF P w K mg base zT (k + 1 + 1) f fd ["_law_script"] Wf:=by
 refine F.ok xK (λvs H Q E h=>?_) (λcdv A outer s H vs Q E hr h=>?_)
 ·obtain ⟨_,_,_,rfl,_⟩:=h
  rfl
 obtain ⟨a,o,ns,rfl,ha,ho,q⟩:=h
 refine ⟨_,(zKn (uz (zQ bW hr rfl (zB (zA 0) zC)) (xz rfl (zc 1 xK.nd (zc 2 xK.nd (zc 3 xK.nd (zc 4 xK.nd xy))))))
  (YV (XE (zj 5 xK.nd (zQ bV hr rfl (zB (zA 1) (zB (zA 2) (zB (zA 3) (zB (zA 4) (zB (zQ aq hr rfl (zB (zA 0) (zB zD zC))) zC)))))))
  (XF (uz (zA 5) (xz rfl (zc 6 xK.nd (zc 7 xK.nd (zc 8 xK.nd (zc 9 xK.nd (zc 10 xK.nd (zc 11 xK.nd xy))))))))
  (XE (zj 12 xK.nd (zQ bU hr rfl (zB (zA 1) (zB (zA 2) (zB (zA 3) (zB (zA 4) (zB (zA 5) zC)))))))
  (XE (zj 11 xK.nd (zt (ga rfl) gu rfl B.max_ gf (zB zD (zB (zY (wl (zA 10) (zA 4)) zD) zC))))
  (XE (zj 13 xK.nd (zQ bT hr rfl (zB (zA 6) zC)))
  (XE (zj 14 xK.nd (zQ aq hr rfl (zB (zA 0) (zB zD zC))))
  (XF (yS (uw hr.units (yq (zA 14) zD) zD) (zH (zj 12 xK.nd (zQ bS hr rfl (zB (zA 12) (zB (zA 5) zC))))
   (zM (zj 8 xK.nd (yC zC)))) yR)
  (XF (yS (uw hr.units (yq (zA 14) zD) zD) (zH (zj 12 xK.nd (zQ bQ hr rfl (zB (zA 12) (zB (zN (zA 1) zD) zC))))
   (zH (zj 13 xK.nd (zY (zA 13) (yC (zB (zY (zOu (xG (zB zD zC)) (zN (zA 1) zD)) (xG (zB (yr zD) zC))) zC))))
   (zM (zj 11 xK.nd zD)))) yR)
  (XF (yS (qi (yq (zA 14) zD) zD) (zM (zj 12 xK.nd (zQ bP hr rfl (zB (zA 12) (zB (wl (zA 14) zD) zC))))) yR)
  (XF (uz (xQ (zA 12) xP (xH zD)) (xz rfl (zc 7 xK.nd (zc 15 xK.nd (zc 16 xK.nd (zc 9 xK.nd xy))))))
  (zKn (zj 17 xK.nd (xQ (zA 12) (xH zD) xP))
  (YV (vE (ZA (i:=18) xK.nd rfl (Or.inl rfl) (WC bO TFalls hr rfl (zB (zA 7) (zB (zA 15) (zB (zA 16) (zB (zA 9) (zB (zN (zA 17) zD) (zB (zN (zA 17) zD) (zB (zN (zA 17) zD) (zB (zN (zA 17) zD) (zB (zN (zA 17) zD) zC)))))))))))
  (YV (vE (ZA (i:=19) xK.nd rfl (Or.inl rfl) (xG (zB (y4 vK vQ rfl B.list_ xg (zB (zA 13) zC)) (zB (y4 vK vQ rfl B.list_ xg (zB (zA 8) zC)) zC))))
  (YV (vE (ZA (i:=20) xK.nd rfl (Or.inl rfl) (WC bN TComes hr rfl (zB (zN (zA 19) zD) (zB (zN (zA 19) zD) (zB (zA 11) zC)))))
  (YV (Jb (vE (xb (UU aG hr rfl (zg (yI 12) yO)))
  (Jb (vE (xb (UK cD fD fE UN (Xh zLS (yI 19) Ww (λ_ _=>rfl))))
  (vE (xb (UK cD fD fE UN (Xh zLS (yI 19) Ww (λ_ _=>rfl))))
  (Jb (zH (yS (PW.pt (wx (y3 (yh (yK (xc qL rfl B.isinstance_ xq (zg (zA 18) (zg (qK TPaper rfl) yO))) qt))) (vc (y3 (yh (yK (xc qL rfl B.isinstance_ xq (zg (zA 20) (zg (qK TClaim rfl) yO))) qt)))))) (zM (zU xk)) yR)
  (zH (yS (X0 hr.units (zQ aL hr rfl (zB (zQ aM hr rfl (zB (zQ bM hr rfl (zB (zA 1) zC)) zC)) (zB (zA 20) (zB (zA 18) zC)))) Zn) (zM (zU xk)) yR)
  (zH (zj 21 xK.nd (zQ aL hr rfl (zB (zQ aM hr rfl (zB (zA 1) zC)) (zB (zA 20) (zB (zA 18) zC)))))
  (zM (zU (wX (yK (xc vB rfl B.isinstance_ xq (zg (zA 21) (zg (wf (v:=.ty "bool") (u:=.type "bool") rfl B.bool_ zGV rfl) yO))) (vT zJS)) (vd (uv hr.units (zA 21) (Uw (yq (zA 14) zD) zD))))))))))))))))))))))))))))))))))),?_⟩
 try dsimp only [zW,Cx.nox,Cx.wish]
 have hm:∀ {b:Addr} {u:HO} {H':Hp},H b=some u->Sm H H'->H' b=some u:=λ{b u H'} e s=>by
  obtain ⟨o,xs,rfl⟩:=ho b u e
  exact s.at e
 have E0:zr (λ_=>False) [.sh (.scr ns),.no,.no,.no,.no,.no,.no,.no,.no,.no,.no,.no,.no,.no,.no,.no,.no,.no,.no,.no,.no,.no] (L2.xw ["_law_script","_law_spec","_law_goal","_law_often","_law_step","_law_told","_law_box_here","_law_room","_law_aims","_law_measure","_law_top_here","_law_turns","_law_parts","_law_start","_law_cell","_law_starts","_law_steps","_law_rest","_law_paper","_law_handed","_law_claim","_law_found"] [.ref a]) H:=JZ (N:=["_law_script","_law_spec","_law_goal","_law_often","_law_step","_law_told","_law_box_here","_law_room","_law_aims","_law_measure","_law_top_here","_law_turns","_law_parts","_law_start","_law_cell","_law_starts","_law_steps","_law_rest","_law_paper","_law_handed","_law_claim","_law_found"]) (ps:=["_law_script"]) (ds:=[.scr ns]) ⟨λ_ z=>z.elim,hI H⟩ (.cons (.scr ⟨o,xj (λz=>z) ha⟩) .nil) rfl
 refine ⟨_,_,_,_,λΓ=>∃ n bs ms u goal often step,Γ=[.sh (.scr ns),.sh (Yp n bs ms u),.sh (L goal),.sh (.int often),.sh (.int step),.no,.no,.no,.no,.no,.no,.no,.no,.no,.no,.no,.no,.no,.no,.no,.no,.no]/\Dr n bs ms u goal often step,QR E0 rfl,⟨ns,rfl,λn bs ms u goal often step dr=>⟨n,bs,ms,u,goal,often,step,rfl,dr⟩⟩,q,?_⟩
 rintro Z1 _ σ1 H1 E1 _ ⟨n,bs,ms,u,goal,often,step,rfl,dr⟩ H2 f1
 have s01:=E1.same
 have E2:=zRM hI E1.e f1
 have n3:=dr.ok.n3
 have n1:=dr.ok.n1
 have b2:=dr.b2
 have s1:=dr.s1
 have eΓ:db Wa [.sh (.scr ns),.sh (Yp n bs ms u),.sh (L goal),.sh (.int often),.sh (.int step),.no,.no,.no,.no,.no,.no,.no,.no,.no,.no,.no,.no,.no,.no,.no,.no,.no]=[.sh (.scr ns),.sh (wQ n bs ms u),.sh (D.scr goal),.sh (.int often),.sh (.int step),.no,.no,.no,.no,.no,.no,.no,.no,.no,.no,.no,.no,.no,.no,.no,.no,.no]:=by
  show [Sl.sh (za (.scr ns)),.sh (za (Yp n bs ms u)),.sh (za (L goal)),.sh (za (.int often)),.sh (za (.int step)),.no,.no,.no,.no,.no,.no,.no,.no,.no,.no,.no,.no,.no,.no,.no,.no,.no]=_
  rw [zRA,zPX,jO,za,za]
 rw [eΓ] at E2
 clear eΓ
 refine ⟨_,_,_,_,λΓ=>∃ box room aims ws b tp tu c tp2 S A t e0 e1 e2 e6 e7 e8,Γ=[.sh (.scr ns),.sh (wQ n bs ms u),.sh (D.scr goal),.sh (.int often),.sh (.int step),.sh (vm box room aims ws b tp tu),.sh (.lst (box.map zq)),.sh e0,.sh (Rm A),.sh (U (ws++[b])),.sh (.int tp),.sh (.int t),.sh (wd e0 e1 e2 (U (ws++[b])) (.int step) (.int tp2) e6 e7 e8),.sh (Rm S),.sh (.int c),.sh e1,.sh e2,.sh (.lst [.int step,.int tp2,e6,e7,e8]),.no,.no,.no,.no]/\ju n bs ms c S A t ws b step tp2 e0 e1 e2 e6 e7 e8/\ws.length=n,QR E2 rfl,?_,q,?_⟩
 ·refine ⟨ns,2,rfl,by decide,λc2=>⟨n,bs,ms,u,goal,often,step,c2,rfl,dr,λbox room aims ws b tp tu fl fx=>?_⟩⟩
  refine ⟨λΓ=>Γ=[.sh (.scr ns),.sh (wQ n bs ms u),.sh (D.scr goal),.sh (.int often),.sh (.int step),.sh (vm box room aims ws b tp tu),.sh (.lst (box.map zq)),.sh (Rm room),.sh (Rm aims),.sh (U (ws++[b])),.sh (.int tp),.sh (.int tu),.no,.no,.no,.no,.no,.no,.no,.no,.no,.no],rfl,?_⟩
  rintro Γ' rfl
  refine ⟨n,bs,ms,u,goal,often,step,box,room,aims,ws,b,tp,tu,rfl,dr,fl,?_⟩
  have lb:=fl.lb
  have r1:=fl.r1
  refine ⟨by omega,dr.bst.mono,?_⟩
  refine ⟨box,rfl,by omega,ns,3,rfl,by decide,λc=>?_⟩
  have m8:=md c (show (0:Int) < 8 by decide)
  have hrm:∀ r∈room,r.length=n + 1:=λr hr=>(fl.rm r hr).1
  refine ⟨λΓ=>(c.fmod 8≠1/\Γ=[.sh (.scr ns),.sh (wQ n bs ms u),.sh (D.scr goal),.sh (.int often),.sh (.int step),.sh (vm box room aims ws b tp tu),.sh (.lst (box.map zq)),.sh (Rm room),.sh (Rm aims),.sh (U (ws++[b])),.sh (.int tp),.sh (.int (jx tp step)),.sh (wd (Rm room) (yM (vX n room)) (yE (ms.map (w4 goal bs.length room))) (U (ws++[b])) (.int step) (.int tp) (yE (ms.map (xn room aims ws bs.length))) (yM (vD room aims often)) (zS (1,yP ws))),.sh (Rm (y9 box)),.sh (.int c),.no,.no,.no,.no,.no,.no,.no])\/(c.fmod 8=1/\Γ=[.sh (.scr ns),.sh (wQ n bs ms u),.sh (D.scr goal),.sh (.int often),.sh (.int step),.sh (vm box room aims ws b tp tu),.sh (.lst (box.map zq)),.sh (Rm room),.sh (Rm []),.sh (U (ws++[b])),.sh (.int tp),.sh (.int (jx tp step)),.sh (wd (Rm room) (yM (vX n room)) (yE (ms.map (w4 goal bs.length room))) (U (ws++[b])) (.int step) (.int tp) (.lst (ms.map λ_=>.lst [])) (.lst []) (zS (1,yP ws))),.sh (Rm (y9 box)),.sh (.int c),.no,.no,.no,.no,.no,.no,.no]),⟨by decide,w2 (λc1=>?_) λc1=>.inl ⟨of_decide_eq_false c1,rfl⟩⟩,?_⟩
  ·exact ⟨_,_,_,_,_,_,_,_,_,_,rfl,by rw [a_,a_]; have:=dr.m3; omega,k0,.inr ⟨of_decide_eq_true c1,by rw [cA,cA]; rfl⟩⟩
  rintro Γ' hΓ
  refine ⟨λΓ=>∃ tp2 S A t e1 e6 e7 e8,Γ=[.sh (.scr ns),.sh (wQ n bs ms u),.sh (D.scr goal),.sh (.int often),.sh (.int step),.sh (vm box room aims ws b tp tu),.sh (.lst (box.map zq)),.sh (Rm room),.sh (Rm A),.sh (U (ws++[b])),.sh (.int tp),.sh (.int t),.sh (wd (Rm room) e1 (yE (ms.map (w4 goal bs.length room))) (U (ws++[b])) (.int step) (.int tp2) e6 e7 e8),.sh (Rm S),.sh (.int c),.no,.no,.no,.no,.no,.no,.no]/\(c.fmod 8<=3->ju n bs ms c S A t ws b step tp2 (Rm room) e1 (yE (ms.map (w4 goal bs.length room))) e6 e7 e8)/\(3 < c.fmod 8->S=y9 box/\A=aims/\t=jx tp step/\tp2=tp/\e1=yM (vX n room)/\e6=yE (ms.map (xn room aims ws bs.length))/\e7=yM (vD room aims often)/\e8=zS (1,yP ws)),?_,?_⟩
  ·rcases hΓ with ⟨h1,rfl⟩ | ⟨h1,rfl⟩
   ·refine ⟨by decide,w2 (λc1=>?_) λc1=>⟨_,_,_,_,_,_,_,_,rfl,λh=>zQW dr fl fx h,λ_=>⟨rfl,rfl,rfl,rfl,rfl,rfl,rfl,rfl⟩⟩⟩
    have c1:c.fmod 8=2:=of_decide_eq_true c1
    refine ⟨_,rfl,room,_,_,_,_,_,_,_,_,n,rfl,by omega,n3,k0,_,rfl,by omega,by omega,k0,by rw [df]; show _ + 1<=1000; omega,k0,by rw [a_,kO]; show _ + 1<=1000; omega,?_⟩
    refine ⟨_,y9 box++[zs n++[-1]],_,0,_,_,_,_,?_,λh=>XC dr fl fx h,λh=>by omega⟩
    rw [kS,show ((n:Nat):Int).toNat=n by omega]
    show [_,_,_,_,_,_,_,_,_,_,_,_,_,Sl.sh (.lst ((y9 box).map U++[.tup ((zs n).map D.int++[.int (-1)])])),_,_,_,_,_,_,_,_]=_
    rw [ui,<- List.map_singleton,<- cq]
   ·refine ⟨by decide,wF (decide_eq_false (by omega)) ⟨_,_,[],_,_,_,_,_,rfl,λh=>XB dr fl fx h,λh=>by omega⟩⟩
  rintro Γ' ⟨tp2,S,A,t,e1,e6,e7,e8,rfl,hp,ho2⟩
  refine ⟨λΓ=>∃ tp2 S A t e0 e1 e2 e6 e7 e8,Γ=[.sh (.scr ns),.sh (wQ n bs ms u),.sh (D.scr goal),.sh (.int often),.sh (.int step),.sh (vm box room aims ws b tp tu),.sh (.lst (box.map zq)),.sh (Rm room),.sh (Rm A),.sh (U (ws++[b])),.sh (.int tp),.sh (.int t),.sh (wd e0 e1 e2 (U (ws++[b])) (.int step) (.int tp2) e6 e7 e8),.sh (Rm S),.sh (.int c),.no,.no,.no,.no,.no,.no,.no]/\ju n bs ms c S A t ws b step tp2 e0 e1 e2 e6 e7 e8,⟨by decide,w2 (λc1=>?_) λc1=>⟨_,_,_,_,_,_,_,_,_,_,rfl,hp (by have:=of_decide_eq_false c1; omega)⟩⟩,?_⟩
  ·have c1:3 < c.fmod 8:=of_decide_eq_true c1
   obtain ⟨rfl,rfl,rfl,rfl,rfl,rfl,rfl,rfl⟩:=ho2 c1
   exact ⟨by decide,(Bd.lit (i:=8) (n:=4)).mono,n,room,_,_,_,_,_,_,_,_,_,rfl,r1,hrm,n1,n3,λe0 e1 e2 e6 e7 e8 h=>⟨_,_,_,_,_,_,_,_,_,_,rfl,XD dr fl fx (by omega) h⟩⟩
  rintro Γ' ⟨tp2,S,A,t,e0,e1,e2,e6,e7,e8,rfl,pp⟩
  refine ⟨λΓ=>Γ=[.sh (.scr ns),.sh (wQ n bs ms u),.sh (D.scr goal),.sh (.int often),.sh (.int step),.sh (vm box room aims ws b tp tu),.sh (.lst (box.map zq)),.sh e0,.sh (Rm A),.sh (U (ws++[b])),.sh (.int tp),.sh (.int t),.sh (wd e0 e1 e2 (U (ws++[b])) (.int step) (.int tp2) e6 e7 e8),.sh (Rm S),.sh (.int c),.sh e1,.sh e2,.no,.no,.no,.no,.no],rfl,?_⟩
  rintro Γ' rfl
  exact ⟨box,room,aims,ws,b,tp,tu,c,tp2,S,A,t,e0,e1,e2,e6,e7,e8,rfl,pp,fl.lw⟩
 rintro Z _ σ J1 E3 _ ⟨box,room,aims,ws,b,tp,tu,c,tp2,S,A,t,e0,e1,e2,e6,e7,e8,rfl,pp,lw⟩ J1f f2
 have lσ:σ.length=22:=E3.e.len.symm
 have fr1:∀ {a:Addr} {o:Obj} {u:HO},H a=some (.frz o u)->J1 a=some (.frz o u):=λe=>E3.same.at (wo f1 (s01.at e) λ_ z=>nomatch z)
 have none1:∀ {a:Addr} {xs:List V} {J:Hp},(∀ o u,J1 a=some (.frz o u)->J a=some (.frz o u))->J a=some (.lst xs)->H a=none:=λ{a xs J} k e=>by
  cases hh:H a with
  | none=>rfl
  | some u=>
   obtain ⟨o,ys,rfl⟩:=ho a u hh
   rw [k o _ (fr1 hh)] at e
   cases e
 have get:∀ {i:Nat} {d:D},slot [.sh (.scr ns),.sh (wQ n bs ms u),.sh (D.scr goal),.sh (.int often),.sh (.int step),.sh (vm box room aims ws b tp tu),.sh (.lst (box.map zq)),.sh e0,.sh (Rm A),.sh (U (ws++[b])),.sh (.int tp),.sh (.int t),.sh (wd e0 e1 e2 (U (ws++[b])) (.int step) (.int tp2) e6 e7 e8),.sh (Rm S),.sh (.int c),.sh e1,.sh e2,.sh (.lst [.int step,.int tp2,e6,e7,e8]),.no,.no,.no,.no] i=.sh d->∃ v,σ[i]? = some (some v)/\DV (zK (λ_=>False) J1) v d:=λ{i d} e=>by
  obtain ⟨v,h1,h2⟩:=E3.e.sh i d e
  exact ⟨v,h1,h2.same (gp λ_ z=>z.elim)⟩
 obtain ⟨v1,g1,d1⟩:=get (i:=1) rfl
 obtain ⟨v7,g7,d7⟩:=get (i:=7) rfl
 obtain ⟨v8,g8,d8⟩:=get (i:=8) rfl
 obtain ⟨v9,g9,d9⟩:=get (i:=9) rfl
 obtain ⟨v11,g11,d11⟩:=get (i:=11) rfl
 obtain ⟨v12,g12,d12⟩:=get (i:=12) rfl
 obtain ⟨v13,g13,d13⟩:=get (i:=13) rfl
 obtain ⟨v14,g14,d14⟩:=get (i:=14) rfl
 obtain ⟨v15,g15,d15⟩:=get (i:=15) rfl
 obtain ⟨v16,g16,d16⟩:=get (i:=16) rfl
 obtain ⟨v17,g17,d17⟩:=get (i:=17) rfl
 clear get E3 E2 E1 E0
 have z0:∀ J:Hp,∀ b,(λ_:Addr=>False) b->∃ u,J b=some u/\∀ xs,u≠.tup xs:=λ_ _ z=>z.elim
 have fU:Fw 5 (U (ws++[b])):=ue (by rw [b_]; show _ + 1<=900; omega)
 have f17:za (.lst [.int step,.int tp2,e6,e7,e8])=.frz [.int step,.int tp2,za e6,za e7,za e8]:=by rw [za,zi,zi,zi,zi,zi,zi,za,za]
 have d17:=d17.fz f2
 rw [f17] at d17
 have Ea:=v0 (v0 (v0 (v0 (v0 (Wb hI (σ:=σ) (z0 J1f)) g7 (d7.fz f2)) g9 (d9.fz f2)) g15 (d15.fz f2)) g16 (d16.fz f2)) g17 d17
 rw [lσ] at Ea
 refine ⟨_,_,λd=>d=.obj aFalls kF [e0,e1,e2,U (ws++[b]),.int step,.int tp2,e6,e7,e8],Ea,?_,?_⟩
 ·refine ⟨_,rfl,_,rfl,_,rfl,_,rfl,_,rfl,za e0,za e1,za e2,za (U (ws++[b])),_,_,za e6,za e7,za e8,rfl,pp.f0.fz.1,pp.f1.fz.1,pp.f2.fz.1,fU.fz.1,pp.f6.fz.1,pp.f7.fz.1,pp.f8.fz.1,?_⟩
  rw [pp.f0.fz.2,pp.f1.fz.2,pp.f2.fz.2,fU.fz.2,pp.f6.fz.2,pp.f7.fz.2,pp.f8.fz.2]
 rintro _ v18 J2 rfl s2 dP J2f f3
 clear Ea
 have fS:Fw 5 (Rm S):=XA n3 pp.rs
 have fA:Fw 5 (Rm A):=XA n3 pp.ra
 have up:∀ {v:V} {R0:List (List Int)},DV (zK (λ_=>False) J1) v (Rm R0)->DV (zK (λ_=>False) J2f) v (.frz (R0.map U)):=λ{v R0} h=>by
  have h:=h.fz f2
  rw [zRD] at h
  have h:=(h.same (yg s2)).fz f3
  rw [zRC] at h
  exact h
 have Eb:=v0 (v0 (Wb hI (σ:=σ.set 18 (some v18)) (z0 J2f)) ((cQ (by decide)).trans g13) (up d13)) ((cQ (by decide)).trans g8) (up d8)
 rw [dk,lσ] at Eb
 refine ⟨_,_,λd=>d=.tup [Rm S,Rm A],Eb,⟨k0,rfl⟩,?_⟩
 rintro _ v19 J3 rfl s3 dH J3f f4
 clear Eb
 obtain ⟨p,xs,rfl,ep,hx⟩:=dH.tup_inv
 obtain ⟨x0,x1,rfl,hx0,hx1⟩:=jH hx
 obtain ⟨h0,ys0,rfl,e00,_⟩:=hx0.lst_inv
 obtain ⟨h1,ys1,rfl,e11,_⟩:=hx1.lst_inv
 have ep:=zo _ _ ep
 have e00:=zo _ _ e00
 have e11:=zo _ _ e11
 have dHf:=dH.fz f4
 rw [za,zi,zi,zi] at dHf
 cases d11
 have g19:((σ.set 18 (some v18)).set 19 (some (V.ref p)))[19]? = some (some (V.ref p)):=dB (by rw [dk,lσ]; decide)
 have Ec:=v0 (v0 (Wb hI (σ:=(σ.set 18 (some v18)).set 19 (some (V.ref p))) (z0 J3f)) g19 dHf) (i:=11) ((cQ (by decide)).trans ((cQ (by decide)).trans g11)) (.int t)
 rw [dk,dk,lσ] at Ec
 refine ⟨_,_,λd=>d=.obj aComes WO [Rm S,Rm A,.int t],Ec,?_,?_⟩
 ·refine ⟨_,rfl,_,rfl,za (Rm S),za (Rm A),_,rfl,fS.fz.1,fA.fz.1,?_⟩
  rw [fS.fz.2,fA.fz.2]
 rintro _ v20 J4 rfl s4 dC J4f f5
 clear Ec dHf up
 have ch:Ch J1 J1f J2 J2f J3 J3f J4 J4f:=⟨f2,s2,f3,s3,f4,s4,f5⟩
 have keep:∀ {i:Nat} {v:V},i≠18->i≠19->i≠20->σ[i]? = some (some v)->(((σ.set 18 (some v18)).set 19 (some (V.ref p))).set 20 (some v20))[i]? = some (some v):=λa b c h=>(cQ (Ne.symm c)).trans ((cQ (Ne.symm b)).trans ((cQ (Ne.symm a)).trans h))
 have f9:Fw 6 (wd e0 e1 e2 (U (ws++[b])) (.int step) (.int tp2) e6 e7 e8):=.lst (by show 9<=900; decide) λd hd=>by
  simp only [cz,cZ,or_false] at hd
  rcases hd with rfl | rfl | rfl | rfl | rfl | rfl | rfl | rfl | rfl
  ·exact pp.f0
  ·exact pp.f1
  ·exact pp.f2
  ·exact fU
  ·exact .int _
  ·exact .int _
  ·exact pp.f6
  ·exact pp.f7
  ·exact pp.f8
 refine ⟨T1 J1,λa ⟨xs,e⟩=>none1 (λ_ _ z=>z) e,⟨v12,keep (by decide) (by decide) (by decide) g12,v12,_,rfl,ch.parts d12 f9,f9,λJ6 em=>?_⟩⟩
 have to3:∀ {a:Addr} {o:Obj} {u:HO},J1 a=some (.frz o u)->J3 a=some (.frz o u):=λe=>s3.at (wo f3 (s2.at (wo f2 e λ_ z=>nomatch z)) λ_ z=>nomatch z)
 refine ⟨T2 h0 h1,λa z=>?_,?_⟩
 ·rcases z with rfl | rfl
  ·exact none1 (λ_ _ z=>to3 z) e00
  ·exact none1 (λ_ _ z=>to3 z) e11
 have at0:=ch.at0 e00 e11 em
 have etp:=ch.tup e00 e11 em ep
 have g19:(((σ.set 18 (some v18)).set 19 (some (V.ref p))).set 20 (some v20))[19]? = some (some (V.ref p)):=(cQ (by decide)).trans g19
 refine ⟨.ref p,g19,p,_,_,_,rfl,rfl,yH.of etp,rfl,.inl ⟨rfl,_,zw.of at0⟩,h0,ys0,rfl,rfl,at0,?_⟩
 have pne:p≠h0:=kh etp at0 λz=>nomatch z
 have etp8:zV (wA (T2 h0 h1) J6) h0 (.lst []) p=some (.tup [.ref h0,.ref h1]):=(zl pne).trans etp
 obtain ⟨ys,e8'⟩:∃ ys,zV (wA (T2 h0 h1) J6) h0 (.lst []) h1=some (.lst ys):=by
  by_cases z:h1=h0
  ·rw [z]; exact ⟨_,xv⟩
  ·exact ⟨_,(zl z).trans (ch.at1 e00 e11 em)⟩
 refine ⟨.ref p,g19,p,_,_,_,rfl,rfl,yH.of etp8,rfl,.inl ⟨rfl,_,zw.of e8'⟩,h1,ys,rfl,rfl,e8',?_⟩
 have to2:∀ {a:Addr} {o:Obj} {u:HO},J1 a=some (.frz o u)->J2 a=some (.frz o u):=λe=>s2.at (wo f2 e λ_ z=>nomatch z)
 have to4:∀ {a:Addr} {o:Obj} {u:HO},J1 a=some (.frz o u)->J4 a=some (.frz o u):=λe=>s4.at (wo f4 (to3 e) λ_ z=>nomatch z)
 refine ⟨T3 J2 J4,λa z=>?_,?_⟩
 ·rcases z with ⟨xs,z⟩ | ⟨xs,z⟩
  ·exact none1 (λ_ _ y=>to2 y) z
  ·exact none1 (λ_ _ y=>to4 y) z
 cases d14
 have kP:yZ true false (.obj aFalls kF [e0,e1,e2,U (ws++[b]),.int step,.int tp2,e6,e7,e8])=true:=by
  have:=f9.kd
  rw [yZ,fX] at this
  rw [yZ]
  exact this
 have kC:yZ true false (.obj aComes WO [Rm S,Rm A,.int t])=true:=by rw [yZ,zy,zy,zy,zy,fS.kd,fA.kd,yZ]; rfl
 have g18:(((σ.set 18 (some v18)).set 19 (some (V.ref p))).set 20 (some v20))[18]? = some (some v18):=(cQ (by decide)).trans ((cQ (by decide)).trans (dB (by rw [lσ]; decide)))
 have g20:(((σ.set 18 (some v18)).set 19 (some (V.ref p))).set 20 (some v20))[20]? = some (some v20):=dB (by rw [dk,dk,lσ]; decide)
 have Ed:=v0 (v0 (v0 (v0 (Wb hI (σ:=((σ.set 18 (some v18)).set 19 (some (V.ref p))).set 20 (some v20)) (z0 (wA (T3 J2 J4) (J9 J6 h0 h1)))) (keep (by decide) (by decide) (by decide) g1) (ch.spec e00 e11 em d1 (zQz n bs ms u))) (i:=14) (keep (by decide) (by decide) (by decide) g14) (.int c)) g18 (ch.paper e00 e11 em dP kP)) g20 (ch.claim e00 e11 em dC kC)
 rw [dk,dk,dk,lσ] at Ed
 refine ⟨_,_,_,_,{ nx:=λ_=>False,rt:=λd=>d=.bool true },QR Ed rfl,?_,λ_ _ _ _ _ _ z=>z.elim,λd v H' _ dv e=>by subst e; cases dv; exact q H',λ_ _ _ _ _ _ z=>z.elim,λ_ _ _ _ _ _ z=>z.elim⟩
 clear Ed g18 g20 kP kC to2 to3 to4 etp8 etp at0 em ch keep
 refine ⟨⟨_,_,TFalls⟩,_,Y.k_Falls_Paper,wF rfl ⟨⟨_,_,TComes⟩,_,Y.k_Comes_Claim,wF rfl ?_⟩⟩
 obtain ⟨ok,cl⟩:=zO7 dr.ok
 refine ⟨n,bs,ms,u,rfl,dr.ok,false,n,bs,ms.map (jM n),u,rfl,ok,n,bs,ms.map (jM n),_,_,rfl,.inl ⟨ok,cl,?_⟩⟩
 refine wF (by decide) ?_
 have TS:jg n bs ms:=⟨dr.ok,λm hm=>(dr.hms m hm).ms (by decide),λb hb=>⟨(dr.hbs b hb).1.mono,(dr.hbs b hb).2.mono⟩⟩
 refine ⟨true,n,bs,ms,u,rfl,dr.ok,n,bs,ms,_,_,rfl,.inr ⟨n,bs,ms,S,A,t,e0,e1,e2,ws,b,step,tp2,e6,e7,e8,5,rfl,TS,pp.ra,pp.rs,pp.t0,pp.bt,pp.f0,dr.cl,?_⟩⟩
 rcases pp.alt with ⟨hb,hf⟩ | ⟨room',rfl,PS,q1,q2,q6,q7,q8,hl⟩
 ·exact .inl ⟨hb,rfl,wT rfl ⟨by decide,by show D.bool (false == decide (c.fmod 8<=3))=_; rw [hf]; rfl⟩⟩
 ·refine .inr ⟨room',rfl,PS,pp.f1,pp.f2,pp.f6,pp.f7,pp.f8,q1,q2,q6,q7,q8,?_⟩
  rw [hl]
  exact ⟨rfl,wT rfl ⟨by decide,by show D.bool (decide (c.fmod 8<=3) == decide (c.fmod 8<=3))=_; rw [beq_self_eq_true]⟩⟩
end
end K55
namespace L2
open PySem PySem.Spec PyProof.Rows
theorem Wn {α:Type} {P:List α->Prop} (h:∀ x0:α,P [x0]):∀ us:List α,us.length=1->P us
 | [x0],_=>h x0
theorem XN {α:Type} {P:List α->Prop} (h:∀ x0 x1:α,P [x0,x1]):∀ us:List α,us.length=2->P us
 | [x0,x1],_=>h x0 x1
theorem XO {α:Type} {P:List α->Prop} (h:∀ x0 x1 x2:α,P [x0,x1,x2]):∀ us:List α,us.length=3->P us
 | [x0,x1,x2],_=>h x0 x1 x2
theorem Wo {α:Type} {P:List α->Prop} (h:∀ x0 x1 x2 x3:α,P [x0,x1,x2,x3]):∀ us:List α,us.length=4->P us
 | [x0,x1,x2,x3],_=>h x0 x1 x2 x3
theorem Wp {α:Type} {P:List α->Prop} (h:∀ x0 x1 x2 x3 x4:α,P [x0,x1,x2,x3,x4]):∀ us:List α,us.length=5->P us
 | [x0,x1,x2,x3,x4],_=>h x0 x1 x2 x3 x4
theorem Wq {α:Type} {P:List α->Prop} (h:∀ x0 x1 x2 x3 x4 x5 x6:α,P [x0,x1,x2,x3,x4,x5,x6]):∀ us:List α,us.length=7->P us
 | [x0,x1,x2,x3,x4,x5,x6],_=>h x0 x1 x2 x3 x4 x5 x6
theorem Wr {α:Type} {P:List α->Prop} (h:∀ x0 x1 x2 x3 x4 x5 x6 x7 x8 x9:α,P [x0,x1,x2,x3,x4,x5,x6,x7,x8,x9]):∀ us:List α,us.length=10->P us
 | [x0,x1,x2,x3,x4,x5,x6,x7,x8,x9],_=>h x0 x1 x2 x3 x4 x5 x6 x7 x8 x9
structure Gf (K:W.Frag) (x:Str) (st:Stmt) (f:Addr) (fd:FuncData):Prop where
 at_:W.nsIn K mainGlobals x=some (some (.ref f))
 F:ze K x x st f fd
abbrev Ge (K:W.Frag) (x:Str) (st:Stmt):Prop:=∃ f fd,Gf K x st f fd
structure Gm (K:W.Frag) (C:Addr) (x q:Str) (st:Stmt) (f:Addr) (fd:FuncData):Prop where
 at_:W.findIn K (.ref C) x=some (some (.ref f))
 fn:W.isFn K (.ref f)=true
 F:ze K x q st f fd
abbrev Gn (K:W.Frag) (C:Addr) (x q:Str) (st:Stmt):Prop:=∃ f fd,Gm K C x q st f fd
structure Gd (K:W.Frag) (x:Str) (st:Stmt) (f:Addr) (fd:FuncData) (d:Value):Prop where
 at_:W.nsIn K mainGlobals x=some (some (.ref f))
 F:xh K x x st f fd d
abbrev Gi (K:W.Frag) (x:Str) (st:Stmt) (i:Int):Prop:=∃ f fd t,Gd K x st f fd (.int i t)
structure Gc (K:W.Frag) (x:Str) (C:Addr):Prop where
 nm:W.nsIn K mainGlobals x=some (some (.ref C))
 pg:W.plainGet K C Str.empty=true
 hd:W.hasDictIn K C=true
 po:W.plainOver K C=true
 sa:W.findIn K (.ref C) "__setattr__" = some (some (.builtin "object.__setattr__"))
 mk_:W.makesIn K C=true
 kc:W.keepIn K (.ref C)=true
 ha:W.findIn K (.ref C) "__class__" = some (some (.builtin "object.__class__"))
 hn:W.specialIn K (.builtin "object.__class__") "__get__" = some (some (.builtin "getset_descriptor.__get__"))
 tk:W.takesIn K (.builtin "object.__class__")=some true
 hm:W.mroIn K C (.type "object")=some true
section
variable {P:Program} {w:World} {K:W.Frag} {mg:Str->Option Value} {base h:Heap} {x q:Str} {st:Stmt} {f C T:Addr} {fd:FuncData} {ps:List Str} {k:Nat} {sp:Sp} {oc kV doc pm cdv ct oT:Value} {od an dT:Option Addr} {osl sT:Array (Option Value)}
theorem XQ (a:W.nsIn K mainGlobals x=some (some (.ref f))) (l:K.lookup f=some ⟨oc,od,.func (W.fnOf x x (vA st) (xo st) (zP st) .none kV doc pm an cdv ct),osl⟩) (c:W.codeIn K cdv x=true) (k:W.keepIn K (.ref f)=true):Ge K x st:=⟨f,_,a,zOJ l c k⟩
theorem XR (a:W.findIn K (.ref C) x=some (some (.ref f))) (i:W.isFn K (.ref f)=true) (l:K.lookup f=some ⟨oc,od,.func (W.fnOf x q (vA st) (xo st) (zP st) .none kV doc pm an cdv ct),osl⟩) (c:W.codeIn K cdv q=true) (k:W.keepIn K (.ref f)=true):Gn K C x q st:=⟨f,_,a,i,zOJ l c k⟩
theorem XS {i:Int} {t:Tok} {n:Nat} (a:W.nsIn K mainGlobals x=some (some (.ref f))) (l:K.lookup f=some ⟨oc,od,.func (W.fnOf x x (vA st) (xo st) (zP st) (.ref T) kV doc pm an cdv ct),osl⟩) (c:W.codeIn K cdv x=true) (k:W.keepIn K (.ref f)=true) (d:K.lookup T=some ⟨oT,dT,.seq #[.int i t] n,sT⟩):Gi K x st i:=⟨f,_,t,a,zPZ l c k d rfl⟩
theorem Gc.cls (g:Gc K x C) (X:K.In h) (G:h.Ns mainGlobals mg):yo K mg x C:=⟨⟨g.pg,g.hd,g.po,g.sa⟩,W.mg_of X G g.nm,g.ha,g.hn,g.tk,g.hm⟩
abbrev Bn (x q:Str) (st:Stmt) (ps:List Str):Prop:=∀ (kV doc pm:Value) (an:Option Addr) (cdv ct:Value) (us:List Value),us.length=ps.length->bindArgs (W.fnOf x q (vA st) (xo st) (zP st) .none kV doc pm an cdv ct) ⟨us,[]⟩=pure (ps.zip us)
structure Wh (P:Program) (w:World) (K:W.Frag) (mg:Str->Option Value) (base h:Heap):Prop where
 X:K.In h
 G:h.Ns mainGlobals mg
theorem Gf.fn (g:Gf K x st f fd) (Y:Wh P w K mg base h) (o:zF P w K mg base zT k f fd ps sp) (b:Bn x x st ps:=by intro _ _ _ _ _ _; first | exact L2.Wn λ_=>rfl | exact L2.XN λ_ _=>rfl | exact L2.XO λ_ _ _=>rfl | exact L2.Wo λ_ _ _ _=>rfl | exact L2.Wp λ_ _ _ _ _=>rfl | exact L2.Wq λ_ _ _ _ _ _ _=>rfl | exact L2.Wr λ_ _ _ _ _ _ _ _ _ _=>rfl):Fn P w K mg base x ps k sp:=⟨f,fd,o,W.mg_of Y.X Y.G g.at_,g.F.kp,g.F.binds b⟩
theorem Gf.fx (g:Gf K x st f fd) (Y:Wh P w K mg base h) (o:zF P w K mg base (xZ P w) k f fd ps sp) (b:Bn x x st ps:=by intro _ _ _ _ _ _; first | exact L2.Wn λ_=>rfl | exact L2.XN λ_ _=>rfl | exact L2.XO λ_ _ _=>rfl | exact L2.Wo λ_ _ _ _=>rfl | exact L2.Wp λ_ _ _ _ _=>rfl | exact L2.Wq λ_ _ _ _ _ _ _=>rfl | exact L2.Wr λ_ _ _ _ _ _ _ _ _ _=>rfl):jU P w K mg base x ps k sp:=⟨f,fd,o,W.mg_of Y.X Y.G g.at_,g.F.kp,g.F.binds b⟩
theorem Gm.fm (g:Gm K C x q st f fd) (_:Wh P w K mg base h) (o:zF P w K mg base zT k f fd ps sp) (b:Bn x q st ps:=by intro _ _ _ _ _ _; first | exact L2.Wn λ_=>rfl | exact L2.XN λ_ _=>rfl | exact L2.XO λ_ _ _=>rfl | exact L2.Wo λ_ _ _ _=>rfl | exact L2.Wp λ_ _ _ _ _=>rfl | exact L2.Wq λ_ _ _ _ _ _ _=>rfl | exact L2.Wr λ_ _ _ _ _ _ _ _ _ _=>rfl):uB P w K mg base C x ps k sp:=⟨f,fd,o,⟨g.at_,g.fn,g.F.kp⟩,g.F.binds b⟩
theorem Gm.fc {y:Str} (g:Gm K C "__init__" q st f fd) (_:Wh P w K mg base h) (c:Gc K y C) (o:zF P w K mg base zT k f fd ps sp) (b:Bn "__init__" q st ps:=by intro _ _ _ _ _ _; first | exact L2.Wn λ_=>rfl | exact L2.XN λ_ _=>rfl | exact L2.XO λ_ _ _=>rfl | exact L2.Wo λ_ _ _ _=>rfl | exact L2.Wp λ_ _ _ _ _=>rfl | exact L2.Wq λ_ _ _ _ _ _ _=>rfl | exact L2.Wr λ_ _ _ _ _ _ _ _ _ _=>rfl):ur P w K mg base C ps k sp:=⟨f,fd,o,⟨c.mk_,g.at_,g.fn,c.kc⟩,g.F.binds b⟩
theorem Gd.fn {i:Int} {t:Tok} (g:Gd K x st f fd (.int i t)) (Y:Wh P w K mg base h) (b:∀ (T:Addr) (kV doc pm:Value) (an:Option Addr) (cdv ct:Value) (us:List Value),us.length=ps.length->∃ k:Option (Array Value)->Sem (List (Str × Value)),bindArgs (W.fnOf x x (vA st) (xo st) (zP st) (.ref T) kV doc pm an cdv ct) ⟨us,[]⟩=seqItems? (.ref T) >>= k/\k (some #[.int i t])=pure (ps.zip us))
  (d:∀ (T:Addr) (kV doc pm:Value) (an:Option Addr) (cdv ct:Value) (us:List Value),us.length + 1=ps.length->∃ k:Option (Array Value)->Sem (List (Str × Value)),bindArgs (W.fnOf x x (vA st) (xo st) (zP st) (.ref T) kV doc pm an cdv ct) ⟨us,[]⟩=seqItems? (.ref T) >>= k/\k (some #[.int i t])=pure (ps.zip (us++[.int i t]))) (o:zF P w K mg base zT k f fd ps sp):vp P w K mg base x ps k sp (.int i):=
 ⟨f,fd,_,o,W.mg_of Y.X Y.G g.at_,g.F.kp,g.F.binds b,g.F.binds1 d,⟨_,rfl⟩⟩
end
end L2
namespace K55
open PySem L2 Sh Pu
noncomputable def tb0:yW:=⟨λ_=>True,λ_ _=>trivial,λ_ _ _ _=>trivial⟩
variable [iT:yW]
theorem zNu {F:FL} (h:∀ ds R,¬ F ds R):∀ vs H Q E,¬ zG F vs H Q E:=λ_ _ _ _ ⟨_,ds,R,_,_,f,_⟩=>h ds R f
abbrev zFS:Stmt:=zp 54
theorem zNZ:∀ ds R,¬ jf 0 ds R:=λ_ _ ⟨_,_,_,h,_⟩=>by cases h
theorem all_mk (hI:∀ H:Hp,yW.I H) {l:W.OpenLaw} {w:World} {K:W.Frag} {h:Heap} {mg:Str->Option Value} {fa:Addr} (X:K.In h) (G:h.Ns mainGlobals mg) (hfa:mg "law" = some (.ref fa))
  {aClaim aSettles aComes af ag aPaper aRooms aFalls cC:Addr}
  (GClaim:Gc K "Claim" aClaim)
  (GSettles:Gc K "Settles" aSettles)
  (GComes:Gc K "Comes" aComes)
  (GMode:Gc K "Mode" af)
  (GThing:Gc K "Thing" ag)
  (GPaper:Gc K "Paper" aPaper)
  (GRooms:Gc K "Rooms" aRooms)
  (GFalls:Gc K "Falls" aFalls)
  (n_start_Settles:W.findIn K (.ref aSettles) "start" = some none)
  (n_rows_Settles:W.findIn K (.ref aSettles) "rows" = some none)
  (n_turn_Settles:W.findIn K (.ref aSettles) "turn" = some none)
  (n_start_Comes:W.findIn K (.ref aComes) "start" = some none)
  (n_goal_Comes:W.findIn K (.ref aComes) "goal" = some none)
  (n_turns_Comes:W.findIn K (.ref aComes) "turns" = some none)
  (bX:W.findIn K (.ref af) "rows" = some none)
  (bY:W.findIn K (.ref af) "nexts" = some none)
  (bZ:W.findIn K (.ref af) "steer" = some none)
  (b7:W.findIn K (.ref af) "push" = some none)
  (b8:W.findIn K (.ref af) "add" = some none)
  (b9:W.findIn K (.ref af) "divisor" = some none)
  (ca:W.findIn K (.ref ag) "many" = some none)
  (cb:W.findIn K (.ref ag) "kept_pushes" = some none)
  (cf:W.findIn K (.ref ag) "kept_modes" = some none)
  (n_rooms_Rooms:W.findIn K (.ref aRooms) "rooms" = some none)
  (n_back_Rooms:W.findIn K (.ref aRooms) "back" = some none)
  (n_starts_Rooms:W.findIn K (.ref aRooms) "starts" = some none)
  (n_steps_Rooms:W.findIn K (.ref aRooms) "steps" = some none)
  (n_stays_Rooms:W.findIn K (.ref aRooms) "stays" = some none)
  (n_room_Falls:W.findIn K (.ref aFalls) "room" = some none)
  (n_starts_Falls:W.findIn K (.ref aFalls) "starts" = some none)
  (n_steps_Falls:W.findIn K (.ref aFalls) "steps" = some none)
  (n_measure_Falls:W.findIn K (.ref aFalls) "measure" = some none)
  (n_step_Falls:W.findIn K (.ref aFalls) "step" = some none)
  (n_top_Falls:W.findIn K (.ref aFalls) "top" = some none)
  (n_falls_Falls:W.findIn K (.ref aFalls) "falls" = some none)
  (n_floors_Falls:W.findIn K (.ref aFalls) "floors" = some none)
  (n_tops_Falls:W.findIn K (.ref aFalls) "tops" = some none)
  (w_Comes_Settles:W.kitOne K (.ref aComes) (.ref aSettles)=some false)
  (w_Falls_Paper:W.kitOne K (.ref aFalls) (.ref aPaper)=some true)
  (w_Comes_Claim:W.kitOne K (.ref aComes) (.ref aClaim)=some true)
  (mC:W.nsIn K mainGlobals "NotClosed" = some (some (.ref cC)))
  (xC:W.excIn K cC [.type "ValueError",.type "Exception",.type "BaseException",.type "object"] "ValueError.__new__" = true)
  (sC:W.exmOne K (.ref cC) (.ref cC)=some true)
  (z0:W.nsIn K mainGlobals "isinstance" = some none)
  (z1:W.nsIn K mainGlobals "int" = some none)
  (z2:W.nsIn K mainGlobals "bool" = some none)
  (z3:W.nsIn K mainGlobals "tuple" = some none)
  (z4:W.nsIn K mainGlobals "len" = some none)
  (z5:W.nsIn K mainGlobals "all" = some none)
  (z6:W.nsIn K mainGlobals "list" = some none)
  (z7:W.nsIn K mainGlobals "range" = some none)
  (z8:W.nsIn K mainGlobals "zip" = some none)
  (z9:W.nsIn K mainGlobals "sum" = some none)
  (z10:W.nsIn K mainGlobals "max" = some none)
  (z11:W.nsIn K mainGlobals "enumerate" = some none)
  {gt0:Tok} (cst0:W.nsIn K mainGlobals "MOST_NUMBERS" = some (some (.int 3 gt0)))
  {gt1:Tok} (cst1:W.nsIn K mainGlobals "MOST_PUSHES" = some (some (.int 6 gt1)))
  {gt2:Tok} (cst2:W.nsIn K mainGlobals "MOST_MODES" = some (some (.int 40 gt2)))
  : Ge K "is_whole" QU->Ge K "is_numbers" QV->Ge K "is_table" QW->Gi K "copied" QX 5->Gi K "unit" QZ 1->Ge K "scaled" Qa->Ge K "mixed" Qb->Ge K "paired" Qc->Ge K "added_up" Qd->Ge K "is_row" Qe->Ge K "is_room" Qf->Ge K "single" Qg->Ge K "other_side" Qh->Gn K af "__init__" "Mode.__init__" Qi->Ge K "is_push" Qj->Ge K "is_mode" Qk->Ge K "is_sound" Ql->Gn K ag "__init__" "Thing.__init__" Qn->Gn K ag "pushes" "Thing.pushes" Qo->Gn K ag "modes" "Thing.modes" Qp->Ge K "is_unsteered" Qq->Gn K ag "is_closed" "Thing.is_closed" Qr->Ge K "ask_closed" Wg->Ge K "standing" Qs->Ge K "reach" Qt->Ge K "added" Qv->Ge K "is_from_0_on" Qw->Ge K "are_shares" Qx->Ge K "shows" Qy->Ge K "is_list_of" Qz->Ge K "each_shown" Q0->Ge K "mode_leads" Q1->Ge K "leads" Q2->Gn K aComes "__init__" "Comes.__init__" Q4->Gn K aFalls "__init__" "Falls.__init__" Q5->Ge K "comes_over" Q6->Ge K "height_at_most" Q7->Ge K "height_from_0_on" Q8->Ge K "fall_row" Q9->Ge K "floors_hold" KB->Ge K "mode_falls" KD->Ge K "falls_hold" KE->Ge K "lets_rooms_by" zFS->Ge K "lets_fall_by" KG->Ge K "lets_by" Wl->Ge K "_law_cell_at" KH->Ge K "_law_stream" KI->Ge K "_law_number" KJ->Ge K "_law_box" KL->Ge K "_law_rows" KM->Ge K "_law_top" KN->Ge K "_law_both" KO->Ge K "_law_drift_mode" KP->Ge K "_law_drift" KQ->Ge K "_law_pushed" KR->Ge K "_law_falling" KS->Ge K "_law_fall_parts" KT->Ge K "_law_made" KU->Ge K "_law_open" KW->Ge K "_law_without_goal" KZ->Ge K "_law_without_start" Ka->Ge K "_law_let" Kb->Ge K "_law_odd" Kc->Ge K "_law_emptied" Ke->Ge K "law" kY->∃ fd:FuncData,(∀ (s:Shared) (v:Value),BindsTo s fd ⟨[v],[]⟩ [("_law_script",v)])/\∀ base:Heap,K.In base->base.Ns mainGlobals mg->zF l.prog w K mg base zT 11 fa fd ["_law_script"] Wf:=by
 rintro ⟨_,_,G0⟩ ⟨_,_,G1⟩ ⟨_,_,G2⟩ ⟨_,_,_,G3⟩ ⟨_,_,_,G4⟩ ⟨_,_,G5⟩ ⟨_,_,G6⟩ ⟨_,_,G7⟩ ⟨_,_,G8⟩ ⟨_,_,G9⟩ ⟨_,_,G10⟩ ⟨_,_,G11⟩ ⟨_,_,G12⟩ ⟨_,_,G13⟩ ⟨_,_,G14⟩ ⟨_,_,G15⟩ ⟨_,_,G16⟩ ⟨_,_,G17⟩ ⟨_,_,G18⟩ ⟨_,_,G19⟩ ⟨_,_,G20⟩ ⟨_,_,G21⟩ ⟨_,_,G22⟩ ⟨_,_,G23⟩ ⟨_,_,G24⟩ ⟨_,_,G25⟩ ⟨_,_,G26⟩ ⟨_,_,G27⟩ ⟨_,_,G28⟩ ⟨_,_,G29⟩ ⟨_,_,G30⟩ ⟨_,_,G31⟩ ⟨_,_,G32⟩ ⟨_,_,G33⟩ ⟨_,_,G34⟩ ⟨_,_,G35⟩ ⟨_,_,G36⟩ ⟨_,_,G37⟩ ⟨_,_,G38⟩ ⟨_,_,G39⟩ ⟨_,_,G40⟩ ⟨_,_,G41⟩ ⟨_,_,G42⟩ ⟨_,_,G43⟩ ⟨_,_,G44⟩ ⟨_,_,G45⟩ ⟨_,_,G46⟩ ⟨_,_,G47⟩ ⟨_,_,G48⟩ ⟨_,_,G49⟩ ⟨_,_,G50⟩ ⟨_,_,G51⟩ ⟨_,_,G52⟩ ⟨_,_,G53⟩ ⟨_,_,G54⟩ ⟨_,_,G55⟩ ⟨_,_,G56⟩ ⟨_,_,G57⟩ ⟨_,_,G58⟩ ⟨_,_,G59⟩ ⟨_,_,G60⟩ ⟨_,_,G61⟩ ⟨_,_,G62⟩ ⟨_,_,G63⟩ ⟨_,_,G64⟩
 have e:=hfa.symm.trans (W.mg_of X G G64.at_)
 cases e
 have B:Bl mg:=⟨W.mg_none_of X G z0,W.mg_none_of X G z1,W.mg_none_of X G z2,W.mg_none_of X G z3,W.mg_none_of X G z4,W.mg_none_of X G z5,W.mg_none_of X G z6,W.mg_none_of X G z7,W.mg_none_of X G z8,W.mg_none_of X G z9,W.mg_none_of X G z10,W.mg_none_of X G z11,⟨_,W.mg_of X G cst0⟩,⟨_,W.mg_of X G cst1⟩,⟨_,W.mg_of X G cst2⟩⟩
 have TClaim:=GClaim.cls X G
 have AClaim:zMM K aClaim:=⟨True.intro⟩
 have TSettles:=GSettles.cls X G
 have ASettles:zIC K aSettles:=⟨n_start_Settles,n_rows_Settles,n_turn_Settles⟩
 have TComes:=GComes.cls X G
 have AComes:zML K aComes:=⟨n_start_Comes,n_goal_Comes,n_turns_Comes⟩
 have aa:=GMode.cls X G
 have ad:zOb K af:=⟨bX,bY,bZ,b7,b8,b9⟩
 have ac:=GThing.cls X G
 have ae:zMH K ag:=⟨ca,cb,cf⟩
 have TPaper:=GPaper.cls X G
 have APaper:zMJ K aPaper:=⟨True.intro⟩
 have TRooms:=GRooms.cls X G
 have ARooms:zMI K aRooms:=⟨n_rooms_Rooms,n_back_Rooms,n_starts_Rooms,n_steps_Rooms,n_stays_Rooms⟩
 have TFalls:=GFalls.cls X G
 have AFalls:zMK K aFalls:=⟨n_room_Falls,n_starts_Falls,n_steps_Falls,n_measure_Falls,n_step_Falls,n_top_Falls,n_falls_Falls,n_floors_Falls,n_tops_Falls⟩
 have Y:qO K aComes aSettles aFalls aPaper aClaim:=⟨w_Comes_Settles,w_Falls_Paper,w_Comes_Claim⟩
 have Z:Er K mg cC:=⟨W.mg_of X G mC,xC,sC⟩
 obtain ⟨_,_,kV,dc,pm,an,cd,ct,_,rfl,_⟩:=G64.F.ex
 refine ⟨W.fnOf "law" "law" (vA kY) (xo kY) (zP kY) .none kV dc pm an cd ct,λs v=>.of_eq rfl,λbase _ _=>?_⟩
 have Yw:Wh l.prog w K mg base h:=⟨X,G⟩
 have N0:=G0.fn Yw (zIe (k:=0) TClaim AClaim TSettles ASettles TComes AComes aa ad ac ae TPaper APaper TRooms ARooms TFalls AFalls Y B G0.F )
 have N1:=G1.fn Yw (zG5 (k:=1) TClaim AClaim TSettles ASettles TComes AComes aa ad ac ae TPaper APaper TRooms ARooms TFalls AFalls Y B G1.F N0.mono)
 have N2:=G2.fn Yw (zIf (k:=2) TClaim AClaim TSettles ASettles TComes AComes aa ad ac ae TPaper APaper TRooms ARooms TFalls AFalls Y B G2.F N1.mono)
 have D3:=λ{k sp}=>G3.fn (ps:=["value","depth"]) (k:=k) (sp:=sp) Yw (λ_ _ _ _ _ _ _=>L2.XN λ_ _=>⟨_,rfl,rfl⟩) λ_ _ _ _ _ _ _ us hl=>match us,hl with | [_],_=>⟨_,rfl,rfl⟩
 have N3_0:=D3 (zF.no (k:=1) (sp:=(zG (jf 0))) (zNu zNZ))
 have N3_1:=D3 (kZ (k:=1) (j:=0) TClaim AClaim TSettles ASettles TComes AComes aa ad ac ae TPaper APaper TRooms ARooms TFalls AFalls Y B G3.F N3_0.mono)
 have N3_2:=D3 (kZ (k:=2) (j:=1) TClaim AClaim TSettles ASettles TComes AComes aa ad ac ae TPaper APaper TRooms ARooms TFalls AFalls Y B G3.F N3_1.mono)
 have N3_3:=D3 (kZ (k:=3) (j:=2) TClaim AClaim TSettles ASettles TComes AComes aa ad ac ae TPaper APaper TRooms ARooms TFalls AFalls Y B G3.F N3_2.mono)
 have N3_4:=D3 (kZ (k:=4) (j:=3) TClaim AClaim TSettles ASettles TComes AComes aa ad ac ae TPaper APaper TRooms ARooms TFalls AFalls Y B G3.F N3_3.mono)
 have N3_5:=D3 (kZ (k:=5) (j:=4) TClaim AClaim TSettles ASettles TComes AComes aa ad ac ae TPaper APaper TRooms ARooms TFalls AFalls Y B G3.F N3_4.mono)
 have N3_6:=D3 (kZ (k:=6) (j:=5) TClaim AClaim TSettles ASettles TComes AComes aa ad ac ae TPaper APaper TRooms ARooms TFalls AFalls Y B G3.F N3_5.mono)
 have N3:=N3_6
 have D4:=λ{k sp}=>G4.fn (ps:=["place","wide","number"]) (k:=k) (sp:=sp) Yw (λ_ _ _ _ _ _ _=>L2.XO λ_ _ _=>⟨_,rfl,rfl⟩) λ_ _ _ _ _ _ _ us hl=>match us,hl with | [_,_],_=>⟨_,rfl,rfl⟩
 have N4:=D4 (zPM (k:=0) TClaim AClaim TSettles ASettles TComes AComes aa ad ac ae TPaper APaper TRooms ARooms TFalls AFalls Y B G4.F )
 have N5:=G5.fn Yw (zK7 (k:=0) TClaim AClaim TSettles ASettles TComes AComes aa ad ac ae TPaper APaper TRooms ARooms TFalls AFalls Y B G5.F )
 have N6:=G6.fn Yw (zM9 (k:=0) TClaim AClaim TSettles ASettles TComes AComes aa ad ac ae TPaper APaper TRooms ARooms TFalls AFalls Y B G6.F )
 have N7:=G7.fn Yw (zK8 (k:=0) TClaim AClaim TSettles ASettles TComes AComes aa ad ac ae TPaper APaper TRooms ARooms TFalls AFalls Y B G7.F )
 have N8:=G8.fn Yw (zIi (k:=0) TClaim AClaim TSettles ASettles TComes AComes aa ad ac ae TPaper APaper TRooms ARooms TFalls AFalls Y B G8.F )
 have N9:=G9.fn Yw (zLD (k:=1) TClaim AClaim TSettles ASettles TComes AComes aa ad ac ae TPaper APaper TRooms ARooms TFalls AFalls Y B G9.F N0.mono)
 have N10:=G10.fn Yw (zJ2 (k:=2) TClaim AClaim TSettles ASettles TComes AComes aa ad ac ae TPaper APaper TRooms ARooms TFalls AFalls Y B G10.F N9.mono)
 have N11:=G11.fn Yw (zK6 (k:=1) TClaim AClaim TSettles ASettles TComes AComes aa ad ac ae TPaper APaper TRooms ARooms TFalls AFalls Y B G11.F N4.mono)
 have N12:=G12.fn Yw (zG2 (k:=0) TClaim AClaim TSettles ASettles TComes AComes aa ad ac ae TPaper APaper TRooms ARooms TFalls AFalls Y B G12.F )
 have N13:=G13.fc Yw GMode (zFA (k:=7) TClaim AClaim TSettles ASettles TComes AComes aa ad ac ae TPaper APaper TRooms ARooms TFalls AFalls Y B G13.F N3.mono)
 have N14:=G14.fn Yw (zJ3 (k:=1) TClaim AClaim TSettles ASettles TComes AComes aa ad ac ae TPaper APaper TRooms ARooms TFalls AFalls Y B G14.F N0.mono)
 have N15:=G15.fn Yw (zJ4 (k:=3) TClaim AClaim TSettles ASettles TComes AComes aa ad ac ae TPaper APaper TRooms ARooms TFalls AFalls Y B G15.F N10.mono N2.mono N1.mono N0.mono)
 have N16:=G16.fn Yw (zIg (k:=4) TClaim AClaim TSettles ASettles TComes AComes aa ad ac ae TPaper APaper TRooms ARooms TFalls AFalls Y B G16.F N0.mono N14.mono N15.mono)
 have N17:=G17.fc Yw GThing (zEn (k:=5) TClaim AClaim TSettles ASettles TComes AComes aa ad ac ae TPaper APaper TRooms ARooms TFalls AFalls Y B G17.F N16.mono)
 have N18:=G18.fm Yw (zFj (k:=0) TClaim AClaim TSettles ASettles TComes AComes aa ad ac ae TPaper APaper TRooms ARooms TFalls AFalls Y B G18.F )
 have N19:=G19.fm Yw (zGE (k:=0) TClaim AClaim TSettles ASettles TComes AComes aa ad ac ae TPaper APaper TRooms ARooms TFalls AFalls Y B G19.F )
 have N20:=G20.fn Yw (zFh (k:=0) TClaim AClaim TSettles ASettles TComes AComes aa ad ac ae TPaper APaper TRooms ARooms TFalls AFalls Y B G20.F )
 have N21:=G21.fm Yw (zEF (k:=1) TClaim AClaim TSettles ASettles TComes AComes aa ad ac ae TPaper APaper TRooms ARooms TFalls AFalls Y B G21.F N20.mono)
 have N22:=G22.fn Yw (zHA (k:=2) TClaim AClaim TSettles ASettles TComes AComes aa ad ac ae TPaper APaper TRooms ARooms TFalls AFalls Y B G22.F N21.mono)
 have NX22:=G22.fx Yw (zGC (k:=2) (Z:=Z) TClaim AClaim TSettles ASettles TComes AComes aa ad ac ae TPaper APaper TRooms ARooms TFalls AFalls Y B G22.F N21.mono)
 have N23:=G23.fn Yw (zIa (k:=2) TClaim AClaim TSettles ASettles TComes AComes aa ad ac ae TPaper APaper TRooms ARooms TFalls AFalls Y B G23.F N18.mono N11.mono)
 have N24:=G24.fn Yw (zM8 (k:=1) TClaim AClaim TSettles ASettles TComes AComes aa ad ac ae TPaper APaper TRooms ARooms TFalls AFalls Y B G24.F N8.mono N18.mono N7.mono)
 have N25:=G25.fn Yw (zNF (k:=1) TClaim AClaim TSettles ASettles TComes AComes aa ad ac ae TPaper APaper TRooms ARooms TFalls AFalls Y B G25.F N8.mono)
 have N26:=G26.fn Yw (zFi (k:=1) TClaim AClaim TSettles ASettles TComes AComes aa ad ac ae TPaper APaper TRooms ARooms TFalls AFalls Y B G26.F N0.mono)
 have N27:=G27.fn Yw (zHB (k:=2) TClaim AClaim TSettles ASettles TComes AComes aa ad ac ae TPaper APaper TRooms ARooms TFalls AFalls Y B G27.F N26.mono)
 have N28:=G28.fn Yw (zM7 (k:=3) TClaim AClaim TSettles ASettles TComes AComes aa ad ac ae TPaper APaper TRooms ARooms TFalls AFalls Y B G28.F N27.mono N25.mono N5.mono)
 have N29:=G29.fn Yw (zG6 (k:=0) TClaim AClaim TSettles ASettles TComes AComes aa ad ac ae TPaper APaper TRooms ARooms TFalls AFalls Y B G29.F )
 have N30:=G30.fn Yw (zG8 (k:=4) TClaim AClaim TSettles ASettles TComes AComes aa ad ac ae TPaper APaper TRooms ARooms TFalls AFalls Y B G30.F N29.mono N28.mono)
 have N31:=G31.fn Yw (zG3 (k:=5) TClaim AClaim TSettles ASettles TComes AComes aa ad ac ae TPaper APaper TRooms ARooms TFalls AFalls Y B G31.F N30.mono N24.mono N23.mono)
 have N32:=G32.fn Yw (zNA (k:=6) TClaim AClaim TSettles ASettles TComes AComes aa ad ac ae TPaper APaper TRooms ARooms TFalls AFalls Y B G32.F N19.mono N29.mono N31.mono)
 have N33:=G33.fc Yw GComes (zEp (k:=7) TClaim AClaim TSettles ASettles TComes AComes aa ad ac ae TPaper APaper TRooms ARooms TFalls AFalls Y B G33.F N3.mono)
 have N34:=G34.fc Yw GFalls (zEo (k:=7) TClaim AClaim TSettles ASettles TComes AComes aa ad ac ae TPaper APaper TRooms ARooms TFalls AFalls Y B G34.F N3.mono)
 have N35:=G35.fn Yw (zG9 (k:=3) TClaim AClaim TSettles ASettles TComes AComes aa ad ac ae TPaper APaper TRooms ARooms TFalls AFalls Y B G35.F N26.mono N10.mono)
 have N36:=G36.fn Yw (zEm (k:=0) TClaim AClaim TSettles ASettles TComes AComes aa ad ac ae TPaper APaper TRooms ARooms TFalls AFalls Y B G36.F )
 have N37:=G37.fn Yw (zDq (k:=0) TClaim AClaim TSettles ASettles TComes AComes aa ad ac ae TPaper APaper TRooms ARooms TFalls AFalls Y B G37.F )
 have N38:=G38.fn Yw (zIh (k:=2) TClaim AClaim TSettles ASettles TComes AComes aa ad ac ae TPaper APaper TRooms ARooms TFalls AFalls Y B G38.F N24.mono N6.mono)
 have N39:=G39.fn Yw (zGD (k:=4) TClaim AClaim TSettles ASettles TComes AComes aa ad ac ae TPaper APaper TRooms ARooms TFalls AFalls Y B G39.F N29.mono N37.mono N28.mono N12.mono)
 have N40:=G40.fn Yw (zG4 (k:=4) TClaim AClaim TSettles ASettles TComes AComes aa ad ac ae TPaper APaper TRooms ARooms TFalls AFalls Y B G40.F N29.mono N38.mono N28.mono N23.mono N12.mono)
 have N41:=G41.fn Yw (zG7 (k:=5) TClaim AClaim TSettles ASettles TComes AComes aa ad ac ae TPaper APaper TRooms ARooms TFalls AFalls Y B G41.F N19.mono N29.mono N40.mono)
 have N42_0:=G42.fn (ps:=["thing","claim","paper"]) Yw (zF.no (k:=1) (sp:=(zG fNo)) (zNu λ_ _ h=>h))
 have N42:=N42_0
 have N43:=G43.fn Yw (zFe (k:=7) TClaim AClaim TSettles ASettles TComes AComes aa ad ac ae TPaper APaper TRooms ARooms TFalls AFalls Y B G43.F N10.mono N35.mono N0.mono N9.mono N30.mono N32.mono N28.mono N36.mono N41.mono N39.mono)
 have N44:=G44.fn Yw (zJ0 (k:=8) TClaim AClaim TSettles ASettles TComes AComes aa ad ac ae TPaper APaper TRooms ARooms TFalls AFalls Y B G44.F N22.mono N42.mono N43.mono)
 have NX44:=G44.fx Yw (zIZ (k:=8) TClaim AClaim TSettles ASettles TComes AComes aa ad ac ae TPaper APaper TRooms ARooms TFalls AFalls Y B G44.F NX22.mono)
 have N45:=G45.fn Yw (zHp (k:=0) TClaim AClaim TSettles ASettles TComes AComes aa ad ac ae TPaper APaper TRooms ARooms TFalls AFalls Y B G45.F )
 have N46:=G46.fn Yw (zIb (k:=0) TClaim AClaim TSettles ASettles TComes AComes aa ad ac ae TPaper APaper TRooms ARooms TFalls AFalls Y B G46.F )
 have N47:=G47.fn Yw (zId (k:=0) TClaim AClaim TSettles ASettles TComes AComes aa ad ac ae TPaper APaper TRooms ARooms TFalls AFalls Y B G47.F )
 have N48:=G48.fn Yw (zNE (k:=1) TClaim AClaim TSettles ASettles TComes AComes aa ad ac ae TPaper APaper TRooms ARooms TFalls AFalls Y B G48.F N46.mono N47.mono)
 have N49:=G49.fn Yw (zK9 (k:=0) TClaim AClaim TSettles ASettles TComes AComes aa ad ac ae TPaper APaper TRooms ARooms TFalls AFalls Y B G49.F )
 have N50:=G50.fn Yw (zNB (k:=0) TClaim AClaim TSettles ASettles TComes AComes aa ad ac ae TPaper APaper TRooms ARooms TFalls AFalls Y B G50.F )
 have N51:=G51.fn Yw (zLC (k:=0) TClaim AClaim TSettles ASettles TComes AComes aa ad ac ae TPaper APaper TRooms ARooms TFalls AFalls Y B G51.F )
 have N52:=G52.fn Yw (zFg (k:=1) TClaim AClaim TSettles ASettles TComes AComes aa ad ac ae TPaper APaper TRooms ARooms TFalls AFalls Y B G52.F N47.mono)
 have N53:=G53.fn Yw (zJ1 (k:=2) TClaim AClaim TSettles ASettles TComes AComes aa ad ac ae TPaper APaper TRooms ARooms TFalls AFalls Y B G53.F N45.mono N46.mono N47.mono N52.mono)
 have N54:=G54.fn Yw (zIc (k:=1) TClaim AClaim TSettles ASettles TComes AComes aa ad ac ae TPaper APaper TRooms ARooms TFalls AFalls Y B G54.F N51.mono)
 have N55:=G55.fn Yw (zHo (k:=2) TClaim AClaim TSettles ASettles TComes AComes aa ad ac ae TPaper APaper TRooms ARooms TFalls AFalls Y B G55.F N46.mono N48.mono N47.mono N50.mono)
 have N56:=G56.fn Yw (zFf (k:=2) TClaim AClaim TSettles ASettles TComes AComes aa ad ac ae TPaper APaper TRooms ARooms TFalls AFalls Y B G56.F N51.mono N54.mono)
 have N57:=G57.fn Yw (zLB (k:=8) TClaim AClaim TSettles ASettles TComes AComes aa ad ac ae TPaper APaper TRooms ARooms TFalls AFalls Y B G57.F N13.mono N17.mono)
 have N58:=G58.fn Yw (zLA (k:=0) TClaim AClaim TSettles ASettles TComes AComes aa ad ac ae TPaper APaper TRooms ARooms TFalls AFalls Y B G58.F )
 have N59:=G59.fn Yw (zEl (k:=0) TClaim AClaim TSettles ASettles TComes AComes aa ad ac ae TPaper APaper TRooms ARooms TFalls AFalls Y B G59.F )
 have N60:=G60.fn Yw (zEE (k:=0) TClaim AClaim TSettles ASettles TComes AComes aa ad ac ae TPaper APaper TRooms ARooms TFalls AFalls Y B G60.F )
 have N61:=G61.fn Yw (zND (k:=9) (Z:=Z) TClaim AClaim TSettles ASettles TComes AComes aa ad ac ae TPaper APaper TRooms ARooms TFalls AFalls Y B G61.F NX44.mono N44.mono)
 have N62:=G62.fn Yw (zNC (k:=0) TClaim AClaim TSettles ASettles TComes AComes aa ad ac ae TPaper APaper TRooms ARooms TFalls AFalls Y B G62.F )
 have N63_0:=G63.fn (ps:=["_law_thing"]) Yw (zF.no (k:=1) (sp:=(gG 0)) zMb)
 have N63_1:=G63.fn Yw (ka (k:=1) (d0:=0) TClaim AClaim TSettles ASettles TComes AComes aa ad ac ae TPaper APaper TRooms ARooms TFalls AFalls Y B G63.F N63_0.mono)
 have N63_2:=G63.fn Yw (ka (k:=2) (d0:=1) TClaim AClaim TSettles ASettles TComes AComes aa ad ac ae TPaper APaper TRooms ARooms TFalls AFalls Y B G63.F N63_1.mono)
 have N63_3:=G63.fn Yw (ka (k:=3) (d0:=2) TClaim AClaim TSettles ASettles TComes AComes aa ad ac ae TPaper APaper TRooms ARooms TFalls AFalls Y B G63.F N63_2.mono)
 have N63_4:=G63.fn Yw (ka (k:=4) (d0:=3) TClaim AClaim TSettles ASettles TComes AComes aa ad ac ae TPaper APaper TRooms ARooms TFalls AFalls Y B G63.F N63_3.mono)
 have N63_5:=G63.fn Yw (ka (k:=5) (d0:=4) TClaim AClaim TSettles ASettles TComes AComes aa ad ac ae TPaper APaper TRooms ARooms TFalls AFalls Y B G63.F N63_4.mono)
 have N63_6:=G63.fn Yw (ka (k:=6) (d0:=5) TClaim AClaim TSettles ASettles TComes AComes aa ad ac ae TPaper APaper TRooms ARooms TFalls AFalls Y B G63.F N63_5.mono)
 have N63:=N63_6
 exact zQn (k:=9) (hI:=hI) TClaim AClaim TSettles ASettles TComes AComes aa ad ac ae TPaper APaper TRooms ARooms TFalls AFalls Y B G64.F N63.mono N61.mono N57.mono N58.mono N33.mono N34.mono N62.mono N60.mono N59.mono N45.mono N49.mono N56.mono N55.mono N53.mono
def zLI (o:Obj):Bool:=match o.cls with
 | .type t=>!(t == "list")
 | _=>true
theorem nolist {K:cg} (h:K.all (λp=>zLI p.2)=true) (a:Addr) (o:Obj) (e:K.lookup a=some o):o.cls≠.type "list":=λz=>by
 have m:∃ b,(b,o)∈K:=by
  clear h
  induction K with
  | nil=>cases e
  | cons p K ih=>
   obtain ⟨b,o'⟩:=p
   rw [du] at e
   cases q:a == b with
   | true=>rw [q] at e; cases e; exact ⟨b,cv⟩
   | false=>rw [q] at e; obtain ⟨c,hc⟩:=ih e; exact ⟨c,cr _ hc⟩
 obtain ⟨b,hb⟩:=m
 have:=cR.mp h _ hb
 unfold zLI at this
 rw [z] at this
 exact absurd this (by decide)
theorem walk {l:lO} {q:Program} {loose:List Str} {XP:(Str->Option Value)->Heap->Prop} {YP:World->Heap->Prop} {d:DefRec} {K:Params->cg} (hn:l.most=some 63) (hdf:d.params.defaults=[])
  (hY:∀ (w:World) (h:Heap),YP w h->(K w.params).In h)
  (hL:∀ (p:Params) (a:Addr) (o:Obj),(K p).lookup a=some o->o.cls≠.type "list")
  (F:∀ (w:World) (mg:Str->Option Value) (fa:Addr) (h:Heap),(K w.params).In h->h.Ns mainGlobals mg->mg d.name=some (.ref fa)->
   ∃ fd:FuncData,(∀ (s:Shared) (u:Value),BindsTo s fd ⟨[u],[]⟩ [("_law_script",u)])/\∀ base:Heap,(K w.params).In base->base.Ns mainGlobals mg->zF l.prog w (K w.params) mg base zT 11 fa fd ["_law_script"] Wf) :
  lZ q loose XP YP l.row.toRowW d [] (λf vs=>PySem.call f vs):=
 L2.zOd (n:=63) (k:=11) (x:="_law_script") (CX:=λ_=>zT) (sp:=λ_=>Wf) hn (by decide) hdf ⟨rfl,by decide,by decide⟩ hY F (λw H a ns _ hO hS=>by
  have rd:Rd H a (.lst (ns.map V.int)):=hS.elim id λ⟨o,_,_,h1,h2,_⟩=>absurd h2 (hL w.params a o h1)
  obtain ⟨o,e⟩:∃ o,H a=some (.frz o (.lst (ns.map V.int))):=rd.elim (λe=>by rcases hO a with z | ⟨o,xs,z⟩ <;> rw [z] at e <;> cases e) id
  refine ⟨a,o,ns,rfl,e,λb u eb=>?_,λ_=>rfl⟩
  rcases hO b with z | ⟨o,xs,z⟩ <;> rw [z] at eb <;> cases eb
  exact ⟨o,xs,rfl⟩) λ_ _ _ _ _ z=>z
end K55
open PySem PySem.W PyProof.Rows
set_option maxRecDepth 100000 in
set_option maxHeartbeats 0 in
theorem PySem.Challenge.cw_steadyhand_k55_papers_of_falls_as_told_holds : PySem.Challenge.rw_steadyhand_k55_papers_of_falls_as_told.Holds := by
 w_on; o_law
 refine holds_open (q:=H55.vw) (loose:=H55.lo) (Xt:=H55.xt) (XP:=XL H55.vw []) (Yf:=(kHook H55.KK H55.ks H55.ke).obs) (Ya:=(kHook H55.KK H55.ks H55.ke).val) (YP:=(kHook H55.KK H55.ks H55.ke).says) H55.left
  (kHook H55.KK H55.ks H55.ke).of (kHook H55.KK H55.ks H55.ke).keeps
  (λs e=>xl_of s (eX.mp e).1) XL.keeps (by rfl) (by rfl) (by rfl)
  (λs e=>recFacts_of (eX.mp e).2) (by rfl) (by assumption) (by decide +kernel)
  ⟨rfl,rfl,rfl,rfl,rfl,by decide +kernel⟩ ?hw ?hc
 case hw=>w_witness2
 rename_i sd
 clear sd
 k_fill
 refine K55.walk (l:=PySem.Challenge.rw_steadyhand_k55_papers_of_falls_as_told) (iT:=K55.tb0) rfl rfl (λw h Y=>PySem.W.kIn_of Y) (λp a o=>K55.nolist (iT:=K55.tb0) (K:=H55.KK p) (by kernel_rfl) a o) ?F
 case F=>
  intro w mg fa h KX G hmg
  refine' K55.all_mk (iT:=K55.tb0) (λ_=>trivial) KX G hmg ?g_Claim ?g_Settles ?g_Comes ?g_Mode ?g_Thing ?g_Paper ?g_Rooms ?g_Falls ?_ ?_ ?_ ?_ ?_ ?_ ?_ ?_ ?_ ?_ ?_ ?_ ?_ ?_ ?_ ?_ ?_ ?_ ?_ ?_ ?_ ?_ ?_ ?_ ?_ ?_ ?_ ?_ ?_ ?p_w_Comes_Settles ?p_w_Falls_Paper ?p_w_Comes_Claim ?p_mC ?p_xC ?p_sC ?_ ?_ ?_ ?_ ?_ ?_ ?_ ?_ ?_ ?_ ?_ ?_ ?_ ?_ ?_ ?_ ?_ ?_ ?_ ?_ ?_ ?_ ?_ ?_ ?_ ?_ ?_ ?_ ?_ ?_ ?_ ?_ ?_ ?_ ?_ ?_ ?_ ?_ ?_ ?_ ?_ ?_ ?_ ?_ ?_ ?_ ?_ ?_ ?_ ?_ ?_ ?_ ?_ ?_ ?_ ?_ ?_ ?_ ?_ ?_ ?_ ?_ ?_ ?_ ?_ ?_ ?_ ?_ ?_ ?_ ?_ ?_ ?_ ?_ ?_ ?_ ?_ ?_ ?_ ?_
  (case g_Claim=>refine' L2.Gc.mk ?a ?b ?c ?d ?e ?f ?g ?h ?i ?j ?k; (case a=>k_is); (case b=>k_is); (case c=>k_is); (case d=>k_is); (case e=>k_is); (case f=>k_is); (case g=>k_is); (case h=>k_is); (case i=>k_is); (case j=>k_is); (case k=>k_is))
  (case g_Settles=>refine' L2.Gc.mk ?a ?b ?c ?d ?e ?f ?g ?h ?i ?j ?k; (case a=>k_is); (case b=>k_is); (case c=>k_is); (case d=>k_is); (case e=>k_is); (case f=>k_is); (case g=>k_is); (case h=>k_is); (case i=>k_is); (case j=>k_is); (case k=>k_is))
  (case g_Comes=>refine' L2.Gc.mk ?a ?b ?c ?d ?e ?f ?g ?h ?i ?j ?k; (case a=>k_is); (case b=>k_is); (case c=>k_is); (case d=>k_is); (case e=>k_is); (case f=>k_is); (case g=>k_is); (case h=>k_is); (case i=>k_is); (case j=>k_is); (case k=>k_is))
  (case g_Mode=>refine' L2.Gc.mk ?a ?b ?c ?d ?e ?f ?g ?h ?i ?j ?k; (case a=>k_is); (case b=>k_is); (case c=>k_is); (case d=>k_is); (case e=>k_is); (case f=>k_is); (case g=>k_is); (case h=>k_is); (case i=>k_is); (case j=>k_is); (case k=>k_is))
  (case g_Thing=>refine' L2.Gc.mk ?a ?b ?c ?d ?e ?f ?g ?h ?i ?j ?k; (case a=>k_is); (case b=>k_is); (case c=>k_is); (case d=>k_is); (case e=>k_is); (case f=>k_is); (case g=>k_is); (case h=>k_is); (case i=>k_is); (case j=>k_is); (case k=>k_is))
  (case g_Paper=>refine' L2.Gc.mk ?a ?b ?c ?d ?e ?f ?g ?h ?i ?j ?k; (case a=>k_is); (case b=>k_is); (case c=>k_is); (case d=>k_is); (case e=>k_is); (case f=>k_is); (case g=>k_is); (case h=>k_is); (case i=>k_is); (case j=>k_is); (case k=>k_is))
  (case g_Rooms=>refine' L2.Gc.mk ?a ?b ?c ?d ?e ?f ?g ?h ?i ?j ?k; (case a=>k_is); (case b=>k_is); (case c=>k_is); (case d=>k_is); (case e=>k_is); (case f=>k_is); (case g=>k_is); (case h=>k_is); (case i=>k_is); (case j=>k_is); (case k=>k_is))
  (case g_Falls=>refine' L2.Gc.mk ?a ?b ?c ?d ?e ?f ?g ?h ?i ?j ?k; (case a=>k_is); (case b=>k_is); (case c=>k_is); (case d=>k_is); (case e=>k_is); (case f=>k_is); (case g=>k_is); (case h=>k_is); (case i=>k_is); (case j=>k_is); (case k=>k_is))
  (case p_w_Comes_Settles=>first | kit_is | k_is | rfl | decide +kernel)
  (case p_w_Falls_Paper=>first | kit_is | k_is | rfl | decide +kernel)
  (case p_w_Comes_Claim=>first | kit_is | k_is | rfl | decide +kernel)
  (case p_mC=>k_is)
  (case p_xC=>k_exc)
  (case p_sC=>first | kit_is | k_is | rfl | decide +kernel)
  any_goals first | (refine' L2.Gc.mk ?a ?b ?c ?d ?e ?f ?g ?h ?i ?j ?k; (case a=>k_is); (case b=>k_is); (case c=>k_is); (case d=>k_is); (case e=>k_is); (case f=>k_is); (case g=>k_is); (case h=>k_is); (case i=>k_is); (case j=>k_is); (case k=>k_is)) | (refine' L2.XQ ?a ?l ?c ?k; (case a=>k_is); (case l=>k_is); (case c=>k_is); (case k=>k_is)) | (refine' L2.XR ?a ?i ?l ?c ?k; (case a=>k_is); (case i=>k_is); (case l=>k_is); (case c=>k_is); (case k=>k_is)) | (refine' L2.XS ?a ?l ?c ?k ?d; (case a=>k_is); (case l=>k_is); (case c=>k_is); (case k=>k_is); (case d=>k_is)) | (refine' L2.gk_mk ?a ?z ?l ?c ?k ?d; (case a=>k_is); (case z=>k_is); (case l=>k_is); (case c=>k_is); (case k=>k_is); (case d=>k_is)) | k_is
#print axioms PySem.Challenge.cw_steadyhand_k55_papers_of_falls_as_told_holds
